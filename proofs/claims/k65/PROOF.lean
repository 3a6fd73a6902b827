import PyProof.Rows.All
import Wide.All
import OpenK.AllK
import Wide.FinOn
import Lean
import PyProof.EqAt
import PyProof.EqKinds
import PyProof.TupleCall
import PySem.Challenge.RW_rollcode_k65_whole_rows_that_tell
import PyProof.StationsW
import PyProof.ExcClass2
import OpenK.KOwn
import PyProof.ExcBaseAll.ValueError
import PyProof.RulesAs
import PyProof.NsDelKeeps
import PyProof.Rows.Catch
import KE.KIsAll
import PyProof.ExcArgsOwn
import PyProof.Rows.CatchOwn
import PyProof.ExcAttrAll.ValueError
import PyProof.AttrMissHeap
import PyProof.Rows.SetFrom
import KE.KDictOf
import PyProof.DictWalks
import PyProof.Rows.DictUnroll
import PyProof.ExcInit
import PyProof.InstStoreFacts
import PyProof.FString
import OpenK.KCls
import PyProof.ListMulRoad
import PyProof.FactsAll.tuple_2
import PyProof.FactsAll.set
import PyProof.CollectWalk
import KE.KDictList
import PyProof.FactsAll.set_1
import PyProof.FactsAll.set_2
import PyProof.SetNew
import PyProof.MeetsSeq2
import PyProof.DictCompW
set_option Elab.async false
set_option maxRecDepth 100000
set_option maxHeartbeats 4000000
set_option linter.unusedVariables false
set_option linter.all false
local macro_rules|`(#[$xs,*])=>`(⟨$xs,*⟩)
open PySem.W (Frag)
set_option compiler.extract_closed false
open PySem renaming wpAny_bind->Ja,wpAny_pure->Jd,wpAny_mono->Jw,wpAny_holding->JD,sizeLine_eq->JF,wpAny_call_entry->J1,boot_len->J3,wpAny_newObj_type->J5,wpAny_standAt->Eh,wpAny_field->El,wpAny_rule->Eu,wpAny_of_eq->Ez,wpAny_truthy_bool->EA,wpAny_setField->ED,wpAny_loadPart'->EO,codeAny_builtin->ER,isSubtype_type->E2,codeAny_mono->E3,wpAny_isInstance->E6,wpAny_specialOf->E8,wpAny_pyIter_list->Fc,wpAny_pyIter_tuple->Fd,mem_of_lookup->Ff,wpAny_typeOf->Fg,wpAny_attempt->Fk,typeLookup_type->Fl,builtinLookup_eq_fast->Fm,wpAny_passesOwn->Fp,wpAny_pyIter_enum->Fv,wpAny_Call_Name_kw->Fy,wpAny_seqItems->FE,tupleKind_room_in1->FG,wpAny_pyIter_rangeiter->FO,Value->Γ,Addr->Δ,Shared->Θ,Program->Ξ,Expr->Φ,Heap->Ψ,World->Ω,Builtin->δ,Stmt->ε,wpAny->ζ,sizeLine->η,mainGlobals->θ,starEach->ι
open List renaming length_map->Je,getElem?_eq_getElem->Jg,mem_singleton->Jl,getElem?_map->Jn,size_toArray->Jp,mem_map->Jq,mem_cons->Jr,length_append->Jt,mem_cons_self->Jv,getElem?_eq_some_iff->Jy,getD_eq_getElem?_getD->JA,mem_append->JB,mem_cons_of_mem->JE,mem_append_right->JH,map_append->JJ,mem_range->JN,length_cons->JP,filterMap_cons->JR,map_cons->JU,append_nil->JV,getElem?_append_right->JZ,getElem?_append_left->J0,length_take->J8,mem_of_getElem?->J9,take_add_one->Ed,any_cons->Ef,mem_append_left->Eg,take_length->Ep,map_map->Es,not_mem_nil->Ex,lookup_cons->EB,all_eq_true->EG,append_assoc->EL,length_singleton->EM,nodup_append->EU,nodup_cons->EX,getElem_mem->EZ,map_congr_left->E7,find?_cons->Fb,map_nil->Fh,replicate_succ->Fj,length_set->Fu,length_drop->FA,flatten_cons->FC,nodup_nil->FH,getElem?_range->FK,getElem?_set_self->FM,getElem?_set_ne->FN,getElem?_eq_none->FS,getElem?_append->FU
open Nat renaming le_refl->Jf,ne_of_lt->Jk,zero_le->JC,lt_of_lt_of_le->JM,le_trans->JQ,ne_of_gt->J7,lt_succ_of_lt->Eo,lt_irrefl->Et,lt_succ_self->Ew,le_succ->EW,succ_le_succ->E4,le_of_lt->Fo,le_of_eq->Fx,le_succ_of_le->FL
open PySem.Heap renaming lt_size->Ji,get?_push_of_some->Jj,get?_push_size->Js,size_push->JX,get?_update_self->EY,get?_update_other->Fi
open Bool renaming and_eq_true->Ju,false_ne_true->JI,false_and->Ei,eq_iff_iff->Ej,eq_false_iff->EE,true_and->EH
open Int renaming le_refl->JK,toNat_natCast->EC,emod_nonneg->ES,emod_lt_of_pos->ET
open PySem.W renaming mg_none_of->JS,kia_one->JY,mg_of->EV,Frag->μ
open Option renaming map_eq_some_iff->JW,getD_some->EN,isSome_iff_exists->Ft
open PyProof.Rows renaming boot_tuple->J4,callWith_type1->Fe,boot_isinstance->Fn,slot_tuple_getitem->FB,boot_int->FI,boot_list->FJ
open PySem.F renaming plainAttrs_list->EF,slot_list_append->EI,type_list_append->EJ,slot_tuple_iterator_next->FD,slot_tuple_add->FP,entry_tuple_add->FQ,args_tuple_add_2->FR,slot_dict_get->FT
open PySem.Obj renaming data_mapFields->E5,isFreed_of_fields->FF
namespace L0
abbrev Jb:=@if_pos
abbrev Jc:=@if_neg
abbrev Jh:=@decide_eq_true
abbrev Jm:=@decide_eq_false
abbrev Jx:=@of_decide_eq_true
abbrev Jz:=@if_false
abbrev JO:=@congrArg
abbrev JT:=@beq_iff_eq
abbrev Ek:=@if_true
abbrev Er:=@beq_self_eq_true
abbrev Ey:=@or_false
abbrev EK:=@beq_eq_false_iff_ne
abbrev E9:=@beq_false_of_ne
abbrev Fw:=@decide_eq_true_iff
abbrev Jo:=@Array.length_toList
abbrev JG:=@Option.some.inj
abbrev JL:=@PySem.PassesOwn.never
abbrev J6:=@PySem.Heap.SameBut.update
abbrev Ee:=@PySem.Around.in1_units
end L0
open L0
namespace L0
open PySem
abbrev F2:=Γ->Θ->Prop
abbrev F3:=Str->Option Γ
abbrev F4:=List (Δ×Obj)
end L0
open L0
namespace L2
open PySem PySem.Spec PyProof.Rows
abbrev qO:=Sum Int Str
def fJ:qO->Γ->Bool
 | .inl k,v=>Γ.isInt k v
 | .inr x,v=>Γ.isStrOf x v
def DT(w:Ω):qO->Int
 | .inl k=>hashInt k
 | .inr x=>hashStr w x
theorem zQ:∀{k:qO} {v:Γ},fJ k v=true->(∃i t,k=Sum.inl i/\v=Γ.int i t)\/(∃x t,k=Sum.inr x/\v=Γ.str x t)
 | .inl i,v,h=>by
  obtain⟨t,e⟩:=Γ.isInt_shape (k:=i) (v:=v) h
  exact .inl #[i,t,rfl,e]
 | .inr x,v,h=>by
  obtain⟨t,e⟩:=Γ.isStrOf_shape (x:=x) (v:=v) h
  exact .inr #[x,t,rfl,e]
theorem uN(i:Int)(t:Tok):fJ (.inl i) (.int i t)=true:=by simp [fJ,Γ.isInt]
theorem ud(x:Str)(t:Tok):fJ (.inr x) (.str x t)=true:=by simp [fJ,Γ.isStrOf]
theorem BQ(a b:Int):decide ((Sum.inl a:qO)=Sum.inl b)=(a==b):=by
 by_cases e:a=b
 ·subst e;simp
 ·have h:¬(Sum.inl a:qO)=Sum.inl b:=fun q=>e (Sum.inl.inj q)
  rw[Jm h]
  exact(EK.mpr e).symm
theorem BV(a b:Str):decide ((Sum.inr a:qO)=Sum.inr b)=decide (a=b):=by
 by_cases e:a=b
 ·subst e;simp
 ·have h:¬(Sum.inr a:qO)=Sum.inr b:=fun q=>e (Sum.inr.inj q)
  rw[Jm h,Jm e]
theorem Cu(a:Int)(b:Str):decide ((Sum.inl a:qO)=Sum.inr b)=false:=Jm (fun q=>nomatch q)
theorem BJ(a:Str)(b:Int):decide ((Sum.inr a:qO)=Sum.inl b)=false:=Jm (fun q=>nomatch q)
def qS(prog:Ξ)(w:Ω):PySem.KeyKind prog w qO where
 is:=fJ
 hash:=DT w
 inj:=fun v a b ha hb=>by
  rcases zQ ha with⟨i,t,rfl,rfl⟩|⟨x,t,rfl,rfl⟩
  ·rcases zQ hb with⟨j,u,rfl,e⟩|⟨y,u,rfl,e⟩
   ·injection e with e1 _;rw[e1]
   ·exact nomatch e
  ·rcases zQ hb with⟨j,u,rfl,e⟩|⟨y,u,rfl,e⟩
   ·exact nomatch e
   ·injection e with e1 _;rw[e1]
 byValue:=fun k v h=>by
  rcases zQ h with⟨i,t,rfl,rfl⟩|⟨x,t,rfl,rfl⟩<;>rfl
 pyHash:=fun hv h=>by
  rcases zQ hv with⟨i,t,rfl,rfl⟩|⟨x,t,rfl,rfl⟩
  ·exact wpAny_pyHash_int h
  ·exact wpAny_pyHash_str h
 eqBool:=fun hu hv h=>by
  rcases zQ hu with⟨i,t,rfl,rfl⟩|⟨x,t,rfl,rfl⟩
  ·rcases zQ hv with⟨j,u,rfl,rfl⟩|⟨y,u,rfl,rfl⟩
   ·rw[BQ]at h;exact wpAny_eqBool_int h
   ·rw[Cu]at h;exact SeqAt.EqAt.int_str i t y u _ _ _ _ h
  ·rcases zQ hv with⟨j,u,rfl,rfl⟩|⟨y,u,rfl,rfl⟩
   ·rw[BJ]at h;exact SeqAt.EqAt.str_int x t j u _ _ _ _ h
   ·rw[BV]at h;exact wpAny_eqBool_str h
 «strs»:=fun k x t v h=>by
  rcases zQ h with⟨i,u,rfl,e⟩|⟨y,u,rfl,e⟩
  ·exact nomatch e
  ·injection e with e1 _
   subst e1;cases v<;>rfl
theorem nH(prog:Ξ)(w:Ω)(i:Int)(t:Tok):(qS prog w).is (.inl i) (.int i t)=true:=uN i t
theorem nh(prog:Ξ)(w:Ω)(x:Str)(t:Tok):(qS prog w).is (.inr x) (.str x t)=true:=ud x t
inductive V where
 |non|bl (b:Bool)|int (i:Int)|str (x:Str)|byt (b:Array UInt8)|flt (b:UInt64)|ref (a:Δ)|ty (n:String)
 deriving DecidableEq
def Ge:V->Γ->Prop
 | .non,u=>u=Γ.none
 | .bl b,u=>u=Γ.bool b
 | .int i,u=>∃t,u=Γ.int i t
 | .str x,u=>∃t,u=Γ.str x t
 | .byt b,u=>∃t,u=Γ.bytes b t
 | .flt b,u=>∃t,u=Γ.float b t
 | .ref a,u=>u=Γ.ref a
 | .ty n,u=>u=Γ.type n
abbrev Ga:List V->List Γ->Prop:=Paired Ge
theorem Ga.length{xs:List V}{us:List Γ}(r:Ga xs us):xs.length=us.length:=Paired.length r
theorem Ga.get:∀{xs:List V} {us:List Γ} {i:Nat} {x:V},Ga xs us->xs[i]? =some x->∃u,us[i]? =some u/\Ge x u
 |_,_,_,_,.nil,e=>by simp at e
 |_,_,0,_,.cons r _,e=>by simp at e;subst e;exact#[_,rfl,r]
 |_,_,i+1,x,.cons _ t,e=>by
  obtain⟨u,h1,h2⟩:=Ga.get (i:=i) (x:=x) t (by simpa using e)
  exact#[u,by simpa using h1,h2]
theorem Ga.set{x:V}{u:Γ}(r:Ge x u):∀{xs:List V} {us:List Γ} (i:Nat),Ga xs us->Ga (xs.set i x) (us.set i u)
 |_,_,_,.nil=> .nil
 |_,_,0,.cons _ t=> .cons r t
 |_,_,i+1,.cons q t=> .cons q (Ga.set r i t)
theorem Ga.append:∀{xs ys:List V} {us ws:List Γ},Ga xs us->Ga ys ws->Ga (xs++ys) (us++ws)
 |_,_,_,_,.nil,s=>s
 |_,_,_,_,.cons r t,s=> .cons r (Ga.append t s)
theorem Ga.take:∀{xs:List V} {us:List Γ} (n:Nat),Ga xs us->Ga (xs.take n) (us.take n)
 |_,_,0,_=> .nil
 |_,_,_+1,.nil=> .nil
 |_,_,n+1,.cons r t=> .cons r (Ga.take n t)
theorem Ga.drop:∀{xs:List V} {us:List Γ} (n:Nat),Ga xs us->Ga (xs.drop n) (us.drop n)
 |_,_,0,r=>r
 |_,_,_+1,.nil=> .nil
 |_,_,n+1,.cons _ t=>Ga.drop n t
def Hj:Option V->Option Γ->Prop
 |some v,some u=>Ge v u
 |none,none=>True
 |_,_=>False
def KV{κ:Type}:List (κ×V)->List (κ×Γ)->Prop:=Paired fun(p:κ×V) (q:κ×Γ)=>p.1=q.1/\Ge p.2 q.2
def kV:qO->V
 | .inl i=> .int i
 | .inr x=> .str x
inductive HO where
 |lst (xs:List V)
 |tup (xs:List V)
 |dK (kvs:List (qO×V))|dT (kvs:List (List qO×V))
 |set (S:Int->Bool) (n:Nat)
 |ins (C dx:Δ) (fs:List (Str×V))
 |own (x:Δ)
 |xd (fs:List (Str×V))
 |met (f x:Δ)
 |rng (lo hi:Int)
 |frz (o:Obj) (u:HO)
 |tbl (ps:Array Γ)
 |ext (φ:Ψ->Prop)
abbrev Hp:=Δ->Option HO
def F9(H:Hp)(a:Δ)(o:HO):Hp:=fun b=>if b=a then some o else H b
theorem qa{H:Hp}{a:Δ}{o:HO}:F9 H a o a=some o:=by unfold F9;rw[Jb rfl]
theorem qj{H:Hp}{a b:Δ}{o:HO}(h:b≠a):F9 H a o b=H b:=by unfold F9;rw[Jc h]
theorem Qu{H:Hp}{a b:Δ}{o u:HO}(h:H a=some o)(h':H b=some u)(d:o≠u):a≠b:=by
 intro e;subst e;rw[h]at h';exact d (JG h')
theorem qk{H:Hp}{a b:Δ}{o:HO}(h:H a=some o)(h':H b=none):a≠b:=by
 intro e;subst e;rw[h]at h';cases h'
section
variable(P:Ξ)(w:Ω)
def Gn(H:Hp)(h:Ψ)(a:Δ):HO->Prop
 | .lst xs=>xs.length<=η/\∃(its:List Γ) (n:Nat),Ga xs its/\h.get? a=some {cls:= .type "list",data:= .seq its.toArray n}
 | .tup xs=>xs.length<=η/\∃its:List Γ,Ga xs its/\IsTup h a its.toArray
 | .dK kvs=>kvs.length<=η/\(a==sysModules)=false/\∃vs,KV kvs vs/\h.DictOf (qS P w) a vs
 | .dT kvs=>kvs.length<=η/\(a==sysModules)=false/\∃xs:List (List qO×Δ×Γ),
   Paired (fun(p:List qO×V) (q:List qO×Δ×Γ)=>p.1=q.1/\H q.2.1=some (.tup (p.1.map kV))/\Ge p.2 q.2.2) kvs xs/\
   ∃o es ep,h.get? a=some o/\o.ExactDict/\o.data= .dict es ep/\es.toList=xs.map (entryOfKey (tupleKind (qS P w)))/\(xs.map (·.1)).Nodup
 | .set S n=>h.SetOf (intKind P w) a S n
 | .ins C dx fs=>H dx=some (.own a)/\fs.length<=1000/\dx≠a/\h.get? a=some (PySem.W.instObj C dx)/\
   ∃mA,h.Ns1 dx mA/\(∀f,Hj (fs.lookup f) (mA f))/\PySem.Within mA (fs.map (·.1))
 | .own _=>∃o,h.get? a=some o
 | .xd fs=>∃mA,h.Ns1 a mA/\∀f,Hj (fs.lookup f) (mA f)
 | .rng lo hi=>∃t u v,h.get? a=some {cls:= .type "range",data:= .fields (List.toArray [.int lo t,.int hi u,.int 1 v])}
 | .frz o u=>h.get? a=some o/\Gn H h a u
 | .tbl ps=>h.get? a=some {cls:= .none,data:= .fields ps}
 | .met f x=>h.get? a=some (PySem.W.methodObj (.ref f) (.ref x))
 | .ext φ=>φ h/\(∃o,h.get? a=some o)/\∀h1 h2:Ψ,φ h1->(∀o,h1.get? a=some o->h2.get? a=some o)->φ h2
def HJ(H:Hp)(h:Ψ):Prop:=∀a o,H a=some o->Gn P w H h a o
end
section
variable{P:Ξ}{w:Ω}{H H':Hp}{h h':Ψ}{a:Δ}{o:HO}
theorem Gn.lt(x:Gn P w H h a o):a<h.objs.size:=by
 cases o with
 |lst xs=>obtain⟨_,_,_,_,e⟩:=x;exact Ji e
 |tup xs=>obtain⟨_,_,_,p⟩:=x;exact p.lt
 |dK kvs=>obtain⟨_,_,_,_,o,_,_,e,_⟩:=x;exact Ji e
 |dT kvs=>obtain⟨_,_,_,_,o,_,_,e,_⟩:=x;exact Ji e
 |set S n=>obtain⟨o,_,_,_,e,_⟩:=x;exact Ji e
 |ins C dx fs=>obtain⟨_,_,_,e,_⟩:=x;exact Ji e
 |own y=>obtain⟨_,e⟩:=x;exact Ji e
 |xd fs=>obtain⟨_,⟨_,_,_,e,_⟩,_⟩:=x;exact Ji e
 |rng lo hi=>obtain⟨_,_,_,e⟩:=x;exact Ji e
 |frz ob u=>obtain⟨e,_⟩:=x;exact Ji e
 |tbl ps=>exact Ji (show h.get? a=some _ from x)
 |met f y=>exact Ji (show h.get? a=some _ from x)
 |ext φ=>obtain⟨_,⟨_,e⟩,_⟩:=x;exact Ji e
theorem Paired.mapP{α β:Type}{F G:α->β->Prop}:∀{l₁:List α} {l₂:List β},Paired F l₁ l₂->(∀a b,F a b->G a b)->Paired G l₁ l₂
 |_,_,.nil,_=> .nil
 |_,_,.cons r t,f=> .cons (f _ _ r) (Paired.mapP t f)
theorem Gn.stay(x:Gn P w H h a o)(k:∀b u,(b=a\/H b=some (.own a))->h.get? b=some u->h'.get? b=some u)
  (ho:∀b,H b=some (.own a)->H' b=some (.own a))(ht:∀b xs,H b=some (.tup xs)->H' b=some (.tup xs)):Gn P w H' h' a o:=by
 induction o with
 |lst xs=>obtain⟨z,its,n,r,e⟩:=x;exact#[z,its,n,r,k _ _ (.inl rfl) e]
 |tup xs=>obtain⟨z,its,r,ob,e,c⟩:=x;exact#[z,its,r,ob,k _ _ (.inl rfl) e,c]
 |dK kvs=>obtain⟨z,y,vs,r,ob,es,ep,e,c⟩:=x;exact#[z,y,vs,r,ob,es,ep,k _ _ (.inl rfl) e,c]
 |dT kvs=>
  obtain⟨z,y,xs,r,ob,es,ep,e,c⟩:=x
  exact#[z,y,xs,Paired.mapP r fun p q z=>#[z.1,ht _ _ z.2.1,z.2.2],ob,es,ep,k _ _ (.inl rfl) e,c]
 |set S n=>obtain⟨ob,es,ep,t,e,c⟩:=x;exact#[ob,es,ep,t,k _ _ (.inl rfl) e,c]
 |ins C dx fs=>
  obtain⟨d,z,ne,e,mA,⟨od,es,ep,e2,c⟩,r⟩:=x
  exact#[ho _ d,z,ne,k _ _ (.inl rfl) e,mA,#[od,es,ep,k _ _ (.inr d) e2,c],r]
 |own y=>obtain⟨ob,e⟩:=x;exact#[ob,k _ _ (.inl rfl) e]
 |xd fs=>obtain⟨mA,⟨od,es,ep,e,c⟩,r⟩:=x;exact#[mA,#[od,es,ep,k _ _ (.inl rfl) e,c],r]
 |rng lo hi=>obtain⟨t,u,v,e⟩:=x;exact#[t,u,v,k _ _ (.inl rfl) e]
 |frz ob u ih=>obtain⟨e,q⟩:=x;exact#[k _ _ (.inl rfl) e,ih q]
 |tbl ps=>
  have e:h.get? a=some {cls:= .none,data:= .fields ps}:=x
  show h'.get? a=some {cls:= .none,data:= .fields ps}
  exact k a _ (.inl rfl) e
 |met f y=>
  have e:h.get? a=some (W.methodObj (.ref f) (.ref y)):=x
  show h'.get? a=some (W.methodObj (.ref f) (.ref y))
  exact k a _ (.inl rfl) e
 |ext φ=>obtain⟨p,⟨o,e⟩,st⟩:=x;exact#[st _ _ p fun o q=>k _ _ (.inl rfl) q,#[o,k _ _ (.inl rfl) e],st]
theorem HJ.lt(x:HJ P w H h)(e:H a=some o):a<h.objs.size:=(x a o e).lt
theorem HJ.fresh(x:HJ P w H h)(e:h.objs.size<=a):H a=none:=by
 cases q:H a with
 |none=>rfl
 |some u=>exact absurd (JM (x.lt q) e) (Et _)
theorem HJ.kept(x:HJ P w H h)(k:∀b u,h.get? b=some u->h'.get? b=some u):HJ P w H h':=fun a o e=>
 (x a o e).stay (fun b u _ q=>k b u q) (fun _ q=>q) fun _ _ q=>q
theorem HJ.laid(x:HJ P w H h)(k:∀b u,h.get? b=some u->h'.get? b=some u)(hp:h.objs.size<=a)(new:Gn P w (F9 H a o) h' a o):HJ P w (F9 H a o) h':=fun b u e=>by
 have hn:=x.fresh hp
 by_cases hb:b=a
 ·subst hb;rw[qa]at e;cases e;exact new
 ·rw[qj hb]at e
  exact(x b u e).stay (fun c v _ q=>k c v q) (fun c q=>by rw[qj (qk q hn)];exact q) fun c xs q=>by rw[qj (qk q hn)];exact q
end
def Rd(H:Hp)(a:Δ)(u:HO):Prop:=H a=some u\/∃o,H a=some (.frz o u)
theorem Rd.ok{P:Ξ}{w:Ω}{H:Hp}{h:Ψ}{a:Δ}{u:HO}(r:Rd H a u)(x:HJ P w H h):Gn P w H h a u:=by
 rcases r with r|⟨o,r⟩
 ·exact x a u r
 ·obtain⟨_,q⟩:=x a _ r
  exact q
def tZ:Option HO->Prop
 |some (.lst _)=>True
 |some (.dK _)=>True
 |some (.dT _)=>True
 |some (.set _ _)=>True
 |some (.ins _ _ _)=>True
 |some (.ext _)=>True
 |_=>False
section
variable{P:Ξ}{w:Ω}{H:Hp}{h h':Ψ}{x e:Δ}{o':HO}
theorem HJ.write(ok:HJ P w H h)(mu:tZ (H x))(he:e=x\/H e=some (.own x))(k:∀b u,b≠e->h.get? b=some u->h'.get? b=some u)(heo:∃u,h'.get? e=some u)
  (new:Gn P w (F9 H x o') h' x o'):HJ P w (F9 H x o') h':=fun b u q=>by
 have nown:∀c y,H c=some (.own y)->c≠x:=fun c y r z=>by subst z;rw[r]at mu;exact mu
 have ntup:∀c xs,H c=some (.tup xs)->c≠x:=fun c xs r z=>by subst z;rw[r]at mu;exact mu
 by_cases hb:b=x
 ·subst hb;rw[qa]at q;cases q;exact new
 ·rw[qj hb]at q
  by_cases hbe:b=e
  ·have q':H b=some (.own x):=by
    rcases he with z|z
    ·exact absurd (hbe.trans z) hb
    ·rw[hbe];exact z
   rw[q]at q';cases q'
   obtain⟨v,hv⟩:=heo
   exact#[v,by rw[hbe];exact hv]
  ·refine(ok b u q).stay (fun c v hc r=>k c v ?_ r) (fun c r=>by rw[qj (nown c b r)];exact r) fun c xs r=>by rw[qj (ntup c xs r)];exact r
   rcases hc with rfl|hc
   ·exact hbe
   ·rintro rfl
    rcases he with z|z
    ·exact nown c b hc z
    ·rw[hc]at z;cases z;exact hb rfl
end
structure Un(fs ex:List Δ)(H H':Hp)(h h':Ψ):Prop where
 keep:∀b o,h.get? b=some o->H b=none->b∉fs->b∉ex->h'.get? b=some o
 slot:∀b o,h.get? b=some o->H b=none->b∈fs->b∉ex->∃sl,h'.get? b=some {o with slots:=sl}
 free:∀b o,h.get? b=some o->H b=none->b∉ex->H' b=none
 there:∀b o,h.get? b=some o->b∉ex->∃o',h'.get? b=some o'
 tups:∀b xs,H b=some (.tup xs)->H' b=some (.tup xs)
 frzs:∀b o u,H b=some (.frz o u)->H' b=some (.frz o u)
 tbls:∀b ps,H b=some (.tbl ps)->∃more,H' b=some (.tbl (ps++more))
section
variable{fs ex:List Δ}{H H1:Hp}{h h1 h':Ψ}{a x e:Δ}{o:HO}
theorem Un.any(u:Un fs ex H H1 h h1){b:Δ}{ob:Obj}(q:h.get? b=some ob)(n:H b=none)(hx:b∉ex):∃sl,h1.get? b=some {ob with slots:=sl}:=by
 by_cases hb:b∈fs
 ·exact u.slot b ob q n hb hx
 ·exact#[ob.slots,u.keep b ob q n hb hx]
theorem Un.kept(k:∀b u,h.get? b=some u->h'.get? b=some u):Un fs ex H H h h':=
 #[fun b ob q _ _ _=>k b ob q,fun b ob q _ _ _=>#[ob.slots,k b ob q],fun _ _ _ n _=>n,fun b ob q _=>#[ob,k b ob q],fun _ _ q=>q,fun _ _ _ q=>q,fun _ ps q=>#[(List.toArray []),by rw[q];simp]]
theorem Un.refl:Un fs ex H H h h:=Un.kept fun _ _ q=>q
theorem Un.laid(k:∀b u,h.get? b=some u->h'.get? b=some u)(hp:h.objs.size<=a)(hn:H a=none):Un fs ex H (F9 H a o) h h' where
 keep:=fun b u q _ _ _=>k b u q
 slot:=fun b u q _ _ _=>#[u.slots,k b u q]
 free:=fun b u q n _=>by rw[qj (Jk (JM (Ji q) hp))];exact n
 there:=fun b u q _=>#[u,k b u q]
 tups:=fun b xs q=>by rw[qj (qk q hn)];exact q
 frzs:=fun b u xs q=>by rw[qj (qk q hn)];exact q
 tbls:=fun b ps q=>#[(List.toArray []),by rw[qj (qk q hn),q];simp]
theorem Un.write(mu:tZ (H x))(he:e=x\/H e=some (.own x))(k:∀b u,b≠e->h.get? b=some u->h'.get? b=some u)(heo:∃u,h'.get? e=some u):Un fs ex H (F9 H x o) h h':=by
 have hx:∀b,H b=none->b≠x:=fun b n z=>by subst z;rw[n]at mu;exact mu
 have hb:∀b,H b=none->b≠e:=fun b n z=>by
  subst z;rcases he with r|r
  ·exact hx b n r
  ·rw[n]at r;cases r
 have hm:∀b u,H b=some u->¬tZ (some u)->b≠x:=fun b u q nm z=>by subst z;rw[q]at mu;exact nm mu
 refine#[fun b u q n _ _=>k b u (hb b n) q,fun b u q n _ _=>#[u.slots,k b u (hb b n) q],fun b u q n _=>by rw[qj (hx b n)];exact n,fun b u q _=>?_,
  fun b xs q=>by rw[qj (hm b _ q fun z=>z)];exact q,fun b u xs q=>by rw[qj (hm b _ q fun z=>z)];exact q,fun b ps q=>#[(List.toArray []),by rw[qj (hm b _ q fun z=>z),q];simp]]
 by_cases hbe:b=e
 ·subst hbe;exact heo
 ·exact#[u,k b u hbe q]
end
def yv(h:Ψ)(H:Hp):List Δ:=(List.range h.objs.size).filter fun a=>(H a).isSome
def cK(h:Ψ)(H:Hp):Ψ:=PySem.W.hideAll h (yv h H)
theorem ut(h:Ψ)(H:Hp):(cK h H).objs.size=h.objs.size:=W.hideAll_size _ _
theorem vM{h:Ψ}{H:Hp}{b:Δ}{o:Obj}(e:h.get? b=some o)(n:H b=none):(cK h H).get? b=some o:=
 W.hideAll_get _ e fun hm=>by
  have q:(H b).isSome=true:=(List.mem_filter.mp hm).2
  rw[n]at q;simp at q
theorem Ao{h:Ψ}{H:Hp}{b:Δ}{o:Obj}(e:(cK h H).get? b=some o):h.get? b=some o/\H b=none:=by
 have e':h.get? b=some o:=W.of_hideAll (yv h H) e
 refine#[e',?_]
 cases q:H b with
 |none=>rfl
 |some x=>
  have hm:b∈yv h H:=List.mem_filter.mpr #[JN.mpr (Ji e'),by simp [q]]
  have z:(cK h H).get? b=none:=W.hideAll_none (yv h H) hm
  rw[z]at e;cases e
structure MO(K:μ)(mg:F3)(base:Ψ):Prop where
 kin:K.In base
 glob:base.Ns θ mg
 blt:∃mb,base.Ns builtinsNs mb/\∀x:Str,x≠"__name__"->mb x=bootBuiltins x
 nolimit:base.NoLimit
structure Cx where
 prog:Ξ
 w:Ω
 K:μ
 mg:Str->Option Γ
 base:Ψ
 A:Around
 N:List Str
 s₀:Θ
 H₀:Hp
 env:Env
 outer:List Env
 stack:List Env
 ex:List Δ
 fn:Str->Bool
 calm:Bool
 pn:List (Δ×Obj)
 xe:Γ->Θ->Prop
def cq(l:List Env):List Δ:=l.filterMap (·.frame)
abbrev Cx.fs(X:Cx):List Δ:=cq X.outer
def BC(sc:Scope)(x:Str):Prop:=sc.names.lookup x=some .local\/sc.names.lookup x=some .cell\/sc.names.lookup x=some .free
def f8(sc:Scope)(x:Str):Prop:=sc.names.lookup x=some .local\/sc.names.lookup x=some .cell
def DW(env:Env)(h:Ψ)(m:F3)(x:Str)(u:Γ):Prop:=
 (env.kindOf x=some .local/\m x=some u)\/((env.kindOf x=some .cell\/env.kindOf x=some .free)/\∃c,env.cells.lookup x=some c/\h.IsCell c (some u))
structure Cx.Ok(X:Cx):Prop where
 mod:MO X.K X.mg X.base
 kind:X.env.scope.kind= .function
 glob:X.env.globals=θ
 blt:X.env.builtins=builtinsNs
 above:X.s₀.heap.objs.size<=X.env.locals
 inj:∀x y c,X.env.cells.lookup x=some c->X.env.cells.lookup y=some c->x=y
 has:∀x,(X.env.kindOf x=some .cell\/X.env.kindOf x=some .free)->∃c,X.env.cells.lookup x=some c
 cab:∀x c,X.fn x=true->X.env.cells.lookup x=some c->X.s₀.heap.objs.size<=c
 hd:X.calm=true->X.A.handled=none
 frames:X.A.frames=some X.stack
 stk:X.stack=X.outer\/(X.stack=X.env::X.outer/\X.env.frame=some X.env.locals)
 exf:∀b∈X.ex,b≠X.env.locals/\∀x c,X.env.cells.lookup x=some c->c≠b
 bs:∀b o,X.base.get? b=some o->X.s₀.heap.get? b=some o/\X.H₀ b=none
 bsz:X.base.objs.size<=X.s₀.heap.objs.size
 noex:∀b o,X.base.get? b=some o->b∉X.ex
 exfs:∀b∈X.ex,b∉X.fs
 funs:X.s₀.heap.FunFrames X.base X.outer
 frf:∀b∈X.fs,X.H₀ b=none
structure F8(X:Cx)(MT:F4)(σ:List (Option V))(H:Hp)(s:Θ):Prop where
 ok:X.Ok
 os:s.os=X.s₀.os
 bare:AllBare s.gens
 base:Un X.fs X.ex X.H₀ H X.s₀.heap s.heap
 loc:∃m,s.heap.Ns X.env.locals m/\∀(i:Nat) (x:Str) (v:V),X.N[i]? =some x->σ[i]? =some (some v)->BC X.env.scope x->∃u,Ge v u/\DW X.env s.heap m x u
 cell:∀x c,X.env.cells.lookup x=some c->∃v,s.heap.IsCell c v
 free:H X.env.locals=none
 freeC:∀x c,X.env.cells.lookup x=some c->H c=none
 pin:∀p∈X.pn++MT,s.heap.get? p.1=some p.2/\H p.1=none/\p.1≠X.env.locals/\p.1∉X.fs/\∀v,p.2.data≠ .cell v
 hok:HJ X.prog X.w H s.heap
 len:σ.length=X.N.length
section
variable{X:Cx}{MT:F4}{σ:List (Option V)}{H H':Hp}{s:Θ}{h':Ψ}
theorem Cx.Ok.nofr(ok:X.Ok){b:Δ}{o:Obj}(e:X.base.get? b=some o):b∉X.fs:=fun hb=>by
 have:=(ok.funs.mem hb).1
 rw[e]at this;cases this
theorem F8.bs(I:F8 X MT σ H s):∀b o,X.base.get? b=some o->s.heap.get? b=some o/\H b=none:=fun b o e=>
 #[I.base.keep b o (I.ok.bs b o e).1 (I.ok.bs b o e).2 (I.ok.nofr e) (I.ok.noex b o e),I.base.free b o (I.ok.bs b o e).1 (I.ok.bs b o e).2 (I.ok.noex b o e)]
theorem F8.bk(I:F8 X MT σ H s):∀b o,X.base.get? b=some o->s.heap.get? b=some o:=fun b o e=>(I.bs b o e).1
theorem F8.mod(I:F8 X MT σ H s):MO X.K X.mg X.base:=I.ok.mod
theorem F8.kIn(I:F8 X MT σ H s):X.K.In s.heap:=I.ok.mod.kin.keeps I.bk
theorem F8.lt(I:F8 X MT σ H s):X.env.locals<s.heap.objs.size:=let⟨_,hn,_⟩:=I.loc;hn.lt
theorem F8.sz(I:F8 X MT σ H s):X.s₀.heap.objs.size<=s.heap.objs.size:=JQ I.ok.above (Fo I.lt)
theorem F8.nofs(I:F8 X MT σ H s){a:Δ}(h:s.heap.objs.size<=a):a∉X.fs:=fun hb=>by
 obtain⟨_,o,ho,_⟩:=I.ok.funs.mem hb;exact absurd (JM (Ji ho) (JQ I.sz h)) (Et _)
theorem F8.cne(I:F8 X MT σ H s):∀x c,X.env.cells.lookup x=some c->c≠X.env.locals:=fun x c e z=>by
 obtain⟨v,o,ho,hd⟩:=I.cell x c e;obtain⟨m,⟨o',es,ep,ho',hd',_⟩,_⟩:=I.loc;rw[z,ho']at ho;cases ho;rw[hd']at hd;cases hd
theorem F8.funs(I:F8 X MT σ H s):s.heap.FunFrames X.base X.outer:=by
 have all:∀(l:List Env),(∀b∈cq l,b∈X.fs)->X.s₀.heap.FunFrames X.base l->s.heap.FunFrames X.base l:=by
  intro l
  induction l with
  |nil=>intro _ _;trivial
  |cons env r ih=>
   intro hs hl;obtain⟨hk,⟨L,o,hf,hn,ho,hd⟩,hr⟩:=hl;have hL:L∈X.fs:=hs L (by unfold cq;rw[JR,hf];exact Jv)
   obtain⟨sl,e⟩:=I.base.slot L o ho (I.ok.frf L hL) hL fun z=>I.ok.exfs L z hL
   exact#[hk,#[L,_,hf,hn,e,hd],ih (fun b hb=>hs b (by unfold cq;rw[JR,hf];exact JE _ hb)) hr]
 exact all X.outer (fun _ hb=>hb) I.ok.funs
theorem F8.stack(I:F8 X MT σ H s):s.heap.FunFrames X.base X.stack:=by
 rcases I.ok.stk with e|⟨e,hf⟩
 ·rw[e];exact I.funs
 ·rw[e]
  obtain⟨m,hn,_⟩:=I.loc;refine .cons (by rw[I.ok.kind];decide) hf hn ?_ I.funs
  exact Ψ.get?_none_of_le (JQ I.ok.bsz I.ok.above)
theorem F8.stkSub(I:F8 X MT σ H s):∀b∈cq X.stack,b∈X.env.locals::X.fs:=fun b hb=>by
 rcases I.ok.stk with e|⟨e,hf⟩
 ·rw[e]at hb;exact JE _ hb
 ·rw[e]at hb
  unfold cq at hb;rw[JR,hf]at hb;exact hb
theorem F8.stkFree(I:F8 X MT σ H s):∀b∈cq X.stack,H b=none:=fun b hb=>by
 rcases Jr.mp (I.stkSub b hb)with e|hb
 ·rw[e];exact I.free
 ·obtain⟨_,o,ho,_⟩:=I.ok.funs.mem hb
  exact I.base.free b o ho (I.ok.frf b hb) fun z=>I.ok.exfs b z hb
theorem F8.step{g':Array GenState}{t':Nat}{d':Drawn}{ch:List Δ}(I:F8 X MT σ H s)
  (hch:∀b∈ch,(b∈X.ex\/X.s₀.heap.objs.size<=b)/\b≠X.env.locals/\(∀x c,X.env.cells.lookup x=some c->c≠b)/\∀p∈X.pn++MT,p.1≠b)
  (keep:∀b o,b≠X.env.locals->b∉X.fs->b∉ch->s.heap.get? b=some o->H b=none->h'.get? b=some o)
  (slot:∀b o,b≠X.env.locals->b∈X.fs->b∉ch->s.heap.get? b=some o->H b=none->∃sl,h'.get? b=some {o with slots:=sl})(free:∀b o,b∉ch->s.heap.get? b=some o->H b=none->H' b=none)
  (there:∀b o,b∉ch->s.heap.get? b=some o->∃o',h'.get? b=some o')
  (tups:∀b xs,H b=some (.tup xs)->H' b=some (.tup xs))(frzs:∀b o u,H b=some (.frz o u)->H' b=some (.frz o u))(tbls:∀b ps,H b=some (.tbl ps)->∃more,H' b=some (.tbl (ps++more)))
  (ns:∀m,s.heap.Ns X.env.locals m->h'.Ns X.env.locals m)(hok:HJ X.prog X.w H' h')(hg:AllBare g'):
  F8 X MT σ H' {s with heap:=h',gens:=g',drawn:=d',toks:=t'}:=by
 have neL:∀b o,X.s₀.heap.get? b=some o->b≠X.env.locals:=fun b o e=>Jk (JM (Ji e) I.ok.above)
 have neC:∀b o,X.s₀.heap.get? b=some o->b∉X.ex->b∉ch:=fun b o e hx hb=>by
  rcases(hch b hb).1 with z|z
  ·exact hx z
  ·exact absurd (JM (Ji e) z) (Et _)
 have cellK:∀x c,X.env.cells.lookup x=some c->∀v,s.heap.IsCell c v->h'.IsCell c v:=fun x c e v ⟨o,ho,hd⟩=>by
  have nch:c∉ch:=fun z=>(hch c z).2.2.1 x c e rfl
  by_cases hc:c∈X.fs
  ·obtain⟨sl,q⟩:=slot c o (I.cne x c e) hc nch ho (I.freeC x c e)
   exact#[_,q,hd]
  ·exact#[o,keep c o (I.cne x c e) hc nch ho (I.freeC x c e),hd]
 refine#[I.ok,I.os,hg,#[fun b o e n hb hx=>?_,fun b o e n hb hx=>?_,fun b o e n hx=>?_,fun b o e hx=>?_,fun b xs e=>tups b xs (I.base.tups b xs e),fun b o xs e=>frzs b o xs (I.base.frzs b o xs e),fun b ps e=>?_],?_,fun x c e=>?_,?_,fun x c e=>?_,fun p hp=>?_,hok,I.len]
 ·exact keep b o (neL b o e) hb (neC b o e hx) (I.base.keep b o e n hb hx) (I.base.free b o e n hx)
 ·obtain⟨sl,e1⟩:=I.base.slot b o e n hb hx
  obtain⟨sl',e2⟩:=slot b _ (neL b o e) hb (neC b o e hx) e1 (I.base.free b o e n hx)
  exact#[sl',e2]
 ·obtain⟨o',e1⟩:=I.base.there b o e hx
  exact free b o' (neC b o e hx) e1 (I.base.free b o e n hx)
 ·obtain⟨o',e1⟩:=I.base.there b o e hx
  exact there b o' (neC b o e hx) e1
 ·obtain⟨m1,e1⟩:=I.base.tbls b ps e
  obtain⟨m2,e2⟩:=tbls b _ e1
  exact#[m1++m2,by rw[e2,Array.append_assoc]]
 ·obtain⟨m,hn,hl⟩:=I.loc
  refine#[m,ns m hn,fun i x v e1 e2 e3=>?_]
  obtain⟨u,r,l⟩:=hl i x v e1 e2 e3;refine#[u,r,?_]
  rcases l with l|⟨k,c,e,z⟩
  ·exact .inl l
  ·exact .inr #[k,c,e,cellK x c e _ z]
 ·obtain⟨v,z⟩:=I.cell x c e
  exact#[v,cellK x c e v z]
 ·obtain⟨m,⟨o,_,_,ho,_⟩,_⟩:=I.loc
  exact free _ o (fun z=>(hch _ z).2.1 rfl) ho I.free
 ·obtain⟨v,o,ho,hd⟩:=I.cell x c e
  exact free c o (fun z=>(hch c z).2.2.1 x c e rfl) ho (I.freeC x c e)
 ·obtain⟨e,n,ne,nf,d⟩:=I.pin p hp
  have nch:p.1∉ch:=fun z=>(hch p.1 z).2.2.2 p hp rfl
  exact#[keep p.1 p.2 ne nf nch e n,free p.1 p.2 nch e n,ne,nf,d]
theorem F8.un{t':Nat}(I:F8 X MT σ H s)(u:Un X.fs [] H H' s.heap h')(hok:HJ X.prog X.w H' h'):F8 X MT σ H' {s with heap:=h',toks:=t'}:=by
 obtain⟨m,⟨o,es,ep,ho,r⟩,_⟩:=id I.loc;obtain⟨sl,hL⟩:=u.any ho I.free (by simp)
 exact I.step (g':=s.gens) (d':=s.drawn) (ch:=[]) (fun _ z=>nomatch z) (fun b o _ hb _ e n=>u.keep b o e n hb (by simp)) (fun b o _ hb _ e n=>u.slot b o e n hb (by simp)) (fun b o _ e n=>u.free b o e n (by simp)) (fun b o _ e=>u.there b o e (by simp)) u.tups u.frzs u.tbls (fun m' hm=>by
  obtain⟨o',es',ep',ho',r'⟩:=hm;rw[ho]at ho';cases ho'
  exact#[_,es',ep',hL,r']) hok I.bare
theorem F8.call{g':Array GenState}{t':Nat}{d':Drawn}{ch:List Δ}(I:F8 X MT σ H s)(u:Un (cq X.stack) ch H H' s.heap h')(hok:HJ X.prog X.w H' h')(hg:AllBare g')
  (hch:∀b∈ch,(b∈X.ex\/X.s₀.heap.objs.size<=b)/\b≠X.env.locals/\(∀x c,X.env.cells.lookup x=some c->c≠b)/\∀p∈X.pn++MT,p.1≠b):
  F8 X MT σ H' {s with heap:=h',gens:=g',drawn:=d',toks:=t'}:=by
 obtain⟨m,⟨o,es,ep,ho,r⟩,_⟩:=id I.loc;obtain⟨sl,hL⟩:=u.any ho I.free fun z=>(hch _ z).2.1 rfl
 exact I.step (ch:=ch) hch (fun b o hL hb hc e n=>u.keep b o e n (fun z=>(Jr.mp (I.stkSub b z)).elim hL hb) hc) (fun b o _ _ hc e n=>u.any e n hc) (fun b o hc e n=>u.free b o e n hc) (fun b o hc e=>u.there b o e hc) u.tups u.frzs u.tbls (fun m' hm=>by
  obtain⟨o',es',ep',ho',r'⟩:=hm;rw[ho]at ho';cases ho'
  exact#[_,es',ep',hL,r']) hok hg
theorem F8.turned{t':Nat}{it:Δ}(I:F8 X MT σ H s)(k:∀b o,b≠it->s.heap.get? b=some o->h'.get? b=some o)(hn:H it=none)(hL:it≠X.env.locals)
  (h1:it∈X.ex\/X.s₀.heap.objs.size<=it)(h2:∀x c,X.env.cells.lookup x=some c->c≠it)(h3:∀p∈X.pn++MT,p.1≠it):F8 X MT σ H {s with heap:=h',toks:=t'}:=by
 have nit:∀b u,H b=some u->b≠it:=fun b u e z=>by rw[z,hn]at e;cases e
 refine I.step (g':=s.gens) (d':=s.drawn) (ch:=[it]) (fun b hb=>?_) (fun b o _ _ hc e _=>k b o (fun z=>hc (by simp [z])) e) (fun b o _ _ hc e _=>#[o.slots,k b o (fun z=>hc (by simp [z])) e]) (fun _ _ _ _ n=>n)
  (fun b o hc e=>#[o,k b o (fun z=>hc (by simp [z])) e]) (fun _ _ e=>e) (fun _ _ _ e=>e) (fun b ps e=>#[(List.toArray []),by rw[e];simp]) (fun m hm=>?_) (fun b u e=>?_) I.bare
 ·have e:b=it:=by simpa using hb
  subst e
  exact#[h1,hL,h2,h3]
 ·obtain⟨o,es,ep,ho,r⟩:=hm
  exact#[o,es,ep,k _ o (Ne.symm hL) ho,r]
 ·refine(I.hok b u e).stay (fun c v hc q=>k c v ?_ q) (fun _ q=>q) fun _ _ q=>q
  rcases hc with z|z
  ·rw[z];exact nit b u e
  ·exact nit c _ z
theorem F8.tok(I:F8 X MT σ H s)(t:Nat):F8 X MT σ H {s with toks:=t}:=I.un (h':=s.heap) (t':=t) Un.refl I.hok
theorem F8.kept{t':Nat}(I:F8 X MT σ H s)(k:∀b u,s.heap.get? b=some u->h'.get? b=some u):F8 X MT σ H {s with heap:=h',toks:=t'}:=I.un (Un.kept k) (I.hok.kept k)
theorem F8.laid{a:Δ}{o:HO}{t':Nat}(I:F8 X MT σ H s)(k:∀b u,s.heap.get? b=some u->h'.get? b=some u)(hp:s.heap.objs.size<=a)(new:Gn X.prog X.w (F9 H a o) h' a o):
  F8 X MT σ (F9 H a o) {s with heap:=h',toks:=t'}:=I.un (Un.laid k hp (I.hok.fresh hp)) (I.hok.laid k hp new)
theorem F8.write{x e:Δ}{o:HO}{t':Nat}(I:F8 X MT σ H s)(mu:tZ (H x))(he:e=x\/H e=some (.own x))(k:∀b u,b≠e->s.heap.get? b=some u->h'.get? b=some u)(heo:∃u,h'.get? e=some u)
  (new:Gn X.prog X.w (F9 H x o) h' x o):F8 X MT σ (F9 H x o) {s with heap:=h',toks:=t'}:=I.un (Un.write mu he k heo) (I.hok.write mu he k heo new)
theorem F8.pins_of{pins':F4}(I:F8 X MT σ H s)(h:∀p∈pins',s.heap.get? p.1=some p.2/\H p.1=none/\p.1≠X.env.locals/\p.1∉X.fs/\∀v,p.2.data≠ .cell v):F8 X pins' σ H s:=
 #[I.ok,I.os,I.bare,I.base,I.loc,I.cell,I.free,I.freeC,fun p hp=>(JB.mp hp).elim (fun z=>I.pin p (Eg _ z)) (h p),I.hok,I.len]
theorem mK{N:List Str}(hN:N.Nodup){i j:Nat}{x:Str}(a:N[i]? =some x)(b:N[j]? =some x):i=j:=by
 obtain⟨h1,e1⟩:=Jy.mp a;obtain⟨h2,e2⟩:=Jy.mp b
 exact(List.getElem_inj hN).mp (e1.trans e2.symm)
theorem eR{M:Model}{A:Around}{E:F2}{i:Nat}{x:Str}{v:V}{u:Γ}{Q:Unit->Θ->Prop}(I:F8 X MT σ H s)(hN:X.N.Nodup)(hi:X.N[i]? =some x)(hx:f8 X.env.scope x)(r:Ge v u)
  (h:∀s',F8 X MT (σ.set i (some v)) H s'->(∃a,Ψ.SameBut a s.heap s'.heap/\(a=X.env.locals\/X.env.cells.lookup x=some a))->Q () s')(hf:X.fn x=true\/X.env.scope.names.lookup x=some .local:=by first|exact .inl rfl|exact .inr rfl|assumption):ζ M A (storeName X.env x u) Q E s:=by
 obtain⟨m,hn,hl⟩:=id I.loc;have hcls:(X.env.scope.kind== .class||(X.env.scope.kind== .module&&X.env.locals != X.env.globals))=false:=by rw[I.ok.kind];rfl
 have hiσ:i<σ.length:=by rw[I.len];exact(Jy.mp hi).1
 have cne:=I.cne;have tracked:∀{a:Δ} {h':Ψ},(∃o,s.heap.get? a=some o/\H a=none)->Ψ.SameBut a s.heap h'->HJ X.prog X.w H h':=fun{a h'} ha hs b ob e=>by
  obtain⟨_,_,hfree⟩:=ha;refine(I.hok b ob e).stay (fun c w' hc q=>(hs.2 c ?_).trans q) (fun _ q=>q) fun _ _ q=>q
  rintro rfl
  rcases hc with rfl|hc
  ·rw[hfree]at e;cases e
  ·rw[hfree]at hc;cases hc
 rcases hx with hk|hk
 ·refine wpAny_storeName_local hk hn (fun h' hn' hs=>?_) hcls
  obtain⟨oL,_,_,hoL,_⟩:=id hn;refine h _ #[I.ok,I.os,I.bare,#[fun b o e n hb hx=>?_,fun b o e n hb hx=>?_,I.base.free,fun b o e hx=>?_,I.base.tups,I.base.frzs,I.base.tbls],#[_,hn',fun j y v' e1 e2 e3=>?_],fun y c e=>?_,I.free,I.freeC,fun p hp=>?_,tracked #[oL,hoL,I.free] hs,by simpa using I.len] #[_,hs,.inl rfl]
  ·exact(hs.2 b (Jk (JM (Ji e) I.ok.above))).trans (I.base.keep b o e n hb hx)
  ·obtain⟨sl,e1⟩:=I.base.slot b o e n hb hx
   exact#[sl,(hs.2 b (Jk (JM (Ji e) I.ok.above))).trans e1]
  ·obtain⟨o',e1⟩:=I.base.there b o e hx
   exact#[o',(hs.2 b (Jk (JM (Ji e) I.ok.above))).trans e1]
  ·by_cases hj:j=i
   ·subst hj
    rw[hi]at e1;cases e1
    rw[FM hiσ]at e2;cases e2
    exact#[u,r,.inl #[hk,by simp]]
   ·rw[FN (Ne.symm hj)]at e2
    obtain⟨u',r',q⟩:=hl j y v' e1 e2 e3;refine#[u',r',?_]
    rcases q with⟨k,e⟩|⟨k,c,e,z⟩
    ·refine .inl #[k,?_]
     have:y≠x:=fun e=>hj (mK hN e1 (e▸hi))
     simp [this,e]
    ·exact .inr #[k,c,e,z.sameBut hs (cne y c e)]
  ·obtain⟨w',z⟩:=I.cell y c e
   exact#[w',z.sameBut hs (cne y c e)]
  ·obtain⟨e,n,ne,nf,d⟩:=I.pin p hp
   exact#[(hs.2 p.1 ne).trans e,n,ne,nf,d]
 ·have hfn:X.fn x=true:=by
   rcases hf with z|z
   ·exact z
   ·rw[z]at hk;cases hk
  obtain⟨c,hc⟩:=I.ok.has x (.inl hk)
  obtain⟨w',z⟩:=I.cell x c hc;refine wpAny_storeName_cell I.ok.kind hk hc z (fun h' hc' hs=>?_)
  obtain⟨oc,hoc,hocd⟩:=id z;refine h {s with heap:=h'} #[I.ok,I.os,I.bare,#[fun b o e n hb hx=>?_,fun b o e n hb hx=>?_,I.base.free,fun b o e hx=>?_,I.base.tups,I.base.frzs,I.base.tbls],#[m,hn.sameBut hs (Ne.symm (cne x c hc)),fun j y v' e1 e2 e3=>?_],fun y c' e=>?_,I.free,I.freeC,fun p hp=>?_,tracked #[oc,hoc,I.freeC x c hc] hs,by simpa using I.len] #[c,hs,.inr hc]
  ·exact(hs.2 b (Jk (JM (Ji e) (I.ok.cab x c hfn hc)))).trans (I.base.keep b o e n hb hx)
  ·obtain⟨sl,e1⟩:=I.base.slot b o e n hb hx
   exact#[sl,(hs.2 b (Jk (JM (Ji e) (I.ok.cab x c hfn hc)))).trans e1]
  ·obtain⟨o',e1⟩:=I.base.there b o e hx
   exact#[o',(hs.2 b (Jk (JM (Ji e) (I.ok.cab x c hfn hc)))).trans e1]
  ·by_cases hj:j=i
   ·subst hj
    rw[hi]at e1;cases e1
    rw[FM hiσ]at e2;cases e2
    exact#[u,r,.inr #[.inl hk,c,hc,hc']]
   ·rw[FN (Ne.symm hj)]at e2
    obtain⟨u',r',q⟩:=hl j y v' e1 e2 e3;refine#[u',r',?_]
    rcases q with q|⟨k,c',e,z'⟩
    ·exact .inl q
    ·refine .inr #[k,c',e,z'.sameBut hs ?_]
     rintro rfl
     exact hj (mK hN e1 (I.ok.inj _ _ _ e hc▸hi))
  ·by_cases hcc:c'=c
   ·subst hcc;exact#[_,hc']
   ·obtain⟨w2,z2⟩:=I.cell y c' e
    exact#[w2,z2.sameBut hs hcc]
  ·obtain⟨e,n,ne,nf,d⟩:=I.pin p hp
   refine#[(hs.2 p.1 ?_).trans e,n,ne,nf,d]
   intro q;rw[q,hoc]at e;have q':oc=p.2:=JG e
   exact d w' (by rw[<- q'];exact hocd)
theorem cQ{M:Model}{A:Around}{E:F2}{i:Nat}{x:Str}{v:V}{u:Γ}{Q:Unit->Θ->Prop}(I:F8 X MT σ H s)(hN:X.N.Nodup)(hi:X.N[i]? =some x)(hx:f8 X.env.scope x)(r:Ge v u)
  (h:∀s',F8 X MT (σ.set i (some v)) H s'->Q () s')(hf:X.fn x=true\/X.env.scope.names.lookup x=some .local:=by first|exact .inl rfl|exact .inr rfl|assumption):ζ M A (storeName X.env x u) Q E s:=
 eR I hN hi hx r (fun s' I' _=>h s' I') hf
theorem F8.call'{s':Θ}{ch:List Δ}(I:F8 X MT σ H s)(ho:s'.os=s.os)(u:Un (cq X.stack) ch H H' s.heap s'.heap)(hok:HJ X.prog X.w H' s'.heap)(hg:AllBare s'.gens)
  (hch:∀b∈ch,(b∈X.ex\/X.s₀.heap.objs.size<=b)/\b≠X.env.locals/\(∀x c,X.env.cells.lookup x=some c->c≠b)/\∀p∈X.pn++MT,p.1≠b):F8 X MT σ H' s':=by
 obtain⟨h',g',d',t',o'⟩:=s';have e:o'=s.os:=ho
 subst e;exact I.call (g':=g') (t':=t') (d':=d') u hok hg hch
end
abbrev XK:=Γ->Option Δ->Hp->Prop
abbrev St:=List (Option V)
abbrev VK:=V->Hp->Prop
abbrev TE:=St->Hp->VK->Prop
abbrev TT:=St->Hp->(Bool->Hp->Prop)->Prop
abbrev TA:=St->Hp->(List V->Hp->Prop)->Prop
structure GX where
 nx:St->Hp->Prop
 rt:VK
 bk:St->Hp->Prop:=fun _ _=>False
 ct:St->Hp->Prop:=fun _ _=>False
abbrev TS:=GX->St->Hp->Prop
def EP(X:Cx)(MT:F4)(σ:St)(Q:VK)(u:Γ)(s':Θ):Prop:=∃v H',F8 X MT σ H' s'/\Ge v u/\Q v H'
def TP(X:Cx)(MT:F4)(σ:St)(Q:Bool->Hp->Prop)(b:Bool)(s':Θ):Prop:=∃H',F8 X MT σ H' s'/\Q b H'
def AP(X:Cx)(MT:F4)(σ:St)(Q:List V->Hp->Prop)(us:List Γ)(s':Θ):Prop:=∃vs H',F8 X MT σ H' s'/\Ga vs us/\Q vs H'
def SP(X:Cx)(MT:F4)(D:GX)(f:Flow)(s':Θ):Prop:=
 match f with
 | .next=>∃σ' H',F8 X MT σ' H' s'/\D.nx σ' H'
 | .brk=>∃σ' H',F8 X MT σ' H' s'/\D.bk σ' H'
 | .cont=>∃σ' H',F8 X MT σ' H' s'/\D.ct σ' H'
 | .ret u=>∃v σ' H',F8 X MT σ' H' s'/\Ge v u/\D.rt v H'
def PE(X:Cx)(e:Φ)(t:TE):Prop:=
 ∀(MT:F4) (s:Θ) (σ:St) (H:Hp) (Q:VK),F8 X MT σ H s->t σ H Q->ζ (model X.prog X.w) X.A (eval e X.env) (EP X MT σ Q) X.xe s
def PT(X:Cx)(e:Φ)(t:TT):Prop:=
 ∀(MT:F4) (s:Θ) (σ:St) (H:Hp) (Q:Bool->Hp->Prop),F8 X MT σ H s->t σ H Q->ζ (model X.prog X.w) X.A (isTrue e X.env (eval e X.env)) (TP X MT σ Q) X.xe s
def PW(X:Cx)(e:Φ)(t:TT):Prop:=
 ∀(whole:Sem Γ) (MT:F4) (s:Θ) (σ:St) (H:Hp) (Q:Bool->Hp->Prop),F8 X MT σ H s->t σ H Q->ζ (model X.prog X.w) X.A (isTrue e X.env whole) (TP X MT σ Q) X.xe s
theorem PW.pt{X:Cx}{e:Φ}{t:TT}(h:PW X e t):PT X e t:=h _
def PA(X:Cx)(es:List Φ)(t:TA):Prop:=
 ∀(pos:Pos) (MT:F4) (s:Θ) (σ:St) (H:Hp) (Q:List V->Hp->Prop),F8 X MT σ H s->t σ H Q->ζ (model X.prog X.w) X.A (spliced (backTo pos (ι es X.env))) (AP X MT σ Q) X.xe s
def PS(X:Cx)(st:ε)(t:TS):Prop:=
 ∀(MT:F4) (s:Θ) (σ:St) (H:Hp) (D:GX),F8 X MT σ H s->t D σ H->ζ (model X.prog X.w) X.A (exec st X.env) (SP X MT D) X.xe s
def Il(X:Cx)(st:List ε)(t:TS):Prop:=
 ∀(MT:F4) (s:Θ) (σ:St) (H:Hp) (D:GX),F8 X MT σ H s->t D σ H->ζ (model X.prog X.w) X.A (execs st X.env) (SP X MT D) X.xe s
theorem qu{α:Type}{t:Sem α}{Q Q':α->Θ->Prop}{M:Model}{A:Around}{E:F2}{s:Θ}(h:ζ M A t Q E s)(hQ:∀a s,Q a s->Q' a s):ζ M A t Q' E s:=Jw h hQ fun _ _ x=>x
section
variable{X:Cx}
inductive Mq (i:Nat) (σ:L2.St) (H:Hp) (Q:VK):Prop
 |mk (v:_) (h1:σ[i]? =some (some v)) (h2:Q v H)
def Bg(i:Nat):TE:=fun σ H Q=>Mq i σ H Q
def tC(v:V):TE:=fun _ H Q=>Q v H
theorem CM{i:Nat}{x:Str}{pos:Pos}(hN:X.N[i]? =some x)(hv:BC X.env.scope x)(hd:(x==("__debug__":Str))=false:=by decide)(hcd:(x==("__classdict__":Str))=false:=by decide):PE X (.Name x pos) (Bg i):=by
 intro MT s σ H Q I h;obtain⟨v,e,h⟩:=h;obtain⟨m,hn,hl⟩:=I.loc;obtain⟨u,r,l⟩:=hl i x v hN e hv;have fin:EP X MT σ Q u s:=#[v,H,I,r,h]
 rcases l with⟨hk,hm⟩|⟨hk,c,hc,hcell⟩
 ·exact wpAny_Name (wpAny_loadName_local I.ok.kind hk hn hm fin) hd
 ·rcases hk with hk|hk
  ·exact wpAny_Name (wpAny_loadName_cell I.ok.kind hk hc hcell fin) hd
  ·exact wpAny_Name (wpAny_loadName_free I.ok.kind hk hc hcell fin hcd) hd
theorem Bq{i j pos}:PE X (.Constant (.int i) j pos) (tC (.int i)):=fun _ _ _ H _ I h=>wpAny_Constant_int #[.int i,H,I.tok _,#[_,rfl],h]
theorem Dd{b j pos}:PE X (.Constant (.bool b) j pos) (tC (.bl b)):=fun _ _ _ H _ I h=>Constant_bool #[.bl b,H,I,rfl,h]
theorem Bd{j pos}:PE X (.Constant .none j pos) (tC .non):=fun _ _ _ H _ I h=>Constant_none #[.non,H,I,rfl,h]
theorem BS{x j pos}:PE X (.Constant (.str x) j pos) (tC (.str x)):=fun _ _ _ H _ I h=>Calls.Constant_str #[.str x,H,I.tok _,#[_,rfl],h]
def Gl(X:Cx)(x:Str):Prop:=X.env.kindOf x=some .globalImplicit
theorem iG{E:F2}{MT:F4}{s:Θ}{σ:St}{H:Hp}{x:Str}{u:Γ}{pos:Pos}{Q:F2}(I:F8 X MT σ H s)(hg:Gl X x)(hm:X.mg x=some u)(h:Q u s)
  (hd:(x==("__debug__":Str))=false:=by decide):ζ (model X.prog X.w) X.A (eval (.Name x pos) X.env) Q E s:=
 Calls.Name_function_global I.ok.kind hg (Calls.loadGlobal_global (by rw[I.ok.glob];exact I.mod.glob.keeps I.bk) hm h) hd
theorem ac{E:F2}{MT:F4}{s:Θ}{σ:St}{H:Hp}{x:Str}{u:Γ}{pos:Pos}{Q:F2}(I:F8 X MT σ H s)(hg:Gl X x)(hm:X.mg x=none)(hv:bootBuiltins x=some u)(h:Q u s)
  (hn:x≠"__name__":=by decide)(hd:(x==("__debug__":Str))=false:=by decide):ζ (model X.prog X.w) X.A (eval (.Name x pos) X.env) Q E s:=by
 obtain⟨mb,h1,h2⟩:=I.mod.blt;exact Calls.Name_function_global I.ok.kind hg (Calls.loadGlobal_builtin (by rw[I.ok.glob];exact I.mod.glob.keeps I.bk) hm (by rw[I.ok.blt];exact h1.keeps I.bk) ((h2 x hn).trans hv) h) hd
theorem As{x:Str}{v:V}{u:Γ}{pos:Pos}(hg:Gl X x)(hm:X.mg x=some u)(r:Ge v u)(hd:(x==("__debug__":Str))=false:=by decide):PE X (.Name x pos) (tC v):=
 fun _ _ _ H _ I h=>iG I hg hm #[v,H,I,r,h] hd
theorem yR{x:Str}{v:V}{u:Γ}{pos:Pos}(hg:Gl X x)(hm:X.mg x=none)(hv:bootBuiltins x=some u)(r:Ge v u)(hn:x≠"__name__":=by decide)(hd:(x==("__debug__":Str))=false:=by decide):PE X (.Name x pos) (tC v):=
 fun _ _ _ H _ I h=>ac I hg hm hv #[v,H,I,r,h] hn hd
variable{a b:Φ}{ta tb:TE}{pos:Pos}
def PC(X:Cx)(op:CmpOp)(a b:Φ)(t:TE):Prop:=
 ∀(MT:F4) (s:Θ) (σ:St) (H:Hp) (Q:VK),F8 X MT σ H s->t σ H Q->
  ζ (model X.prog X.w) X.A (eval a X.env) (fun v s₁=>ζ (model X.prog X.w) X.A (eval b X.env) (fun u s₂=>ζ (model X.prog X.w) X.A (compareOp op v u) (EP X MT σ Q) X.xe s₂) X.xe s₁) X.xe s
def tB(t:TE):TT:=fun σ H Q=>t σ H fun x H1=>∃c,x= .bl c/\Q c H1
theorem Bv{op:CmpOp}{t:TE}(h:PC X op a b t)(h1:behindInMarks op b=false:=by first|exact nobehind _ (by decide) (by decide)|rfl):PT X (.Compare a [op] [b] pos) (tB t):=by
 intro MT s σ H Q I hw;refine wpAny_isTrue_Compare1 (qu (h MT s σ H _ I hw) fun v s1 h1=>qu h1 fun u s2 h2=>qu h2 fun c s3 zq=>?_) h1
 obtain⟨x,H1,I1,r1,q1⟩:=zq;obtain⟨d,rfl,q⟩:=q1;cases r1;exact EA #[H1,I1,q]
theorem Br{e:Φ}{t:TE}(h:PE X e t)(he:∀whole,isTrue e X.env whole=(do let v <- whole;standAt e.pos;holding [v] (truthy v)):=by intro _;rfl):PT X e (tB t):=by
 intro MT s σ H Q I hw;refine isTrue_plain (qu (h MT s σ H _ I hw) fun v s1 zq=>?_) (he _)
 obtain⟨x,H1,I1,r1,q1⟩:=zq;obtain⟨d,rfl,q⟩:=q1;cases r1;exact EA #[H1,I1,q]
variable{tA tB':TT}{rest:List Φ}
def Bj(t u:TT):TT:=fun σ H Q=>t σ H fun c H1=>if c=true then u σ H1 Q else Q false H1
def DF(t u:TT):TT:=fun σ H Q=>t σ H fun c H1=>if c=true then Q true H1 else u σ H1 Q
def BM(t:TT):TT:=fun σ H Q=>t σ H fun c H1=>Q (!c) H1
theorem Ae(ha:PT X a tA):PW X (.BoolOp .And [a] pos) tA:=by
 intro wh MT s σ H Q I h;refine isTrue_and (qu (ha MT s σ H Q I h) fun c s1 e=>?_)
 cases c with
 |true=>exact isTrue_and_nil e
 |false=>exact e
theorem BU(ha:PT X a tA):PW X (.BoolOp .Or [a] pos) tA:=by
 intro wh MT s σ H Q I h;refine isTrue_or (qu (ha MT s σ H Q I h) fun c s1 e=>?_)
 cases c with
 |false=>exact isTrue_or_nil e
 |true=>exact e
theorem BD(ha:PT X a tA)(hb:PW X (.BoolOp .And (b::rest) pos) tB'):PW X (.BoolOp .And (a::b::rest) pos) (Bj tA tB'):=by
 intro wh MT s σ H Q I h;refine isTrue_and (qu (ha MT s σ H _ I h) fun c s1 zq=>?_)
 obtain⟨H1,I1,q1⟩:=zq;cases c with
 |true=>exact hb wh MT s1 σ H1 Q I1 q1
 |false=>exact#[H1,I1,q1]
theorem Dm(ha:PT X a tA)(hb:PW X (.BoolOp .Or (b::rest) pos) tB'):PW X (.BoolOp .Or (a::b::rest) pos) (DF tA tB'):=by
 intro wh MT s σ H Q I h;refine isTrue_or (qu (ha MT s σ H _ I h) fun c s1 zq=>?_)
 obtain⟨H1,I1,q1⟩:=zq;cases c with
 |true=>exact#[H1,I1,q1]
 |false=>exact hb wh MT s1 σ H1 Q I1 q1
theorem Cr(ha:PT X a tA):PT X (.UnaryOp .Not a pos) (BM tA):=by
 intro MT s σ H Q I h;exact isTrue_not (ha MT s σ H (fun c H1=>Q (!c) H1) I h)
def ye(ta tb:TE):TE:=fun σ H Q=>ta σ H fun x H1=>∃c,x= .bl c/\if c=true then tb σ H1 Q else Q (.bl false) H1
def yg(ta:TE):TE:=fun σ H Q=>ta σ H fun x H1=>∃c,x= .bl c/\Q (.bl (!c)) H1
theorem Cf{op}{t:TE}(h:PE X a t):PE X (.BoolOp op [a] pos) t:=fun MT s σ H Q I hw=>BoolOp_one (h MT s σ H Q I hw)
theorem Bo(ha:PE X a ta)(hb:PE X (.BoolOp .And (b::rest) pos) tb):PE X (.BoolOp .And (a::b::rest) pos) (ye ta tb):=by
 intro MT s σ H Q I h;refine BoolOp_and (qu (ha MT s σ H _ I h) fun v s1 zq=>?_)
 obtain⟨x,H1,I1,r1,q1⟩:=zq;obtain⟨c,rfl,q1⟩:=q1;cases r1;refine EA ?_
 cases c with
 |true=>exact hb MT s1 σ H1 Q I1 q1
 |false=>exact#[.bl false,H1,I1,rfl,q1]
theorem CP(ha:PE X a ta):PE X (.UnaryOp .Not a pos) (yg ta):=by
 intro MT s σ H Q I h;refine UnaryOp_ (qu (ha MT s σ H _ I h) fun v s1 zq=>?_)
 obtain⟨x,H1,I1,r1,q1⟩:=zq;obtain⟨c,rfl,q1⟩:=q1;cases r1;exact not_of (EA #[.bl (!c),H1,I1,rfl,q1])
end
def Gd(K:μ)(H:Hp)(a:Δ)(xs:List V):Prop:=
 Rd H a (.lst xs)\/
  ∃(o:Obj) (its:Array Γ) (n:Nat),K.lookup a=some o/\o.cls= .type "list"/\o.dict=none/\o.data= .seq its n/\its.size<=η/\Ga xs its.toList
def Gh(K:μ)(H:Hp)(a:Δ)(xs:List V):Prop:=
 Rd H a (.tup xs)\/
  ∃(o:Obj) (its:Array Γ) (n:Nat),K.lookup a=some o/\o.cls= .type "tuple"/\o.data= .seq its n/\its.size<=η/\Ga xs its.toList
def DX:Γ->Option V
 | .none=>some .non
 | .bool b=>some (.bl b)
 | .int i _=>some (.int i)
 | .str x _=>some (.str x)
 | .bytes b _=>some (.byt b)
 | .float b _=>some (.flt b)
 | .ref a=>some (.ref a)
 | .type n=>some (.ty n)
 |_=>none
theorem Ge.abs{x:V}{u:Γ}(r:Ge x u):DX u=some x:=by
 cases x with
 |non=>cases r;rfl
 |bl _=>cases r;rfl
 |int _=>obtain⟨t,rfl⟩:=r;rfl
 |str _=>obtain⟨t,rfl⟩:=r;rfl
 |byt _=>obtain⟨t,rfl⟩:=r;rfl
 |flt _=>obtain⟨t,rfl⟩:=r;rfl
 |ref _=>cases r;rfl
 |ty _=>cases r;rfl
theorem Ge.inj{x y:V}{u:Γ}(r:Ge x u)(q:Ge y u):x=y:=JG (r.abs.symm.trans q.abs)
theorem Ga.inj:∀{xs ys:List V} {us:List Γ},Ga xs us->Ga ys us->xs=ys
 :=by
 intro xs ys us h
 induction h generalizing ys with
 |nil=>intro g;cases g;rfl
 |cons r t ih=>intro g;cases g with
  |cons r' t'=>rw[r.inj r',ih t']
section
variable{X:Cx}{MT:F4}{σ:St}{H:Hp}{s:Θ}{a:Δ}{xs ys:List V}
theorem Gd.of{K:μ}(h:H a=some (.lst xs)):Gd K H a xs:= .inl (.inl h)
theorem Gh.of{K:μ}(h:H a=some (.tup xs)):Gh K H a xs:= .inl (.inl h)
theorem F8.list(I:F8 X MT σ H s)(h:Gd X.K H a xs):∃its:List Γ,Ga xs its/\PlainL s.heap a its.toArray/\xs.length<=η:=by
 rcases h with h|⟨o,its,n,hk,hc,hd,hs,hz,r⟩
 ·obtain⟨z,its,n,r,e⟩:=h.ok I.hok
  exact#[its,r,#[_,n,e,rfl,rfl,rfl],z]
 ·refine#[its.toList,r,#[o,n,I.kIn a o hk,hc,hd,by simpa using hs],?_]
  have e:=r.length;simp only[Jo]at e;lia
theorem F8.tuple(I:F8 X MT σ H s)(h:Gh X.K H a xs):∃its:List Γ,Ga xs its/\IsTup s.heap a its.toArray/\xs.length<=η:=by
 rcases h with h|⟨o,its,n,hk,hc,hs,hz,r⟩
 ·obtain⟨z,its,r,p⟩:=h.ok I.hok
  exact#[its,r,p,z]
 ·refine#[its.toList,r,#[o,I.kIn a o hk,hc,n,by simpa using hs],?_]
  have e:=r.length;simp only[Jo]at e;lia
theorem F8.list_inj(I:F8 X MT σ H s)(h:Gd X.K H a xs)(h':Gd X.K H a ys):xs=ys:=by
 obtain⟨its,r,⟨o,n,e,_,_,d⟩,_⟩:=I.list h;obtain⟨its',r',⟨o',n',e',_,_,d'⟩,_⟩:=I.list h';rw[e]at e';cases e'
 rw[d]at d';injection d' with d1 _
 have:its=its':=by simpa using JO Array.toList d1
 subst this;exact r.inj r'
theorem F8.tuple_inj(I:F8 X MT σ H s)(h:Gh X.K H a xs)(h':Gh X.K H a ys):xs=ys:=by
 obtain⟨its,r,⟨o,e,_,n,d⟩,_⟩:=I.tuple h;obtain⟨its',r',⟨o',e',_,n',d'⟩,_⟩:=I.tuple h';rw[e]at e';cases e'
 rw[d]at d';injection d' with d1 _
 have:its=its':=by simpa using JO Array.toList d1
 subst this;exact r.inj r'
end
abbrev Cx.wish(X:Cx)(E:F2):Cx:={X with xe:=E}
abbrev Cx.nox(X:Cx):Cx:=X.wish fun _ _=>False
theorem Cx.Ok.wish{X:Cx}(ok:X.Ok)(E:F2):(X.wish E).Ok:=
 #[ok.mod,ok.kind,ok.glob,ok.blt,ok.above,ok.inj,ok.has,ok.cab,ok.hd,ok.frames,ok.stk,ok.exf,ok.bs,ok.bsz,ok.noex,ok.exfs,ok.funs,ok.frf]
theorem Cx.Ok.unwish{X:Cx}{E:F2}(ok:(X.wish E).Ok):X.Ok:=
 #[ok.mod,ok.kind,ok.glob,ok.blt,ok.above,ok.inj,ok.has,ok.cab,ok.hd,ok.frames,ok.stk,ok.exf,ok.bs,ok.bsz,ok.noex,ok.exfs,ok.funs,ok.frf]
section
variable{X:Cx}{MT:F4}{σ:St}{H:Hp}{s:Θ}{E:F2}
theorem F8.wish(I:F8 X MT σ H s)(E:F2):F8 (X.wish E) MT σ H s:=#[I.ok.wish E,I.os,I.bare,I.base,I.loc,I.cell,I.free,I.freeC,I.pin,I.hok,I.len]
theorem F8.unwish(I:F8 (X.wish E) MT σ H s):F8 X MT σ H s:=#[I.ok.unwish,I.os,I.bare,I.base,I.loc,I.cell,I.free,I.freeC,I.pin,I.hok,I.len]
theorem SP.unwish{D:GX}{f:Flow}{s':Θ}(h:SP (X.wish E) MT D f s'):SP X MT D f s':=by
 cases f with
 |next=>obtain⟨σ',H',I,q⟩:=h;exact#[σ',H',I.unwish,q]
 |brk=>obtain⟨σ',H',I,q⟩:=h;exact#[σ',H',I.unwish,q]
 |cont=>obtain⟨σ',H',I,q⟩:=h;exact#[σ',H',I.unwish,q]
 |ret u=>obtain⟨v,σ',H',I,r,q⟩:=h;exact#[v,σ',H',I.unwish,r,q]
theorem Il.nox{st:List ε}{t:TS}(h:Il X.nox st t):Il X st t:=fun MT s σ H D I hw=>
 Jw (h MT s σ H D (I.wish _) hw) (fun _ _ q=>q.unwish) fun _ _ z=>False.elim z
end
section
variable{X:Cx}{st:ε}{rest:List ε}{t u:TS}{e:Φ}{te:TE}{pos:Pos}
def yG:TS:=fun D σ H=>D.nx σ H
def iX(t u:TS):TS:=fun D σ H=>t {D with nx:=u D} σ H
theorem Az:Il X [] yG:=fun _ _ σ H _ I h=>wpAny_execs_nil #[σ,H,I,h]
theorem xm(h1:PS X st t)(h2:Il X rest u):Il X (st::rest) (iX t u):=by
 intro MT s σ H D I h;refine wpAny_execs_cons (qu (h1 MT s σ H {D with nx:=u D} I h) fun f s1 q=>?_)
 cases f with
 |next=>
  obtain⟨σ',H',I',q⟩:=q;exact h2 MT s1 σ' H' D I' q
 |ret v=>exact q
 |brk=>exact q
 |cont=>exact q
theorem Af(h1:PS X st t):Il X [st] t:=by
 intro MT s σ H D I h;refine wpAny_execs_cons (qu (h1 MT s σ H D I h) fun f s1 q=>?_)
 cases f with
 |next=>exact wpAny_execs_nil q
 |ret v=>exact q
 |brk=>exact q
 |cont=>exact q
theorem F8.quiet{MT:F4}{σ:St}{H:Hp}{s:Θ}(I:F8 X MT σ H s):interactive X.env=false:=by simp [interactive,I.ok.kind]
def yL(te:TE):TS:=fun D σ H=>te σ H fun _ H1=>D.nx σ H1
theorem Ag(he:PE X e te)(hs:swapsWith e none pos.line X.env=pure false:=by rfl):PS X (.Expr e pos) (yL te):=by
 intro MT s σ H D I h;exact wpAny_Expr_any (qu (he MT s σ H _ I h) fun v s1 ⟨x,H1,I1,r1,q1⟩=>#[σ,H1,I1,q1]) I.quiet hs
def CN(te:TE):TS:=fun D σ H=>te σ H D.rt
theorem Cd(he:PE X e te):PS X (.Return (some e) pos) (CN te):=by
 intro MT s σ H D I h;exact wpAny_Return_some (qu (he MT s σ H _ I h) fun v s1 ⟨x,H1,I1,r1,q1⟩=>#[x,σ,H1,I1,r1,q1])
def Cj(c:TT)(t u:TS):TS:=fun D σ H=>c σ H fun b H1=>if b=true then t D σ H1 else u D σ H1
theorem C6{c:Φ}{a b:List ε}{tc:TT}(hc:PT X c tc)(ha:Il X a t)(hb:Il X b u):PS X (.If c a b pos) (Cj tc t u):=by
 intro MT s σ H D I h;refine wpAny_If (qu (hc MT s σ H _ I h) fun d s1 zq=>?_)
 obtain⟨H1,I1,q1⟩:=zq;cases d with
 |true=>exact ha MT s1 σ H1 D I1 q1
 |false=>exact hb MT s1 σ H1 D I1 q1
def um:TS:=fun _ _ _=>False
theorem uh{sts:List ε}:Il X sts um:=fun _ _ _ _ _ _ h=>h.elim
end
abbrev TG:=V->St->Hp->(St->Hp->Prop)->Prop
abbrev ao:=List V->St->Hp->(St->Hp->Prop)->Prop
def PG(X:Cx)(target:Φ)(t:TG):Prop:=
 ∀(MT:F4) (s:Θ) (σ:St) (H:Hp) (v:V) (u:Γ) (Q:St->Hp->Prop),F8 X MT σ H s->Ge v u->t v σ H Q->
  ζ (model X.prog X.w) X.A (assign target X.env u) (fun _ s'=>∃σ' H',F8 X MT σ' H' s'/\Q σ' H') X.xe s
def oy(X:Cx)(ts:List Φ)(t:ao):Prop:=
 ∀(MT:F4) (s:Θ) (σ:St) (H:Hp) (vs:List V) (us:List Γ) (Q:St->Hp->Prop),F8 X MT σ H s->Ga vs us->t vs σ H Q->
  ζ (model X.prog X.w) X.A (assignInOrder ((assignEach ts X.env).map (·.2)) us) (fun _ s'=>∃σ' H',F8 X MT σ' H' s'/\Q σ' H') X.xe s
abbrev gf:=V->V->V->Hp->(Hp->Prop)->Prop
def mF(X:Cx)(t:gf):Prop:=
 ∀(MT:F4) (s:Θ) (σ:St) (H:Hp) (o i v:V) (ov iv u:Γ) (Q:Hp->Prop),F8 X MT σ H s->Ge o ov->Ge i iv->Ge v u->t o i v H Q->
  ζ (model X.prog X.w) X.A (setItem ov iv u) (fun _ s'=>∃H',F8 X MT σ H' s'/\Q H') X.xe s
abbrev sO:=V->V->Hp->VK->Prop
def B9(X:Cx)(op:Operator)(t:sO):Prop:=
 ∀(MT:F4) (s:Θ) (σ:St) (H:Hp) (x y:V) (v u:Γ) (Q:VK),F8 X MT σ H s->Ge x v->Ge y u->t x y H Q->
  ζ (model X.prog X.w) X.A (inplaceOp op v u) (EP X MT σ Q) X.xe s
section
variable{X:Cx}{pos:Pos}
def QK(i:Nat):TG:=fun v σ H Q=>Q (σ.set i (some v)) H
theorem AG{i:Nat}{x:Str}(hN:X.N.Nodup)(hi:X.N[i]? =some x)(hx:f8 X.env.scope x)(hf:X.fn x=true\/X.env.scope.names.lookup x=some .local:=by first|exact .inl rfl|exact .inr rfl|assumption):PG X (.Name x pos) (QK i):=by
 intro MT s σ H v u Q I r h;exact wpAny_assign_Name (cQ I hN hi hx r (fun s' I'=>#[_,H,I',h]) hf)
def BB:ao:=fun vs σ H Q=>vs=[]/\Q σ H
inductive LZ (t:TG) (u:ao) (vs:List V) (σ:L2.St) (H:Hp) (Q:L2.St->Hp->Prop):Prop
 |mk (v:_) (r:_) (h1:vs=v::r) (h2:t v σ H fun σ' H'=>u r σ' H' Q)
def yq(t:TG)(u:ao):ao:=fun vs σ H Q=>LZ t u vs σ H Q
theorem AF:oy X [] BB:=by
 intro MT s σ H vs us Q I r h;obtain⟨e,h⟩:=h;subst e;cases r;exact assignInOrder_nil #[σ,H,I,h]
theorem vU{e:Φ}{es:List Φ}{t:TG}{u:ao}(h1:PG X e t)(h2:oy X es u)
  (hs:(assignEach (e::es) X.env).map (·.2)=assign e X.env::(assignEach es X.env).map (·.2):=by rfl):oy X (e::es) (yq t u):=by
 intro MT s σ H vs us Q I r h;obtain⟨v,vr,e1,h⟩:=h;subst e1;cases r with
 |cons r rr=>
  rw[hs];refine assignInOrder_cons (qu (h1 MT s σ H _ _ _ I r h) fun _ s1 zq=>?_)
  obtain⟨σ1,H1,I1,q1⟩:=zq;exact h2 MT s1 σ1 H1 _ _ Q I1 rr q1
inductive Mr (K:μ) (n:Nat) (t:ao) (v:V) (σ:L2.St) (H:Hp) (Q:L2.St->Hp->Prop):Prop
 |mk (a:_) (xs:_) (h1:v= .ref a) (h2:Gh K H a xs) (h3:xs.length=n) (h4:t xs σ H Q)
def wF(K:μ)(n:Nat)(t:ao):TG:=fun v σ H Q=>Mr K n t v σ H Q
theorem lS{es:List Φ}{k:Nat}{t:ao}{n:Nat}(hc:X.calm=true)(h:oy X es t)
  (hn:(assignEach es X.env).length=n:=by rfl)(hst:(assignEach es X.env).findIdx? (·.1)=none:=by rfl):PG X (.Tuple es k pos) (wF X.K n t):=by
 intro MT s σ H v u Q I r hw;obtain⟨a,xs,e1,hq,hl,hw⟩:=hw;subst e1;cases r;obtain⟨its,rv,ht,hz⟩:=I.tuple hq;refine assign_Tuple_tuple (I.ok.hd hc) ht (by simp [hn,<- hl,rv.length]) hst fun h' hx=>?_
 have I1:F8 X MT σ H {s with heap:=h'}:=I.kept (t':=s.toks) fun b o e=>hx b o (Jk (Ji e)) e
 exact h MT _ σ H xs _ Q I1 (by simpa using rv) hw
def CQ(to ti:TE)(t:gf):TG:=fun v σ H Q=>to σ H fun o H1=>ti σ H1 fun i H2=>t o i v H2 fun H3=>Q σ H3
theorem BT{o i:Φ}{to ti:TE}{t:gf}(ho:PE X o to)(hi:PE X i ti)(hs:mF X t)
  (ha:∀v,assign (.Subscript o i pos) X.env v=(do
   let ov <- holding [v] (eval o X.env)
   let iv <- holding [v,ov] (eval i X.env)
   standAt pos
   holding [v,ov,iv] (setItem ov iv v)
   release [v,ov,iv] []):=by intro _;rfl):PG X (.Subscript o i pos) (CQ to ti t):=by
 intro MT s σ H v u Q I r h;rw[ha];refine Ja (JD (qu (ho MT s σ H _ I h) fun ov s1 zq=>?_))
 obtain⟨x,H1,I1,r1,q1⟩:=zq;refine Ja (JD (qu (hi MT s1 σ H1 _ I1 q1) fun iv s2 zq=>?_))
 obtain⟨y,H2,I2,r2,q2⟩:=zq;refine Ja (Eh (Ja (JD (qu (hs MT s2 σ H2 x y v ov iv u _ I2 r1 r2 r q2) fun _ s3 zq=>?_))))
 obtain⟨H3,I3,q3⟩:=zq;exact wpAny_release #[σ,H3,I3,q3]
def eG(te:TE)(g:TG):TS:=fun D σ H=>te σ H fun x H1=>g x σ H1 D.nx
theorem Bk{tg e:Φ}{te:TE}{g:TG}(he:PE X e te)(hg:PG X tg g)(hs:swapsWithSole [tg] e pos.line X.env=pure false:=by rfl)(hw:swappedStores [tg] e X.env=pure none:=by rfl)
  (h1:(assignEach [tg] X.env).map (·.2)=[assign tg X.env]:=by rfl):PS X (.Assign [tg] e pos) (eG te g):=by
 intro MT s σ H D I h;refine wpAny_Assign_stores (qu (he MT s σ H _ I h) fun v s1 zq=>?_) hs hw
 obtain⟨x,H1,I1,r1,q1⟩:=zq;rw[h1];exact qu (hg MT s1 σ H1 x v _ I1 r1 q1) fun _ s2 q=>q
theorem Bl{i:Nat}{x:Str}{e:Φ}{te:TE}{pos':Pos}(hN:X.N.Nodup)(hi:X.N[i]? =some x)(hx:f8 X.env.scope x)(he:PE X e te)(hs:swapsWith e (some (.Name x pos')) pos.line X.env=pure false:=by rfl)(hf:X.fn x=true\/X.env.scope.names.lookup x=some .local:=by first|exact .inl rfl|exact .inr rfl|assumption):
  PS X (.Assign [.Name x pos'] e pos) (eG te (QK i)):=by
 intro MT s σ H D I h;refine wpAny_Assign_Name (qu (he MT s σ H _ I h) fun v s1 zq=>?_) hs
 obtain⟨y,H1,I1,r1,q1⟩:=zq;exact cQ I1 hN hi hx r1 (fun s2 I2=>#[_,H1,I2,q1]) hf
def BY(i j:Nat)(ta:TA):TS:=fun D σ H=>ta σ H fun vs H1=>∃v w,vs=[v,w]/\D.nx ((σ.set i (some v)).set j (some w)) H1
theorem BN{i j:Nat}{x y:Str}{a b:Φ}{ta:TA}{px py pt:Pos}{kt k2 pt2}(hc:X.calm=true)(hN:X.N.Nodup)(hi:X.N[i]? =some x)(hj:X.N[j]? =some y)(hij:i≠j)
  (hx:X.env.scope.names.lookup x=some .local)(hy:X.env.scope.names.lookup y=some .local)(ha:PA X [a,b] ta)
  (hw:swappedStores [.Tuple [.Name x px,.Name y py] kt pt] (.Tuple [a,b] k2 pt2) X.env=pure (some [x,y]))
  (hs:swapsWithSole [.Tuple [.Name x px,.Name y py] kt pt] (.Tuple [a,b] k2 pt2) pos.line X.env=pure false:=by rfl):
  PS X (.Assign [.Tuple [.Name x px,.Name y py] kt pt] (.Tuple [a,b] k2 pt2) pos) (BY i j ta):=by
 intro MT s σ H D I h;rw[exec_Assign_arm];refine Ja (Eh ?_)
 rw[hs];refine Ja (Jd ?_)
 rw[Jc (by decide)]
 refine Ja (Tuple_ (qu (ha _ MT s σ H _ I h) fun us s1 zq=>?_))
 obtain⟨vs,H1,I1,r1,q1⟩:=zq;obtain⟨v,w,e1,q1⟩:=q1;subst e1;obtain⟨u1,u2,rfl,rv,rw'⟩:∃u1 u2,us=[u1,u2]/\Ge v u1/\Ge w u2:=by
  cases r1 with
  |cons p q=>
   cases q with
   |cons p' q'=>
    cases q'
    exact#[_,_,rfl,p,p']
 refine J5 ?_ (by show 2<=η;decide)
 have I2:F8 X MT σ H1 {s1 with heap:=s1.heap.push {cls:= .type "tuple",data:= .seq [u1,u2].toArray}}:=I1.kept (t':=s1.toks) fun b o e=>Jj _ e
 rw[hw];refine Ja (Jd ?_)
 show ζ (model X.prog X.w) X.A (do rule "assign.swapped-stores";let items <- unpackItems (.ref s1.heap.objs.size) 2 none;assignInOrder [fun v=>bindName X.env y v,fun v=>bindName X.env x v] items.reverse;pure Flow.next) _ _ _
 refine Ja (Eu (Ja (unpackItems_tuple (items:= (List.toArray [u1,u2])) (I.ok.hd hc) (IsTup.new s1.heap _) fun h' hx'=>?_)))
 have I3:=I2.kept (h':=h') (t':=s1.toks) fun b o e=>hx' b o (Jk (Ji e)) e
 show ζ _ _ (assignInOrder [fun v=>bindName X.env y v,fun v=>bindName X.env x v] [u2,u1] >>= fun _=>pure Flow.next) _ _ _
 refine Ja (assignInOrder_cons (wpAny_bindName (cQ I3 hN hj (.inl hy) rw' (fun s2 I4=>?_) (.inr hy))))
 refine assignInOrder_cons (wpAny_bindName (cQ I4 hN hi (.inl hx) rv (fun s3 I5=>assignInOrder_nil (Jd ?_)) (.inr hx)))
 rw[List.set_comm _ _ (Ne.symm hij)]at I5
 exact#[_,H1,I5,q1]
def ym(to ti te:TE)(tget:V->V->Hp->VK->Prop)(tip:sO)(tset:gf):TS:=fun D σ H=>to σ H fun o H1=>ti σ H1 fun i H2=>tget o i H2 fun x H3=>te σ H3 fun y H4=>tip x y H4 fun z H5=>tset o i z H5 fun H6=>D.nx σ H6
def vG(X:Cx)(t:V->V->Hp->VK->Prop):Prop:=
 ∀(MT:F4) (s:Θ) (σ:St) (H:Hp) (o i:V) (ov iv:Γ) (Q:VK),F8 X MT σ H s->Ge o ov->Ge i iv->t o i H Q->
  ζ (model X.prog X.w) X.A (getItem ov iv) (EP X MT σ Q) X.xe s
theorem yX{o i e:Φ}{to ti te:TE}{tget:V->V->Hp->VK->Prop}{tip:sO}{tset:gf}{op:Operator}{tpos:Pos}(ho:PE X o to)(hi:PE X i ti)(hg:vG X tget)(he:PE X e te)(hp:B9 X op tip)(hs:mF X tset)
  (ha:∀ov iv new,augStore i ov iv new=(do holding [new,ov,iv] (setItem ov iv new);release [new,ov,iv] [];pure .next):=by intros;rfl):PS X (.AugAssign (.Subscript o i tpos) op e pos) (ym to ti te tget tip tset):=by
 intro MT s σ H D I h;refine wpAny_AugAssign_SubscriptAny (qu (ho MT s σ H _ I h) fun ov s1 zq=>?_) ha
 obtain⟨x1,H1,I1,r1,q1⟩:=zq;refine qu (hi MT s1 σ H1 _ I1 q1) fun iv s2 zq=>?_
 obtain⟨x2,H2,I2,r2,q2⟩:=zq;refine qu (hg MT s2 σ H2 x1 x2 ov iv _ I2 r1 r2 q2) fun old s3 zq=>?_
 obtain⟨x3,H3,I3,r3,q3⟩:=zq;refine qu (he MT s3 σ H3 _ I3 q3) fun v s4 zq=>?_
 obtain⟨x4,H4,I4,r4,q4⟩:=zq;refine qu (hp MT s4 σ H4 x3 x4 old v _ I4 r3 r4 q4) fun new s5 zq=>?_
 obtain⟨x5,H5,I5,r5,q5⟩:=zq;exact qu (hs MT s5 σ H5 x1 x2 x5 ov iv new _ I5 r1 r2 r5 q5) fun _ s6 ⟨H6,I6,q6⟩=>#[σ,H6,I6,q6]
def D6(f:Int->Int->Int):sO:=fun x y H Q=>∃i j,x= .int i/\y= .int j/\Q (.int (f i j)) H
theorem Bb:B9 X .Add (D6 fun i j=>i+j):=by
 intro MT s σ H x y v u Q I r1 r2 h;obtain⟨i,j,e1,e2,q⟩:=h;subst e1;subst e2
 obtain⟨t,rfl⟩:=r1;obtain⟨t',rfl⟩:=r2;exact iadd_int #[.int _,H,I.tok _,#[_,rfl],q]
end
structure It where
 go:Nat->Hp->Prop
 yld:Nat->Hp->V->Hp->Prop
 stop:Nat->Hp->Prop
def Zp(X:Cx)(MT:F4)(H:Hp)(b:Δ):Prop:=
 H b=none/\b≠X.env.locals/\b∉X.fs/\(b∈X.ex\/X.s₀.heap.objs.size<=b)/\(∀x c,X.env.cells.lookup x=some c->c≠b)/\∀p∈X.pn++MT,p.1≠b
theorem F8.fpOk{X:Cx}{MT:F4}{σ:St}{H H':Hp}{s:Θ}{b:Δ}(I:F8 X MT σ H s)(hb:s.heap.objs.size<=b)(hn:H' b=none):Zp X MT H' b:=by
 refine#[hn,J7 (JM I.lt hb),I.nofs hb,.inr (JQ I.sz hb),fun x c e z=>?_,fun p hp z=>?_]
 ·obtain⟨v,q⟩:=I.cell x c e
  exact absurd (JM q.lt (by rw[z];exact hb)) (Et _)
 ·exact absurd (JM (Ji (I.pin p hp).1) (by rw[z];exact hb)) (Et _)
structure HV(P:Ξ)(w:Ω)(K:μ)(tg:Φ)(J:It)(fp:List Δ)(it:Δ)(tn:Nat->Ψ->Prop):Prop where
 mem:it∈fp
 obj:∀i h,tn i h->∀b∈fp,∃o,h.get? b=some o/\∀v,o.data≠ .cell v
 keep:∀i h h',tn i h->(∀b∈fp,∀o,h.get? b=some o->h'.get? b=some o)->tn i h'
 item:∀(X:Cx),X.prog=P->X.w=w->X.K=K->X.calm=true->∀(i:Nat) (MT:F4) (s:Θ) (σ:St) (H:Hp) (E:F2),F8 X MT σ H s->(∀b∈fp,Zp X MT H b)->tn i s.heap->J.go i H->
  ζ (model P w) X.A (pyNext (.ref it)) (fun r s1=>∃u,r=some u/\
   ζ (model P w) X.A (letOwnedTupleGo tg (.ref it) u) (fun _ s2=>∃x H',F8 X MT σ H' s2/\Ge x u/\J.yld i H x H'/\tn (i+1) s2.heap/\∀b∈fp,H' b=none) E s1) E s
 done:∀(X:Cx),X.prog=P->X.w=w->X.K=K->X.calm=true->∀(i:Nat) (MT:F4) (s:Θ) (σ:St) (H:Hp) (E:F2),F8 X MT σ H s->(∀b∈fp,Zp X MT H b)->tn i s.heap->J.stop i H->
  ζ (model P w) X.A (pyNext (.ref it)) (fun r s1=>r=none/\F8 X MT σ H s1) E s
 self:∀(A:Around) (i:Nat) (s:Θ) (Q:F2) (E:F2),tn i s.heap->Q (.ref it) s->ζ (model P w) A (pyIter (.ref it)) Q E s
abbrev TI:=St->Hp->(It->Hp->Prop)->Prop
def Dy(X:Cx)(MT:F4)(σ:St)(tg:Φ)(R:It->Hp->Prop)(itv:Γ)(s2:Θ):Prop:=
 ∃(it:Δ) (fp:List Δ) (tn:Nat->Ψ->Prop) (J:It) (H':Hp),itv= .ref it/\F8 X MT σ H' s2/\HV X.prog X.w X.K tg J fp it tn/\tn 0 s2.heap/\(∀b∈fp,Zp X MT H' b)/\R J H'
def PI(X:Cx)(tg iter:Φ)(wi:TI):Prop:=
 ∀(MT:F4) (s:Θ) (σ:St) (H:Hp) (R:It->Hp->Prop),F8 X MT σ H s->wi σ H R->
  ζ (model X.prog X.w) X.A (eval iter X.env) (fun v s1=>ζ (model X.prog X.w) X.A (pyIter v) (Dy X MT σ tg R) X.xe s1) X.xe s
theorem cP{M:Model}{A:Around}{E:F2}{s:Θ}{tg:Φ}{it:Δ}{u:Γ}{o:Obj}{n:String}{vs:Array Γ}{Q:Unit->Θ->Prop}(ho:s.heap.get? it=some o)(hc:o.cls= .type n)(hd:o.data= .fields vs)
    (hn:["enumerate","zip","dict_itemiterator","dict_reverseitemiterator","odict_iterator","itertools.zip_longest","itertools.pairwise"].contains n=false)(hQ:Q () s):ζ M A (letOwnedTupleGo tg (.ref it) u) Q E s:=by
  unfold letOwnedTupleGo;cases tg<;>first
    |exact Jd hQ
    |(cases u<;>first
        |exact Jd hQ
        | (refine Ja (wpAny_load ho ?_)
           rw[hc,hd]
           show ζ M A (if(["enumerate","zip","dict_itemiterator","dict_reverseitemiterator","odict_iterator","itertools.zip_longest","itertools.pairwise"].contains n&&vs[0]? ==some (rawInt _))=true then _ else _) Q E s
           rw[Jc (by intro h;rw[hn,Ei]at h;cases h)]
           exact Jd hQ))
def c9(K:μ)(a:Δ):It:=
 ⟨fun i H=>∃xs x,Gd K H a xs/\xs[i]? =some x,fun i H x H'=>H'=H/\∀xs,Gd K H a xs->xs[i]? =some x,fun i H=>∃xs,Gd K H a xs/\xs.length<=i⟩
def jv(K:μ)(a:Δ):It:=
 ⟨fun i H=>∃xs x,Gh K H a xs/\xs[i]? =some x,fun i H x H'=>H'=H/\∀xs,Gh K H a xs->xs[i]? =some x,fun i H=>∃xs,Gh K H a xs/\xs.length<=i⟩
def j3(lo:Int)(n:Nat):It:=⟨fun i _=>i<n,fun i H x H'=>H'=H/\x= .int (lo+i),fun i _=>n<=i⟩
theorem jl{P:Ξ}{w:Ω}{K:μ}{tg:Φ}(a it:Δ):HV P w K tg (c9 K a) [it] it (fun i h=>h.IsListIter it a i) where
 mem:=by simp
 obj:=fun i h st b hb=>by
  have e:b=it:=by simpa using hb
  subst e;obtain⟨o,e,c,d⟩:=st
  exact#[o,e,fun v z=>by rw[d]at z;cases z]
 keep:=fun i h h' st k=>st.at fun o e=>k it (by simp) o e
 item:=by
  intro X hP hw hK hc i MT s σ H E I hf st hg;subst hP hw hK;obtain⟨xs,x,hq,hx⟩:=hg;obtain⟨its,rv,p,hz⟩:=I.list hq;obtain⟨u,hu,ru⟩:=rv.get hx;obtain⟨f0,f1,f2,f3,f4,f5⟩:=hf it (by simp)
  refine wpAny_pyNext_list_item st p.isList (x:=u) (by simpa using hu) fun h' st' sb=>?_
  have I1:F8 X MT σ H {s with heap:=h'}:=I.turned (t':=s.toks) (fun b o hb e=>(sb.2 b hb).trans e) f0 f1 f3 f4 f5
  obtain⟨o,e,c,d⟩:=id st'
  exact#[u,rfl,cP (s:={s with heap:=h'}) e c d (by decide) #[x,H,I1,ru,#[rfl,fun ys hy=>by rw[I.list_inj hy hq];exact hx],st',fun b hb=>(hf b hb).1]]
 done:=by
  intro X hP hw hK hc i MT s σ H E I hf st hg;subst hP hw hK;obtain⟨xs,hq,hx⟩:=hg;obtain⟨its,rv,p,hz⟩:=I.list hq;obtain⟨f0,f1,f2,f3,f4,f5⟩:=hf it (by simp)
  have hl:=rv.length;exact wpAny_pyNext_list_end (I.ok.hd hc) st p.isList (by simp;lia) fun h' eb=>#[rfl,I.turned (t':=s.toks) (fun b o hb e=>eb b o hb e) f0 f1 f3 f4 f5]
 self:=fun _ _ _ _ _ st h=>wpAny_pyIter_listiter st h
theorem gQ{P:Ξ}{w:Ω}{K:μ}{tg:Φ}(a it:Δ):HV P w K tg (jv K a) [it] it (fun i h=>h.IsTupleIter it a i) where
 mem:=by simp
 obj:=fun i h st b hb=>by
  have e:b=it:=by simpa using hb
  subst e;obtain⟨o,e,c,d⟩:=st
  exact#[o,e,fun v z=>by rw[d]at z;cases z]
 keep:=fun i h h' st k=>st.at fun o e=>k it (by simp) o e
 item:=by
  intro X hP hw hK hc i MT s σ H E I hf st hg;subst hP hw hK;obtain⟨xs,x,hq,hx⟩:=hg;obtain⟨its,rv,p,hz⟩:=I.tuple hq;obtain⟨u,hu,ru⟩:=rv.get hx;obtain⟨f0,f1,f2,f3,f4,f5⟩:=hf it (by simp)
  refine wpAny_pyNext_tuple_item st (show s.heap.IsTuple a its.toArray from p) (x:=u) (by simpa using hu) fun h' st' sb=>?_
  have I1:F8 X MT σ H {s with heap:=h'}:=I.turned (t':=s.toks) (fun b o hb e=>(sb.2 b hb).trans e) f0 f1 f3 f4 f5
  obtain⟨o,e,c,d⟩:=id st'
  exact#[u,rfl,cP (s:={s with heap:=h'}) e c d (by decide) #[x,H,I1,ru,#[rfl,fun ys hy=>by rw[I.tuple_inj hy hq];exact hx],st',fun b hb=>(hf b hb).1]]
 done:=by
  intro X hP hw hK hc i MT s σ H E I hf st hg;subst hP hw hK;obtain⟨xs,hq,hx⟩:=hg;obtain⟨its,rv,p,hz⟩:=I.tuple hq;obtain⟨f0,f1,f2,f3,f4,f5⟩:=hf it (by simp)
  have hl:=rv.length;exact wpAny_pyNext_tuple_end (I.ok.hd hc) st (show s.heap.IsTuple a its.toArray from p) (by simp;lia) fun h' eb=>#[rfl,I.turned (t':=s.toks) (fun b o hb e=>eb b o hb e) f0 f1 f3 f4 f5]
 self:=fun _ _ _ _ _ st h=>wpAny_pyIter_tupleiter st h
theorem rj{P:Ξ}{w:Ω}{K:μ}{tg:Φ}(it:Δ)(lo:Int)(n:Nat):HV P w K tg (j3 lo n) [it] it (fun i h=>IsRangeIter h it (lo+(i:Nat)*1) ((n:Int)-(i:Nat)) 1) where
 mem:=by simp
 obj:=fun i h st b hb=>by
  have e:b=it:=by simpa using hb
  subst e
  exact#[_,st,fun v z=>by
   have z':Data.fields _=Data.cell v:=z
   cases z']
 keep:=fun i h h' st k=>k it (by simp) _ st
 item:=by
  intro X hP hw hK hc i MT s σ H E I hf st hg;subst hP hw hK;obtain⟨f0,f1,f2,f3,f4,f5⟩:=hf it (by simp)
  have W:=Walks.range (prog:=X.prog) (w:=X.w) (I.ok.hd hc) it lo 1 n
  refine W.item i s _ _ hg st fun v h' tk hv st' kk=>?_
  obtain⟨t,rfl⟩:=hv;have I1:F8 X MT σ H {s with heap:=h',toks:=tk}:=I.turned (fun b o hb e=>kk b o (by simpa using hb) e) f0 f1 f3 f4 f5
  refine#[_,rfl,cP (s:={s with heap:=h',toks:=tk}) (n:="range_iterator") st' rfl rfl (by decide) #[.int (lo+i),H,I1,#[t,?_],#[rfl,rfl],st',fun b hb=>(hf b hb).1]]
  rw[Int.mul_one]
 done:=by
  intro X hP hw hK hc i MT s σ H E I hf st hg;subst hP hw hK;obtain⟨f0,f1,f2,f3,f4,f5⟩:=hf it (by simp)
  exact wpAny_pyNext_range_end (I.ok.hd hc) st (by have:n<=i:=hg;lia) fun h' eb=>#[rfl,I.turned (t':=s.toks) (fun b o hb e=>eb b o hb e) f0 f1 f3 f4 f5]
 self:=fun _ _ _ _ _ st h=>FO st h
section
variable{X:Cx}{tg:Φ}
def xq(K:μ)(tl:TE):TI:=fun σ H R=>tl σ H fun x H1=>∃a,x= .ref a/\(∃xs,Gd K H1 a xs)/\R (c9 K a) H1
def Ca(K:μ)(tl:TE):TI:=fun σ H R=>tl σ H fun x H1=>∃a,x= .ref a/\(∃xs,Gh K H1 a xs)/\R (jv K a) H1
theorem AT{l:Φ}{tl:TE}(hl:PE X l tl):PI X tg l (xq X.K tl):=by
 intro MT s σ H R I h;refine qu (hl MT s σ H _ I h) fun v s1 zq=>?_
 obtain⟨x,H1,I1,r1,q1⟩:=zq;obtain⟨a,e,⟨xs,hq⟩,q⟩:=q1;subst e;cases r1;obtain⟨its,rv,p,hz⟩:=I1.list hq;refine Fc p.isList ?_
 refine#[s1.heap.objs.size,[s1.heap.objs.size],_,_,H1,rfl,I1.kept (t':=s1.toks) fun b o e=>Jj _ e,jl a _,#[_,Js _ rfl,rfl,rfl],fun b hb=>?_,q]
 have e:b=s1.heap.objs.size:=by simpa using hb
 subst e;exact I1.fpOk (Jf _) (I1.hok.fresh (Jf _))
theorem Cm{l:Φ}{tl:TE}(hl:PE X l tl):PI X tg l (Ca X.K tl):=by
 intro MT s σ H R I h;refine qu (hl MT s σ H _ I h) fun v s1 zq=>?_
 obtain⟨x,H1,I1,r1,q1⟩:=zq;obtain⟨a,e,⟨xs,hq⟩,q⟩:=q1;subst e;cases r1;obtain⟨its,rv,p,hz⟩:=I1.tuple hq;refine Fd (show s1.heap.IsTuple a its.toArray from p) ?_
 refine#[s1.heap.objs.size,[s1.heap.objs.size],_,_,H1,rfl,I1.kept (t':=s1.toks) fun b o e=>Jj _ e,gQ a _,#[_,Js _ rfl,rfl,rfl],fun b hb=>?_,q]
 have e:b=s1.heap.objs.size:=by simpa using hb
 subst e;exact I1.fpOk (Jf _) (I1.hok.fresh (Jf _))
theorem kU{MT:F4}{σ:St}{H:Hp}{s:Θ}{R:It->Hp->Prop}{E:F2}{lo hi:Int}{t u v:Tok}{tk:Nat}(I:F8 X MT σ H s)(h1: -(2 ^ 62)<=lo)(h2:lo<2 ^ 62)(h3: -(2 ^ 62)<=hi)(h4:hi<2 ^ 62)
  (q:R (j3 lo (hi-lo).toNat) H):ζ (model X.prog X.w) X.A (pyIter (.ref s.heap.objs.size)) (Dy X MT σ tg R) E {s with heap:=s.heap.push {cls:= .type "range",data:= .fields (List.toArray [.int lo t,.int hi u,.int 1 v])},toks:=tk}:=by
 refine wpAny_pyIter_range (IsRange.new ..) (small_one h1 h2 h3 h4) ?_
 have I1:F8 X MT σ H {s with heap:=s.heap.push {cls:= .type "range",data:= .fields (List.toArray [.int lo t,.int hi u,.int 1 v])},toks:=tk}:=I.kept fun b o e=>Jj _ e
 refine#[(s.heap.push {cls:= .type "range",data:= .fields (List.toArray [.int lo t,.int hi u,.int 1 v])}).objs.size,[(s.heap.push {cls:= .type "range",data:= .fields (List.toArray [.int lo t,.int hi u,.int 1 v])}).objs.size],_,_,H,rfl,
  I1.kept (t':=tk) fun b o e=>Jj _ e,rj _ lo (hi-lo).toNat,?_,fun b hb=>?_,q]
 ·have e1:lo+((0:Nat):Int)*1=lo:=by simp
  have e2:(((hi-lo).toNat:Nat):Int)-((0:Nat):Int)=δ.Range.rangeSize lo hi 1:=by rw[rangeSize_one];split<;>lia
  show IsRangeIter _ _ (lo+((0:Nat):Int)*1) ((((hi-lo).toNat:Nat):Int)-((0:Nat):Int)) 1
  rw[e1,e2];exact Js _ rfl
 ·have e:b=(s.heap.push {cls:= .type "range",data:= .fields (List.toArray [.int lo t,.int hi u,.int 1 v])}).objs.size:=by simpa using hb
  subst e;exact I1.fpOk (Jf _) (I1.hok.fresh (Jf _))
def yj(ta:TA):TI:=fun σ H R=>ta σ H fun vs H1=>∃j:Int,vs=[.int j]/\ -(2 ^ 62)<=j/\j<2 ^ 62/\R (j3 0 j.toNat) H1
def xt(ta:TA):TI:=fun σ H R=>ta σ H fun vs H1=>∃i j:Int,vs=[.int i,.int j]/\(-(2 ^ 62)<=i/\i<2 ^ 62/\ -(2 ^ 62)<=j/\j<2 ^ 62)/\R (j3 i (j-i).toNat) H1
theorem uP{a:Φ}{ta:TA}{p pos:Pos}(hg:Gl X "range")(hm:X.mg "range"=none)(ha:PA X [a] ta)(hs:ι [a] X.env=[(false,eval a X.env)]:=by rfl):PI X tg (.Call (.Name "range" p) [a] [] pos) (yj ta):=by
 intro MT s σ H R I h;refine Call_ (ac I hg hm boot_range (Fe (qu (ha pos MT s σ H _ I h) fun us s1 zq=>?_) hs rfl))
 obtain⟨vs,H1,I1,r1,q1⟩:=zq;obtain⟨j,e,q1,q2,q⟩:=q1;subst e;cases r1 with
 |cons r rr=>
  cases rr;obtain⟨t,rfl⟩:=r;exact call_range_1 (kU I1 (by lia) (by lia) q1 q2 (by simpa using q))
theorem uG{a b:Φ}{ta:TA}{p pos:Pos}(hg:Gl X "range")(hm:X.mg "range"=none)(ha:PA X [a,b] ta)(hs:ι [a,b] X.env=[(false,eval a X.env),(false,eval b X.env)]:=by rfl)(hs2:ι [b] X.env=[(false,eval b X.env)]:=by rfl):
  PI X tg (.Call (.Name "range" p) [a,b] [] pos) (xt ta):=by
 intro MT s σ H R I h;refine Call_ (ac I hg hm boot_range (Fe (qu (ha pos MT s σ H _ I h) fun us s1 zq=>?_) (by rw[hs,hs2]) (by rw[hs2];rfl)))
 obtain⟨vs,H1,I1,r1,q1⟩:=zq;obtain⟨i,j,e,⟨q1,q2,q3,q4⟩,q⟩:=q1;subst e;cases r1 with
 |cons r rr=>
  cases rr with
  |cons r' rr=>
   cases rr;obtain⟨t,rfl⟩:=r;obtain⟨t',rfl⟩:=r';exact call_range_2 (kU I1 q1 q2 q3 q4 q)
def Cl(wi:TI)(g:TG)(tb:TS):TS:=fun D σ H=>wi σ H fun J H1=>∃W:Nat->Nat->St->Hp->Prop,(∃m,W 0 m σ H1)/\∀i m σ H,W i m σ H->
 (J.stop i H/\D.nx σ H)\/(J.go i H/\∃N:St->Hp->Prop,(∀σ' H',N σ' H'->∃m',m'<m/\W (i+1) m' σ' H')/\∀x H',J.yld i H x H'->g x σ H' fun σ2 H2=>tb {D with nx:=N,ct:=N,bk:=D.nx} σ2 H2)
def ae(fp:List Δ)(h:Ψ):List (Δ×Obj):=fp.filterMap fun b=>(h.get? b).map fun o=>(b,o)
theorem Q1{fp:List Δ}{h:Ψ}{b:Δ}{o:Obj}(hb:b∈fp)(e:h.get? b=some o):(b,o)∈ae fp h:=List.mem_filterMap.mpr #[b,hb,by rw[e];rfl]
theorem jk{fp:List Δ}{h:Ψ}{p:Δ×Obj}(hp:p∈ae fp h):p.1∈fp/\h.get? p.1=some p.2:=by
 obtain⟨b,hb,e⟩:=List.mem_filterMap.mp hp;cases q:h.get? b with
 |none=>rw[q]at e;cases e
 |some o=>
  rw[q]at e;have e':(b,o)=p:=JG e
  subst e'
  exact#[hb,q]
theorem F8.pinned{MT:F4}{σ:St}{H:Hp}{s:Θ}{fp:List Δ}(I:F8 X MT σ H s)(hf:∀b∈fp,Zp X MT H b)(ho:∀b∈fp,∃o,s.heap.get? b=some o/\∀v,o.data≠ .cell v):F8 X (MT++ae fp s.heap) σ H s:=
 I.pins_of fun p hp=>(JB.mp hp).elim (fun z=>I.pin p (JH _ z)) fun z=>by
  obtain⟨hb,e⟩:=jk z;obtain⟨f0,f1,f2,_⟩:=hf p.1 hb;obtain⟨o,e',d⟩:=ho p.1 hb;rw[e]at e';cases e'
  exact#[e,f0,f1,f2,d]
theorem F8.unpinned{MT pl:F4}{σ:St}{H:Hp}{s:Θ}(I:F8 X (MT++pl) σ H s):F8 X MT σ H s:=I.pins_of fun p hp=>I.pin p (JH _ (Eg _ hp))
theorem B8{iter:Φ}{body:List ε}{wi:TI}{g:TG}{tb:TS}{pos:Pos}(hp:PassesOwn (model X.prog X.w) X.A X.env X.xe)(hc:X.calm=true)(hi:PI X tg iter wi)(hg:PG X tg g)(hb:Il X body tb)
  (hs:∀x,foldedSetIterable iter X.env x=pure x:=by intro _;rfl):PS X (.For tg iter body [] pos) (Cl wi g tb):=by
 intro MT s σ H D I h;refine wpAny_For (qu (hi MT s σ H _ I h) fun v s1 h1=>qu h1 fun itv s2 h2=>?_) hs
 obtain⟨it,fp,tn,J,H2,e,I2,T,st2,f2,W,⟨m0,w0⟩,turn⟩:=h2;subst e;have stat:∀{H':Hp},(∀b∈fp,H' b=none)->∀b∈fp,Zp X MT H' b:=fun hn b hb=>#[hn b hb,(f2 b hb).2]
 refine codeAny_forLoop_any (fun n s'=>∃i σ' H',F8 X MT σ' H' s'/\tn i s'.heap/\(∀b∈fp,H' b=none)/\W i n σ' H') ?_ m0 #[0,σ,H2,I2,st2,fun b hb=>(f2 b hb).1,w0]
 rintro n s3 ⟨i,σ3,H3,I3,st3,fr3,w3⟩
 rcases turn i n σ3 H3 w3 with⟨stop,qn⟩|⟨go,N,hN,step⟩
 ·refine Fp hp (qu (T.done X rfl rfl rfl hc i MT s3 σ3 H3 X.xe I3 (stat fr3) st3 stop) fun r s4 zq=>?_)
  obtain⟨hr,I4⟩:=zq;subst hr;exact wpAny_execs_nil #[σ3,H3,I4,qn]
 ·refine Fp hp (qu (T.item X rfl rfl rfl hc i MT s3 σ3 H3 X.xe I3 (stat fr3) st3 go) fun r s4 zq=>?_)
  obtain⟨u,hr,h4⟩:=zq;subst hr;refine Fp hp (qu h4 fun _ s5 zq=>?_)
  obtain⟨x,H5,I5,r5,y5,st5,fr5⟩:=zq;have I5':=I5.pinned (stat fr5) (T.obj _ _ st5);refine Fp hp (qu (hg _ s5 σ3 H5 x u _ I5' r5 (step x H5 y5)) fun _ s6 zq=>?_)
  obtain⟨σ6,H6,I6,q6⟩:=zq;refine Fp hp (qu (hb _ s6 σ6 H6 _ I6 q6) fun f s7 q7=>?_)
  have again:∀{σ7:St} {H7:Hp},F8 X (MT++ae fp s5.heap) σ7 H7 s7->N σ7 H7->∃m,m<n/\∃i σ' H',F8 X MT σ' H' s7/\tn i s7.heap/\(∀b∈fp,H' b=none)/\W i m σ' H':=fun{σ7 H7} I7 n7=>by
   obtain⟨m',hm,w7⟩:=hN σ7 H7 n7;refine#[m',hm,i+1,σ7,H7,I7.unpinned,T.keep _ _ _ st5 fun b hb o e=>(I7.pin (b,o) (JH _ (JH _ (Q1 hb e)))).1,fun b hb=>?_,w7]
   obtain⟨o,e,d⟩:=T.obj _ _ st5 b hb
   exact(I7.pin (b,o) (JH _ (JH _ (Q1 hb e)))).2.1
  cases f with
  |next=>obtain⟨σ7,H7,I7,n7⟩:=q7;exact again I7 n7
  |cont=>obtain⟨σ7,H7,I7,n7⟩:=q7;exact again I7 n7
  |brk=>obtain⟨σ7,H7,I7,q7⟩:=q7;exact#[σ7,H7,I7.unpinned,q7]
  |ret v=>obtain⟨x7,σ7,H7,I7,r7,q7⟩:=q7;exact#[x7,σ7,H7,I7.unpinned,r7,q7]
end
theorem zY{K:μ}{a:Δ}{xs:List V}{g:TG}{tb:TS}{D:GX}{σ:St}{H:Hp}(Pv:Nat->St->Hp->Prop)(h0:Pv 0 σ H)(hl:∀i σ H,i<=xs.length->Pv i σ H->Gd K H a xs)
  (hs:∀i x σ H,xs[i]? =some x->Pv i σ H->g x σ H fun σ2 H2=>tb {D with nx:=Pv (i+1),ct:=Pv (i+1),bk:=D.nx} σ2 H2)(hd:∀σ H,Pv xs.length σ H->D.nx σ H):
  ∃W:Nat->Nat->St->Hp->Prop,(∃m,W 0 m σ H)/\∀i m σ H,W i m σ H->
   ((c9 K a).stop i H/\D.nx σ H)\/((c9 K a).go i H/\∃N:St->Hp->Prop,(∀σ' H',N σ' H'->∃m',m'<m/\W (i+1) m' σ' H')/\∀x H',(c9 K a).yld i H x H'->g x σ H' fun σ2 H2=>tb {D with nx:=N,ct:=N,bk:=D.nx} σ2 H2):=by
 refine#[fun i m σ H=>m=xs.length-i/\i<=xs.length/\Pv i σ H,#[xs.length,by simp,JC _,h0],?_]
 rintro i m σ H ⟨rfl,hi,p⟩
 have q:=hl i σ H hi p
 by_cases hlt:i<xs.length
 ·refine .inr #[#[xs,xs[i],q,by simp [hlt]],Pv (i+1),fun σ' H' p'=>#[xs.length-(i+1),by lia,rfl,hlt,p'],fun x H' y=>?_]
  obtain⟨e,y⟩:=y;subst e;exact hs i x σ _ (y xs q) p
 ·have e:i=xs.length:=by lia
  subst e;exact .inl #[#[xs,q,Jf _],hd σ H p]
theorem og{K:μ}{a:Δ}{xs:List V}{g:TG}{tb:TS}{D:GX}{σ:St}{H:Hp}(Pv:Nat->St->Hp->Prop)(h0:Pv 0 σ H)(hl:∀i σ H,i<=xs.length->Pv i σ H->Gh K H a xs)
  (hs:∀i x σ H,xs[i]? =some x->Pv i σ H->g x σ H fun σ2 H2=>tb {D with nx:=Pv (i+1),ct:=Pv (i+1),bk:=D.nx} σ2 H2)(hd:∀σ H,Pv xs.length σ H->D.nx σ H):
  ∃W:Nat->Nat->St->Hp->Prop,(∃m,W 0 m σ H)/\∀i m σ H,W i m σ H->
   ((jv K a).stop i H/\D.nx σ H)\/((jv K a).go i H/\∃N:St->Hp->Prop,(∀σ' H',N σ' H'->∃m',m'<m/\W (i+1) m' σ' H')/\∀x H',(jv K a).yld i H x H'->g x σ H' fun σ2 H2=>tb {D with nx:=N,ct:=N,bk:=D.nx} σ2 H2):=by
 refine#[fun i m σ H=>m=xs.length-i/\i<=xs.length/\Pv i σ H,#[xs.length,by simp,JC _,h0],?_]
 rintro i m σ H ⟨rfl,hi,p⟩
 have q:=hl i σ H hi p
 by_cases hlt:i<xs.length
 ·refine .inr #[#[xs,xs[i],q,by simp [hlt]],Pv (i+1),fun σ' H' p'=>#[xs.length-(i+1),by lia,rfl,hlt,p'],fun x H' y=>?_]
  obtain⟨e,y⟩:=y;subst e;exact hs i x σ _ (y xs q) p
 ·have e:i=xs.length:=by lia
  subst e;exact .inl #[#[xs,q,Jf _],hd σ H p]
theorem zV{lo:Int}{n:Nat}{g:TG}{tb:TS}{D:GX}{σ:St}{H:Hp}(Pv:Nat->St->Hp->Prop)(h0:Pv 0 σ H)
  (hs:∀i σ H,i<n->Pv i σ H->g (.int (lo+i)) σ H fun σ2 H2=>tb {D with nx:=Pv (i+1),ct:=Pv (i+1),bk:=D.nx} σ2 H2)(hd:∀σ H,Pv n σ H->D.nx σ H):
  ∃W:Nat->Nat->St->Hp->Prop,(∃m,W 0 m σ H)/\∀i m σ H,W i m σ H->
   ((j3 lo n).stop i H/\D.nx σ H)\/((j3 lo n).go i H/\∃N:St->Hp->Prop,(∀σ' H',N σ' H'->∃m',m'<m/\W (i+1) m' σ' H')/\∀x H',(j3 lo n).yld i H x H'->g x σ H' fun σ2 H2=>tb {D with nx:=N,ct:=N,bk:=D.nx} σ2 H2):=by
 refine#[fun i m σ H=>m=n-i/\i<=n/\Pv i σ H,#[n,by simp,JC _,h0],?_]
 rintro i m σ H ⟨rfl,hi,p⟩
 by_cases hlt:i<n
 ·refine .inr #[hlt,Pv (i+1),fun σ' H' p'=>#[n-(i+1),by lia,rfl,hlt,p'],fun x H' y=>?_]
  obtain⟨e,y⟩:=y;subst e y;exact hs i σ _ hlt p
 ·have e:i=n:=by lia
  subst e;exact .inl #[Jf _,hd σ H p]
abbrev R2:=V->V->Hp->VK->Prop
def zt(X:Cx)(f:Γ->Γ->Sem Γ)(r:R2):Prop:=
 ∀(MT:F4) (s:Θ) (σ:St) (H:Hp) (x y:V) (v u:Γ) (Q:VK),F8 X MT σ H s->Ge x v->Ge y u->r x y H Q->
  ζ (model X.prog X.w) X.A (f v u) (EP X MT σ Q) X.xe s
def xn(X:Cx)(f:Γ->Sem Γ)(r:V->Hp->VK->Prop):Prop:=
 ∀(MT:F4) (s:Θ) (σ:St) (H:Hp) (x:V) (v:Γ) (Q:VK),F8 X MT σ H s->Ge x v->r x H Q->
  ζ (model X.prog X.w) X.A (f v) (EP X MT σ Q) X.xe s
def zi(X:Cx)(f:Γ)(r:List V->Hp->VK->Prop):Prop:=
 ∀(MT:F4) (s:Θ) (σ:St) (H:Hp) (xs:List V) (us:List Γ) (Q:VK),F8 X MT σ H s->Ga xs us->r xs H Q->
  ζ (model X.prog X.w) X.A (call f us) (EP X MT σ Q) X.xe s
def jr(r:R2)(ta tb:TE):TE:=fun σ H Q=>ta σ H fun x H1=>tb σ H1 fun y H2=>r x y H2 Q
def DC(r:V->Hp->VK->Prop)(ta:TE):TE:=fun σ H Q=>ta σ H fun x H1=>r x H1 Q
inductive MR (C:Int->Int->Prop) (g:Int->Int->V) (x:V) (y:V) (H:Hp) (Q:VK):Prop
 |mk (i:_) (j:_) (h1:x= .int i) (h2:y= .int j) (h3:C i j) (h4:Q (g i j) H)
def rI(C:Int->Int->Prop)(g:Int->Int->V):R2:=fun x y H Q=>MR C g x y H Q
inductive MP (g:Int->Int->V) (x:V) (y:V) (H:Hp) (Q:VK):Prop
 |mk (i:_) (j:_) (h1:x= .int i) (h2:y= .int j) (h3:Q (g i j) H)
def jJ(g:Int->Int->V):R2:=fun x y H Q=>MP g x y H Q
inductive MS (g:Int->V) (x:V) (H:Hp) (Q:VK):Prop
 |mk (i:_) (h1:x= .int i) (h2:Q (g i) H)
def rU(g:Int->V):V->Hp->VK->Prop:=fun x H Q=>MS g x H Q
section
variable{X:Cx}{a b:Φ}{ta tb:TE}{pos:Pos}
theorem xg(ha:PE X a ta)(hb:PE X b tb){MT:F4}{s:Θ}{σ:St}{H:Hp}{R:V->V->Hp->Prop}(I:F8 X MT σ H s)
  (h:ta σ H fun x H1=>tb σ H1 fun y H2=>R x y H2){Q:F2}{f:Γ->Γ->Sem Γ}
  (hf:∀v u s2 x y H2,F8 X MT σ H2 s2->Ge x v->Ge y u->R x y H2->ζ (model X.prog X.w) X.A (f v u) Q X.xe s2):
  ζ (model X.prog X.w) X.A (eval a X.env) (fun v s₁=>ζ (model X.prog X.w) X.A (eval b X.env) (fun u s₂=>ζ (model X.prog X.w) X.A (f v u) Q X.xe s₂) X.xe s₁) X.xe s:=by
 refine qu (ha MT s σ H _ I h) fun v s1 zq=>?_
 obtain⟨x,H1,I1,r1,q1⟩:=zq;refine qu (hb MT s1 σ H1 _ I1 q1) fun u s2 zq=>?_
 obtain⟨y,H2,I2,r2,q2⟩:=zq;exact hf v u s2 x y H2 I2 r1 r2 q2
theorem C2{op:Operator}{r:R2}(ho:zt X (binaryOp op) r)(ha:PE X a ta)(hb:PE X b tb):PE X (.BinOp a op b pos) (jr r ta tb):=by
 intro MT s σ H Q I h;exact wpAny_BinOp (xg ha hb I h fun v u s2 x y H2 I2 rx ry q=>ho MT s2 σ H2 x y v u Q I2 rx ry q)
theorem C3{op:UnaryOp}{r:V->Hp->VK->Prop}(ho:xn X (unaryOp op) r)(ha:PE X a ta):PE X (.UnaryOp op a pos) (DC r ta):=by
 intro MT s σ H Q I h;exact UnaryOp_ (qu (ha MT s σ H _ I h) fun v s1 ⟨x,H1,I1,r1,q1⟩=>ho MT s1 σ H1 x v Q I1 r1 q1)
theorem yw{f:Γ->Γ->Sem Γ}{C:Int->Int->Prop}{g:Int->Int->Int}
  (rule:∀(i j:Int) (t u:Tok) (s:Θ) (Q:F2) (E:F2),C i j->Q (.int (g i j) s.toks) {s with toks:=s.toks+1}->ζ (model X.prog X.w) X.A (f (.int i t) (.int j u)) Q E s):
  zt X f (rI C fun i j=> .int (g i j)):=by
 intro MT s σ H x y v u Q I rx ry h;obtain⟨i,j,rfl,rfl,hc,q⟩:=h;obtain⟨t,rfl⟩:=rx;obtain⟨t',rfl⟩:=ry;exact rule i j t t' s _ _ hc #[.int (g i j),H,I.tok _,#[_,rfl],q]
theorem Ct{f:Γ->Γ->Sem Γ}{g:Int->Int->Int}
  (rule:∀(i j:Int) (t u:Tok) (s:Θ) (Q:F2) (E:F2),Q (.int (g i j) s.toks) {s with toks:=s.toks+1}->ζ (model X.prog X.w) X.A (f (.int i t) (.int j u)) Q E s):
  zt X f (jJ fun i j=> .int (g i j)):=by
 intro MT s σ H x y v u Q I rx ry h;obtain⟨i,j,rfl,rfl,q⟩:=h;obtain⟨t,rfl⟩:=rx;obtain⟨t',rfl⟩:=ry;exact rule i j t t' s _ _ #[.int (g i j),H,I.tok _,#[_,rfl],q]
theorem sF{f:Γ->Γ->Sem Γ}{g:Int->Int->Bool}
  (rule:∀(i j:Int) (t u:Tok) (s:Θ) (Q:F2) (E:F2),Q (.bool (g i j)) s->ζ (model X.prog X.w) X.A (f (.int i t) (.int j u)) Q E s):
  zt X f (jJ fun i j=> .bl (g i j)):=by
 intro MT s σ H x y v u Q I rx ry h;obtain⟨i,j,rfl,rfl,q⟩:=h;obtain⟨t,rfl⟩:=rx;obtain⟨t',rfl⟩:=ry;exact rule i j t t' s _ _ #[.bl (g i j),H,I,rfl,q]
def DQ(i j:Int):Prop:=0<j/\j<1073741824
def DM(i j:Int):Prop:=0<=j/\j<=1000000/\i.natAbs<2 ^ 64
def L4(i j:Int):Prop:=(-(2 ^ 64)<i/\i<2 ^ 64)\/(-(2 ^ 64)<j/\j<2 ^ 64)
theorem L4.ok{i j:Int}(h:L4 i j):IntMulOk i j:=by
 rcases h with⟨h1,h2⟩|⟨h1,h2⟩
 ·exact .of_left (intBits_le_64 h1 h2)
 ·exact .of_right (intBits_le_64 h1 h2)
theorem qJ:zt X (binaryOp .Add) (jJ fun i j=> .int (i+j)):=Ct fun _ _ _ _ _ _ _ q=>add_int q
theorem Zf:zt X (binaryOp .Sub) (jJ fun i j=> .int (i-j)):=Ct fun _ _ _ _ _ _ _ q=>sub_int q
theorem Zb:zt X (binaryOp .Mult) (rI L4 fun i j=> .int (i*j)):=yw fun _ _ _ _ _ _ _ hc q=>mul_int q hc.ok
theorem cu:zt X (binaryOp .FloorDiv) (rI DQ fun i j=> .int (i/j)):=yw fun i j _ _ _ _ _ hc q=>by
 have h1:(0:Int)<j:=hc.1
 have h2:j<1073741824:=hc.2
 exact floordiv_int (by lia) (by rw[Int.fdiv_eq_ediv_of_nonneg i (by lia)];exact q) (.inl (PyProof.noPylong_small (by lia)))
theorem Qk:zt X (binaryOp .Mod) (rI (fun _ j=>0<j) fun i j=> .int (i%j)):=yw fun i j _ _ _ _ _ hc q=>by
 have h1:(0:Int)<j:=hc
 exact mod_int' (by lia) (by rw[Int.fmod_eq_emod_of_nonneg i (by lia)];exact q)
theorem Cw:zt X (binaryOp .Pow) (rI DM fun i j=> .int (i ^ j.toNat)):=yw fun _ _ _ _ _ _ _ hc q=>pow_int_small hc.1 hc.2.1 hc.2.2 q
theorem D7{f:Γ->Sem Γ}{g:Int->Int}
  (rule:∀(i:Int) (t:Tok) (s:Θ) (Q:F2) (E:F2),Q (.int (g i) s.toks) {s with toks:=s.toks+1}->ζ (model X.prog X.w) X.A (f (.int i t)) Q E s):
  xn X f (rU fun i=> .int (g i)):=by
 intro MT s σ H x v Q I rx h;obtain⟨i,rfl,q⟩:=h;obtain⟨t,rfl⟩:=rx;exact rule i t s _ _ #[.int (g i),H,I.tok _,#[_,rfl],q]
theorem ib:xn X (unaryOp .USub) (rU fun i=> .int (-i)):=D7 fun _ _ _ _ _ q=>neg_int q
end
def Cs:V->V->Bool
 | .non,.non=>true| .non,.int _=>true| .int _,.non=>true| .non,.bl _=>true| .bl _,.non=>true| .non,.str _=>true| .str _,.non=>true
 | .int _,.int _=>true| .bl _,.bl _=>true| .str _,.str _=>true| .byt _,.byt _=>true
 | .int _,.str _=>true| .str _,.int _=>true| .bl _,.str _=>true| .str _,.bl _=>true
 |_,_=>false
def D8:R2:=fun x y H Q=>Cs x y=true/\Q (.bl (decide (x=y))) H
def D9:R2:=fun x y H Q=>Cs x y=true/\Q (.bl (!decide (x=y))) H
theorem oP{i j:Int}:decide (V.int i=V.int j)=(i==j):=by
 rw[Ej];simp
theorem t7{i j:Bool}:decide (V.bl i=V.bl j)=(i==j):=by
 rw[Ej];simp
theorem oO{i j:Str}:decide (V.str i=V.str j)=(i==j):=by
 rw[Ej];simp
theorem oA{i j:Array UInt8}:decide (V.byt i=V.byt j)=(i.toList==j.toList):=by
 rw[Ej];cases i;cases j;simp
section
variable{X:Cx}{a b c:Φ}{ta tb tc:TE}{pos:Pos}
theorem qQ{MT:F4}{σ:St}{H:Hp}{s:Θ}{Q:VK}{k k':Bool}(I:F8 X MT σ H s)(q:Q (.bl k) H)(e:k=k'):EP X MT σ Q (.bool k') s:=by
 subst e
 exact#[.bl k,H,I,rfl,q]
theorem ZK:zt X (compareOp .Eq) D8:=by
 intro MT s σ H x y v u Q I rx ry h;obtain⟨hs,q⟩:=h;cases x with
 |non=>
  cases rx;cases y with
  |non=>cases ry;exact PySem.EqNone.eq_none_none (qQ I q (by simp))
  |bl j=>cases ry;exact PySem.EqNone.eq_none_bool (qQ I q (by simp))
  |int j=>obtain⟨t',rfl⟩:=ry;exact PySem.EqNone.eq_none_int (qQ I q (by simp))
  |str j=>obtain⟨t',rfl⟩:=ry;exact PySem.EqNone.eq_none_str (qQ I q (by simp))
  |_=>exact absurd (show false=true from hs) JI
 |bl i=>
  cases rx;cases y with
  |non=>cases ry;exact PySem.EqNone.eq_bool_none (qQ I q (by simp))
  |bl j=>cases ry;exact eq_bool (qQ I q t7)
  |str j=>obtain⟨t',rfl⟩:=ry;exact PySem.EqMixed.eq_bool_str (qQ I q (by simp))
  |_=>exact absurd (show false=true from hs) JI
 |int i=>
  obtain⟨t,rfl⟩:=rx;cases y with
  |non=>cases ry;exact PySem.EqNone.eq_int_none (qQ I q (by simp))
  |int j=>obtain⟨t',rfl⟩:=ry;exact eq_int (qQ I q oP)
  |str j=>obtain⟨t',rfl⟩:=ry;exact PySem.EqMixed.eq_int_str (qQ I q (by simp))
  |_=>exact absurd (show false=true from hs) JI
 |str i=>
  obtain⟨t,rfl⟩:=rx;cases y with
  |non=>cases ry;exact PySem.EqNone.eq_str_none (qQ I q (by simp))
  |bl j=>cases ry;exact PySem.EqMixed.eq_str_bool (qQ I q (by simp))
  |int j=>obtain⟨t',rfl⟩:=ry;exact PySem.EqMixed.eq_str_int (qQ I q (by simp))
  |str j=>obtain⟨t',rfl⟩:=ry;exact eq_str (qQ I q oO)
  |_=>exact absurd (show false=true from hs) JI
 |byt i=>
  obtain⟨t,rfl⟩:=rx;cases y with
  |byt j=>obtain⟨t',rfl⟩:=ry;exact W.eq_bytes (qQ I q oA)
  |_=>exact absurd (show false=true from hs) JI
 |_=>cases y<;>exact absurd (show false=true from hs) JI
theorem cI:zt X (compareOp .NotEq) D9:=by
 intro MT s σ H x y v u Q I rx ry h;obtain⟨hs,q⟩:=h;cases x with
 |non=>
  cases rx;cases y with
  |non=>cases ry;exact PySem.EqNone.ne_none_none (qQ I q (by simp))
  |bl j=>cases ry;exact PySem.EqNone.ne_none_bool (qQ I q (by simp))
  |int j=>obtain⟨t',rfl⟩:=ry;exact PySem.EqNone.ne_none_int (qQ I q (by simp))
  |str j=>obtain⟨t',rfl⟩:=ry;exact PySem.EqNone.ne_none_str (qQ I q (by simp))
  |_=>exact absurd (show false=true from hs) JI
 |bl i=>
  cases rx;cases y with
  |non=>cases ry;exact PySem.EqNone.ne_bool_none (qQ I q (by simp))
  |bl j=>cases ry;exact ne_bool (qQ I q (JO not t7))
  |str j=>obtain⟨t',rfl⟩:=ry;exact PySem.EqMixed.ne_bool_str (qQ I q (by simp))
  |_=>exact absurd (show false=true from hs) JI
 |int i=>
  obtain⟨t,rfl⟩:=rx;cases y with
  |non=>cases ry;exact PySem.EqNone.ne_int_none (qQ I q (by simp))
  |int j=>obtain⟨t',rfl⟩:=ry;exact ne_int (qQ I q (JO not oP))
  |str j=>obtain⟨t',rfl⟩:=ry;exact PySem.EqMixed.ne_int_str (qQ I q (by simp))
  |_=>exact absurd (show false=true from hs) JI
 |str i=>
  obtain⟨t,rfl⟩:=rx;cases y with
  |non=>cases ry;exact PySem.EqNone.ne_str_none (qQ I q (by simp))
  |bl j=>cases ry;exact PySem.EqMixed.ne_str_bool (qQ I q (by simp))
  |int j=>obtain⟨t',rfl⟩:=ry;exact PySem.EqMixed.ne_str_int (qQ I q (by simp))
  |str j=>obtain⟨t',rfl⟩:=ry;exact ne_str (qQ I q (JO not oO))
  |_=>exact absurd (show false=true from hs) JI
 |byt i=>
  obtain⟨t,rfl⟩:=rx;cases y with
  |byt j=>obtain⟨t',rfl⟩:=ry;exact W.ne_bytes (qQ I q (JO not oA))
  |_=>exact absurd (show false=true from hs) JI
 |_=>cases y<;>exact absurd (show false=true from hs) JI
theorem kL:zt X (compareOp .Lt) (jJ fun i j=> .bl (decide (i<j))):=sF fun _ _ _ _ _ _ _ q=>lt_int q
theorem bt:zt X (compareOp .LtE) (jJ fun i j=> .bl (decide (i<=j))):=sF fun _ _ _ _ _ _ _ q=>le_int q
theorem Dk:zt X (compareOp .Gt) (jJ fun i j=> .bl (decide (j<i))):=sF fun _ _ _ _ _ _ _ q=>gt_int q
theorem rK:zt X (compareOp .GtE) (jJ fun i j=> .bl (decide (j<=i))):=sF fun _ _ _ _ _ _ _ q=>ge_int q
theorem QP:zt X (compareOp .Is) (fun x y H Q=>y= .non/\Q (.bl (decide (x= .non))) H):=by
 intro MT s σ H x y v u Q I rx ry h;obtain⟨rfl,q⟩:=h;cases ry;refine is_none_gen (qQ I q ?_)
 cases x<;>first
  |(cases rx;rfl)
  |(obtain⟨t,rfl⟩:=rx;rfl)
theorem cp:zt X (compareOp .IsNot) (fun x y H Q=>y= .non/\Q (.bl (!decide (x= .non))) H):=by
 intro MT s σ H x y v u Q I rx ry h;obtain⟨rfl,q⟩:=h;cases ry;refine isnot_none_gen (qQ I q ?_)
 cases x<;>first
  |(cases rx;rfl)
  |(obtain⟨t,rfl⟩:=rx;rfl)
theorem qy(b:Φ){op:CmpOp}(h:op≠ .In:=by decide)(h2:op≠ .NotIn:=by decide):behindInMarks op b=false:=by
 have e1:(op==CmpOp.In)=false:=by cases op<;>first|rfl|exact absurd rfl h
 have e2:(op==CmpOp.NotIn)=false:=by cases op<;>first|rfl|exact absurd rfl h2
 cases b<;>simp [behindInMarks,e1,e2]
theorem Am{op:CmpOp}{r:R2}(ho:zt X (compareOp op) r)(ha:PE X a ta)(hb:PE X b tb)(hm:behindInMarks op b=false):PE X (.Compare a [op] [b] pos) (jr r ta tb):=by
 intro MT s σ H Q I h;exact wpAny_Compare1 (xg ha hb I h fun v u s2 x y H2 I2 rx ry q=>ho MT s2 σ H2 x y v u Q I2 rx ry q) hm
def hJ(t:TE):TT:=fun σ H Q=>t σ H fun x H'=>∃k,x= .bl k/\Q k H'
theorem Au{op:CmpOp}{r:R2}(ho:zt X (compareOp op) r)(ha:PE X a ta)(hb:PE X b tb)(hm:behindInMarks op b=false):PT X (.Compare a [op] [b] pos) (hJ (jr r ta tb)):=by
 intro MT s σ H Q I h;refine wpAny_isTrue_Compare1 (qu (ha MT s σ H _ I h) fun v s1 ⟨x,H1,I1,r1,q1⟩=>qu (hb MT s1 σ H1 _ I1 q1) fun u s2 ⟨y,H2,I2,r2,q2⟩=>
  qu (ho MT s2 σ H2 x y v u _ I2 r1 r2 q2) fun c s3 ⟨z,H3,I3,r3,k,e,q3⟩=>?_) hm
 subst e;cases r3;exact EA #[H3,I3,q3]
def iz(r r':R2)(ta tb tc:TE):TE:=fun σ H Q=>ta σ H fun x H1=>tb σ H1 fun y H2=>r x y H2 fun z H3=>∃k,z= .bl k/\
 (if k=true then tc σ H3 fun w' H4=>r' y w' H4 Q else Q (.bl false) H3)
theorem vi{op op':CmpOp}{r r':R2}(ho:zt X (compareOp op) r)(ho':zt X (compareOp op') r')(ha:PE X a ta)(hb:PE X b tb)(hc:PE X c tc)
  (hm:lastMarks [op,op'] [b,c]=false:=by with_unfolding_all rfl):PE X (.Compare a [op,op'] [b,c] pos) (iz r r' ta tb tc):=by
 intro MT s σ H Q I h;refine Compare_chain (qu (ha MT s σ H _ I h) fun v s1 ⟨x,H1,I1,r1,q1⟩=>chain_link (qu (hb MT s1 σ H1 _ I1 q1) fun u s2 ⟨y,H2,I2,r2,q2⟩=>
  qu (ho MT s2 σ H2 x y v u _ I2 r1 r2 q2) fun d s3 ⟨z,H3,I3,r3,k,e,q3⟩=>?_)) hm
 subst e;cases r3;refine EA ?_
 cases k with
 |false=>exact ite_ff #[.bl false,H3,I3,rfl,q3]
 |true=>exact ite_tt (chain_last (qu (hc MT s3 σ H3 _ I3 q3) fun w' s4 ⟨z',H4,I4,r4,q4⟩=>ho' MT s4 σ H4 y z' u w' Q I4 r2 r4 q4))
theorem vR{op op':CmpOp}{r r':R2}(ho:zt X (compareOp op) r)(ho':zt X (compareOp op') r')(ha:PE X a ta)(hb:PE X b tb)(hc:PE X c tc)
  (hm:lastMarks [op,op'] [b,c]=false:=by with_unfolding_all rfl):PT X (.Compare a [op,op'] [b,c] pos) (hJ (iz r r' ta tb tc)):=by
 intro MT s σ H Q I h;refine isTrue_chain (qu (ha MT s σ H _ I h) fun v s1 ⟨x,H1,I1,r1,q1⟩=>test_link (qu (hb MT s1 σ H1 _ I1 q1) fun u s2 ⟨y,H2,I2,r2,q2⟩=>
  qu (ho MT s2 σ H2 x y v u _ I2 r1 r2 q2) fun d s3 ⟨z,H3,I3,r3,k,e,q3⟩=>?_)) hm
 subst e;cases r3;refine EA ?_
 cases k with
 |false=>
  obtain⟨k',e',q'⟩:=q3;cases e';exact ite_ff #[H3,I3,q']
 |true=>
  refine ite_tt (test_last (qu (hc MT s3 σ H3 _ I3 q3) fun w' s4 ⟨z',H4,I4,r4,q4⟩=>qu (ho' MT s4 σ H4 y z' u w' _ I4 r2 r4 q4) fun d' s5 zq=>?_))
  obtain⟨z2,H5,I5,r5,k2,e2,q5⟩:=zq;subst e2;cases r5;exact EA #[H5,I5,q5]
theorem ab:(η:Nat)<2 ^ 63:=by rw[JF];decide
theorem zU{x:V}{us:List Γ}(r:Ga [x] us):∃u,us=[u]/\Ge x u:=by
 cases r with
 |cons r1 r2=>cases r2;exact#[_,rfl,r1]
theorem kM{x y:V}{us:List Γ}(r:Ga [x,y] us):∃u w',us=[u,w']/\Ge x u/\Ge y w':=by
 cases r with
 |cons r1 r2=>
  cases r2 with
  |cons r3 r4=>cases r4;exact#[_,_,rfl,r1,r3]
theorem lq:zi X (.builtin "abs") (fun xs H Q=>∃i,xs=[.int i]/\Q (.int (if i<0 then -i else i)) H):=by
 intro MT s σ H xs us Q I r h;obtain⟨i,rfl,q⟩:=h;obtain⟨u,rfl,t,rfl⟩:=zU r;exact call_abs_int fun u tk=>#[.int (if i<0 then -i else i),H,I.tok _,#[_,rfl],q]
theorem tV(hc:X.calm=true):zi X (.builtin "max") (fun xs H Q=>∃i j,xs=[.int i,.int j]/\Q (.int (if j>i then j else i)) H):=by
 intro MT s σ H xs us Q I r h;obtain⟨i,j,rfl,q⟩:=h;obtain⟨u,w',rfl,⟨t,rfl⟩,⟨t',rfl⟩⟩:=kM r;refine max_two_ints (I.ok.hd hc) fun h' tk k=>#[_,H,I.kept k,?_,q]
 by_cases hj:j>i
 ·rw[Jb hj,Jb hj];exact#[_,rfl]
 ·rw[Jc hj,Jc hj];exact#[_,rfl]
theorem am(hc:X.calm=true):zi X (.builtin "min") (fun xs H Q=>∃i j,xs=[.int i,.int j]/\Q (.int (if j<i then j else i)) H):=by
 intro MT s σ H xs us Q I r h;obtain⟨i,j,rfl,q⟩:=h;obtain⟨u,w',rfl,⟨t,rfl⟩,⟨t',rfl⟩⟩:=kM r;refine min_two_ints (I.ok.hd hc) fun h' tk k=>#[_,H,I.kept k,?_,q]
 by_cases hj:j<i
 ·rw[Jb hj,Jb hj];exact#[_,rfl]
 ·rw[Jc hj,Jc hj];exact#[_,rfl]
theorem eB:zi X (.type "int") (fun xs H Q=>(∃i,xs=[.int i]/\Q (.int i) H)\/∃k,xs=[.bl k]/\Q (.int (if k then 1 else 0)) H):=by
 intro MT s σ H xs us Q I r h;rcases h with⟨i,rfl,q⟩|⟨k,rfl,q⟩
 ·obtain⟨u,rfl,t,rfl⟩:=zU r
  exact call_int_int #[.int i,H,I,#[_,rfl],q]
 ·obtain⟨u,rfl,r1⟩:=zU r
  cases r1;exact call_int_bool #[.int (if k then 1 else 0),H,I.tok _,#[_,rfl],q]
theorem kS:zi X (.builtin "ord") (fun xs H Q=>∃x,xs=[.str x]/\x.length=1/\Q (.int (x.cps.getD 0 0:Nat)) H):=by
 intro MT s σ H xs us Q I r h;obtain⟨x,rfl,hz,q⟩:=h;obtain⟨u,rfl,t,rfl⟩:=zU r;exact ord_of_one hz #[.int _,H,I.tok _,#[_,rfl],q]
end
structure Io(h:Ψ)(x dx C:Δ)(mA:F3):Prop where
 obj:h.get? x=some (PySem.W.instObj C dx)
 ns:h.Ns1 dx mA
 ne:dx≠x
theorem u6{h:Ψ}{dx:Δ}{mA:F3}(n:h.Ns1 dx mA):∃od,h.get? dx=some od/\∀name,W.lookIn name od=some (mA name):=by
 obtain⟨o,es,ep,ho,hd,hk,_,hm⟩:=n;refine#[o,ho,fun name=>?_]
 have e:=hm name;unfold nsFind findBy at e;rw[<- Array.find?_toList]at e;unfold W.lookIn;rw[hd]
 dsimp only
 split
 ·rename_i y q
  rw[q]at e;exact JO some e
 ·rename_i q
  rw[q]at e;have a:es.toList.any (·.refKey)=false:=by
   rw[List.any_eq_false];intro y hy;obtain⟨z,t,hkey⟩:=hk y (Array.mem_toList_iff.mp hy)
   simp [DictEntry.refKey,hkey]
  have a':¬es.toList.any (·.refKey)=true:=by rw[a];exact JI
  rw[Jc a'];exact JO some e
theorem Io.look{h:Ψ}{x dx C:Δ}{mA:F3}(I:Io h x dx C mA):∃od,W.InstAt h x (W.instObj C dx) C (some od)/\∀name,W.lookIn name od=some (mA name):=
 let⟨od,ho,hl⟩:=u6 I.ns
 #[od,#[I.obj,rfl,rfl,ho],hl]
section
variable{prog:Ξ}{w:Ω}{A:Around}{E:F2}{s:Θ}{K:μ}{x dx C f:Δ}{mA:F3}{name:Str}{v:Γ}
theorem AV{expr:Bool}{Q:F2}(X:K.In s.heap)(I:Io s.heap x dx C mA)(hg:W.plainGet K C name=true)(hh:W.hasDictIn K C=true)
  (ha:W.findIn K (.ref C) name=some none)(hv:mA name=some v)(hv':W.handedIn v=true)(h:Q v {s with toks:=s.toks+1}):
  ζ (model prog w) A (getAttr (.ref x) name expr) Q E s:=by
 obtain⟨od,J,hl⟩:=I.look;exact W.get_value X J (W.plainGet_of hg).1 (W.findObj_own hh ha rfl (by rw[hl,hv])) hv' h
theorem w9{pl:Sem Bool}{Q:Γ×List Γ->Θ->Prop}(X:K.In s.heap)(I:Io s.heap x dx C mA)(hg:W.plainGet K C name=true)
  (hf:W.findIn K (.ref C) name=some (some (.ref f)))(ht:W.isFn K (.ref f)=true)(hv:mA name=none)(h:Q (.ref f,[.ref x]) s):
  ζ (model prog w) A (getMethod (.ref x) name pl) Q E s:=by
 obtain⟨od,J,hl⟩:=I.look;exact W.method_fn X J (W.plainGet_of hg).1 (W.plainGet_of hg).2 hf (JT.mp ht) (by show(W.lookIn name od).map (·.isSome)=some false;rw[hl,hv];rfl) h
theorem Ab{ns:List Str}{Q:Unit->Θ->Prop}(X:K.In s.heap)(I:Io s.heap x dx C mA)
  (hs:W.findIn K (.ref C) "__setattr__"=some (some (.builtin "object.__setattr__")))(hp:W.plainOver K C=true)(ht:W.takerIn K C name=some none)(hh:W.hasDictIn K C=true)
  (hw:PySem.Within mA ns)(hsz:ns.length<=η)
  (h:∀h',Io h' x dx C (fun y=>if y=name then some v else mA y)->Ψ.SameBut dx s.heap h'->Q () {s with heap:=h',toks:=s.toks+2}):
  ζ (model prog w) A (setAttr (.ref x) name v) Q E s:=by
 obtain⟨od,J,hl⟩:=I.look;refine W.set_plain X J hs (W.osa_open (s:={s with toks:=s.toks+1}) (r:=none) X J hp ht fun b=>?_)
 obtain⟨cd,hc,hd'⟩:=W.any_some hh;have hx:s.heap.get? x=some #[.ref C,some dx,.plain,(List.toArray [])]:=I.obj
 refine Ja (Jd (Ja (Ja (wpAny_loadPart hx (Ja (W.Looks.here (s:={s with toks:=s.toks+1}) (W.looks_clsIn X hc) ?_))))))
 rw[hd'];refine Jd (a:=some dx) (Ja (Jd (Ja ?_)))
 refine wpAny_nsSet1 (s:={s with toks:=s.toks+1}) I.ns fun h' hn2 hs2=>?_
 obtain⟨oD,esD,epD,hoD,hdD,hcD⟩:=hn2.count (PySem.Within.cons name v hw)
 refine Ja (wpAny_lookBehind hoD (by rw[hdD];exact pastItsLine_dict (JQ hcD (by rw[JP];lia))) ?_)
 exact Jd (h _ #[(hs2.2 _ (Ne.symm I.ne)).trans I.obj,hn2,I.ne] hs2)
theorem v9{R:Result->Θ->Prop}{vs:List Γ}{kw:List (Str×Γ)}(X:K.In s.heap)(hm:W.makesIn K C=true)
  (hi:W.findIn K (.ref C) "__init__"=some (some (.ref f)))(hf:W.typeIn K (.ref f)=some (.type "function"))
  (h:codeAny (model prog w) (A.under (.builtin "type.__call__" #[.ref C::vs,kw])) (.call (.ref f) #[.ref (s.heap.objs.size+1)::vs,kw]) (W.InitBack (s.heap.objs.size+1) R)
   {s with heap:=(s.heap.push W.emptyDict).push (W.instObj C s.heap.objs.size)}):
  codeAny (model prog w) A (.call (.ref C) #[vs,kw]) R s:=by
 obtain⟨hh,g,d,t,os⟩:=s;exact W.make_core (W.makes_of X hm) (W.looks_findIn X hi) (fun self=>W.bind_fn X self hf) (.inl rfl) h
end
def Qq(f:Str)(v:V):List (Str×V)->List (Str×V)
 | []=>[(f,v)]
 |(g,x)::r=>if g=f then(g,v)::r else(g,x)::Qq f v r
theorem fY(f g:Str)(v:V):∀fs:List (Str×V),(Qq f v fs).lookup g=if g=f then some v else fs.lookup g
 | []=>by
  show List.lookup g [(f,v)]=_
  by_cases h:g=f
  ·have hb:(g==f)=true:=JT.mpr h
   simp only[List.lookup,hb,Jb h]
  ·have hb:(g==f)=false:=EK.mpr h
   simp only[List.lookup,hb,Jc h]
 |(k,x)::r=>by
  have ih:=fY f g v r;rw[show Qq f v ((k,x)::r)=(if k=f then(k,v)::r else(k,x)::Qq f v r)from rfl]
  by_cases hk:k=f
  ·rw[Jb hk]
   by_cases h:g=k
   ·have hb:(g==k)=true:=JT.mpr h
    simp only[List.lookup,hb,Jb (h.trans hk)]
   ·have hb:(g==k)=false:=EK.mpr h
    simp only[List.lookup,hb,Jc (fun e:g=f=>h (e.trans hk.symm))]
  ·rw[Jc hk]
   by_cases h:g=k
   ·have hb:(g==k)=true:=JT.mpr h
    simp only[List.lookup,hb,Jc (fun e:g=f=>hk (h.symm.trans e))]
   ·have hb:(g==k)=false:=EK.mpr h
    simp only[List.lookup,hb];exact ih
theorem eP(f:Str)(v:V):∀fs:List (Str×V),f∈(Qq f v fs).map (·.1)/\∀g,g∈fs.map (·.1)->g∈(Qq f v fs).map (·.1)
 | []=>#[by simp [Qq],fun g h=>by simp at h]
 |(k,x)::r=>by
  obtain⟨i1,i2⟩:=eP f v r;rw[show Qq f v ((k,x)::r)=(if k=f then(k,v)::r else(k,x)::Qq f v r)from rfl]
  by_cases hk:k=f
  ·rw[Jb hk]
   subst hk
   exact#[by simp,fun g h=>by simpa using h]
  ·rw[Jc hk]
   refine#[?_,fun g h=>?_]
   ·rw[JU]
    exact JE _ i1
   ·rw[JU]at h⊢
    rcases Jr.mp h with e|e
    ·exact Jr.mpr (.inl e)
    ·exact JE _ (i2 g e)
theorem fX(f:Str)(v:V):∀fs:List (Str×V),(Qq f v fs).length<=fs.length+1
 | []=>by simp [Qq]
 |(k,x)::r=>by
  have ih:=fX f v r;rw[show Qq f v ((k,x)::r)=(if k=f then(k,v)::r else(k,x)::Qq f v r)from rfl]
  by_cases hk:k=f
  ·rw[Jb hk,JP,JP];lia
  ·rw[Jc hk,JP,JP];lia
theorem Hj.some_of{v:V}{o:Option Γ}(r:Hj (some v) o):∃u,o=some u/\Ge v u:=by
 cases o with
 |none=>exact(show False from r).elim
 |some u=>exact#[u,rfl,r]
theorem Hj.none_of{o:Option Γ}(r:Hj none o):o=none:=by
 cases o with
 |none=>rfl
 |some u=>exact(show False from r).elim
theorem tH{v:V}{u:Γ}(r:Ge v u):W.handedIn u=true:=by
 cases v with
 |non=>cases(show u=Γ.none from r);rfl
 |bl b=>cases(show u=Γ.bool b from r);rfl
 |int i=>obtain⟨t,e⟩:=(show∃t,u=Γ.int i t from r);cases e;rfl
 |str x=>obtain⟨t,e⟩:=(show∃t,u=Γ.str x t from r);cases e;rfl
 |byt b=>obtain⟨t,e⟩:=(show∃t,u=Γ.bytes b t from r);cases e;rfl
 |flt b=>obtain⟨t,e⟩:=(show∃t,u=Γ.float b t from r);cases e;rfl
 |ref a=>cases(show u=Γ.ref a from r);rfl
 |ty n=>cases(show u=Γ.type n from r);rfl
section
variable{P:Ξ}{w:Ω}{H:Hp}{h:Ψ}{a C dx:Δ}{fs:List (Str×V)}
theorem fB(hok:HJ P w H h)(e:H a=some (.ins C dx fs)):∃mA,Io h a dx C mA/\(∀f,Hj (fs.lookup f) (mA f))/\PySem.Within mA (fs.map (·.1))/\fs.length<=1000/\H dx=some (.own a):=by
 obtain⟨d,z,ne,ob,mA,n,r,q⟩:=(show Gn P w H h a (.ins C dx fs)from hok a _ e)
 exact#[mA,#[ob,n,ne],r,q,z,d]
end
structure IP(K:μ)(C:Δ):Prop where
 pg:PySem.W.plainGet K C Str.empty=true
 hd:PySem.W.hasDictIn K C=true
 po:PySem.W.plainOver K C=true
 sa:PySem.W.findIn K (.ref C) "__setattr__"=some (some (.builtin "object.__setattr__"))
theorem IP.get{K:μ}{C:Δ}(c:IP K C)(f:Str):W.plainGet K C f=true:=c.pg
def GB(K:μ)(C:Δ)(f:Str):Prop:=PySem.W.findIn K (.ref C) f=some none
theorem GB.taker{K:μ}{C:Δ}{f:Str}(n:GB K C f):W.takerIn K C f=some none:=by
 unfold W.takerIn;rw[show W.findIn K (.ref C) f=some none from n]
 rfl
structure LK(K:μ)(C:Δ)(m:Str)(f:Δ):Prop where
 at_:PySem.W.findIn K (.ref C) m=some (some (.ref f))
 fn:PySem.W.isFn K (.ref f)=true
 kp:PySem.W.keepIn K (.ref f)=true
section
variable{X:Cx}{MT:F4}{σ:St}{H:Hp}{s:Θ}{a C dx:Δ}{fs:List (Str×V)}{f:Str}{v:V}{A:Around}{E:F2}
theorem rJ{b:Bool}{Q:F2}(I:F8 X MT σ H s)(e:H a=some (.ins C dx fs))(c:IP X.K C)(n:GB X.K C f)(l:fs.lookup f=some v)
  (h:∀u s',F8 X MT σ H s'->Ge v u->Q u s'):ζ (model X.prog X.w) A (getAttr (.ref a) f b) Q E s:=by
 obtain⟨mA,O,r,_,_,_⟩:=fB I.hok e;obtain⟨u,hu,ru⟩:=Hj.some_of (v:=v) (o:=mA f) (by rw[<- l];exact r f)
 exact AV I.kIn O (c.get f) c.hd n hu (tH ru) (h u _ (I.tok _) ru)
theorem iC{m:Str}{g:Δ}{pl:Sem Bool}{Q:Γ×List Γ->Θ->Prop}(I:F8 X MT σ H s)(e:H a=some (.ins C dx fs))(c:IP X.K C)(k:LK X.K C m g)(l:fs.lookup m=none)
  (h:Q (.ref g,[.ref a]) s):ζ (model X.prog X.w) A (getMethod (.ref a) m pl) Q E s:=by
 obtain⟨mA,O,r,_,_,_⟩:=fB I.hok e;have hn:mA m=none:=Hj.none_of (by rw[<- l];exact r m)
 exact w9 I.kIn O (c.get m) k.at_ k.fn hn h
theorem se{y:V}{u:Γ}{Q:Unit->Θ->Prop}(I:F8 X MT σ H s)(e:H a=some (.ins C dx fs))(c:IP X.K C)(n:GB X.K C f)(hl:fs.length<1000)(ry:Ge y u)
  (h:∀s',F8 X MT σ (F9 H a (.ins C dx (Qq f y fs))) s'->Q () s'):ζ (model X.prog X.w) A (setAttr (.ref a) f u) Q E s:=by
 obtain⟨mA,O,r,wi,_,ho⟩:=fB I.hok e;have hz:(fs.map (·.1)).length<=η:=by rw[Je,JF];lia
 refine Ab I.kIn O c.sa c.po n.taker c.hd wi hz fun h' O' sb=>h _ ?_
 have hd:∃o,h'.get? dx=some o:=let⟨o,_,_,e',_⟩:=O'.ns;#[o,e']
 refine I.write (x:=a) (e:=dx) (by rw[e];exact True.intro) (.inr ho) (fun b q hb z=>(sb.2 b hb).trans z) hd ?_
 refine#[by rw[qj O.ne];exact ho,?_,O.ne,O'.obj,_,O'.ns,fun g=>?_,fun g hg=>?_]
 ·have:=fX f y fs;lia
 ·show Hj ((Qq f y fs).lookup g) (if g=f then some u else mA g)
  rw[fY]
  by_cases q:g=f
  ·rw[Jb q,Jb q];exact ry
  ·rw[Jc q,Jc q];exact r g
 ·by_cases q:g=f
  ·rw[q];exact(eP f y fs).1
  ·refine(eP f y fs).2 g (wi g fun z=>hg ?_)
   show(if g=f then some u else mA g)=none
   rw[Jc q];exact z
theorem F8.made(I:F8 X MT σ H s):F8 X MT σ (F9 (F9 H s.heap.objs.size (.own (s.heap.objs.size+1))) (s.heap.objs.size+1) (.ins C s.heap.objs.size []))
  {s with heap:=(s.heap.push W.emptyDict).push (W.instObj C s.heap.objs.size)}:=by
 have e1:(s.heap.push W.emptyDict).get? s.heap.objs.size=some W.emptyDict:=Js s.heap rfl
 have e2:((s.heap.push W.emptyDict).push (W.instObj C s.heap.objs.size)).get? (s.heap.objs.size+1)=some (W.instObj C s.heap.objs.size):=by
  have:=Js (s.heap.push W.emptyDict) (o:=W.instObj C s.heap.objs.size) rfl
  rwa [JX]at this
 have e3:(s.heap.push W.emptyDict).Ns s.heap.objs.size (fun _=>none):=#[W.emptyDict,(List.toArray []),_,e1,rfl,(fun e he=>absurd he (by simp)),fun _=>rfl]
 have I1:=I.laid (a:=s.heap.objs.size) (o:= .own (s.heap.objs.size+1)) (h':=s.heap.push W.emptyDict) (t':=s.toks) (fun b u q=>Jj _ q) (Jf _) #[_,e1]
 refine I1.laid (a:=s.heap.objs.size+1) (o:= .ins C s.heap.objs.size []) (t':=s.toks) (fun b u q=>Jj _ q) (Fx (JX _ _)) ?_
 have ne:s.heap.objs.size≠s.heap.objs.size+1:=Jk (Ew _)
 refine#[by rw[qj ne,qa],JC _,ne,e2,fun _=>none,(Ψ.Ns1.of_empty e3).at fun o q=>Jj _ q,fun _=>True.intro,fun y hy=>absurd rfl hy]
theorem AM{prog:Ξ}{w:Ω}{env:Env}{e:Φ}{f:Str}{pos:Pos}{s:Θ}{Q:F2}(hb:attributeBase e f env (eval e env)=eval e env)
  (h:ζ (model prog w) A (eval e env) (fun o s₁=>ζ (model prog w) A (getAttr o f true) Q E s₁) E s):ζ (model prog w) A (eval (.Attribute e f pos) env) Q E s:=
 Attribute_any_ h (by rw[arm_eval_Attribute,hb])
end
section
variable{X:Cx}{MT:F4}{σ:St}{H:Hp}{s:Θ}{A:Around}{E:F2}{Q:F2}{c:Γ}{b:Bool}
inductive HL (K:μ) (H:Hp):V->Γ->Prop where
 |non:HL K H .non (.type "NoneType")
 |bl (x:Bool):HL K H (.bl x) (.type "bool")
 |int (i:Int):HL K H (.int i) (.type "int")
 |str (x:Str):HL K H (.str x) (.type "str")
 |flt (x:UInt64):HL K H (.flt x) (.type "float")
 |lst {a:Δ} {xs:List V} (e:H a=some (.lst xs)):HL K H (.ref a) (.type "list")
 |frz {a:Δ} {o:Obj} {xs:List V} (e:H a=some (.frz o (.lst xs))):HL K H (.ref a) (.type "list")
 |tup {a:Δ} {xs:List V} (e:H a=some (.tup xs)):HL K H (.ref a) (.type "tuple")
 |dK {a:Δ} {kvs:List (qO×V)} (e:H a=some (.dK kvs)):HL K H (.ref a) (.type "dict")
 |dT {a:Δ} {kvs:List (List qO×V)} (e:H a=some (.dT kvs)):HL K H (.ref a) (.type "dict")
 | ins {a C dx:Δ} {fs:List (Str×V)} (e:H a=some (.ins C dx fs)) (cl:IP K C) (ha:PySem.W.findIn K (.ref C) "__class__"=some (some (.builtin "object.__class__")))
   (hn:PySem.W.specialIn K (.builtin "object.__class__") "__get__"=some (some (.builtin "getset_descriptor.__get__"))) (htk:PySem.W.takesIn K (.builtin "object.__class__")=some true)
   (hm:PySem.W.mroIn K C (.type "object")=some true):HL K H (.ref a) (.ref C)
theorem tu{x:V}{u t:Γ}(I:F8 X MT σ H s)(rx:Ge x u)(ty:HL X.K H x t)(e:W.kitOne X.K t c=some b)(h:∀tk,Q (.bool b) {s with toks:=tk}):
  ζ (model X.prog X.w) A (call (.builtin "isinstance") [u,c]) Q E s:=by
 cases ty with
 |non=>cases(show u=Γ.none from rx);exact JY W.kitx_none I.kIn True.intro e (fun z=>nomatch z) h
 |bl y=>cases(show u=Γ.bool y from rx);exact JY W.kitx_bool I.kIn True.intro e (fun z=>nomatch z) h
 |int i=>obtain⟨t,q⟩:=(show∃t,u=Γ.int i t from rx);cases q;exact JY W.kitx_int I.kIn True.intro e (fun z=>nomatch z) h
 |str y=>obtain⟨t,q⟩:=(show∃t,u=Γ.str y t from rx);cases q;exact JY W.kitx_str I.kIn True.intro e (fun z=>nomatch z) h
 |flt y=>obtain⟨t,q⟩:=(show∃t,u=Γ.float y t from rx);cases q;exact JY W.kitx_float I.kIn True.intro e (fun z=>nomatch z) h
 | @lst a xs ea=>
  cases(show u=Γ.ref a from rx)
  obtain⟨_,_,n,_,h1⟩:=(show Gn X.prog X.w H s.heap a (.lst xs)from I.hok a _ ea)
  exact JY W.kitx_list I.kIn #[_,h1,rfl] e (fun z=>nomatch z) h
 | @frz a ob xs ea=>
  cases(show u=Γ.ref a from rx)
  obtain⟨_,_,_,n,_,h1⟩:=(show Gn X.prog X.w H s.heap a (.frz ob (.lst xs))from I.hok a _ ea)
  exact JY W.kitx_list I.kIn #[_,h1,rfl] e (fun z=>nomatch z) h
 | @tup a xs ea=>
  cases(show u=Γ.ref a from rx)
  obtain⟨_,_,_,p⟩:=(show Gn X.prog X.w H s.heap a (.tup xs)from I.hok a _ ea)
  obtain⟨o,h1,h2,_⟩:=p;exact JY W.kitx_tuple I.kIn #[o,h1,h2] e (fun z=>nomatch z) h
 | @dK a kvs ea=>
  cases(show u=Γ.ref a from rx)
  obtain⟨_,_,vs,_,p⟩:=(show Gn X.prog X.w H s.heap a (.dK kvs)from I.hok a _ ea)
  obtain⟨o,es,ep,h1,h2,_⟩:=p;exact JY W.kitx_dict I.kIn #[o,h1,h2.1] e (fun z=>nomatch z) h
 | @dT a kvs ea=>
  cases(show u=Γ.ref a from rx)
  obtain⟨_,_,xs,_,o,es,ep,h1,h2,_⟩:=(show Gn X.prog X.w H s.heap a (.dT kvs)from I.hok a _ ea)
  exact JY W.kitx_dict I.kIn #[o,h1,h2.1] e (fun z=>nomatch z) h
 | @ins a C dx fs ea cl ha hn htk hm=>
  cases(show u=Γ.ref a from rx)
  obtain⟨mA,O,_⟩:=fB I.hok ea;obtain⟨od,J,_⟩:=O.look;exact JY (W.kitx_own (cl.get _) cl.hd ha hn htk hm) I.kIn J e (fun z=>nomatch z) h
end
structure Gq(k:Nat)(A:Around):Prop where
 hd:A.handled=none
 dp:A.depth+3*k+5<recursionLimit
 un:A.units+16*k+200<cLine
theorem Gq.mono{j k:Nat}{A:Around}(r:Gq k A)(h:j<=k):Gq j A:=#[r.hd,by have:=r.dp;lia,by have:=r.un;lia]
theorem Gq.mo{j k:Nat}{A:Around}(r:Gq k A)(h:j<=k:=by first|decide|omega):Gq j A:=r.mono h
theorem Gq.deeper{k:Nat}{A:Around}(r:Gq (k+1) A)(env:Env):Gq k (A.deeper env):=
 #[r.hd,by have:=r.dp;show A.depth+1+3*k+5<_;lia,by have:=r.un;show A.units+3+16*k+200<_;lia]
theorem rq{A:Around}{C:Δ}{us:List Γ}{kw:List (Str×Γ)}:(A.under (.builtin "type.__call__" #[.ref C::us,kw])).depth=A.depth+1:=by
 first|rfl|simp [Around.under,Code.weight,Code.isCreation,Code.isGuard,Code.isCaller,Code.frames,Code.isFrame,guardIds]
theorem p7{A:Around}{C:Δ}{us:List Γ}{kw:List (Str×Γ)}:(A.under (.builtin "type.__call__" #[.ref C::us,kw])).units=A.units+1:=by
 first|rfl|simp [Around.under,Code.cUnits,Code.frames,Code.isFrame]
theorem Gq.make{k:Nat}{A:Around}(r:Gq (k+1) A)(C:Δ)(us:List Γ)(kw:List (Str×Γ)):Gq k (A.under (.builtin "type.__call__" #[.ref C::us,kw])):=
 #[r.hd,by have:=r.dp;rw[rq];lia,by have:=r.un;rw[p7];lia]
theorem Gq.depth{k:Nat}{A:Around}(r:Gq k A):A.depth<recursionLimit:=by have:=r.dp;lia
def vw:TA:=fun _ H Q=>Q [] H
def pW(ta:TE)(tr:TA):TA:=fun σ H Q=>ta σ H fun x H1=>tr σ H1 fun xs H2=>Q (x::xs) H2
section
variable{X:Cx}{e:Φ}{es:List Φ}{te:TE}{t:TA}{pos:Pos}
theorem Co:PA X [] vw:=fun _ _ _ _ H Q I h=>Calls.spliced_nil #[[],H,I,.nil,h]
theorem AL(ha:PE X e te)(hr:PA X es t)(hs:ι (e::es) X.env=(false,eval e X.env)::ι es X.env:=by rfl):PA X (e::es) (pW te t):=by
 intro pos MT s σ H Q I h;rw[hs]
 show ζ _ _ (spliced ((false,eval e X.env)::backTo pos (ι es X.env))) _ _ s
 refine Calls.spliced_cons (qu (ha MT s σ H _ I h) fun u s1 zq=>?_)
 obtain⟨x,H1,I1,r1,q1⟩:=zq;exact qu (hr pos MT s1 σ H1 _ I1 q1) fun us s2 ⟨xs,H2,I2,r2,q2⟩=>#[x::xs,H2,I2,.cons r1 r2,q2]
def CO(t:TA):TE:=fun σ H Q=>t σ H fun xs H1=>xs.length<=η/\∀p,H1 p=none->Q (.ref p) (F9 H1 p (.tup xs))
def Cc(t:TA):TE:=fun σ H Q=>t σ H fun xs H1=>xs.length<=η/\∀p,H1 p=none->Q (.ref p) (F9 H1 p (.lst xs))
theorem Ce{x1}(h:PA X es t):PE X (.Tuple es x1 pos) (CO t):=by
 intro MT s σ H Q I hq;refine wpAny_Tuple_spliced (qu (h pos MT s σ H _ I hq) fun us s1 ⟨xs,H1,I1,r,z,q⟩=>#[by rw[<- r.length];exact z,?_])
 have hf:H1 s1.heap.objs.size=none:=I1.hok.fresh (Jf _)
 refine#[.ref s1.heap.objs.size,F9 H1 s1.heap.objs.size (.tup xs),I1.laid (t':=s1.toks) (fun b u e=>Jj _ e) (Jf _) ?_,rfl,q _ hf]
 exact#[z,us,r,#[_,Js _ rfl,rfl,_,rfl]]
theorem CF(h:PA X es t):PE X (.List es pos) (Cc t):=by
 intro MT s σ H Q I hq;refine wpAny_List_spliced (qu (h pos MT s σ H _ I hq) fun us s1 ⟨xs,H1,I1,r,z,q⟩=>#[by rw[<- r.length];exact z,?_])
 have hf:H1 s1.heap.objs.size=none:=I1.hok.fresh (Jf _)
 refine#[.ref s1.heap.objs.size,F9 H1 s1.heap.objs.size (.lst xs),I1.laid (t':=s1.toks) (fun b u e=>Jj _ e) (Jf _) ?_,rfl,q _ hf]
 exact#[z,us,0,r,Js _ rfl]
end
abbrev Sp:=List V->Hp->VK->XK->Prop
abbrev f7:=List Env->Hp->Θ->XK->Γ->Θ->Prop
structure Ip(P:Ξ)(w:Ω)(K:μ)(mg:F3)(base:Ψ)(A:Around)(outer:List Env)(s:Θ)(H:Hp):Prop where
 frames:A.frames=some outer
 mod:MO K mg base
 bs:∀b o,base.get? b=some o->s.heap.get? b=some o/\H b=none
 bsz:base.objs.size<=s.heap.objs.size
 funs:s.heap.FunFrames base outer
 frf:∀b∈cq outer,H b=none
 hok:HJ P w H s.heap
 bare:AllBare s.gens
def CE(outer:List Env)(P:Ξ)(w:Ω)(H:Hp)(s:Θ)(Q:VK)(u:Γ)(s':Θ):Prop:=
 ∃v H',s'.os=s.os/\AllBare s'.gens/\Un (cq outer) [] H H' s.heap s'.heap/\HJ P w H' s'.heap/\Ge v u/\Q v H'
def CR(CX:f7)(outer:List Env)(P:Ξ)(w:Ω)(H:Hp)(s:Θ)(Q:VK)(E:XK)(r:Result)(s':Θ):Prop:=
 match r with
 | .ok (.ret u)=>CE outer P w H s Q u s'
 | .ok _=>False
 | .error e=>CX outer H s E e s'
structure HG(P:Ξ)(w:Ω)(K:μ)(mg:F3)(base:Ψ)(CX:f7)(k:Nat)(f:Δ)(fd:FuncData)(ps:List Str)(sp:Sp):Prop where
 len:∀vs H Q E,sp vs H Q E->vs.length=ps.length
 run:∀(A:Around) (outer:List Env) (s:Θ) (H:Hp) (args:Args) (us:List Γ) (vs:List V) (Q:VK) (E:XK),Gq k A->Ip P w K mg base A outer s H->BindsTo s fd args (ps.zip us)->Ga vs us->sp vs H Q E->
  codeAny (model P w) A (.call (.ref f) args) (CR CX outer P w H s Q E) s
theorem Ip.make{P:Ξ}{w:Ω}{K:μ}{mg:F3}{base:Ψ}{A:Around}{outer:List Env}{s:Θ}{H:Hp}(e:Ip P w K mg base A outer s H)(C:Δ)(us:List Γ)(kw:List (Str×Γ)):
  Ip P w K mg base (A.under (.builtin "type.__call__" #[.ref C::us,kw])) outer s H:=#[by first|exact e.frames|(simpa [Around.under,Code.envs,Code.isFrame,pushEnvs]using e.frames),e.mod,e.bs,e.bsz,e.funs,e.frf,e.hok,e.bare]
section
variable{X:Cx}{MT:F4}{σ:St}{H:Hp}{s s':Θ}
theorem F8.env0(I:F8 X MT σ H s):Ip X.prog X.w X.K X.mg X.base X.A X.stack s H:=
 #[I.ok.frames,I.ok.mod,I.bs,JQ I.ok.bsz I.sz,I.stack,I.stkFree,I.hok,I.bare]
theorem F8.after{Q:VK}{u:Γ}(I:F8 X MT σ H s)(h:CE X.stack X.prog X.w H s Q u s'):EP X MT σ Q u s':=by
 obtain⟨v,H',os,bare,un,hok,r,q⟩:=h;obtain⟨hh,g,d,t,os'⟩:=s'
 obtain rfl:os'=s.os:=os
 exact#[v,H',I.call (h':=hh) (g':=g) (d':=d) (t':=t) (ch:=[]) un hok bare (fun b z=>absurd z (by simp)),r,q]
end
def pM(sp:Sp)(dvs:List V)(E:XK)(t:TA):TE:=fun σ H Q=>t σ H fun vs H1=>sp (vs++dvs) H1 Q E
def xz(C:Δ)(sp:Sp)(dvs:List V)(E:XK)(t:TA):TE:=fun σ H Q=>t σ H fun vs H1=>∀x dx,H1 x=none->H1 dx=none->dx≠x->
 sp (.ref x::(vs++dvs)) (F9 (F9 H1 dx (.own x)) x (.ins C dx [])) (fun v H2=>v= .non/\Q (.ref x) H2) E
def G9(K:μ)(fd:FuncData)(ps:List Str)(ds:List Γ):Prop:=
 ∀(s:Θ) (us:List Γ),K.In s.heap->(us++ds).length=ps.length->BindsTo s fd #[us,[]] (ps.zip (us++ds))
theorem G9.all{K:μ}{fd:FuncData}{ps:List Str}(h:∀us:List Γ,us.length=ps.length->bindArgs fd #[us,[]]=pure (ps.zip us)):G9 K fd ps []:=fun s us _ hl=>by
 rw[JV]at hl⊢;exact .of_eq (h us hl)
def eW(CX:f7)(X:Cx)(E:XK):Prop:=∀(MT:F4) (σ:St) (H:Hp) (s:Θ) (e:Γ) (s':Θ),F8 X MT σ H s->CX X.stack H s E e s'->X.xe e s'
section
variable{X:Cx}{CX:f7}{k:Nat}{f C:Δ}{fd:FuncData}{ps:List Str}{sp:Sp}{dvs:List V}{ds:List Γ}{E:XK}{x:Str}{p pos:Pos}{e:Φ}{es:List Φ}{t:TA}
theorem lu{MT:F4}{σ:St}{H:Hp}{s:Θ}{Q:VK}{us:List Γ}{vs:List V}(F:HG X.prog X.w X.K X.mg X.base CX k f fd ps sp)(hr:Gq k X.A)(hb:G9 X.K fd ps ds)(hd:Ga dvs ds)(hx:eW CX X E)
  (I:F8 X MT σ H s)(r:Ga vs us)(h:sp (vs++dvs) H Q E):ζ (model X.prog X.w) X.A (call (.ref f) us) (EP X MT σ Q) X.xe s:=by
 have r2:Ga (vs++dvs) (us++ds):=r.append hd
 have hl:(us++ds).length=ps.length:=by rw[<- r2.length];exact F.len _ _ _ _ h
 refine wpAny_call (E3 (F.run X.A X.stack s H #[us,[]] (us++ds) (vs++dvs) Q E hr I.env0 (hb s us I.kIn hl) r2 h) fun r s' hq=>?_)
 cases r with
 |error e=>exact hx MT σ H s e s' I hq
 |ok fl=>
  cases fl with
  |ret u=>exact I.after hq
  |next=>exact False.elim hq
  |brk=>exact False.elim hq
  |cont=>exact False.elim hq
theorem Aj(F:HG X.prog X.w X.K X.mg X.base CX k f fd ps sp)(hr:Gq k X.A)(hg:Gl X x)(hm:X.mg x=some (.ref f))(hk:W.keepIn X.K (.ref f)=true)(hb:G9 X.K fd ps ds)(hd:Ga dvs ds)(hx:eW CX X E)
  (ha:PA X (e::es) t)(hdb:(x==("__debug__":Str))=false:=by decide)(he:ι (e::es) X.env=(false,eval e X.env)::ι es X.env:=by rfl)(hpl:(backTo pos (ι es X.env)).any (·.1)=false:=by rfl):
  PE X (.Call (.Name x p) (e::es) [] pos) (pM sp dvs E t):=by
 intro MT s σ H Q I h;refine Fy (iG I hg hm ?_ hdb)
 refine W.callWith_K (h₀:=X.base) I.ok.mod.kin hk (qu (ha pos MT s σ H _ I h) fun us s1 ⟨vs,H1,I1,r,q⟩=>#[I1.kIn,?_]) he hpl
 exact lu F hr hb hd hx I1 r q
structure Mk(K:μ)(C f:Δ):Prop where
 makes:PySem.W.makesIn K C=true
 init:PySem.W.findIn K (.ref C) "__init__"=some (some (.ref f))
 fn:PySem.W.isFn K (.ref f)=true
 kp:PySem.W.keepIn K (.ref C)=true
theorem wP{MT:F4}{σ:St}{H:Hp}{s:Θ}{Q:VK}{us:List Γ}{vs:List V}(M:Mk X.K C f)(F:HG X.prog X.w X.K X.mg X.base CX k f fd ps sp)(hr:Gq (k+1) X.A)(hb:G9 X.K fd ps ds)(hd:Ga dvs ds)
  (hx:eW CX X E)(I:F8 X MT σ H s)(r:Ga vs us)
  (h:∀x dx,H x=none->H dx=none->dx≠x->sp (.ref x::(vs++dvs)) (F9 (F9 H dx (.own x)) x (.ins C dx [])) (fun v H2=>v= .non/\Q (.ref x) H2) E):
  ζ (model X.prog X.w) X.A (call (.ref C) us) (EP X MT σ Q) X.xe s:=by
 have hq:=h (s.heap.objs.size+1) s.heap.objs.size (I.hok.fresh (EW _)) (I.hok.fresh (Jf _)) (Jk (Ew _));have I2:=F8.made (C:=C) I
 have r2:Ga (V.ref (s.heap.objs.size+1)::(vs++dvs)) (Γ.ref (s.heap.objs.size+1)::(us++ds)):= .cons rfl (r.append hd)
 have hl:(Γ.ref (s.heap.objs.size+1)::us++ds).length=ps.length:=by
  have e:=r2.length;rw[F.len _ _ _ _ hq]at e;exact e.symm
 refine wpAny_call (v9 (f:=f) I.kIn M.makes M.init (JT.mp M.fn) (E3 (F.run _ X.stack _ _ #[Γ.ref (s.heap.objs.size+1)::us,[]] (Γ.ref (s.heap.objs.size+1)::(us++ds)) _ _ E (hr.make C us [])
  (I2.env0.make C us []) (hb _ (Γ.ref (s.heap.objs.size+1)::us) I2.kIn hl) r2 hq) fun r s' hq'=>?_))
 cases r with
 |error e=>exact hx MT σ _ _ e s' I2 hq'
 |ok fl=>
  cases fl with
  |ret u=>
   obtain⟨v,H',I3,rv,ev,q3⟩:=I2.after hq';subst ev
   exact#[rv,#[V.ref (s.heap.objs.size+1),H',I3,rfl,q3]]
  |next=>exact False.elim hq'
  |brk=>exact False.elim hq'
  |cont=>exact False.elim hq'
theorem AE(M:Mk X.K C f)(F:HG X.prog X.w X.K X.mg X.base CX k f fd ps sp)(hr:Gq (k+1) X.A)(hg:Gl X x)(hm:X.mg x=some (.ref C))(hb:G9 X.K fd ps ds)(hd:Ga dvs ds)(hx:eW CX X E)
  (ha:PA X (e::es) t)(hdb:(x==("__debug__":Str))=false:=by decide)(he:ι (e::es) X.env=(false,eval e X.env)::ι es X.env:=by rfl)(hpl:(backTo pos (ι es X.env)).any (·.1)=false:=by rfl):
  PE X (.Call (.Name x p) (e::es) [] pos) (xz C sp dvs E t):=by
 intro MT s σ H Q I h;refine Fy (iG I hg hm ?_ hdb)
 refine W.callWith_K (h₀:=X.base) I.ok.mod.kin M.kp (qu (ha pos MT s σ H _ I h) fun us s1 ⟨vs,H1,I1,r,q⟩=>#[I1.kIn,?_]) he hpl
 exact wP M F hr hb hd hx I1 r q
end
structure F6(N P:List Str)(sc:Scope):Prop where
 kind:sc.kind= .function
 co:sc.isCoroutine=false
 gen:sc.isGenerator=false
 nd:N.Nodup
 pre:N.take P.length=P
 par:∀x∈P,sc.names.lookup x=some .local\/sc.names.lookup x=some .cell
 nofree:∀y∈sc.names,y.2≠ .free
theorem jg{kindOf:Str->Option NameKind}{x:Str}:∀{binds:List (Str×Γ)} {m:F3},(∀v,(x,v)∉binds)->bindL kindOf binds m x=m x
 | [],_,_=>rfl
 |(n,v)::r,m,h=>by
  unfold bindL;rw[jg fun w hw=>h w (JE _ hw)]
  split
  ·have:x≠n:=by rintro rfl;exact h v Jv
   simp [this]
  ·rfl
theorem j0{kindOf:Str->Option NameKind}{x:Str}:∀{binds:List (Str×Γ)} {m:F3},(∀v,(x,v)∉binds)->bindC kindOf binds m x=m x
 | [],_,_=>rfl
 |(n,v)::r,m,h=>by
  unfold bindC;rw[j0 fun w hw=>h w (JE _ hw)]
  split
  ·rfl
  ·have:x≠n:=by rintro rfl;exact h v Jv
   simp [this]
theorem jK{kindOf:Str->Option NameKind}{x:Str}{v:Γ}:∀{P:List Str} {vs:List Γ} {i:Nat} {m:F3},P.Nodup->P[i]? =some x->vs[i]? =some v->kindOf x=some .local->
  bindL kindOf (P.zip vs) m x=some v
 | [],_,_,_,_,h,_,_=>by simp at h
 |_::_,[],_,_,_,_,h,_=>by simp at h
 |p::P,w::vs,0,m,nd,h1,h2,hk=>by
  simp at h1 h2;subst h1;subst h2
  show bindL kindOf ((p,w)::P.zip vs) m p=_
  unfold bindL;rw[jg fun v hv=>(EX.mp nd).1 (List.of_mem_zip hv).1,Jb hk]
  simp
 |p::P,w::vs,i+1,m,nd,h1,h2,hk=>by
  show bindL kindOf ((p,w)::P.zip vs) m x=_
  unfold bindL;exact jK (i:=i) (EX.mp nd).2 (by simpa using h1) (by simpa using h2) hk
theorem ji{kindOf:Str->Option NameKind}{x:Str}{v:Γ}:∀{P:List Str} {vs:List Γ} {i:Nat} {m:F3},P.Nodup->P[i]? =some x->vs[i]? =some v->kindOf x≠some .local->
  bindC kindOf (P.zip vs) m x=some v
 | [],_,_,_,_,h,_,_=>by simp at h
 |_::_,[],_,_,_,_,h,_=>by simp at h
 |p::P,w::vs,0,m,nd,h1,h2,hk=>by
  simp at h1 h2;subst h1;subst h2
  show bindC kindOf ((p,w)::P.zip vs) m p=_
  unfold bindC;rw[j0 fun v hv=>(EX.mp nd).1 (List.of_mem_zip hv).1,Jc hk]
  simp
 |p::P,w::vs,i+1,m,nd,h1,h2,hk=>by
  show bindC kindOf ((p,w)::P.zip vs) m x=_
  unfold bindC;exact ji (i:=i) (EX.mp nd).2 (by simpa using h1) (by simpa using h2) hk
def Zi(N:List Str)(vs:List V):St:=vs.map some++List.replicate (N.length-vs.length) none
def bK(CX:f7)(P:Ξ)(w:Ω)(K:μ)(mg:F3)(base:Ψ)(N:List Str)(MU:Str)(scope:Scope)(f:Δ)(cd:Γ)(A:Around)(outer:List Env)(s:Θ)(H:Hp)(E:XK):Cx where
 prog:=P
 w:=w
 K:=K
 mg:=mg
 base:=base
 A:=A.deeper (envOfC MU scope s.heap.objs.size f cd)
 N:=N
 s₀:=s
 H₀:=H
 env:=envOfC MU scope s.heap.objs.size f cd
 outer:=outer
 stack:=envOfC MU scope s.heap.objs.size f cd::outer
 ex:=[]
 calm:=true
 fn:=fun _=>true
 pn:=[]
 xe:=fun e s'=>ζ (model P w) (A.deeper (envOfC MU scope s.heap.objs.size f cd)) (leaving (envOfC MU scope s.heap.objs.size f cd) e) (fun _ s''=>CX outer H s E e s'') (fun e' s''=>CX outer H s E e' s'') s'
theorem kZ{sc:Scope}{n:Nat}{x:Str}(h:sc.names.lookup x=some .cell):∃c,(cellsFrom n sc.names []).lookup x=some c:=by
 have q:=W.cellsFrom_some sc.names n [] (.inl h);exact Ft.mp q
theorem uR{CX:f7}{P:Ξ}{w:Ω}{K:μ}{mg:F3}{base:Ψ}{N ps:List Str}{MU:Str}{scope:Scope}{f:Δ}{cd:Γ}{A:Around}{outer:List Env}{s s1:Θ}{H:Hp}{E:XK}{us:List Γ}{vs:List V}
  (S:F6 N ps scope)(hd:A.handled=none)(e0:Ip P w K mg base A outer s H)(hl:vs.length=ps.length)(r:Ga vs us)
  (x:InCallC s s.heap.objs.size (bindL (envOfC MU scope s.heap.objs.size f cd).kindOf (ps.zip us) fun _=>none) (cellsFrom (s.heap.objs.size+1) scope.names []) (bindC (envOfC MU scope s.heap.objs.size f cd).kindOf (ps.zip us) fun _=>none) s1):
  F8 (bK CX P w K mg base N MU scope f cd A outer s H E) [] (Zi N vs) H s1:=by
 have hpl:ps.length<=N.length:=by have:=JO List.length S.pre;rw[J8]at this;lia
 obtain⟨h1,tk,rfl,hk⟩:=x.done;have noA:∀b:Δ,b∉(bK CX P w K mg base N MU scope f cd A outer s H E).ex:=fun b z=>absurd (show b∈([]:List Δ)from z) (by simp)
 refine#[#[e0.mod,S.kind,rfl,rfl,Jf _,fun y z c h1 h2=>?_,fun y hy=>?_,fun y c _ h=>?_,fun _=>hd,Around.frames_deeper e0.frames,.inr #[rfl,rfl],fun b z=>absurd z (noA b),e0.bs,e0.bsz,fun b _ _=>noA b,fun b z=>absurd z (noA b),e0.funs,e0.frf],
  rfl,e0.bare,Un.kept hk,#[_,x.toInCall.ns,fun i y v h1 h2 h3=>?_],fun y c h=>#[_,x.cell y c h],e0.hok.fresh (Jf _),fun y c h=>?_,fun p hp=>absurd (show p∈([]:F4)from hp) (by simp),e0.hok.kept hk,?_]
 ·exact name_of_addr x.apart (Ff h1) (Ff h2)
 ·have hy:scope.names.lookup y=some .cell\/scope.names.lookup y=some .free:=hy
  rcases hy with hy|hy
  ·exact kZ hy
  ·exact absurd rfl (S.nofree _ (Ff hy))
 ·exact Fo (x.above y c (Ff h))
 ·have hi:i<vs.length:=by
   unfold Zi at h2
   by_cases hi:i<vs.length
   ·exact hi
   ·rw[JZ (by simpa using hi)]at h2
    rw[List.getElem?_replicate]at h2;split at h2<;>cases h2
  have ha:vs[i]? =some v:=by
   unfold Zi at h2;rw[J0 (by simpa using hi),Jn]at h2
   cases e:vs[i]? with
   |none=>rw[e]at h2;cases h2
   |some a=>rw[e]at h2;cases h2;rfl
  obtain⟨u,hu,rv⟩:=r.get ha;have hp:ps[i]? =some y:=by
   rw[<- S.pre,List.getElem?_take_of_lt (by lia)];exact h1
  have ndP:ps.Nodup:=by rw[<- S.pre];exact S.nd.sublist (List.take_sublist _ _)
  refine#[u,rv,?_]
  rcases S.par y (J9 hp)with k|k
  ·exact .inl #[k,jK ndP hp hu k]
  ·obtain⟨c,e⟩:=kZ (n:=s.heap.objs.size+1) k
   refine .inr #[.inl k,c,e,?_]
   have q:=x.cell y c e;rw[ji ndP hp hu (by show scope.names.lookup y≠_;rw[k];decide)]at q
   exact q
 ·exact e0.hok.fresh (Fo (x.above y c (Ff h)))
 ·unfold Zi
  show _=N.length
  rw[Jt,Je,List.length_replicate];lia
theorem C4{CX:f7}{P:Ξ}{w:Ω}{K:μ}{mg:F3}{base:Ψ}{k:Nat}{f:Δ}{name MU:Str}{params:Arguments}{body:List ε}{scope:Scope}{dV kV doc pm cdv ct oc:Γ}{an od:Option Δ}
  {osl:Array (Option Γ)}{N ps:List Str}{sp:Sp}(lk:K.lookup f=some #[oc,od,.func (W.fnOf name MU params body scope dV kV doc pm an cdv ct),osl])(hcd:W.codeIn K cdv MU=true)(S:F6 N ps scope)
  (len:∀vs H Q E,sp vs H Q E->vs.length=ps.length)
  (hbody:∀(A:Around) (outer:List Env) (s:Θ) (H:Hp) (vs:List V) (Q:VK) (E:XK),Gq k (A.deeper (envOfC MU scope s.heap.objs.size f cdv))->sp vs H Q E->
   ∃t,Il (bK CX P w K mg base N MU scope f cdv A outer s H E) body t/\t {nx:=fun _ H'=>Q .non H',rt:=Q} (Zi N vs) H):
  HG P w K mg base CX (k+1) f (W.fnOf name MU params body scope dV kV doc pm an cdv ct) ps sp:=by
 refine#[len,fun A outer s H args us vs Q E hr e0 hb r hsp=>?_]
 have hl:=len _ _ _ _ hsp;have KX:K.In s.heap:=e0.mod.kin.keeps fun b o e=>(e0.bs b o e).1
 have lim:s.heap.NoLimit:=e0.mod.nolimit.keeps fun b o e=>(e0.bs b o e).1
 have hkind:∀y∈ps.zip us,scope.names.lookup y.1=some .local\/(scope.names.lookup y.1=some .cell/\((cellsFrom (s.heap.objs.size+1) scope.names []).lookup y.1).isSome=true):=fun⟨n,v⟩ hy=>by
  rcases S.par n (List.of_mem_zip hy).1 with q|q
  ·exact .inl q
  ·exact .inr #[q,W.cellsFrom_some _ _ _ (.inl q)]
 refine codeAny_call_function hr.depth (KX _ _ lk) rfl S.co S.gen rfl (W.codeRec_of KX hcd) (hb _ _ _ _ ?_)
 refine wpAny_newFunctionEnv_cells S.kind hkind fun env he s1 x=>?_
 subst he;refine#[lim.keeps x.toInCall.keep,codeAny_func ?_]
 obtain⟨t,ht,hq⟩:=hbody A outer s H vs Q E (hr.deeper _) hsp
 have I:F8 (bK CX P w K mg base N MU scope f cdv A outer s H E) [] (Zi N vs) H s1:=uR S hr.hd e0 hl r x
 refine Jw (ht [] s1 (Zi N vs) H _ I hq) (fun fl s' hs=>?_) fun e s' hs=>hs
 have fin:∀{σ':St} {H':Hp} {v:V} {u:Γ},F8 (bK CX P w K mg base N MU scope f cdv A outer s H E) [] σ' H' s'->Ge v u->Q v H'->CE outer P w H s Q u s':=
  fun{σ' H' v u} J rv q=>#[v,H',J.os,J.bare,J.base,J.hok,rv,q]
 cases fl with
 |ret u=>
  obtain⟨v,σ',H',J,rv,q⟩:=hs;exact fin J rv q
 |next=>
  obtain⟨σ',H',J,q⟩:=hs;exact fin (v:=V.non) (u:=Γ.none) J rfl q
 |brk=>
  obtain⟨_,_,_,q⟩:=hs;exact False.elim q
 |cont=>
  obtain⟨_,_,_,q⟩:=hs;exact False.elim q
section
variable{X:Cx}{x:Str}{p pos:Pos}{e:Φ}{es:List Φ}{t:TA}{id T:String}{r:List V->Hp->VK->Prop}
def yz(r:List V->Hp->VK->Prop)(t:TA):TE:=fun σ H Q=>t σ H fun vs H1=>r vs H1 Q
theorem vI(hc:zi X (.builtin id) r)(hg:Gl X x)(hm:X.mg x=none)(hv:bootBuiltins x=some (.builtin id))(ha:PA X (e::es) t)(hn:x≠"__name__":=by decide)(hdb:(x==("__debug__":Str))=false:=by decide)
  (he:ι (e::es) X.env=(false,eval e X.env)::ι es X.env:=by rfl)(hpl:(backTo pos (ι es X.env)).any (·.1)=false:=by rfl):PE X (.Call (.Name x p) (e::es) [] pos) (yz r t):=by
 intro MT s σ H Q I h;refine Fy (ac I hg hm hv ?_ hn hdb)
 exact PyProof.Rows.callWith_builtin1 (qu (ha pos MT s σ H _ I h) fun us s1 ⟨vs,H1,I1,r1,q1⟩=>hc MT s1 σ H1 vs us Q I1 r1 q1) he hpl
theorem tz(hc:zi X (.type T) r)(hg:Gl X x)(hm:X.mg x=none)(hv:bootBuiltins x=some (.type T))(ha:PA X (e::es) t)(hn:x≠"__name__":=by decide)(hdb:(x==("__debug__":Str))=false:=by decide)
  (he:ι (e::es) X.env=(false,eval e X.env)::ι es X.env:=by rfl)(hpl:(backTo pos (ι es X.env)).any (·.1)=false:=by rfl):PE X (.Call (.Name x p) (e::es) [] pos) (yz r t):=by
 intro MT s σ H Q I h;refine Fy (ac I hg hm hv ?_ hn hdb)
 exact Fe (qu (ha pos MT s σ H _ I h) fun us s1 ⟨vs,H1,I1,r1,q1⟩=>hc MT s1 σ H1 vs us Q I1 r1 q1) he hpl
end
end L2
namespace HT
open PySem PyProof.Rows
section
variable{prog:Ξ}{w:Ω}{A:Around}{E:F2}{s:Θ}
theorem cat_tup{t b:Δ}{vs ws:List Γ}{Q:F2}(ht:IsTup s.heap t vs.toArray)(hb:IsTup s.heap b ws.toArray)(hv:vs≠[])
  (h1:ws=[]->Q (.ref t) s)(h2:ws≠[]->Q (.ref s.heap.objs.size) {s with heap:=s.heap.push {cls:= .type "tuple",data:= .seq (vs++ws).toArray}})
  (hsz:vs.length+ws.length<=η):ζ (model prog w) A (binaryOp .Add (.ref t) (.ref b)) Q E s:=by
 obtain⟨⟨cls,dd,data,sl⟩,ho,hc,n,hd⟩:=id ht;obtain⟨⟨cls2,dd2,data2,sl2⟩,ho2,hc2,n2,hd2⟩:=id hb;simp only at hc hd hc2 hd2
 subst hc hd hc2 hd2;have e:vs.toArray++ws.toArray=(vs++ws).toArray:=by simp
 by_cases hw:ws=[]
 ·exact concat_meets #[_,ho,rfl] #[_,ho2,rfl] noFill_tuple_add seq_tuple_add FP FQ (FR _ _)
   (tuple_addW1 t b vs.toArray ws.toArray n n2 dd dd2 sl sl2 (by simpa using hv) (by simp [hw])) #[ho,ho2,h1 hw]
 ·refine concat_meets #[_,ho,rfl] #[_,ho2,rfl] noFill_tuple_add seq_tuple_add FP FQ (FR _ _)
   (tuple_addW2 t b vs.toArray ws.toArray n n2 dd dd2 sl sl2 (by simpa using hv) (by simpa using hw) (by rw[Jp,Jp];exact hsz)) #[ho,ho2,?_]
  rw[e];exact h2 hw
def sIx(n d:Nat):Option Int->Nat
 |none=>d
 |some v=>if v<0 then(v+(n:Int)).toNat else min v.toNat n
theorem BR(n d:Nat)(hd:d<=n)(o:Option Int):sIx n d o<=n:=by
 cases o with
 |none=>exact hd
 |some v=>
  show(if v<0 then(v+(n:Int)).toNat else min v.toNat n)<=n
  by_cases hv:v<0
  ·rw[Jb hv];lia
  ·rw[Jc hv];exact Nat.min_le_right _ _
theorem oW(v:Int)(n d:Nat):(if v<0 then max (v+(n:Int)) 0 else min v (n:Int))=((sIx n d (some v):Nat):Int):=by
 show(if v<0 then max (v+(n:Int)) 0 else min v (n:Int))=(((if v<0 then(v+(n:Int)).toNat else min v.toNat n):Nat):Int)
 by_cases hv:v<0
 ·simp only[Jb hv];lia
 ·simp only[Jc hv];lia
theorem rR(lo hi:Option Int)(n:Nat):δ.Slice.sliceAdjust lo hi 1 (n:Int)=(((sIx n 0 lo:Nat):Int),((sIx n n hi:Nat):Int)):=by
 have h1:¬((1:Int)<0):=by lia
 unfold δ.Slice.sliceAdjust;simp only[h1,Jz];refine Prod.ext ?_ ?_
 ·cases lo with
  |none=>rfl
  |some v=>exact oW v n 0
 ·cases hi with
  |none=>rfl
  |some v=>exact oW v n n
theorem pS(i j:Nat):δ.Slice.slicePlaces (i:Int) (j:Int) 1=j-i:=by
 unfold δ.Slice.slicePlaces;have h1:(1:Int)>0:=by lia
 simp only[h1,Ek,Int.ediv_one];split<;>lia
theorem ip{v:Γ}{o:Option Int}{Q:Option Int->Θ->Prop}(p:IsPart v o)(h:Q o s):ζ (model prog w) A (δ.Slice.slicePartIndex v) Q E s:=by
 cases p with
 |none=>exact slicePart_none h
 |int i t=>exact slicePart_int h
theorem sliceApplied_gen{sl:Δ}{vl vu:Γ}{lo hi:Option Int}{n:Nat}{Q:Int×Int×Nat->Θ->Prop}(hs:s.heap.IsSliceOf sl vl vu .none)(pl:IsPart vl lo)(pu:IsPart vu hi)
  (h:Q (((sIx n 0 lo:Nat):Int),1,sIx n n hi-sIx n 0 lo) s):ζ (model prog w) A (δ.Slice.sliceApplied (.ref sl) (pure (n:Int))) Q E s:=by
 obtain⟨os,hos,hcs,hds⟩:=id hs;unfold δ.Slice.sliceApplied δ.Slice.sliceFields;refine Ja (Ja (El hos hds (x:=vl) rfl (Ja (El hos hds (x:=vu) rfl (Ja (El hos hds (x:= .none) rfl (Jd ?_)))))))
 refine Ja (slicePart_none ?_)
 show ζ _ _ (if((1:Int)==0)=true then _ else _) _ _ s
 rw[Jc (by decide)]
 refine Ja (ip pl (Ja (ip pu (Ja (Jd ?_)))))
 show ζ _ _ (match δ.Slice.sliceAdjust lo hi 1 (n:Int)with|(lo,hi)=>pure (lo,(1:Int),δ.Slice.slicePlaces lo hi 1)) _ _ s
 rw[rR lo hi n]
 show ζ _ _ (pure (((sIx n 0 lo:Nat):Int),(1:Int),δ.Slice.slicePlaces ((sIx n 0 lo:Nat):Int) ((sIx n n hi:Nat):Int) 1)) _ _ s
 rw[pS];exact Jd h
theorem wD(xs:Array Γ)(i k:Nat):((List.range k).filterMap fun(m:Nat)=>xs[((i:Int)+(m:Int)*1).toNat]?).toArray=((xs.toList.drop i).take k).toArray:=by
 have e:(fun(m:Nat)=>xs[((i:Int)+(m:Int)*1).toNat]?)=fun m=>xs[i+m]? :=by
  funext m
  have:((i:Int)+(m:Int)*1).toNat=i+m:=by lia
  rw[this]
 rw[e]
 have:=pick_run xs i k
 rw[List.filterMap_map]at this;have e2:((fun x=>xs[x]?)∘fun x=>i+x)=fun m=>xs[i+m]? :=rfl
 rw[e2]at this;rw[this]
theorem getItem_tuple_cut{t sl:Δ}{items:Array Γ}{vl vu:Γ}{lo hi:Option Int}{Q:F2}(ht:IsTup s.heap t items)(hs:s.heap.IsSliceOf sl vl vu .none)(pl:IsPart vl lo)(pu:IsPart vu hi)
  (hw:¬(sIx items.size 0 lo=0/\sIx items.size items.size hi=items.size))
  (h:Q (.ref s.heap.objs.size) {s with heap:=s.heap.push {cls:= .type "tuple",data:= .seq ((items.toList.drop (sIx items.size 0 lo)).take (sIx items.size items.size hi-sIx items.size 0 lo)).toArray}})
  (hsz:items.size<=η):ζ (model prog w) A (getItem (.ref t) (.ref sl)) Q E s:=by
 have htake:sizeOk (.seq ((items.toList.drop (sIx items.size 0 lo)).take (sIx items.size items.size hi-sIx items.size 0 lo)).toArray):=by
  show((items.toList.drop (sIx items.size 0 lo)).take (sIx items.size items.size hi-sIx items.size 0 lo)).toArray.size<=η
  rw[Jp,J8,FA,Jo];lia
 have hj:sIx items.size items.size hi<=items.size:=BR _ _ (Jf _) hi
 obtain⟨os,hos,hcs,hds⟩:=id hs;have hTs:s.TypeIs (.ref sl) "slice":=#[os,hos,hcs]
 unfold getItem
 try with_reducible refine JD ?_
 first|refine Ja (Jd ?_)|skip
 refine Ja (wpAny_sequenceKey ht.typeIs (by decide) ?_)
 refine Ja (wpAny_callSpecial?_slot (name:=Str.ofString "__getitem__") ht.typeIs FB
  (J1 FB ht.typeIs entry_tuple_getitem ?_ (args_tuple_getitem _ _)))
 show ζ _ _ (δ.Tuple.tupleItemsOf (.ref t) >>= _) _ _ s
 refine Ja (tupleItemsOf_ ht ?_)
 refine Ja (Fg hTs ?_)
 rw[Jb (by decide)]
 refine Ja (sliceApplied_gen hs pl pu ?_)
 have hno:¬((((sIx items.size 0 lo:Nat):Int)==0&&(1:Int)==1&&(sIx items.size items.size hi-sIx items.size 0 lo)==items.size)=true):=by
  intro q;rw[Ju,Ju]at q;have q1:((sIx items.size 0 lo:Nat):Int)=0:=eq_of_beq q.1.1
  have q2:sIx items.size items.size hi-sIx items.size 0 lo=items.size:=eq_of_beq q.2
  exact hw #[by lia,by lia]
 show ζ _ _ (if(((sIx items.size 0 lo:Nat):Int)==0&&(1:Int)==1&&(sIx items.size items.size hi-sIx items.size 0 lo)==items.size)=true then _ else _) _ _ s
 rw[Jc hno,wD]
 first
  |exact Ja (m:=δ.Tuple.tupleExact _) (J5 (Jd ⟨_,rfl,Jd h⟩) htake)
  |exact Ja (m:=δ.Tuple.tupleExact _) (J5 (Ja (Jd (Jd ⟨_,rfl,Jd h⟩))) htake)
  |exact Ja (Ja (m:=δ.Tuple.tupleExact _) (J5 (Jd (Jd ⟨_,rfl,Jd h⟩)) htake))
  |exact Ja (Ja (m:=δ.Tuple.tupleExact _) (J5 (Jd ⟨_,rfl,Jd h⟩) htake))
end
end HT
namespace L2
open PySem PySem.Spec PyProof.Rows
abbrev TO:=St->Hp->(Option Int->Hp->Prop)->Prop
def PO(X:Cx)(e:Option Φ)(t:TO):Prop:=
 ∀(MT:F4) (s:Θ) (σ:St) (H:Hp) (Q:Option Int->Hp->Prop),F8 X MT σ H s->t σ H Q->
  ζ (model X.prog X.w) X.A (evalPart e X.env) (fun u s'=>∃o H',F8 X MT σ H' s'/\IsPart u o/\Q o H') X.xe s
def oB:TO:=fun _ H Q=>Q none H
def yH(t:TE):TO:=fun σ H Q=>t σ H fun x H1=>∃i,x= .int i/\Q (some i) H1
theorem pX{ns:List Int}:∀{us:List Γ},Ga (ns.map V.int) us->IntsAre us ns:=by
 induction ns with
 |nil=>intro us r;rw[Fh]at r;cases r;exact .nil
 |cons n ns ih=>
  intro us r;rw[JU]at r;cases r with
  |cons r1 r2=>
   obtain⟨t,e⟩:=r1;subst e;exact .cons n t (ih r2)
section
variable{X:Cx}{e:Φ}{te:TE}{lo hi:Option Φ}{tl th:TO}{pos p2:Pos}
theorem yV:PO X none oB:=by
 intro MT s σ H Q I h;rw[evalPart_none];exact Jd #[none,H,I,.none,h]
theorem AD(h:PE X e te):PO X (some e) (yH te):=by
 intro MT s σ H Q I hw;rw[evalPart_some];refine qu (h MT s σ H _ I hw) fun u s1 zq=>?_
 obtain⟨x,H1,I1,r1,q1⟩:=zq;obtain⟨i,rfl,q⟩:=q1;obtain⟨t,rfl⟩:=r1
 exact#[some i,H1,I1,.int i t,q]
def tM(X:Cx)(r:V->Option Int->Option Int->Hp->VK->Prop):Prop:=
 ∀(MT:F4) (s:Θ) (σ:St) (H:Hp) (x:V) (v vl vu:Γ) (lo hi:Option Int) (sl:Δ) (Q:VK),F8 X MT σ H s->Ge x v->s.heap.IsSliceOf sl vl vu .none->IsPart vl lo->IsPart vu hi->r x lo hi H Q->
  ∃T id,typeLookup (.type T) "__getitem__"=pure (some (.builtin id))/\s.TypeIs v T/\ζ (model X.prog X.w) X.A (getItem v (.ref sl)) (EP X MT σ Q) X.xe s
def DE(r:V->Option Int->Option Int->Hp->VK->Prop)(te:TE)(tl th:TO):TE:=fun σ H Q=>te σ H fun x H1=>tl σ H1 fun l H2=>th σ H2 fun u H3=>r x l u H3 Q
theorem vn{r:V->Option Int->Option Int->Hp->VK->Prop}(hr:tM X r)(he:PE X e te)(hl:PO X lo tl)(hu:PO X hi th):PE X (.Subscript e (.Slice lo hi none p2) pos) (DE r te tl th):=by
 intro MT s σ H Q I h;refine Subscript_ (qu (he MT s σ H _ I h) fun v s1 zq=>?_)
 obtain⟨x,H1,I1,r1,q1⟩:=zq;refine wpAny_Slice (qu (hl MT s1 σ H1 _ I1 q1) fun vl s2 ⟨l,H2,I2,pl,q2⟩=>qu (hu MT s2 σ H2 _ I2 q2) fun vu s3 zq=>?_)
 obtain⟨u,H3,I3,pu,q3⟩:=zq;rw[evalPart_none];refine Jd ?_
 have I4:F8 X MT σ H3 {s3 with heap:=s3.heap.push {cls:= .type "slice",data:= .fields (List.toArray [vl,vu,.none])}}:=I3.kept (t':=s3.toks) fun b ob q=>Jj _ q
 obtain⟨T,id,hT,ht,hg⟩:=hr MT {s3 with heap:=s3.heap.push {cls:= .type "slice",data:= .fields (List.toArray [vl,vu,.none])}} σ H3 x v vl vu l u s3.heap.objs.size Q I4 r1 (Ψ.IsSliceOf.new ..) pl pu q3
 show ζ (model X.prog X.w) X.A (subscriptTail e (.Slice lo hi none p2) v (.ref s3.heap.objs.size)) (EP X MT σ Q) X.xe {s3 with heap:=s3.heap.push {cls:= .type "slice",data:= .fields (List.toArray [vl,vu,.none])}}
 exact tail_any (ops:=[.ref s3.heap.objs.size,v]) ht hT hg (by with_unfolding_all rfl)
def Qd(xs:List V)(lo hi:Option Int):List V:=(xs.drop (HT.sIx xs.length 0 lo)).take (HT.sIx xs.length xs.length hi-HT.sIx xs.length 0 lo)
theorem ga(xs:List V)(lo hi:Option Int):(Qd xs lo hi).length<=xs.length:=by
 unfold Qd;rw[J8,FA];lia
inductive Ms (K:μ) (x:V) (lo:Option Int) (hi:Option Int) (H:Hp) (Q:VK):Prop
 |mk (a:_) (xs:_) (h1:x= .ref a) (h2:Gh K H a xs) (h3:¬(HT.sIx xs.length 0 lo=0/\HT.sIx xs.length xs.length hi=xs.length)) (h4:∀p,H p=none->Q (.ref p) (F9 H p (.tup (Qd xs lo hi))))
def DP(K:μ):V->Option Int->Option Int->Hp->VK->Prop:=fun x lo hi H Q=>Ms K x lo hi H Q
theorem BI:tM X (DP X.K):=by
 intro MT s σ H x v vl vu lo hi sl Q I rx hs pl pu h;obtain⟨a,xs,rfl,hx,hw,q⟩:=h;cases rx;obtain⟨its,r,ht,hz⟩:=I.tuple hx;have hlen:its.toArray.size=xs.length:=by rw[Jp];exact r.length.symm
 refine#["tuple",_,PyProof.Rows.slot_tuple_getitem.lookup,ht.typeIs,?_]
 refine HT.getItem_tuple_cut ht hs pl pu (by rw[hlen];exact hw) ?_ (by rw[hlen];exact hz)
 rw[hlen];refine#[.ref s.heap.objs.size,_,I.laid (t':=s.toks) (o:= .tup (Qd xs lo hi)) (fun b ob q=>Jj _ q) (Jf _) ?_,rfl,q _ (I.hok.fresh (Jf _))]
 exact#[JQ (ga xs lo hi) hz,_,(r.drop (HT.sIx xs.length 0 lo)).take (HT.sIx xs.length xs.length hi-HT.sIx xs.length 0 lo),IsTup.new _ _]
inductive L5 (K:μ) (x:V) (y:V) (H:Hp) (Q:VK):Prop
 |mk (a:_) (b:_) (xs:_) (ys:_) (h1:x= .ref a) (h2:y= .ref b) (h3:Gh K H a xs) (h4:Gh K H b ys) (h5:xs≠[]) (h6:xs.length+ys.length<=η) (h7:(ys=[]->Q (.ref a) H)) (h8:(ys≠[]->∀p,H p=none->Q (.ref p) (F9 H p (.tup (xs++ys)))))
def Dp(K:μ):R2:=fun x y H Q=>L5 K x y H Q
theorem Ga.nil_iff{xs:List V}{us:List Γ}(r:Ga xs us):us=[]↔xs=[]:=by
 cases r with
 |nil=>simp
 |cons _ _=>simp
theorem yQ:zt X (binaryOp .Add) (Dp X.K):=by
 intro MT s σ H x y v u Q I rx ry h;obtain⟨a,b,xs,ys,rfl,rfl,ha,hb,hx,hz,q1,q2⟩:=h;cases rx;cases ry;obtain⟨its,r1,p1,_⟩:=I.tuple ha;obtain⟨its2,r2,p2,_⟩:=I.tuple hb;refine HT.cat_tup p1 p2 (fun z=>hx (r1.nil_iff.mp z)) (fun z=>#[.ref a,H,I,rfl,q1 (r2.nil_iff.mp z)]) (fun z=>?_) (by rw[<- r1.length,<- r2.length];exact hz)
 refine#[.ref s.heap.objs.size,_,I.laid (t':=s.toks) (o:= .tup (xs++ys)) (fun b ob q=>Jj _ q) (Jf _) ?_,rfl,q2 (fun w=>z (r2.nil_iff.mpr w)) _ (I.hok.fresh (Jf _))]
 exact#[by rw[Jt];exact hz,_,r1.append r2,IsTup.new _ _]
end
def cv(n:Nat)(i:Int):Option Nat:=if 0<=i then(if i<n then some i.toNat else none)else if -(n:Int)<=i then some (i+n).toNat else none
def QL{α:Type}(xs:List α)(i:Int):Option α:=(cv xs.length i).bind fun j=>xs[j]?
theorem pj{n:Nat}{i:Int}{j:Nat}(h:cv n i=some j):seqIndex? i n=some j/\j<n/\ -(n:Int)<=i/\i<n:=by
 unfold cv at h
 by_cases h0:0<=i
 ·rw[Jb h0]at h
  by_cases h1:i<n
  ·rw[Jb h1]at h
   have e:i.toNat=j:=JG h
   exact#[by rw[seqIndex_of h0 h1,e],by lia,by lia,h1]
  ·rw[Jc h1]at h;cases h
 ·rw[Jc h0]at h
  by_cases h1: -(n:Int)<=i
  ·rw[Jb h1]at h
   have e:(i+n).toNat=j:=JG h
   exact#[by rw[seqIndex_neg (by lia) h1,e],by lia,h1,by lia]
  ·rw[Jc h1]at h;cases h
theorem oU{α:Type}{xs:List α}{i:Int}{v:α}(h:QL xs i=some v):∃j,seqIndex? i xs.length=some j/\xs[j]? =some v/\j<xs.length/\ -(xs.length:Int)<=i/\i<xs.length:=by
 unfold QL at h;cases e:cv xs.length i with
 |none=>rw[e]at h;cases h
 |some j=>
  rw[e]at h;obtain⟨h1,h2,h3,h4⟩:=pj e
  exact#[j,h1,h,h2,h3,h4]
theorem QD{α:Type}{xs:List α}{j:Nat}{v:α}(h:xs[j]? =some v):QL xs (j:Int)=some v:=by
 have hj:j<xs.length:=(Jy.mp h).1
 have e:cv xs.length (j:Int)=some j:=by
  unfold cv;rw[Jb (by lia),Jb (by lia)];simp
 unfold QL;rw[e];exact h
def pD(b:Φ):Prop:=∀o i,subscripted b false o i=operate [o,i] (getItem o i)
def Lg(X:Cx)(r:R2):Prop:=
 ∀(value slice:Φ) (MT:F4) (s:Θ) (σ:St) (H:Hp) (x y:V) (v u:Γ) (Q:VK),F8 X MT σ H s->Ge x v->Ge y u->r x y H Q->
  subscripted slice false v u=operate [v,u] (getItem v u)->ζ (model X.prog X.w) X.A (subscriptTail value slice v u) (EP X MT σ Q) X.xe s
def t6(X:Cx)(id:String)(r:V->List V->Hp->VK->Prop):Prop:=
 ∀(MT:F4) (s:Θ) (σ:St) (H:Hp) (x:V) (xs:List V) (v:Γ) (us:List Γ) (Q:VK),F8 X MT σ H s->Ge x v->Ga xs us->r x xs H Q->
  ζ (model X.prog X.w) X.A (call (.builtin id) (v::us)) (EP X MT σ Q) X.xe s
section
variable{X:Cx}{a b:Φ}{ta tb:TE}{pos:Pos}
theorem Lg.or{r r':R2}(h:Lg X r)(h':Lg X r'):Lg X (fun x y H Q=>r x y H Q\/r' x y H Q):=by
 intro value slice MT s σ H x y v u Q I rx ry q hs;rcases q with q|q
 ·exact h value slice MT s σ H x y v u Q I rx ry q hs
 ·exact h' value slice MT s σ H x y v u Q I rx ry q hs
theorem CZ{r:R2}(hr:Lg X r)(ha:PE X a ta)(hb:PE X b tb)(hs:pD b):PE X (.Subscript a b pos) (jr r ta tb):=by
 intro MT s σ H Q I h;exact Subscript_ (xg ha hb I h fun v u s2 x y H2 I2 rx ry q=>hr a b MT s2 σ H2 x y v u Q I2 rx ry q (hs _ _))
inductive Mt (K:μ) (x:V) (y:V) (H:Hp) (Q:VK):Prop
 |mk (p:_) (xs:_) (i:_) (v:_) (h1:x= .ref p) (h2:y= .int i) (h3:Gd K H p xs) (h4:QL xs i=some v) (h5:Q v H)
def v8(K:μ):R2:=fun x y H Q=>Mt K x y H Q
inductive Mu (K:μ) (x:V) (y:V) (H:Hp) (Q:VK):Prop
 |mk (p:_) (xs:_) (i:_) (v:_) (h1:x= .ref p) (h2:y= .int i) (h3:Gh K H p xs) (h4:QL xs i=some v) (h5:Q v H)
def vF(K:μ):R2:=fun x y H Q=>Mu K x y H Q
theorem qA:Lg X (v8 X.K):=by
 intro value slice MT s σ H x y v u Q I rx ry h hs;obtain⟨p,xs,i,z,rfl,rfl,hq,he,q⟩:=h;cases rx;obtain⟨t,rfl⟩:=ry;obtain⟨its,r,pl,hz⟩:=I.list hq;obtain⟨j,h1,h2,h3,h4,h5⟩:=oU he;obtain⟨w,ew,rw'⟩:=r.get h2;have hl:=r.length;have hn:=ab;have fin:EP X MT σ Q w s:=#[z,H,I,rw',q]
 by_cases h0:0<=i
 ·have hj:i.toNat=j:=by
   rw[seqIndex_of h0 h5]at h1;exact JG h1
  exact item_listR pl.isList h0 (by lia) (by rw[hj];simpa using ew) fin hs
 ·have hj:(i+(its.toArray.size:Int)).toNat=j:=by
   rw[seqIndex_neg (by lia) h4]at h1
   rw[Jp,<- hl];exact JG h1
  exact subscriptTail_builtinR (x:=w) pl.isList.typeIs slot_list_getitem.lookup
   (wpAny_getItem_list_neg (Q:=fun r s'=>r=w/\EP X MT σ Q r s') pl.isList (by lia) (by rw[Jp]<;>lia) (by lia) (by rw[hj];simpa using ew) #[rfl,fin]) hs
theorem qT:Lg X (vF X.K):=by
 intro value slice MT s σ H x y v u Q I rx ry h hs;obtain⟨p,xs,i,z,rfl,rfl,hq,he,q⟩:=h;cases rx;obtain⟨t,rfl⟩:=ry;obtain⟨its,r,pl,hz⟩:=I.tuple hq;obtain⟨j,h1,h2,h3,h4,h5⟩:=oU he;obtain⟨w,ew,rw'⟩:=r.get h2;have hl:=r.length;have hn:=ab;have fin:EP X MT σ Q w s:=#[z,H,I,rw',q]
 exact subscriptTail_builtinR (x:=w) pl.typeIs slot_tuple_getitem.lookup
  (getItem_tuple (j:=j) (Q:=fun r s'=>r=w/\EP X MT σ Q r s') pl (by lia) (by lia) (by rw[Jp,<- hl];exact h1) (by simpa using ew) #[rfl,fin]) hs
theorem sj(its:List Γ)(n j:Nat)(u:Γ):Obj.mapSeq (·.setIfInBounds j u) {cls:= .type "list",data:= .seq its.toArray n}={cls:= .type "list",data:= .seq (its.set j u).toArray n}:=by
 simp [Obj.mapSeq]
theorem F8.lst{MT:F4}{σ:St}{H:Hp}{s:Θ}{p:Δ}{xs:List V}(I:F8 X MT σ H s)(h:H p=some (.lst xs)):
  ∃(its:List Γ) (n:Nat),Ga xs its/\s.heap.get? p=some {cls:= .type "list",data:= .seq its.toArray n}/\xs.length<=η:=by
 obtain⟨z,its,n,r,e⟩:=I.hok p _ h
 exact#[its,n,r,e,z]
theorem F8.lstUpd{MT:F4}{σ:St}{H:Hp}{s:Θ}{p:Δ}{xs ys:List V}{its its':List Γ}{n n':Nat}{f:Obj->Obj}(I:F8 X MT σ H s)(h:H p=some (.lst xs))
  (ho:s.heap.get? p=some {cls:= .type "list",data:= .seq its.toArray n})(hf:f {cls:= .type "list",data:= .seq its.toArray n}={cls:= .type "list",data:= .seq its'.toArray n'})(r:Ga ys its')(hz:ys.length<=η)(t:Nat):
  F8 X MT σ (F9 H p (.lst ys)) {s with heap:=s.heap.update p f,toks:=t}:=by
 have e:(s.heap.update p f).get? p=some {cls:= .type "list",data:= .seq its'.toArray n'}:=by
  rw[EY f ho (by rw[hf]<;>rfl),hf]
 refine I.write (x:=p) (e:=p) (by rw[h];trivial) (.inl rfl) (fun b u hb q=>(Fi _ _ (Ne.symm hb)).trans q) #[_,e] ?_
 exact#[hz,its',n',r,e]
inductive L6 (o:V) (i:V) (v:V) (H:Hp) (Q:Hp->Prop):Prop
 |mk (p:_) (xs:_) (k:_) (j:_) (h1:o= .ref p) (h2:i= .int k) (h3:H p=some (.lst xs)) (h4:cv xs.length k=some j) (h5:Q (F9 H p (.lst (xs.set j v))))
def C9:V->V->V->Hp->(Hp->Prop)->Prop:=fun o i v H Q=>L6 o i v H Q
theorem ZV:mF X C9:=by
 intro MT s σ H o i v ov iv u Q I ro ri rv h;obtain⟨p,xs,k,j,rfl,rfl,hp,hj,q⟩:=h;cases ro;obtain⟨t,rfl⟩:=ri;obtain⟨its,n,r,ho,hz⟩:=I.lst hp;obtain⟨h1,h2,h3,h4⟩:=pj hj;have hl:=r.length;have hn:=ab;have I':F8 X MT σ (F9 H p (.lst (xs.set j v))) {s with heap:=s.heap.update p (Obj.mapSeq (·.setIfInBounds j u))}:=
  I.lstUpd hp ho (sj its n j u) (r.set rv j) (by rw[Fu];exact hz) s.toks
 by_cases h0:0<=k
 ·have hk:k.toNat=j:=by
   rw[seqIndex_of h0 h4]at h1;exact JG h1
  exact W.ki_setAt ho h0 (by lia) (by rw[Jp,<- hl];exact h4) (by rw[hk];exact#[_,I',q])
 ·have hk:(k+(its.toArray.size:Int)).toNat=j:=by
   rw[seqIndex_neg (by lia) h3]at h1
   rw[Jp,<- hl];exact JG h1
  exact W.ki_setBack ho (by lia) (by rw[Jp,<- hl];exact h3) (by lia) (by rw[hk];exact#[_,I',q])
theorem mj(lo hi:Option Int)(n:Nat):(sliceBounds lo hi none n).1=((HT.sIx n 0 lo:Nat):Int)/\(sliceBounds lo hi none n).2.1=((HT.sIx n n hi:Nat):Int)/\(sliceBounds lo hi none n).2.2=1:=by
 refine#[?_,?_,rfl]
 ·cases lo with
  |none=>simp [sliceBounds,HT.sIx]
  |some i=>
   simp only[sliceBounds,HT.sIx,Option.getD_none,show(1:Int)>0 by decide,Ek]
   by_cases h:i<0
   ·simp only[h,Ek]<;>lia
   ·simp only[h,Jz]<;>lia
 ·cases hi with
  |none=>simp [sliceBounds,HT.sIx]
  |some i=>
   simp only[sliceBounds,HT.sIx,Option.getD_none,show(1:Int)>0 by decide,Ek]
   by_cases h:i<0
   ·simp only[h,Ek]<;>lia
   ·simp only[h,Jz]<;>lia
theorem kB(its:List Γ)(lo hi:Option Int):slicePick its.toArray lo hi none=((its.drop (HT.sIx its.length 0 lo)).take (HT.sIx its.length its.length hi-HT.sIx its.length 0 lo)).toArray:=by
 obtain⟨h1,h2,h3⟩:=mj lo hi its.toArray.size;unfold slicePick;rw[h1,h2,h3];simp only[sliceRange_one,pick_run,Jp]<;>rfl
inductive Mw (K:μ) (x:V) (lo:Option Int) (hi:Option Int) (H:Hp) (Q:VK):Prop
 |mk (a:_) (xs:_) (h1:x= .ref a) (h2:Gd K H a xs) (h3:∀p,H p=none->Q (.ref p) (F9 H p (.lst (Qd xs lo hi))))
def DZ(K:μ):V->Option Int->Option Int->Hp->VK->Prop:=fun x lo hi H Q=>Mw K x lo hi H Q
theorem cx:tM X (DZ X.K):=by
 intro MT s σ H x v vl vu lo hi sl Q I rx hs pl pu h;obtain⟨a,xs,rfl,hx,q⟩:=h;cases rx;obtain⟨its,r,ht,hz⟩:=I.list hx;have hlen:=r.length;refine#["list",_,slot_list_getitem.lookup,ht.isList.typeIs,?_]
 refine wpAny_getItem_list_slice ht.isList hs pl pu .none (by simp) ?_ (by rw[Jp]<;>lia)
 rw[kB,<- hlen];refine#[.ref s.heap.objs.size,_,I.laid (t':=s.toks) (o:= .lst (Qd xs lo hi)) (fun b ob q=>Jj _ q) (Jf _) ?_,rfl,q _ (I.hok.fresh (Jf _))]
 exact#[JQ (ga xs lo hi) hz,_,0,(r.drop (HT.sIx xs.length 0 lo)).take (HT.sIx xs.length xs.length hi-HT.sIx xs.length 0 lo),Js _ rfl]
def yh:V->Bool
 | .non=>true
 | .bl _=>true
 | .int _=>true
 | .str _=>true
 |_=>false
def DB:V->V->Bool
 | .non,.non=>true
 | .bl a,.bl b=>a==b
 | .bl a,.int b=>(if a then 1 else 0)==b
 | .int a,.bl b=>a==(if b then 1 else 0)
 | .int a,.int b=>a==b
 | .str a,.str b=>a==b
 |_,_=>false
theorem By{A:Around}{s:Θ}{y x:V}{u v:Γ}(ry:Ge y u)(rx:Ge x v)(fy:yh y=true)(fx:yh x=true):SeqAt.EqAt A s u v (DB y x):=by
 cases y with
 |non=>
  cases ry;cases x with
  |non=>cases rx;exact SeqAt.EqAt.same _
  |bl b=>cases rx;exact SeqAt.EqAt.none_bool b
  |int b=>obtain⟨t,rfl⟩:=rx;exact SeqAt.EqAt.none_int b t
  |str b=>obtain⟨t,rfl⟩:=rx;exact SeqAt.EqAt.none_str b t
  |_=>exact absurd (show false=true from fx) JI
 |bl a=>
  cases ry;cases x with
  |non=>cases rx;exact SeqAt.EqAt.bool_none a
  |bl b=>cases rx;exact SeqAt.EqAt.bool_bool a b
  |int b=>obtain⟨t,rfl⟩:=rx;exact SeqAt.EqAt.bool_int a b t
  |str b=>obtain⟨t,rfl⟩:=rx;exact SeqAt.EqAt.bool_str a b t
  |_=>exact absurd (show false=true from fx) JI
 |int a=>
  obtain⟨t',rfl⟩:=ry;cases x with
  |non=>cases rx;exact SeqAt.EqAt.int_none a t'
  |bl b=>cases rx;exact SeqAt.EqAt.int_bool a t' b
  |int b=>obtain⟨t,rfl⟩:=rx;exact SeqAt.EqAt.int_int a t' b t
  |str b=>obtain⟨t,rfl⟩:=rx;exact SeqAt.EqAt.int_str a t' b t
  |_=>exact absurd (show false=true from fx) JI
 |str a=>
  obtain⟨t',rfl⟩:=ry;cases x with
  |non=>cases rx;exact SeqAt.EqAt.str_none a t'
  |bl b=>cases rx;exact SeqAt.EqAt.str_bool a t' b
  |int b=>obtain⟨t,rfl⟩:=rx;exact SeqAt.EqAt.str_int a t' b t
  |str b=>obtain⟨t,rfl⟩:=rx;exact SeqAt.EqAt.str_str a t' b t
  |_=>exact absurd (show false=true from fx) JI
 |_=>exact absurd (show false=true from fy) JI
theorem qW:zi X (.builtin "len") (fun xs H Q=>∃p ys,xs=[.ref p]/\(Gd X.K H p ys\/Gh X.K H p ys)/\Q (.int ys.length) H):=by
 intro MT s σ H xs us Q I r h;obtain⟨p,ys,rfl,hq,q⟩:=h;obtain⟨u,rfl,rx⟩:=zU r;cases rx;have hn:=ab;rcases hq with hq|hq
 ·obtain⟨its,r',pl,hz⟩:=I.list hq
  have hlen:=r'.length;exact Calls.call_len_list pl.isList (by simp only[Jp]<;>lia) #[.int ys.length,H,I.tok _,#[s.toks+1,by rw[Jp,hlen]],q]
 ·obtain⟨its,r',pl,hz⟩:=I.tuple hq
  have hlen:=r'.length;exact len_tuple pl (by simp only[Jp]<;>lia) #[.int ys.length,H,I.tok _,#[s.toks+1,by rw[Jp,hlen]],q]
theorem lH:zi X (.builtin "len") (fun xs H Q=>∃z,xs=[.str z]/\z.length<=η/\Q (.int z.length) H):=by
 intro MT s σ H xs us Q I r h;obtain⟨z,rfl,hz,q⟩:=h;obtain⟨u,rfl,t,rfl⟩:=zU r;have hn:=ab;exact len_str (by lia) #[.int z.length,H,I.tok _,#[_,rfl],q]
theorem aR:zi X (.type "list") (fun xs H Q=>∃p ys,xs=[.ref p]/\(Gd X.K H p ys\/Gh X.K H p ys)/\∀l,H l=none->Q (.ref l) (F9 H l (.lst ys))):=by
 intro MT s σ H xs us Q I r h;obtain⟨p,ys,rfl,hq,q⟩:=h;obtain⟨u,rfl,rx⟩:=zU r;cases rx;have fin:∀(its:List Γ),Ga ys its->ys.length<=η->∀(h':Ψ) (c':Nat),(∀b o',s.heap.get? b=some o'->h'.get? b=some o')->
   h'.get? s.heap.objs.size=some {cls:= .type "list",dict:=none,data:= .seq its.toArray c',slots:= (List.toArray [])}->EP X MT σ Q (.ref s.heap.objs.size) {s with heap:=h'}:=fun its r' hz h' c' kp e=>
  #[.ref s.heap.objs.size,_,I.laid (t':=s.toks) kp (Jf _) (show Gn X.prog X.w _ h' _ (.lst ys)from#[hz,its,c',r',e]),rfl,q _ (I.hok.fresh (Jf _))]
 rcases hq with hq|hq
 ·obtain⟨its,r',pl,hz⟩:=I.list hq
  have hlen:=r'.length;obtain⟨o,ho,hc,n,hd⟩:=pl.isList;exact call_list_seq p (.inl rfl) ho hc hd (fun h' c' kp e=>fin its r' hz h' c' kp e) (by simp only[Jp]<;>lia)
 ·obtain⟨its,r',pl,hz⟩:=I.tuple hq
  have hlen:=r'.length;obtain⟨o,ho,hc,n,hd⟩:=pl;exact call_list_seq p (.inr rfl) ho hc hd (fun h' c' kp e=>fin its r' hz h' c' kp e) (by simp only[Jp]<;>lia)
theorem qV:zi X (.type "tuple") (fun xs H Q=>∃p ys,xs=[.ref p]/\((Gd X.K H p ys/\∀l,H l=none->Q (.ref l) (F9 H l (.tup ys)))\/(Gh X.K H p ys/\Q (.ref p) H))):=by
 intro MT s σ H xs us Q I r h;obtain⟨p,ys,rfl,h⟩:=h;obtain⟨u,rfl,rx⟩:=zU r;cases rx;rcases h with⟨hq,q⟩|⟨hq,q⟩
 ·obtain⟨its,r',pl,hz⟩:=I.list hq
  have hlen:=r'.length;refine call_tuple_list pl.isList (fun h' kp=>?_) (by simp only[Jp]<;>lia)
  have I1:F8 X MT σ H {s with heap:=h'}:=I.kept (t':=s.toks) kp
  have I2:F8 X MT σ (F9 H h'.objs.size (.tup ys)) {s with heap:=h'.push {cls:= .type "tuple",data:= .seq its.toArray}}:=
   I1.laid (t':=s.toks) (fun b o e=>Jj _ e) (Jf _) (show Gn X.prog X.w _ _ _ (.tup ys)from#[hz,its,r',IsTup.new _ _])
  exact#[.ref h'.objs.size,_,I2,rfl,q _ (I1.hok.fresh (Jf _))]
 ·obtain⟨its,r',pl,hz⟩:=I.tuple hq
  exact call_tuple_same pl #[.ref p,H,I,rfl,q]
def Dz(K:μ)(T:String)(x:V)(H:Hp):Prop:=match x with
 | .str _=>T="str"
 | .int _=>T="int"
 | .ref p=>(T="list"/\∃xs,Gd K H p xs)\/(T="tuple"/\∃o,K.lookup p=some o/\o.cls= .type "tuple"/\o.dict=none)\/
   (T="dict"/\((∃kvs,H p=some (.dK kvs))\/∃kvs,H p=some (.dT kvs)))\/(T="set"/\∃S n,H p=some (.set S n))
 |_=>False
theorem BX{MT:F4}{σ:St}{H:Hp}{s:Θ}{T:String}{x:V}{v:Γ}(I:F8 X MT σ H s)(r:Ge x v)(ty:Dz X.K T x H):
  s.TypeIs v T/\∀a,v= .ref a->∃ob,s.heap.get? a=some ob/\ob.dict=none:=by
 cases x with
 |str z=>
  obtain⟨t,rfl⟩:=r
  cases(show T="str" from ty)
  exact#[typeIs_str s z t,fun _ e=>nomatch e]
 |int i=>
  obtain⟨t,rfl⟩:=r
  cases(show T="int" from ty)
  exact#[typeIs_int s i t,fun _ e=>nomatch e]
 |ref p=>
  cases r;rcases ty with⟨rfl,xs,hq⟩|⟨rfl,o,hk,hc,hd⟩|⟨rfl,hk⟩|⟨rfl,S,n,hk⟩
  ·obtain⟨its,_,pl,_⟩:=I.list hq
   refine#[pl.isList.typeIs,fun a e=>?_]
   cases e;obtain⟨o,n,e,c,hd,_⟩:=pl
   exact#[o,e,hd]
  ·refine#[#[o,I.kIn p o hk,hc],fun a e=>?_]
   cases e
   exact#[o,I.kIn _ o hk,hd]
  ·have z:∃o,s.heap.get? p=some o/\o.ExactDict:=by
    rcases hk with⟨kvs,hk⟩|⟨kvs,hk⟩
    ·obtain⟨_,_,_,_,o,_,_,e,ex,_⟩:=I.hok p _ hk
     exact#[o,e,ex]
    ·obtain⟨_,_,_,_,o,_,_,e,ex,_⟩:=I.hok p _ hk
     exact#[o,e,ex]
   obtain⟨o,e,ex⟩:=z;refine#[#[o,e,ex.1],fun a e2=>?_]
   cases e2
   exact#[o,e,ex.2.1]
  ·obtain⟨o,_,_,_,e,ex,_⟩:=I.hok p _ hk
   refine#[#[o,e,ex.1],fun a e2=>?_]
   cases e2
   exact#[o,e,ex.2.1]
 |_=>exact False.elim ty
def Bx(K:μ)(T:String)(r:V->List V->Hp->VK->Prop)(to:TE)(t:TA):TE:=fun σ H Q=>to σ H fun x H1=>Dz K T x H1/\t σ H1 fun xs H2=>r x xs H2 Q
variable{o e:Φ}{es:List Φ}{to:TE}{t:TA}{name:Str}{apos cpos:Pos}{T id:String}{r:V->List V->Hp->VK->Prop}
theorem C5(pa:PlainAttrs T)(slot:Slot T name id)(hty:typeOf (.builtin id)=pure (.type "method_descriptor"))(hm:t6 X id r)(ho:PE X o to)(ha:PA X (e::es) t)
  (hbase:attributeBase o name X.env (eval o X.env)=eval o X.env:=by rfl)
  (hfew:((backTo cpos (ι (e::es) X.env)).all (fun x=> !x.1)&&(backToKw cpos (keywordEach [] X.env)).all (fun x=>x.1.isSome)
   &&decide ((e::es).length+([]:List Keyword).length+(if([]:List Keyword).isEmpty then 0 else 1)<30))=true:=by rfl)
  (hline:(apos.endLine==cpos.line)=true:=by rfl)(hs:ι (e::es) X.env=(false,eval e X.env)::ι es X.env:=by rfl)(hplain:(backTo cpos (ι es X.env)).any (·.1)=false:=by rfl):
  PE X (.Call (.Attribute o name apos) (e::es) [] cpos) (Bx X.K T r to t):=by
 intro MT s σ H Q I h;refine wpAny_Call_method_late hbase hfew hline rfl (qu (ho MT s σ H _ I h) fun v s1 zq=>?_)
 obtain⟨x,H1,I1,r1,ty,q1⟩:=zq;obtain⟨h1,h2⟩:=BX I1 r1 ty;refine#[T,id,pa,slot,hty,h1,h2,?_]
 have hA:=ha cpos MT s1 σ H1 _ I1 q1;rw[hs]at hA⊢;refine Calls.callWith_builtin (by show(false||(backTo cpos (ι es X.env)).any (·.1))=false;rw[hplain]<;>rfl) (Calls.evalArgs_plain ?_)
 exact qu hA fun us s2 ⟨vs,H2,I2,r2,q2⟩=>hm MT s2 σ H2 x vs v us Q I2 r1 r2 q2
end
def DH(X:Cx)(id:String)(r:V->List V->Hp->VK->Prop):Prop:=
 ∀(MT:F4) (s:Θ) (σ:St) (H:Hp) (x:V) (xs:List V) (v:Γ) (us:List Γ) (Q:VK),F8 X MT σ H s->Ge x v->Ga xs us->r x xs H Q->
  ζ (model X.prog X.w) X.A (call (.builtin id) (v::us)) (EP X MT σ Q) X.xe s
theorem Ga.one:∀{x:V} {us:List Γ},Ga [x] us->∃u,us=[u]/\Ge x u
 :=by
 intro x us h;cases h with
 |cons r q=>cases q;exact#[_,rfl,r]
theorem Ga.eraseIdx:∀{xs:List V} {us:List Γ} (i:Nat),Ga xs us->Ga (xs.eraseIdx i) (us.eraseIdx i)
 |_,_,_,.nil=> .nil
 |_,_,0,.cons _ t=>t
 |_,_,i+1,.cons r t=> .cons r (Ga.eraseIdx i t)
theorem Ga.rep{xs:List V}{us:List Γ}(h:Ga xs us):∀k:Nat,Ga (List.replicate k xs).flatten (List.replicate k us).flatten
 |0=> .nil
 |k+1=>by
  rw[Fj,Fj,FC,FC];exact Ga.append h (Ga.rep h k)
theorem j8{α:Type}:∀(l:List α) (i:Nat),(l.eraseIdx i).length<=l.length
 | [],_=>Jf _
 |_::_,0=>EW _
 |_::r,i+1=>E4 (j8 r i)
theorem jR(its:List Γ):∀(k:Nat) (acc:List Γ),
  List.foldl (fun x1 x2=>x1++x2) acc.toArray (List.replicate k its.toArray)=(acc++(List.replicate k its).flatten).toArray
 |0,acc=>by simp
 |k+1,acc=>by
  have e:acc.toArray++its.toArray=(acc++its).toArray:=by simp
  have e2:(acc++its)++(List.replicate k its).flatten=acc++(List.replicate (k+1) its).flatten:=by
   rw[Fj,FC,EL]
  rw[<- e2,<- jR its k (acc++its),<- e,Fj,List.foldl_cons]
section
variable{X:Cx}{MT:F4}{σ:St}{H:Hp}{s:Θ}{l:Δ}{xs ys:List V}
theorem F8.lset{its its':List Γ}{n:Nat}{f:Array Γ->Array Γ}{t':Nat}(I:F8 X MT σ H s)(hH:H l=some (.lst xs))
  (e:s.heap.get? l=some {cls:= .type "list",data:= .seq its.toArray n})(hf:f its.toArray=its'.toArray)(hv:Ga ys its')(hz:ys.length<=η):
  F8 X MT σ (F9 H l (.lst ys)) {s with heap:=s.heap.update l (Obj.mapSeq f),toks:=t'}:=by
 have q:=PySem.IsL.update e f;rw[hf]at q;refine I.write (x:=l) (e:=l) (by rw[hH];exact trivial) (.inl rfl) (fun b' u hb hu=>(Fi s.heap (Obj.mapSeq f) (Ne.symm hb)).trans hu) #[_,q] ?_
 exact#[hz,its',_,hv,q]
theorem F8.lnew{its:List Γ}{t':Nat}(I:F8 X MT σ H s)(hv:Ga ys its)(hz:ys.length<=η):
  F8 X MT σ (F9 H s.heap.objs.size (.lst ys)) {s with heap:=s.heap.push {cls:= .type "list",data:= .seq its.toArray},toks:=t'}:=
 I.laid (fun _ _ q=>Jj _ q) (Jf _) #[hz,its,0,hv,Js _ rfl]
theorem F8.fresh(I:F8 X MT σ H s):H s.heap.objs.size=none:=I.hok.fresh (Jf _)
theorem F8.lstM(I:F8 X MT σ H s)(hH:H l=some (.lst xs)):xs.length<=η/\∃(its:List Γ) (n:Nat),Ga xs its/\xs.length=its.length/\s.heap.get? l=some {cls:= .type "list",data:= .seq its.toArray n}:=by
 obtain⟨z,its,n,r,e⟩:=I.hok l _ hH
 exact#[z,its,n,r,r.length,e]
theorem vt{n:Nat}(h:n<=η):δ.List.listTooLong n=false:=by
 unfold δ.List.listTooLong;exact Jm (by lia)
end
section
variable{X:Cx}
inductive Lh (x:V) (vs:List V) (H:Hp) (Q:VK):Prop
 |mk (l:_) (xs:_) (y:_) (h1:x= .ref l) (h2:vs=[y]) (h3:H l=some (.lst xs)) (h4:xs.length<η) (h5:Q .non (F9 H l (.lst (xs++[y]))))
def oQ:V->List V->Hp->VK->Prop:=fun x vs H Q=>Lh x vs H Q
theorem tJ:DH X "list.append" oQ:=by
 intro MT s σ H x vs v us Q I rx rv h;obtain⟨l,xs,y,rfl,rfl,hH,hz,q⟩:=h;cases rx;obtain⟨u,rfl,ru⟩:=rv.one;obtain⟨z,its,n,r,hl,e⟩:=I.lstM hH;refine call_meets F.slot_list_append #[_,e,rfl] F.entry_list_append (F.args_list_append_2 _ _) (PySem.list_append l its.toArray n u (by rw[Jp];lia)) #[e,?_]
 refine#[.non,_,I.lset (its':=its++[u]) hH e (by simp) (r.append (.cons ru .nil)) ?_,rfl,q]
 rw[Jt,EM];lia
inductive LL (x:V) (vs:List V) (H:Hp) (Q:VK):Prop
 |mk (l:_) (xs:_) (i:_) (k:_) (y:_) (h1:x= .ref l) (h2:vs=[.int i]) (h3:H l=some (.lst xs)) (h4: -(2 ^ 63)<=i) (h5:i<2 ^ 63) (h6:seqIndex? i xs.length=some k) (h7:xs[k]? =some y) (h8:Q y (F9 H l (.lst (xs.eraseIdx k))))
def ue:V->List V->Hp->VK->Prop:=fun x vs H Q=>LL x vs H Q
theorem vD:DH X "list.pop" ue:=by
 intro MT s σ H x vs v us Q I rx rv h;obtain⟨l,xs,i,k,y,rfl,rfl,hH,h1,h2,hk,hy,q⟩:=h;cases rx;obtain⟨u,rfl,ru⟩:=rv.one;obtain⟨t,rfl⟩:=ru;obtain⟨z,its,n,r,hl,e⟩:=I.lstM hH;obtain⟨w,hw,rw'⟩:=r.get hy;refine call_meets F.slot_list_pop #[_,e,rfl] F.entry_list_pop (F.args_list_pop_2 _ _)
  (MeetsSeq.list_pop_at l its.toArray n i t k w (fitsIndex_both h1 h2) (by rw[Jp,<- hl];exact hk) (by rw[<- Array.getElem?_toList];exact hw) (by rw[Jp];lia)) #[e,?_]
 refine#[y,_,I.lset (its':=its.eraseIdx k) hH e ?_ (r.eraseIdx k) ?_,rw',q]
 ·show its.toArray.eraseIdxIfInBounds k=(its.eraseIdx k).toArray
  rw[List.eraseIdxIfInBounds_toArray]
 ·have:=j8 xs k
  lia
inductive Mz (x:V) (y:V) (H:Hp) (Q:VK):Prop
 |mk (l:_) (k:_) (xs:_) (h1:x= .ref l) (h2:y= .int k) (h3:H l=some (.lst xs)) (h4: -(2 ^ 63)<=k) (h5:k<2 ^ 63) (h6:xs.length*k.toNat<=η) (h7:∀p,H p=none->Q (.ref p) (F9 H p (.lst (List.replicate k.toNat xs).flatten)))
def DS:R2:=fun x y H Q=>Mz x y H Q
theorem AC{α:Type}(xs:List α)(k:Nat):(List.replicate k xs).flatten.length=k*xs.length:=by
 induction k with
 |zero=>simp
 |succ k ih=>rw[Fj,FC,Jt,ih,Nat.succ_mul,Nat.add_comm]
theorem tj:zt X (binaryOp .Mult) DS:=by
 intro MT s σ H x y v u Q I rx ry h;obtain⟨l,k,xs,rfl,rfl,hH,h1,h2,hz,q⟩:=h;cases rx;obtain⟨t,rfl⟩:=ry;obtain⟨z,its,n,r,hl,e⟩:=I.lstM hH;have hlen:its.toArray.size*k.toNat<=η:=by rw[Jp,<- hl];exact hz
 have hcap:¬its.toArray.size*k.toNat>(2 ^ 63-1)/8:=by
  have:(η:Nat)<=(2 ^ 63-1)/8:=by decide
  lia
 have hfit:¬(!δ.List.listFitsIndex k)=true:=by
  rw[fitsIndex_both h1 h2];exact JI
 have hlong:¬δ.List.listTooLong (its.toArray.size*k.toNat)=true:=by
  rw[vt hlen];exact JI
 have hnew:List.foldl (fun x1 x2=>x1++x2) (List.toArray []) (List.replicate (if its.toArray.isEmpty=true then 0 else k.toNat) its.toArray)=(List.replicate k.toNat its).flatten.toArray:=by
  have f0:∀m:Nat,List.foldl (fun x1 x2=>x1++x2) (List.toArray []) (List.replicate m its.toArray)=(List.replicate m its).flatten.toArray:=fun m=>by
   have:=jR its m []
   rw[List.nil_append]at this;exact this
  rw[f0];cases its with
  |nil=>simp
  |cons a r'=>rw[Jc (by simp)]
 refine wpAny_binaryOp_repeat_ref (T:="list") (U:="int") (by decide) #[_,e,rfl] (fun s'=>typeIs_int s' k t) noFill_list_mul F.fills_int_mul F.slot_int_rmul repeat_list F.slot_int_index.lookup
  (call_meets F.slot_int_rmul (typeIs_int s k t) F.entry_int_rmul (F.args_int_rmul_2 _ _) (int___rmul___int_list k t l its.toArray n)
   #[e,rfl,#[_,e,rfl],call_meets F.slot_list_mul #[_,e,rfl] F.entry_list_mul (F.args_list_mul_2 _ _) (AutoListH.list___mul___list_int_3 l its.toArray n k t hfit hcap hlong) #[e,?_]])
 rw[hnew]
 exact#[.ref _,_,I.lnew (t':=s.toks) (r.rep k.toNat) (by rw[AC,Nat.mul_comm];exact hz),rfl,q _ I.fresh]
end
end L2
namespace Att
open PySem PySem.W PySem.Calls PyProof.Rows
theorem iB{P:Params}{h:Ψ}:∀(ns:List Int) (vs:List Γ),WellAll P h vs (ns.map WData.int)->IntsAre vs ns:=by
 intro ns
 induction ns with
 |nil=>
  intro vs w;rw[Fh]at w;cases w;exact .nil
 |cons n ns ih=>
  intro vs w;rw[JU]at w;cases w with
  |cons a b=>
   cases a;exact .cons _ _ (ih _ b)
theorem tN{l:OpenLaw}{n:Nat}(hn:l.most=some n){P:Params}{h:Ψ}{args:List WData}{vals:List Γ}
  (hpre:l.row.toRowW.claim.pre args=true)(hwl:WellAll P h vals args):
  ∃a vs ns,vals=[Γ.ref a]/\args=[WData.list (ns.map WData.int)]/\h.get? a=some {cls:= .type "list",data:= .seq vs.toArray}/\IntsAre vs ns/\ns.length<=n:=by
 have hsh:WShape.hasAll [] args [.list .int]=true:=(pre_splitW hpre).1
 have hc:l.pre.holds [] {args:=args}=true:=(pre_splitW hpre).2
 obtain⟨d,r,rfl,h1,h2⟩:=hasAllW_cons hsh
 obtain rfl:=hasAllW_nil h2
 obtain⟨xs,rfl,h3⟩:=hasW_list h1;obtain⟨ns,rfl⟩:=items_int h3;have hlen:ns.length<=n:=by
  unfold OpenLaw.pre at hc;have h4:(WTm.not (.lt (.lit (.int (n:Int))) (.len (.arg 0)))).holds [] {args:=[.list (ns.map .int)]}=true:=by
   have h4:=(holds_andW hc).1;rw[hn]at h4;exact h4
  have h5:=condW_of h4 (w_not (w_lt w_lit (w_len_list (w_arg rfl))));rw[Je]at h5;refine Nat.le_of_not_lt fun q=>?_
  have q':(n:Int)<((ns.length:Nat):Int):=by lia
  first
   |(rw[Jh q']at h5;exact absurd h5 (by decide))
   |(simp at h5;lia)
 cases hwl with
 |cons w1 w2=>
  cases w2;cases w1 with
  |list ho hall=>exact#[_,_,ns,rfl,rfl,ho,iB ns _ hall,hlen]
theorem uQ(l:OpenLaw)(args:List WData):l.row.toRowW.claim.post args (.bool true) args=true:=
 postW_of (r:=l.row.toRowW) (X:=(true==true))
  (show WShape.has [] (.bool true) .bool=true by first|rfl|decide|simp [WShape.has,WShape.arms,WShape.armsAll])
  (show(WTm.eq .res (.lit (.bool true))).value [] {args:=args,res:=some (.bool true),after:=args}=some (.bool (true==true))from w_eq_bool (w_res rfl) w_lit) rfl
theorem attach_call{l:OpenLaw}{n:Nat}{q:Ξ}{loose:List Str}{XP:(Str->Option Γ)->Ψ->Prop}{YP:Ω->Ψ->Prop}{d:DefRec}
  (hn:l.most=some n)(hdf:d.params.defaults=[])
  (call:∀(w:Ω) (s₀ s₁:Θ) (mg mb:F3) (fa:Δ) (o:Obj) (pm cd doc:Γ) (a:Δ) (vs:List Γ) (ns:List Int),
   Ground q loose [] XP w s₀ mg mb s₁.heap->YP w s₁.heap->
   s₁.heap.get? fa=some o->o.data= .func (docDef d.name d.params d.body d.scope pm cd doc)->s₁.heap.CodeRec cd d.name->mg d.name=some (.ref fa)->
   s₁.heap.get? a=some {cls:= .type "list",data:= .seq vs.toArray}->IntsAre vs ns->ns.length<=n->s₁.gens= (List.toArray [])->
   codeAny (model l.prog w) callerA (.call (.ref fa) #[[.ref a],[]]) (fun r s'=>r= .ok (.ret (.bool true))/\OldK s₁.heap s'.heap/\s'.os=s₁.os/\AllBare s'.gens) s₁):
  WalkO q loose XP YP l.row.toRowW d [] (fun f vs=>PySem.call f vs):=by
 intro w s₀ s₁ mg mb G Y fa o pm cd doc dV kV ho hd hcd hD hmg hg args vals as hpre hlay hrd hwl hlo
 obtain rfl:dV= .none:=Dflts.none hD hdf
 obtain rfl:kV= .none:=Dflts.noKw hD
 obtain⟨a,vs,ns,rfl,rfl,hobj,hints,hlen⟩:=tN hn hpre hwl;refine enter_call (E3 (call w s₀ s₁ mg mb fa o pm cd doc a vs ns G Y ho (fd_plain hd) hcd hmg hobj hints hlen hg) fun r s' hq=>?_)
 obtain⟨rfl,h2,h3,h4⟩:=hq
 exact#[.inl #[.bool true,.bool true,[],rfl,fun _=>rfl,.bool true,uQ l _,fun _=>#[List.Pairwise.nil,fun _ hm=>(nomatch hm)]],h2,h3,h4]
end Att
namespace L2
open PySem PySem.Spec PyProof.Rows
theorem fo:∀{vs:List Γ} {ns:List Int},IntsAre vs ns->Ga (ns.map V.int) vs
 |_,_,.nil=> .nil
 |_,_,.cons n t h=> .cons #[t,rfl] (fo h)
def xb(H:Hp):Prop:=∀b,H b=none\/∃o xs,H b=some (.frz o (.lst xs))
theorem wL{P:Ξ}{w:Ω}{K:μ}{mg mb:F3}{CX:f7}{k:Nat}{fa a:Δ}{fd:FuncData}{x:Str}{sp:Sp}{s₁:Θ}{vs:List Γ}{ns:List Int}
  (KX:K.In s₁.heap)(hns:s₁.heap.Ns θ mg)(hb:s₁.heap.Ns builtinsNs mb)(hbb:∀x:Str,x≠"__name__"->mb x=bootBuiltins x)(hlim:s₁.heap.NoLimit)(hg:s₁.gens= (List.toArray []))
  (ha:s₁.heap.get? a=some {cls:= .type "list",data:= .seq vs.toArray})(hi:IntsAre vs ns)(hl:ns.length<=η)(hr:Gq k callerA)
  (F:∀base:Ψ,K.In base->base.Ns θ mg->HG P w K mg base CX k fa fd [x] sp)(hbind:∀(s:Θ) (u:Γ),BindsTo s fd #[[u],[]] [(x,u)])
  (hsp:∀H:Hp,xb H->Gd K H a (ns.map V.int)->sp [.ref a] H (fun v _=>v= .bl true) fun _ _ _=>False)
  (hCX:∀H e s',CX [] H s₁ (fun _ _ _=>False) e s'->False):
  codeAny (model P w) callerA (.call (.ref fa) #[[.ref a],[]]) (fun r s'=>r= .ok (.ret (.bool true))/\OldK s₁.heap s'.heap/\s'.os=s₁.os/\AllBare s'.gens) s₁:=by
 have rv:=fo hi;have lenV:=hi.length;have core:∀H:Hp,xb H->Gd K H a (ns.map V.int)->HJ P w H s₁.heap->(∀b,H b≠none->b=a)->(H a≠none->K.lookup a=none)->
   codeAny (model P w) callerA (.call (.ref fa) #[[.ref a],[]]) (fun r s'=>r= .ok (.ret (.bool true))/\OldK s₁.heap s'.heap/\s'.os=s₁.os/\AllBare s'.gens) s₁:=by
  intro H hO hS hok hA hK;have base_of:∀{b:Δ} {o:Obj},s₁.heap.get? b=some o->H b=none->(cK s₁.heap H).get? b=some o:=fun e n=>vM e n
  have noA:∀{b:Δ} {o:Obj} {es:Array DictEntry} {ep:Nat},s₁.heap.get? b=some o->o.data= .dict es ep->H b=none:=fun{b o es ep} e d=>by
   cases q:H b with
   |none=>rfl
   |some u=>
    have e':b=a:=hA b (by rw[q];simp)
    subst e';rw[ha]at e;cases e
    have d':Data.seq vs.toArray _=Data.dict es ep:=d
    cases d'
  have nsK:∀{b:Δ} {m:F3},s₁.heap.Ns b m->(cK s₁.heap H).Ns b m:=fun{b m} ⟨o,es,ep,e,d,r⟩=>#[o,es,ep,base_of e (noA e d),d,r]
  have hKb:K.In (cK s₁.heap H):=fun b o e=>base_of (KX b o e) (by
   cases q:H b with
   |none=>rfl
   |some u=>
    have e':b=a:=hA b (by rw[q];simp)
    subst e';rw[hK (by rw[q];simp)]at e;cases e)
  have hM:MO K mg (cK s₁.heap H):=#[hKb,nsK hns,#[mb,nsK hb,hbb],let⟨mc,h1,h2⟩:=hlim;#[mc,nsK h1,h2]]
  have e0:Ip P w K mg (cK s₁.heap H) callerA [] s₁ H:=#[rfl,hM,fun b o e=>Ao e,Fx (ut _ _),trivial,fun b hb=>absurd (show b∈([]:List Δ)from hb) (by simp),hok,.of_eq hg]
  refine E3 ((F _ hKb (nsK hns)).run callerA [] s₁ H #[[.ref a],[]] [.ref a] [.ref a] _ _ hr e0 (hbind s₁ (.ref a)) (.cons rfl .nil) (hsp H hO hS)) fun r s' h=>?_
  cases r with
  |error e=>exact(hCX H e s' h).elim
  |ok fl=>
   cases fl with
   |next=>exact False.elim h
   |brk=>exact False.elim h
   |cont=>exact False.elim h
   |ret u=>
    obtain⟨v,H',os,bare,un,hok',r',q⟩:=h;have q':v= .bl true:=q
    subst q'
    obtain rfl:u=Γ.bool true:=r'
    refine#[rfl,OldK.of_keep fun b o e=>?_,os,bare]
    cases q:H b with
    |none=>exact un.keep b o e q (by intro z;exact absurd (show b∈([]:List Δ)from z) (by simp)) (by simp)
    |some u=>
     rcases hO b with z|⟨ob,xs,z⟩
     ·rw[q]at z;cases z
     ·have z2:=un.frzs b ob _ z
      obtain⟨e1,_⟩:=hok b _ z;obtain⟨e2,_⟩:=hok' b _ z2;rw[e]at e1;cases e1
      exact e2
 cases hk:K.lookup a with
 |some o=>
  have e:=KX a o hk;rw[ha]at e;cases e;refine core (fun _=>none) (fun _=> .inl rfl) (.inr #[_,vs.toArray,_,hk,rfl,rfl,rfl,by rw[Jp,lenV];exact hl,by simpa using rv]) (fun b u z=>by have z':(none:Option HO)=some u:=z;cases z') (fun b z=>absurd rfl z) fun z=>absurd rfl z
 |none=>
  refine core (fun b=>if b=a then some (.frz {cls:= .type "list",data:= .seq vs.toArray} (.lst (ns.map V.int)))else none) (fun b=>?_) (.inl (.inr #[{cls:= .type "list",data:= .seq vs.toArray},Jb rfl])) (fun b u z=>?_) (fun b z=>?_) fun _=>hk
  ·by_cases hb:b=a
   ·exact .inr #[_,_,Jb hb]
   ·exact .inl (Jc hb)
  ·by_cases hb:b=a
   ·have z':=(Jb hb).symm.trans z
    cases z';subst hb
    exact#[ha,by rw[Je];exact hl,vs,_,rv,ha]
   ·have z':=(Jc hb).symm.trans z
    cases z'
  ·by_cases hb:b=a
   ·exact hb
   ·exact absurd (Jc hb) z
theorem Al{l:W.OpenLaw}{n k:Nat}{q:Ξ}{loose:List Str}{XP:(Str->Option Γ)->Ψ->Prop}{YP:Ω->Ψ->Prop}{d:DefRec}{K:Params->μ}{CX:Ω->f7}{sp:Ω->Sp}{x:Str}
  (hn:l.most=some n)(hn2:n<=η)(hdf:d.params.defaults=[])(hr:Gq k callerA)
  (hY:∀(w:Ω) (h:Ψ),YP w h->(K w.params).In h)
  (F:∀(w:Ω) (mg:F3) (fa:Δ) (h:Ψ),(K w.params).In h->h.Ns θ mg->mg d.name=some (.ref fa)->
   ∃fd:FuncData,(∀(s:Θ) (u:Γ),BindsTo s fd #[[u],[]] [(x,u)])/\
    ∀base:Ψ,(K w.params).In base->base.Ns θ mg->HG l.prog w (K w.params) mg base (CX w) k fa fd [x] (sp w))
  (hsp:∀(w:Ω) (H:Hp) (a:Δ) (ns:List Int),ns.length<=n->xb H->Gd (K w.params) H a (ns.map V.int)->sp w [.ref a] H (fun v _=>v= .bl true) fun _ _ _=>False)
  (hCX:∀(w:Ω) (H:Hp) (s:Θ) (e:Γ) (s':Θ),CX w [] H s (fun _ _ _=>False) e s'->False):
  W.WalkO q loose XP YP l.row.toRowW d [] (fun f vs=>PySem.call f vs):=by
 refine Att.attach_call hn hdf fun w s₀ s₁ mg mb fa o pm cd doc a vs ns G Y ho hd hcd hmg hobj hints hlen hg=>?_
 have KX:=hY w _ Y;obtain⟨fd,hb,hF⟩:=F w mg fa _ KX G.T.g hmg;exact wL KX G.T.g G.T.b G.T.builtins G.T.nolimit hg hobj hints (JQ hlen hn2) hr hF hb (fun H hO hS=>hsp w H a ns hlen hO hS) fun H e s'=>hCX w H s₁ e s'
def zN(s:ε)(j:Nat):ε:=match s with
 | .ClassDef _ _ _ body _ _ _ _ _ _ _=>body.getD j (.Pass #[0,0,0,0])
 |_=> .Pass #[0,0,0,0]
def QH(s:ε):Arguments:=match s with
 | .FunctionDef _ a _ _ _ _ _ _ _ _=>a
 |_=>{posonlyargs:=[],args:=[],vararg:=none,kwonlyargs:=[],kw_defaults:=[],kwarg:=none,defaults:=[]}
def zO(s:ε):List ε:=match s with
 | .FunctionDef _ _ b _ _ _ _ _ _ _=>b
 |_=>[]
def qi(s:ε):Scope:=match s with
 | .FunctionDef _ _ _ _ _ _ sc _ _ _=>sc
 |_=>{kind:= .function,names:=[],isGenerator:=false,isCoroutine:=false}
abbrev bh:f7:=fun _ _ _ _ _ _=>False
abbrev E0:XK:=fun _ _ _=>False
theorem kG{X:Cx}:eW bh X E0:=fun _ _ _ _ _ _ _ h=>h.elim
structure IQ(K:μ)(x MU:Str)(st:ε)(f:Δ)(fd:FuncData):Prop where
 ex:∃(oc:Γ) (od:Option Δ) (kV doc pm:Γ) (an:Option Δ) (cdv ct:Γ) (osl:Array (Option Γ)),
  fd=PySem.W.fnOf x MU (QH st) (zO st) (qi st) .none kV doc pm an cdv ct/\K.lookup f=some #[oc,od,.func fd,osl]/\PySem.W.codeIn K cdv MU=true
 kp:PySem.W.keepIn K (.ref f)=true
section
variable{P:Ξ}{w:Ω}{K:μ}{mg:F3}{base:Ψ}
theorem IQ.ok{x MU:Str}{st:ε}{f:Δ}{fd:FuncData}{N ps:List Str}{k:Nat}{sp:Sp}(F:IQ K x MU st f fd)(S:F6 N ps (qi st))(len:∀vs H Q E,sp vs H Q E->vs.length=ps.length)
  (hbody:∀(cdv:Γ) (A:Around) (outer:List Env) (s:Θ) (H:Hp) (vs:List V) (Q:VK) (E:XK),Gq k (A.deeper (envOfC MU (qi st) s.heap.objs.size f cdv))->sp vs H Q E->
   ∃t,Il (bK bh P w K mg base N MU (qi st) f cdv A outer s H E).nox (zO st) t/\t {nx:=fun _ H'=>Q .non H',rt:=Q} (Zi N vs) H):HG P w K mg base bh (k+1) f fd ps sp:=by
 obtain⟨oc,od,kV,doc,pm,an,cdv,ct,osl,rfl,lk,hcd⟩:=F.ex;refine C4 lk hcd S len fun A outer s H vs Q E hr hsp=>?_
 obtain⟨t,h,q⟩:=hbody cdv A outer s H vs Q E hr hsp
 exact#[t,h.nox,q]
theorem IQ.binds{x MU:Str}{st:ε}{f:Δ}{fd:FuncData}{ps:List Str}(F:IQ K x MU st f fd)
  (h:∀(kV doc pm:Γ) (an:Option Δ) (cdv ct:Γ) (us:List Γ),us.length=ps.length->bindArgs (W.fnOf x MU (QH st) (zO st) (qi st) .none kV doc pm an cdv ct) #[us,[]]=pure (ps.zip us)):G9 K fd ps []:=by
 obtain⟨oc,od,kV,doc,pm,an,cdv,ct,osl,rfl,lk,hcd⟩:=F.ex;exact .all (h kV doc pm an cdv ct)
theorem lC{x MU:Str}{st:ε}{f:Δ}{oc:Γ}{od an:Option Δ}{osl:Array (Option Γ)}{kV doc pm cdv ct:Γ}(l:K.lookup f=some #[oc,od,.func (W.fnOf x MU (QH st) (zO st) (qi st) .none kV doc pm an cdv ct),osl])
  (c:W.codeIn K cdv MU=true)(k:W.keepIn K (.ref f)=true):IQ K x MU st f (W.fnOf x MU (QH st) (zO st) (qi st) .none kV doc pm an cdv ct):=#[#[oc,od,kV,doc,pm,an,cdv,ct,osl,rfl,l,c],k]
end
theorem zJ{A B:Prop}(h:B):if false=true then A else B:=by
 rw[Jc JI];exact h
theorem zZ{A B:Prop}(h:A):if true=true then A else B:=by
 rw[Jb rfl];exact h
theorem qY{c A B:Prop} [Decidable c](h1:c->A)(h2:¬c->B):if c then A else B:=by
 by_cases h:c
 ·rw[Jb h]
  exact h1 h
 ·rw[Jc h]
  exact h2 h
theorem rH{c A B:Prop} [Decidable c](hc:c)(h:B):if(!decide c)=true then A else B:=by
 rw[Jh hc];exact zJ h
def F5(H H':Hp):Prop:=∀b o,H b=some o->H' b=some o
theorem F5.refl(H:Hp):F5 H H:=fun _ _ h=>h
theorem F5.trans{H H1 H2:Hp}(a:F5 H H1)(b:F5 H1 H2):F5 H H2:=fun c o h=>b c o (a c o h)
theorem F5.seq{K:μ}{H H':Hp}{a:Δ}{xs:List V}(e:F5 H H')(h:Gd K H a xs):Gd K H' a xs:=by
 rcases h with(h|⟨o,h⟩)|h
 ·exact .inl (.inl (e _ _ h))
 ·exact .inl (.inr #[o,e _ _ h])
 ·exact .inr h
end L2
namespace L3
open PySem PySem.Spec PyProof.Rows L2
def qX(X:Cx)(N:List Str)(scope:Scope)(cl:List (Str×Δ))(C:Δ)(s:Θ)(H:Hp)(fp:List Δ):Cx:=
 {X with N:=N,s₀:=s,H₀:=H,env:=compEnvC scope cl C X.env,outer:=X.stack,ex:=fp,fn:=fun _=>false,pn:=[],xe:=fun _ _=>False}
structure GI(X:Cx)(scope:Scope)(fr:List Str)(js:List Nat):Prop where
 kind:scope.kind= .function
 names:∀x∈scope.names,x.2= .local->scope.names.lookup x.1=some .local
 nocell:∀x∈scope.names,x.2≠ .cell
 free:∀x∈scope.names,x.2= .free->x.1∈fr
 len:js.length=fr.length
 at_:∀(i j:Nat) (y:Str),js[i]? =some j->fr[i]? =some y->X.N[j]? =some y/\X.env.kindOf y=some .cell/\(relabel scope X.env).names.lookup y=some .cell
theorem Q9{α:Type}{y:Str}:∀{l:List (Str×α)},y∈l.map (·.1)->∃c,l.lookup y=some c
 | [],h=>by simp at h
 |(n,a)::r,h=>by
  cases e:y==n with
  |true=>exact#[a,by simp [EB,e]]
  |false=>
   have hr:y∈r.map (·.1):=by
    rcases Jr.mp h with z|z
    ·exact absurd z (by simpa using e)
    ·exact z
   obtain⟨c,hc⟩:=Q9 hr
   exact#[c,by simp [EB,e,hc]]
def σ0(k:Nat)(js:List Nat)(σ:L2.St):L2.St:=List.replicate k none++js.map fun j=>(σ[j]?).join
def xr(k:Nat)(js:List Nat)(g:TG)(te:TE)(σ:L2.St)(Q:VK)(J:It)(H1:Hp):Prop:=∃W:Nat->Nat->List V->L2.St->Hp->Prop,(∃m,W 0 m [] (σ0 k js σ) H1)/\∀i m ys τ H,W i m ys τ H->
 (J.stop i H/\∀p,H p=none->Q (.ref p) (F9 H p (.lst ys)))\/(J.go i H/\ys.length<η/\∀x H',J.yld i H x H'->g x τ H' fun τ2 H2=>∃N:V->Hp->Prop,(∀v H3,N v H3->∃m',m'<m/\W (i+1) m' (ys++[v]) τ2 H3)/\te τ2 H2 N)
def gX(k:Nat)(js:List Nat)(wi:TI)(g:TG)(te:TE):TE:=fun σ H Q=>wi σ H (xr k js g te σ Q)
section
variable{prog:Ξ}{w:Ω}{A:Around}{R:Result->Θ->Prop}{s:Θ}
theorem lP{elt target iter:Φ}{scope:Scope}{pos:Pos}{it acc:Γ}{env:Env}(I:Nat->Θ->Prop)
  (turn:∀n s,I n s->ζ (model prog w) A (pyNext it) (fun r s₁=>match r with
   |none=>R (.ok .next) s₁
   | some v=>ζ (model prog w) A (letOwnedTupleGo target it v) (fun _ s₁'=>ζ (model prog w) A (assign target env v) (fun _ s₂=>ζ (model prog w) A (eval elt env) (fun x s₃=>
     ζ (model prog w) A (call (.builtin "list.append") [acc,x]) (fun _ s₄=>∃m,m<n/\I m s₄) (fun _ _=>False) s₃)
     (fun _ _=>False) s₂) (fun _ _=>False) s₁') (fun _ _=>False) s₁) (fun _ _=>False) s)
  (n:Nat)(h:I n s):
  codeAny (model prog w) A (.compLoop (.ListComp elt [#[target,iter,[],0]] scope pos) 0 it acc env) R s:=by
 refine codeAny_loop rfl I (fun n s hI=>?_) n h
 show ζ _ _ ((compTurn (.ListComp elt [#[target,iter,[],0]] scope pos) 0 it acc env).onRaise (fun x=>do noteFrame x env;theTreesLotGoes x)) _ _ s
 refine wpAny_noted ?_
 rw[compTurn_list1];refine Ja (Eh (Ja (Jw (turn n s hI) (fun r s₁ h₁=>?_) fun _ _ h'=>h'.elim)))
 cases r with
 |none=>exact Jd h₁
 |some v=>
  refine Ja (Jw h₁ (fun _ s₁' h₁'=>?_) fun _ _ h'=>h'.elim)
  exact Ja (Jw h₁' (fun _ s₂ h₂=>Ja (Ja (Jw h₂ (fun x s₃ h₃=>Ja (Jw h₃
   (fun _ s₄ h₄=>Jd (Jd #[rfl,h₄])) fun _ _ h'=>h'.elim)) fun _ _ h'=>h'.elim))) fun _ _ h'=>h'.elim)
end
variable{X:Cx}
structure LM(X:Cx)(MT:F4)(H:Hp)(C:Δ):Prop where
 free:H C=none
 loc:C≠X.env.locals
 new:X.s₀.heap.objs.size<=C
 cell:∀x c,X.env.cells.lookup x=some c->c≠C
 pin:∀p∈X.pn++MT,p.1≠C
theorem gE{scope:Scope}{cl:List (Str×Δ)}{fr own:List Str}{js:List Nat}{MT:F4}{s2:Θ}{σ:L2.St}{H2:Hp}{tg:Φ}{J:It}{fp:List Δ}{it:Δ}{tn:Nat->Ψ->Prop}{h₁:Ψ}{g:Nat}{m:F3}
  (hcl:∀y c,cl.lookup y=some c->X.env.cells.lookup y=some c)(hfr:cl.map (·.1)=fr)(S:GI X scope fr js)(I2:L2.F8 X MT σ H2 s2)(T:HV X.prog X.w X.K tg J fp it tn)(st2:tn 0 s2.heap)(f2:∀b∈fp,Zp X MT H2 b)
  (hC:g=s2.heap.objs.size+1)(old:∀b o,s2.heap.get? b=some o->h₁.get? b=some o)(hns₁:h₁.Ns g m):
  (∀b∈fp,b<s2.heap.objs.size)/\L2.F8 (qX X (own++fr) scope cl g s2 H2 fp) [] (σ0 own.length js σ) H2 {s2 with heap:=h₁,toks:=s2.toks+([]:List (Str×Γ)).length}/\s2.heap.objs.size∉cq X.stack/\(∀x c,cl.lookup x=some c->c≠s2.heap.objs.size)/\
  ∀{H':Hp} {pl:F4},(∀b∈fp,H' b=none)->(∀p∈pl,p.1=s2.heap.objs.size)->∀b∈fp,Zp (qX X (own++fr) scope cl g s2 H2 fp) pl H' b:=by
 have below:∀b,b<s2.heap.objs.size->b≠g/\b≠s2.heap.objs.size:=fun b hb=>#[by rw[hC];exact Jk (Eo hb),Jk hb]
 let Y:Cx:=qX X (own++fr) scope cl g s2 H2 fp
 have fplt:∀b∈fp,b<s2.heap.objs.size:=fun b hb=>by obtain⟨o,e,_⟩:=T.obj _ _ st2 b hb;exact Ji e
 have okY:(qX X (own++fr) scope cl g s2 H2 fp).Ok:=by
  refine#[I2.ok.mod,S.kind,I2.ok.glob,I2.ok.blt,by show s2.heap.objs.size<=g;lia,?_,?_,?_,I2.ok.hd,I2.ok.frames,.inl rfl,?_,I2.bs,JQ I2.ok.bsz I2.sz,?_,?_,I2.stack,I2.stkFree]
  ·exact fun x y c e1 e2=>I2.ok.inj x y c (hcl x c e1) (hcl y c e2)
  ·intro x hx
   have hx':(relabel scope X.env).names.lookup x=some .cell\/(relabel scope X.env).names.lookup x=some .free:=hx
   have hm:∃k,(x,k)∈scope.names/\k= .free:=by
    have aux:∀kk:NameKind,(kk= .cell\/kk= .free)->(relabel scope X.env).names.lookup x=some kk->∃k,(x,k)∈scope.names/\k= .free:=by
     intro kk hk el;obtain⟨⟨n,k⟩,hmem,e⟩:=Jq.mp (Ff el)
     dsimp only at e
     split at e
     ·rename_i hcond
      cases e;refine#[k,hmem,?_]
      simp only[Ju,JT]at hcond;exact hcond.1.1
     ·cases e
      rcases hk with z|z
      ·subst z;exact absurd rfl (S.nocell _ hmem)
      ·exact#[_,hmem,z]
    rcases hx' with z|z
    ·exact aux _ (.inl rfl) z
    ·exact aux _ (.inr rfl) z
   obtain⟨k,hmem,hk⟩:=hm;exact Q9 (l:=cl) (by rw[hfr];exact S.free _ hmem hk)
  ·exact fun x c e _=>nomatch e
  ·refine fun b hb=>#[?_,fun x c e=>(f2 b hb).2.2.2.2.1 x c (hcl x c e)]
   show b≠g
   exact(below b (fplt b hb)).1
  ·intro b o e hb
   rcases(f2 b hb).2.2.2.1 with z|z
   ·exact I2.ok.noex b o e z
   ·exact absurd (JM (Ji e) (JQ I2.ok.bsz z)) (Et _)
  ·intro b hb hf
   rcases Jr.mp (I2.stkSub b hf)with z|z
   ·exact(f2 b hb).2.1 z
   ·exact(f2 b hb).2.2.1 z
 have lenσ:(σ0 own.length js σ).length=(own++fr).length:=by unfold σ0;simp [S.len]
 have IY:F8 Y [] (σ0 own.length js σ) H2 {s2 with heap:=h₁,toks:=s2.toks+([]:List (Str×Γ)).length}:=by
  refine#[okY,rfl,I2.bare,Un.kept old,#[_,hns₁,?_],?_,?_,?_,fun p hp=>absurd (show p∈([]:F4)from hp) (by simp),I2.hok.kept old,lenσ]
  ·intro i x v hN hv _
   have hN':(own++fr)[i]? =some x:=hN
   unfold σ0 at hv
   by_cases hlt:i<own.length
   ·rw[J0 (by simpa using hlt),List.getElem?_replicate]at hv
    split at hv<;>cases hv
   ·rw[JZ (by simpa using Nat.le_of_not_lt hlt),List.length_replicate,Jn]at hv
    rw[JZ (Nat.le_of_not_lt hlt)]at hN';cases ej:js[i-own.length]? with
    |none=>rw[ej]at hv;cases hv
    |some j=>
     rw[ej]at hv;have hσ:σ[j]? =some (some v):=by
      have hv':(σ[j]?).join=some v:=JG hv
      cases q:σ[j]? with
      |none=>rw[q]at hv';cases hv'
      |some o=>rw[q]at hv';have:o=some v:=hv';rw[this]
     obtain⟨hNj,hk,hkr⟩:=S.at_ _ j x ej hN';obtain⟨m,hn,hl⟩:=I2.loc;obtain⟨u,ru,lk⟩:=hl j x v hNj hσ (.inr (.inl hk))
     refine#[u,ru,.inr ?_]
     rcases lk with⟨k1,_⟩|⟨_,c,ec,ic⟩
     ·rw[hk]at k1;cases k1
     ·obtain⟨c',hc'⟩:=Q9 (y:=x) (l:=cl) (by rw[hfr];exact J9 hN')
      have:c'=c:=by have:=hcl x c' hc';rw[ec]at this;exact(JG this).symm
      subst this;refine#[?_,c',hc',?_]
      ·show(relabel scope X.env).names.lookup x=some .cell\/(relabel scope X.env).names.lookup x=some .free
       exact .inl hkr
      ·obtain⟨oc,hoc,hd⟩:=ic
       exact#[oc,old _ _ hoc,hd]
  ·intro x c e
   obtain⟨v,oc,hoc,hd⟩:=I2.cell x c (hcl x c e)
   exact#[v,oc,old _ _ hoc,hd]
  ·exact I2.hok.fresh (by show s2.heap.objs.size<=g;lia)
  ·exact fun x c e=>I2.freeC x c (hcl x c e)
 have accfs:s2.heap.objs.size∉cq X.stack:=fun hf=>by
  rcases Jr.mp (I2.stkSub _ hf)with z|z
  ·exact absurd (by rw[<- z];exact Jf _:s2.heap.objs.size<=X.env.locals) (Nat.not_le.mpr I2.lt)
  ·exact I2.nofs (Jf _) z
 have acccell:∀x c,cl.lookup x=some c->c≠s2.heap.objs.size:=fun x c e z=>by
  obtain⟨v,oc,hoc,_⟩:=I2.cell x c (hcl x c e)
  exact absurd (Ji hoc) (by rw[z];exact Et _)
 have fpY:∀{H':Hp} {pl:F4},(∀b∈fp,H' b=none)->(∀p∈pl,p.1=s2.heap.objs.size)->∀b∈fp,Zp Y pl H' b:=fun{H' pl} hn hp b hb=>
  #[hn b hb,(below b (fplt b hb)).1,okY.exfs b hb,.inl hb,fun x c e=>(f2 b hb).2.2.2.2.1 x c (hcl x c e),fun p hpp=>by
   have hpp':p∈pl:=by simpa [Y,qX]using hpp
   rw[hp p hpp'];exact Ne.symm (below b (fplt b hb)).2]
 exact#[fplt,IY,accfs,acccell,fpY]
theorem gj{N:List Str}{scope:Scope}{cl:List (Str×Δ)}{MT pl:F4}{s2 s5:Θ}{σ τ:L2.St}{H2 H4:Hp}{fp:List Δ}{g:Nat}{ob:HO}(I2:L2.F8 X MT σ H2 s2)(f2:∀b∈fp,Zp X MT H2 b)(hC:g=s2.heap.objs.size+1)
  (I5:L2.F8 (qX X N scope cl g s2 H2 fp) pl τ H4 s5)(nacc:H4 s2.heap.objs.size=none)(hob:Gn X.prog X.w (F9 H4 s2.heap.objs.size ob) s5.heap s2.heap.objs.size ob):L2.F8 X MT σ (F9 H4 s2.heap.objs.size ob) s5/\LM X MT (F9 H4 s2.heap.objs.size ob) g:=by
 have below:∀b,b<s2.heap.objs.size->b≠g/\b≠s2.heap.objs.size:=fun b hb=>#[by rw[hC];exact Jk (Eo hb),Jk hb]
 have hDC:s2.heap.objs.size≠g:=by lia
 have B:=I5.base;have nC:H4 g=none:=I5.free
 refine#[?_,?_]
 ·refine I2.call' (s':=s5) (ch:=fp) I5.os #[B.keep,B.slot,fun b o e n hx=>?_,B.there,fun b xs e=>?_,fun b o u e=>?_,fun b ps e=>?_] ?_ I5.bare ?_
  ·rw[qj (below b (Ji e)).2];exact B.free b o e n hx
  ·have e1:=B.tups b xs e
   rw[qj (qk e1 nacc)];exact e1
  ·have e1:=B.frzs b o u e
   rw[qj (qk e1 nacc)];exact e1
  ·obtain⟨more,e1⟩:=B.tbls b ps e
   exact#[more,by rw[qj (qk e1 nacc)];exact e1]
  ·intro b u e
   by_cases hb:b=s2.heap.objs.size
   ·subst hb
    rw[qa]at e;cases e
    exact hob
   ·rw[qj hb]at e
    exact(I5.hok b u e).stay (fun c v _ q=>q) (fun c q=>by rw[qj (qk q nacc)];exact q) fun c xs q=>by rw[qj (qk q nacc)];exact q
  ·exact fun b hb=>#[(f2 b hb).2.2.2.1,(f2 b hb).2.1,(f2 b hb).2.2.2.2.1,(f2 b hb).2.2.2.2.2]
 ·have hge:s2.heap.objs.size<=g:=by lia
  refine#[by rw[qj (Ne.symm hDC)];exact nC,?_,JQ I2.sz hge,fun x c e z=>?_,fun p hp z=>?_]
  ·exact J7 (JM I2.lt hge)
  ·obtain⟨v,oc,hoc,_⟩:=I2.cell x c e
   exact absurd (JM (Ji hoc) hge) (by rw[z];exact Et _)
  ·exact absurd (JM (Ji (I2.pin p hp).1) hge) (by rw[z];exact Et _)
theorem kY{elt tg iter:Φ}{scope:Scope}{cl:List (Str×Δ)}{pos fpos:Pos}{fr own:List Str}{js:List Nat}{wi:TI}{g:TG}{te:TE}{use:Option (Γ->Sem Unit)}{Post:F2}
  {MT:F4}{s:Θ}{σ:L2.St}{H:Hp}{Q:VK}
  (hc:X.calm=true)(hi:PI X tg iter wi)(hclos:closureFor scope X.env=pure cl)(hcl:∀y c,cl.lookup y=some c->X.env.cells.lookup y=some c)(hfr:cl.map (·.1)=fr)
  (S:GI X scope fr js)
  (hg:∀C s H fp,PG (qX X (own++fr) scope cl C s H fp) tg g)(he:∀C s H fp,PE (qX X (own++fr) scope cl C s H fp) elt te)
  (hs:∀x,foldedSetIterable iter X.env x=pure x)
  (I:L2.F8 X MT σ H s)(h:gX own.length js wi g te σ H Q)
  (hfin:∀(acc C:Δ) (s5:Θ) (H':Hp) (m:F3),L2.F8 X MT σ H' s5->s5.heap.Ns C m->LM X MT H' C->Q (.ref acc) H'->compPost (model X.prog X.w) X.A X.xe use Post (.ref acc) C (.ok .next) s5):
  ζ (model X.prog X.w) X.A (comprehension (.ListComp elt [#[tg,iter,[],0]] scope pos) scope X.env fpos (newList []) false (eval iter X.env) use) Post X.xe s:=by
 refine wpAny_comprehension_free (use:=use) rfl hs hclos S.kind S.names (qu (hi MT s σ H _ I h) fun v s1 h1=>qu h1 fun itv s2 h2=>?_)
 obtain⟨it,fp,tn,J,H2,e,I2,T,st2,f2,W,⟨m0,w0⟩,turn⟩:=h2;subst e;refine J5 (wpAny_newFunctionEnv S.nocell (by intro y hy;simp at hy) (fun h₁ hns₁ hsb₁=>?_) S.kind)
 dsimp only at hns₁ hsb₁⊢
 generalize hH2:s2.heap.push {cls:= .type "list",dict:=none,data:= .seq ([]:List Γ).toArray}=G at hns₁ hsb₁⊢
 have hC:G.objs.size=s2.heap.objs.size+1:=by rw[<- hH2,JX]
 have hDC:s2.heap.objs.size≠G.objs.size:=by rw[hC];exact Jk (Ew _)
 have below:∀b,b<s2.heap.objs.size->b≠G.objs.size/\b≠s2.heap.objs.size:=fun b hb=>#[by rw[hC];exact Jk (Eo hb),Jk hb]
 have old:∀b o,s2.heap.get? b=some o->h₁.get? b=some o:=fun b o e=>hsb₁.extBut b o (below b (Ji e)).1 (Jj _ (hH2▸Jj _ e))
 have hacc:h₁.get? s2.heap.objs.size=some {cls:= .type "list",data:= .seq ([]:List Γ).toArray 0}:=hsb₁.extBut _ _ hDC (Jj _ (hH2▸Js _ rfl))
 let Y:Cx:=qX X (own++fr) scope cl G.objs.size s2 H2 fp
 obtain⟨fplt,IY,accfs,acccell,fpY⟩:=gE (own:=own) (js:=js) hcl hfr S I2 T st2 f2 hC old hns₁
 have loop:∀s₃:Θ,F8 Y [] (σ0 own.length js σ) H2 s₃->tn 0 s₃.heap->s₃.heap.get? s2.heap.objs.size=some {cls:= .type "list",data:= .seq ([]:List Γ).toArray 0}->
   codeAny (model X.prog X.w) X.A (.compLoop (.ListComp elt [#[tg,iter,[],0]] scope pos) 0 (.ref it) (.ref s2.heap.objs.size) (compEnvC scope cl G.objs.size X.env))
    (compPost (model X.prog X.w) X.A X.xe use Post (.ref s2.heap.objs.size) G.objs.size) s₃:=by
  intro s₃ I3 st3 ha3;refine lP (fun n s'=>∃i ys τ H' its k,F8 Y [(s2.heap.objs.size,{cls:= .type "list",data:= .seq its.toArray k})] τ H' s'/\tn i s'.heap/\(∀b∈fp,H' b=none)/\Ga ys its/\ys.length<=η/\W i n ys τ H') ?_ m0 ?_
  ·rintro n s4 ⟨i,ys,τ,H4,its,k,I4,st4,fr4,vl,hz,w4⟩
   have pin4:=I4.pin (s2.heap.objs.size,{cls:= .type "list",data:= .seq its.toArray k}) (by simp [Y,qX])
   rcases turn i n ys τ H4 w4 with⟨stop,qn⟩|⟨go,hlt,step⟩
   ·refine qu (T.done Y rfl rfl rfl hc i _ s4 τ H4 _ I4 (fpY fr4 (by simp)) st4 stop) fun r s5 zq=>?_
    obtain⟨hr,I5⟩:=zq;subst hr
    show compPost _ _ _ _ _ _ _ _ _
    obtain⟨m5,hn5,_⟩:=I5.loc;have pin5:=I5.pin (s2.heap.objs.size,{cls:= .type "list",data:= .seq its.toArray k}) (by simp [Y,qX])
    have nacc:H4 s2.heap.objs.size=none:=pin5.2.1
    have B:=I5.base;have nC:H4 G.objs.size=none:=I5.free
    obtain⟨z1,z2⟩:=gj (ob:= .lst ys) I2 f2 hC I5 nacc #[hz,its,k,vl,pin5.1]
    exact hfin s2.heap.objs.size G.objs.size s5 (F9 H4 s2.heap.objs.size (.lst ys)) m5 z1 hn5 z2 (qn _ nacc)
   ·refine qu (T.item Y rfl rfl rfl hc i _ s4 τ H4 _ I4 (fpY fr4 (by simp)) st4 go) fun r s5 zq=>?_
    obtain⟨u,hr,h5⟩:=zq;subst hr;refine qu h5 fun _ s6 zq=>?_
    obtain⟨x,H6,I6,r6,y6,st6,fr6⟩:=zq;have I6':=I6.pinned (fpY fr6 (by simp)) (T.obj _ _ st6)
    refine qu (hg _ _ _ _ _ s6 τ H6 x u _ I6' r6 (step x H6 y6)) fun _ s7 zq=>?_
    obtain⟨τ7,H7,I7,N,hN,q7⟩:=zq;refine qu (he _ _ _ _ _ s7 τ7 H7 _ I7 q7) fun v' s8 zq=>?_
    obtain⟨y,H8,I8,r8,n8⟩:=zq;obtain⟨m',hm',w8⟩:=hN _ _ n8;have pin8:=I8.pin (s2.heap.objs.size,{cls:= .type "list",data:= .seq its.toArray k}) (by simp [qX])
    have pinfp:∀b∈fp,∀o,s6.heap.get? b=some o->s8.heap.get? b=some o/\H8 b=none:=fun b hb o e=>by
     have:=I8.pin (b,o) (JH _ (JH _ (Q1 hb e)))
     exact#[this.1,this.2.1]
    refine wpAny_list_append_plain (items:=its.toArray) #[k,pin8.1] (fun h' ha' hs'=>?_) (by have:=vl.length;simp;lia)
    obtain⟨k',ha'⟩:=ha';have I9:F8 Y [] τ7 H8 {s8 with heap:=h'}:=by
     refine(I8.pins_of (pins':=[]) (by simp)).turned (t':=s8.toks) (it:=s2.heap.objs.size) (fun b o hb e=>(hs'.2 b hb).trans e) pin8.2.1 ?_ (.inr (Jf _)) (fun x c e=>acccell x c e) (fun p hp=>absurd (show p∈([]:F4)from by simpa [Y,qX]using hp) (by simp))
     exact hDC
    have ea:(its.toArray.push v')=(its++[v']).toArray:=by simp
    rw[ea]at ha';refine#[m',hm',i+1,ys++[y],τ7,H8,its++[v'],k',I9.pins_of ?_,T.keep _ _ _ st6 fun b hb o e=>(hs'.2 b (below b (fplt b hb)).2).trans (pinfp b hb o e).1,fun b hb=>?_,vl.append (.cons r8 .nil),?_,w8]
    ·intro p hp
     rw[Jl.mp hp]
     exact#[ha',pin8.2.1,hDC,accfs,fun v z=>by cases z]
    ·obtain⟨o,e,_⟩:=T.obj _ _ st6 b hb
     exact(pinfp b hb o e).2
    ·rw[Jt,EM];lia
  ·refine#[0,[],σ0 own.length js σ,H2,[],0,I3.pins_of ?_,st3,fun b hb=>(f2 b hb).1,.nil,JC _,w0]
   intro p hp;rw[Jl.mp hp]
   exact#[ha3,I2.hok.fresh (Jf _),hDC,accfs,fun v z=>by cases z]
 have st1:tn 0 h₁:=T.keep _ _ _ st2 fun b _ o e=>old b o e
 exact codeAny_compStart_list (loop _ IY st1 hacc) (T.self _ 0 _ _ _ st1 (loop _ IY st1 hacc))
theorem yT{elt tg iter:Φ}{scope:Scope}{cl:List (Str×Δ)}{pos:Pos}{fr own:List Str}{js:List Nat}{wi:TI}{g:TG}{te:TE}
  (hc:X.calm=true)(hi:PI X tg iter wi)(hclos:closureFor scope X.env=pure cl)(hcl:∀y c,cl.lookup y=some c->X.env.cells.lookup y=some c)(hfr:cl.map (·.1)=fr)
  (S:GI X scope fr js)
  (hg:∀C s H fp,PG (qX X (own++fr) scope cl C s H fp) tg g)(he:∀C s H fp,PE (qX X (own++fr) scope cl C s H fp) elt te)
  (hs:∀x,foldedSetIterable iter X.env x=pure x:=by intro _;rfl):
  PE X (.ListComp elt [#[tg,iter,[],0]] scope pos) (gX own.length js wi g te):=by
 intro MT s σ H Q I h;rw[eval_ListComp];refine kY (use:=none) hc hi hclos hcl hfr S hg he hs I h fun acc C s5 H' m I5 hn aw q=>?_
 exact#[m,hn,fun h' hs'=>#[.ref acc,H',I5.turned (t':=s5.toks) (fun b o hb e=>(hs'.2 b hb).trans e) aw.free aw.loc (.inr aw.new) aw.cell aw.pin,rfl,q]]
theorem Ap{elt tg iter:Φ}{scope:Scope}{cl:List (Str×Δ)}{pos spos py:Pos}{fr own:List Str}{js:List Nat}{wi:TI}{g:TG}{te:TE}{i:Nat}{y:Str}
  (hN:X.N.Nodup)(hi':X.N[i]? =some y)(hx:f8 X.env.scope y)
  (hc:X.calm=true)(hi:PI X tg iter wi)(hclos:closureFor scope X.env=pure cl)(hcl:∀y c,cl.lookup y=some c->X.env.cells.lookup y=some c)(hfr:cl.map (·.1)=fr)
  (S:GI X scope fr js)
  (hg:∀C s H fp,PG (qX X (own++fr) scope cl C s H fp) tg g)(he:∀C s H fp,PE (qX X (own++fr) scope cl C s H fp) elt te)
  (hs:∀x,foldedSetIterable iter X.env x=pure x:=by intro _;rfl)(hsw:swapsWith (.ListComp elt [#[tg,iter,[],0]] scope pos) (some (.Name y py)) spos.line X.env=pure true:=by rfl)
  (hf:X.fn y=true\/X.env.scope.names.lookup y=some .local:=by first|exact .inl rfl|exact .inr rfl|assumption):
  PS X (.Assign [.Name y py] (.ListComp elt [#[tg,iter,[],0]] scope pos) spos) (eG (gX own.length js wi g te) (QK i)):=by
 intro MT s σ H D I h;rw[exec_Assign_Name_used _ _ _ _ hsw];refine Ja (Eh (Ja ?_))
 show ζ _ X.A (do let _ <- comprehension (.ListComp elt [#[tg,iter,[],0]] scope pos) scope X.env _ (newList []) false (eval iter X.env) (some (assign (.Name y py) X.env))) _ _ s
 refine Ja (Jw (kY (use:=some (assign (.Name y py) X.env)) (Post:=fun _ s'=>SP X MT D .next s') hc hi hclos hcl hfr S hg he hs I h ?_) (fun _ s' hq=>Jd (Jd hq)) fun _ _ e=>e)
 intro acc C s5 H' m I5 hn aw q
 show ζ _ X.A (assign (.Name y py) X.env (.ref acc)) _ _ _
 refine wpAny_assign_Name (eR (v:= .ref acc) I5 hN hi' hx rfl (fun s6 I6 zq=>?_) hf)
 obtain⟨a,hs6,ha⟩:=zq;have hCa:C≠a:=by
  rcases ha with z|z
  ·rw[z];exact aw.loc
  ·exact Ne.symm (aw.cell _ _ z)
 refine#[m,hn.sameBut hs6 hCa,fun h' hs'=>?_]
 exact#[_,H',I6.turned (t':=s6.toks) (fun b o hb e=>(hs'.2 b hb).trans e) aw.free aw.loc (.inr aw.new) aw.cell aw.pin,q]
section
variable{js:List Nat}{te:TE}{σ:L2.St}{H:Hp}{Q:VK}{K:μ}
abbrev aA(js:List Nat)(σ:L2.St):L2.St:=js.map fun j=>(σ[j]?).join
abbrev bB(J:It)(js:List Nat)(te:TE)(σ:L2.St)(H1:Hp)(Q:VK):Prop:=xr 1 js (QK 0) te σ Q J H1
theorem cN{J:It}{n:Nat}(hn:n<=η)(item:Nat->V->Prop)(Pv:Nat->List V->Hp->Prop)(h0:Pv 0 [] H)(hgo:∀i ys H,i<n->Pv i ys H->J.go i H)(hst:∀ys H,Pv n ys H->J.stop n H)
  (hy:∀i ys H x H',i<n->Pv i ys H->J.yld i H x H'->H'=H/\item i x)
  (hs:∀i ys H x,i<n->ys.length=i->Pv i ys H->item i x->te (some x::aA js σ) H fun v H3=>Pv (i+1) (ys++[v]) H3)
  (hd:∀ys H,ys.length=n->Pv n ys H->∀p,H p=none->Q (.ref p) (F9 H p (.lst ys))):bB J js te σ H Q:=by
 refine#[fun i m ys τ H=>m=n-i/\i<=n/\ys.length=i/\Pv i ys H/\∃o,τ=o::aA js σ,#[n,by simp,JC _,rfl,h0,none,rfl],?_]
 rintro i m ys τ H ⟨rfl,hi,hl,p,o,rfl⟩
 by_cases hlt:i<n
 ·refine .inr #[hgo i ys H hlt p,by lia,fun x H' y=>?_]
  obtain⟨e,hx⟩:=hy i ys H x H' hlt p y;subst e
  exact#[fun v H3=>Pv (i+1) (ys++[v]) H3,fun v H3 p3=>#[n-(i+1),by lia,rfl,hlt,by simp [hl],p3,_,rfl],hs i ys _ x hlt hl p hx]
 ·have e:i=n:=by lia
  subst e;exact .inl #[hst ys H p,hd ys H hl p]
theorem ai{a:Δ}{xs:List V}(hn:xs.length<=η)(Pv:Nat->List V->Hp->Prop)(h0:Pv 0 [] H)(hl:∀i ys H,Pv i ys H->Gd K H a xs)
  (hs:∀i ys H x,xs[i]? =some x->ys.length=i->Pv i ys H->te (some x::aA js σ) H fun v H3=>Pv (i+1) (ys++[v]) H3)
  (hd:∀ys H,ys.length=xs.length->Pv xs.length ys H->∀p,H p=none->Q (.ref p) (F9 H p (.lst ys))):bB (c9 K a) js te σ H Q:=
 cN hn (fun i x=>xs[i]? =some x) Pv h0 (fun i ys H hi p=>#[xs,xs[i],hl _ _ _ p,by simp [hi]]) (fun ys H p=>#[xs,hl _ _ _ p,Jf _]) (fun i ys H x H' _ p y=>#[y.1,y.2 xs (hl _ _ _ p)]) (fun i ys H x _ hl p hx=>hs i ys H x hx hl p) hd
theorem aY{a:Δ}{xs:List V}(hn:xs.length<=η)(Pv:Nat->List V->Hp->Prop)(h0:Pv 0 [] H)(hl:∀i ys H,Pv i ys H->Gh K H a xs)
  (hs:∀i ys H x,xs[i]? =some x->ys.length=i->Pv i ys H->te (some x::aA js σ) H fun v H3=>Pv (i+1) (ys++[v]) H3)
  (hd:∀ys H,ys.length=xs.length->Pv xs.length ys H->∀p,H p=none->Q (.ref p) (F9 H p (.lst ys))):bB (jv K a) js te σ H Q:=
 cN hn (fun i x=>xs[i]? =some x) Pv h0 (fun i ys H hi p=>#[xs,xs[i],hl _ _ _ p,by simp [hi]]) (fun ys H p=>#[xs,hl _ _ _ p,Jf _]) (fun i ys H x H' _ p y=>#[y.1,y.2 xs (hl _ _ _ p)]) (fun i ys H x _ hl p hx=>hs i ys H x hx hl p) hd
theorem aI{lo:Int}{n:Nat}(hn:n<=η)(Pv:Nat->List V->Hp->Prop)(h0:Pv 0 [] H)
  (hs:∀i ys H,i<n->ys.length=i->Pv i ys H->te (some (.int (lo+i))::aA js σ) H fun v H3=>Pv (i+1) (ys++[v]) H3)
  (hd:∀ys H,ys.length=n->Pv n ys H->∀p,H p=none->Q (.ref p) (F9 H p (.lst ys))):bB (j3 lo n) js te σ H Q:=
 cN hn (fun i x=>x= .int (lo+i)) Pv h0 (fun i ys H hi p=>hi) (fun ys H p=>Jf _) (fun i ys H x H' _ p y=>y) (fun i ys H x hi hl p hx=>by subst hx;exact hs i ys H hi hl p) hd
end
end L3
namespace L3
open PySem PySem.Spec PyProof.Rows L2
section
variable{X:Cx}{MT:F4}{σ:L2.St}{H:Hp}{s:Θ}
theorem oC{h':Ψ}{t':Nat}{ch:List Δ}{a:Δ}{xs:List V}{its:List Γ}(I:L2.F8 X MT σ H s)(k:∀b o,b∉ch->s.heap.get? b=some o->h'.get? b=some o)(hch:∀b∈ch,Zp X MT H b)
  (ho:∀b∈ch,∃o,h'.get? b=some o)(ha:s.heap.objs.size<=a)(hz:xs.length<=η)(hv:Ga xs its)(ht:IsTup h' a its.toArray):L2.F8 X MT σ (F9 H a (.tup xs)) {s with heap:=h',toks:=t'}:=by
 have na:H a=none:=I.hok.fresh ha
 have nlt:∀b o,s.heap.get? b=some o->b≠a:=fun b o e=>Jk (JM (Ji e) ha)
 have nch:∀b u,H b=some u->b∉ch:=fun b u e z=>by rw[(hch b z).1]at e;cases e
 refine I.step (g':=s.gens) (d':=s.drawn) (ch:=ch) (fun b hb=>#[(hch b hb).2.2.2.1,(hch b hb).2.1,(hch b hb).2.2.2.2.1,(hch b hb).2.2.2.2.2]) (fun b o _ _ hc e _=>k b o hc e) (fun b o _ _ hc e _=>#[o.slots,k b o hc e])
  (fun b o _ e n=>by rw[qj (nlt b o e)];exact n) (fun b o hc e=>#[o,k b o hc e]) (fun b ys e=>by rw[qj (qk e na)];exact e) (fun b o u e=>by rw[qj (qk e na)];exact e)
  (fun b ps e=>#[(List.toArray []),by rw[qj (qk e na),e];simp]) (fun m hm=>?_) (fun b u e=>?_) I.bare
 ·obtain⟨o,es,ep,ho,r⟩:=hm
  exact#[o,es,ep,k _ o (fun z=>(hch _ z).2.1 rfl) ho,r]
 ·by_cases hb:b=a
  ·subst hb
   rw[qa]at e;cases e
   exact#[hz,its,hv,ht]
  ·rw[qj hb]at e
   refine(I.hok b u e).stay (fun c v hc q=>k c v ?_ q) (fun c q=>by rw[qj (qk q na)];exact q) fun c ys q=>by rw[qj (qk q na)];exact q
   rcases hc with z|z
   ·rw[z];exact nch b u e
   ·exact nch c _ z
def oH(K:μ)(a:Δ):It:=
 #[fun i H=>∃xs x,Gd K H a xs/\xs[i]? =some x,fun i H x H'=>∃p v,H p=none/\x= .ref p/\(∀xs,Gd K H a xs->xs[i]? =some v)/\H'=F9 H p (.tup [.int i,v]),fun i H=>∃xs,Gd K H a xs/\xs.length<=i]
theorem jF{P:Ξ}{w:Ω}{K:μ}{elts:List Φ}{x1}{pos:Pos}(a e it:Δ)(hei:e≠it):
  HV P w K (.Tuple elts x1 pos) (oH K a) [e,it] e (fun i h=>(∃old,IsEnum h e it i old)/\h.IsListIter it a i) where
 mem:=by simp
 obj:=fun i h st b hb=>by
  obtain⟨⟨old,he⟩,⟨o,ho,hc,hd⟩⟩:=st;rcases Jr.mp hb with z|z
  ·subst z
   refine#[_,he,fun v z=>?_]
   have z':Data.fields _=Data.cell v:=z
   cases z'
  ·rw[Jl.mp z]
   exact#[o,ho,fun v z=>by rw[hd]at z;cases z]
 keep:=fun i h h' st k=>#[let⟨old,he⟩:=st.1;#[old,k e (by simp) _ he],st.2.at fun o q=>k it (by simp) o q]
 item:=by
  intro X hP hw hK hc i MT s σ H E I hf st hg;subst hP hw hK;obtain⟨xs,x,hq,hx⟩:=hg;obtain⟨its,rv,p,hz⟩:=I.list hq;obtain⟨u,hu,ru⟩:=rv.get hx;obtain⟨⟨old,he⟩,hit⟩:=st;refine wpAny_pyNext_enum_item he hit p.isList (x:=u) (by simpa using hu) hei fun h' ho hit' ht hsz hk=>#[_,rfl,?_]
  refine wpAny_letOwnedTupleGo_enum ho fun h'' he'' hs''=>?_
  have helt:e<s.heap.objs.size:=Ji he
  have hilt:it<s.heap.objs.size:=by obtain⟨_,y,_⟩:=hit;exact Ji y
  refine#[.ref s.heap.objs.size,F9 H s.heap.objs.size (.tup [.int i,x]),?_,rfl,#[_,x,I.hok.fresh (Jf _),rfl,fun ys hy=>by rw[I.list_inj hy hq];exact hx,rfl],#[#[_,by simpa using he''],?_],?_]
  ·show L2.F8 X MT σ _ {s with heap:=h'',toks:=s.toks+1}
   refine oC (s:=s) (its:=[.int i s.toks,u]) I (ch:=[e,it]) (fun b o hb q=>?_) hf (fun b hb=>?_) (Jf _) (by show 2<=η;decide) (.cons #[_,rfl] (.cons ru .nil)) ?_
   ·have hb1:b≠e:=fun z=>hb (by simp [z])
    have hb2:b≠it:=fun z=>hb (by simp [z])
    exact(hs''.2 b hb1).trans (hk b o hb1 hb2 q)
   ·rcases Jr.mp hb with z|z
    ·subst z;exact#[_,he'']
    ·rw[Jl.mp z]
     obtain⟨o,y,_⟩:=hit'
     exact#[o,(hs''.2 it (Ne.symm hei)).trans y]
   ·exact#[_,(hs''.2 _ (J7 helt)).trans ht,rfl,_,rfl]
  ·exact hit'.extBut hs''.extBut (Ne.symm hei)
  ·intro b hb
   rw[qj]
   ·exact(hf b hb).1
   ·rcases Jr.mp hb with z|z
    ·subst z;exact Jk helt
    ·rw[Jl.mp z];exact Jk hilt
 done:=by
  intro X hP hw hK hc i MT s σ H E I hf st hg;subst hP hw hK;obtain⟨xs,hq,hx⟩:=hg;obtain⟨its,rv,p,hz⟩:=I.list hq;obtain⟨⟨old,he⟩,hit⟩:=st;obtain⟨f0,f1,f2,f3,f4,f5⟩:=hf it (by simp)
  have hl:=rv.length;exact wpAny_pyNext_enum_end (I.ok.hd hc) he hit p.isList (by simp;lia) fun h' eb=>#[rfl,I.turned (t':=s.toks) (fun b o hb e=>eb b o hb e) f0 f1 f3 f4 f5]
 self:=fun _ _ _ _ _ st h=>by
  obtain⟨⟨old,he⟩,_⟩:=st;exact Fv he h
def xu(K:μ)(ta:TA):TI:=fun σ H R=>ta σ H fun vs H1=>∃a,vs=[.ref a]/\(∃xs,Gd K H1 a xs)/\R (oH K a) H1
theorem yY{a:Φ}{ta:TA}{p pos:Pos}{elts:List Φ}{x1}{tpos:Pos}(hg:Gl X "enumerate")(hm:X.mg "enumerate"=none)(ha:PA X [a] ta)(hs:ι [a] X.env=[(false,eval a X.env)]:=by rfl):
  PI X (.Tuple elts x1 tpos) (.Call (.Name "enumerate" p) [a] [] pos) (xu X.K ta):=by
 intro MT s σ H R I h;refine Call_ (ac I hg hm boot_enumerate (Fe (qu (ha pos MT s σ H _ I h) fun us s1 zq=>?_) hs rfl))
 obtain⟨vs,H1,I1,r1,q1⟩:=zq;obtain⟨l,e,⟨xs,hq⟩,q⟩:=q1;subst e;obtain⟨u,rfl,ru⟩:=r1.one;cases ru;obtain⟨its,rv,pl,hz⟩:=I1.list hq;refine call_enumerate_list pl.isList fun h' he hit hsz hk=>Fv he ?_
 have I2:L2.F8 X MT σ H1 {s1 with heap:=h'}:=I1.kept (t':=s1.toks) hk
 refine#[s1.heap.objs.size+1,[s1.heap.objs.size+1,s1.heap.objs.size],_,_,H1,rfl,I2,jF l _ _ (J7 (Ew _)),#[#[_,he],hit],fun b hb=>?_,q]
 have hb':s1.heap.objs.size<=b:=by
  rcases Jr.mp hb with z|z
  ·rw[z];exact EW _
  ·rw[Jl.mp z];exact Jf _
 exact I1.fpOk hb' (I1.hok.fresh hb')
theorem me{K:μ}{a:Δ}{xs:List V}{g:TG}{tb:TS}{D:GX}{σ:L2.St}{H:Hp}(Pv:Nat->L2.St->Hp->Prop)(h0:Pv 0 σ H)(hl:∀i σ H,i<=xs.length->Pv i σ H->Gd K H a xs)
  (hs:∀i x σ H p,xs[i]? =some x->Pv i σ H->H p=none->g (.ref p) σ (F9 H p (.tup [.int i,x])) fun σ2 H2=>tb {D with nx:=Pv (i+1),ct:=Pv (i+1),bk:=D.nx} σ2 H2)(hd:∀σ H,Pv xs.length σ H->D.nx σ H):
  ∃W:Nat->Nat->L2.St->Hp->Prop,(∃m,W 0 m σ H)/\∀i m σ H,W i m σ H->
   ((oH K a).stop i H/\D.nx σ H)\/((oH K a).go i H/\∃N:L2.St->Hp->Prop,(∀σ' H',N σ' H'->∃m',m'<m/\W (i+1) m' σ' H')/\∀x H',(oH K a).yld i H x H'->g x σ H' fun σ2 H2=>tb {D with nx:=N,ct:=N,bk:=D.nx} σ2 H2):=by
 refine#[fun i m σ H=>m=xs.length-i/\i<=xs.length/\Pv i σ H,#[xs.length,by simp,JC _,h0],?_]
 rintro i m σ H ⟨rfl,hi,p⟩
 have q:=hl i σ H hi p
 by_cases hlt:i<xs.length
 ·refine .inr #[#[xs,xs[i],q,by simp [hlt]],Pv (i+1),fun σ' H' p'=>#[xs.length-(i+1),by lia,rfl,hlt,p'],fun x H' y=>?_]
  obtain⟨pp,v,hp,rfl,hv,rfl⟩:=y;exact hs i v σ H pp (hv xs q) p hp
 ·have e:i=xs.length:=by lia
  subst e;exact .inl #[#[xs,q,Jf _],hd σ H p]
end
def aX(t c:String):Bool:=t==c||(t=="bool"&&c=="int")
abbrev iQ:List String:=["NoneType","bool","int","str","list","tuple"]
abbrev lB:List String:=["bool","int","str","list","tuple"]
theorem oM(K:μ):∀t∈iQ,∀c∈lB,W.kitOne K (.type t) (.type c)=some (aX t c):=by
 intro t ht c hc;simp only[iQ,lB,Jr,Ex,Ey]at ht hc;rcases ht with rfl|rfl|rfl|rfl|rfl|rfl<;>rcases hc with rfl|rfl|rfl|rfl|rfl<;>kernel_rfl
section
variable{X:Cx}
theorem gK:zi X (.builtin "isinstance") (fun xs H Q=>∃x c t,xs=[x,.ty c]/\HL X.K H x (.type t)/\t∈iQ/\c∈lB/\Q (.bl (aX t c)) H):=by
 intro MT s σ H xs us Q I r h;obtain⟨x,c,t,rfl,ty,ht,hc,q⟩:=h;obtain⟨u,v,rfl,ru,rv⟩:=kM r
 cases(show v=Γ.type c from rv)
 exact tu I ru ty (oM X.K t ht c hc) fun tk=>#[.bl _,H,I.tok tk,rfl,q]
theorem mr:∀{bs:List Bool} {us:List Γ},Ga (bs.map V.bl) us->us=bs.map Γ.bool
 | [],_,.nil=>rfl
 |b::bs,_,.cons r t=>by
  cases(show _=Γ.bool b from r)
  rw[mr t];rfl
theorem pU(bs:List Bool):((List.range bs.length).all fun i=>(bs[i]?).getD true)=bs.all id:=by
 rw[Ej,EG,EG];constructor
 ·intro h b hb
  obtain⟨i,hi,e⟩:=List.mem_iff_getElem.mp hb
  have:=h i (JN.mpr hi)
  rw[Jg hi,EN,e]at this;exact this
 ·intro h i hi
  have hi':=JN.mp hi;rw[Jg hi',EN];exact h _ (EZ hi')
theorem jp(hc:X.calm=true):zi X (.builtin "all") (fun xs H Q=>∃(p:Δ) (bs:List Bool),xs=[.ref p]/\Gd X.K H p (bs.map V.bl)/\Q (.bl (bs.all id)) H):=by
 intro MT s σ H xs us Q I r h;obtain⟨p,bs,rfl,hq,q⟩:=h;obtain⟨u,rfl,ru⟩:=zU r;cases ru;obtain⟨its,rv,pl,hz⟩:=I.list hq;have e:=mr rv;have hl:=pl.isList;have hlt:p<s.heap.objs.size:=by obtain⟨_,e,_⟩:=hl;exact Ji e
 refine call_all_walk (Fc hl ?_)
 refine#[s.heap.objs.size,[s.heap.objs.size,p],[s.heap.objs.size],its.toArray.size,_,_,fun i=>(bs[i]?).getD true,rfl,Walks.list (A:=X.A.in1) (I.ok.hd hc) _ p (Jk hlt) its.toArray,
  #[#[_,Js _ rfl,rfl,rfl],hl.push _],fun i v s' Q' E' hP hQ=>?_,fun h' tk hk=>?_]
 ·have hP':its[i]? =some v:=by simpa using hP
  rw[e,Jn]at hP';cases eb:bs[i]? with
  |none=>rw[eb]at hP';cases hP'
  |some b=>
   rw[eb]at hP'
   cases(JG hP':Γ.bool b=v)
   simp only[eb,EN]at hQ;exact EA hQ
 ·have e2:((List.range its.toArray.size).all fun i=>(bs[i]?).getD true)=bs.all id:=by
   rw[Jp,e,Je];exact pU bs
  rw[e2];refine#[.bl _,H,I.kept (h':=h') (t':=tk) fun b o q=>hk b o (fun hm=>?_) (Jj _ q),rfl,q]
  rw[Jl.mp hm]at q;exact Et _ (Ji q)
theorem bP:zt X (compareOp .IsNot) (fun x y H Q=>∃a b,x= .bl a/\y= .bl b/\Q (.bl (!decide (a=b))) H):=by
 intro MT s σ H x y v u Q I rx ry h;obtain⟨a,b,rfl,rfl,q⟩:=h
 cases(show v=Γ.bool a from rx)
 cases(show u=Γ.bool b from ry)
 refine wpAny_isNot_plain rfl #[.bl _,H,I,?_,q]
 cases a<;>cases b<;>rfl
theorem jH:zi X (.type "range") (fun xs H Q=>∃j:Int,xs=[.int j]/\∀p,H p=none->Q (.ref p) (F9 H p (.rng 0 j))):=by
 intro MT s σ H xs us Q I r h;obtain⟨j,rfl,q⟩:=h;obtain⟨u,rfl,ru⟩:=zU r;obtain⟨t,rfl⟩:=ru;refine call_range_1 #[.ref s.heap.objs.size,_,I.laid (o:= .rng 0 j) (fun b o e=>Jj _ e) (Jf _) #[_,_,_,Js _ rfl],rfl,q _ (I.hok.fresh (Jf _))]
theorem p6(hc:X.calm=true):zi X (.type "list") (fun xs H Q=>∃(p:Δ) (j:Nat),xs=[.ref p]/\H p=some (.rng 0 (j:Int))/\j<=2 ^ 24/\∀l,H l=none->Q (.ref l) (F9 H l (.lst ((List.range j).map fun i=>V.int (i:Nat))))):=by
 intro MT s σ H xs us Q I r h;obtain⟨p,j,rfl,hp,hj,q⟩:=h;obtain⟨u,rfl,ru⟩:=zU r;cases ru;obtain⟨t,u,v,e⟩:=I.hok p _ hp;refine call_list_range (n:=j) (I.ok.hd hc) (show IsRange s.heap p 0 (j:Int) 1 t u v from e) (small_one (by lia) (by lia) (by lia) (by lia)) (by rw[rangeSize_one];split<;>lia) hj fun h' tk acc' c' hk hS' hacc=>?_
 refine#[.ref s.heap.objs.size,_,I.laid (h':=h') (t':=tk) hk (Jf _) ?_,rfl,q _ (I.hok.fresh (Jf _))]
 have aux:∀(us:List Γ) (n k:Nat),us.length=n->(∀i v,us[i]? =some v->∃t,v=Γ.int ((k+i:Nat):Int) t)->Ga ((List.range' k n).map fun i=>V.int (i:Nat)) us:=by
  intro us
  induction us with
  |nil=>intro n k hn _;cases hn;exact .nil
  |cons u us ih=>
   intro n k hn hv;cases n with
   |zero=>cases hn
   |succ n=>
    rw[List.range'_succ,JU];obtain⟨t,ht⟩:=hv 0 u rfl;refine .cons #[t,by simpa using ht] (ih n (k+1) (by simpa using hn) fun i v hi=>?_)
    obtain⟨t,ht⟩:=hv (i+1) v hi
    exact#[t,by rw[ht];congr 1;lia]
 have vals:Ga ((List.range j).map fun i=>V.int (i:Nat)) acc'.toList:=by
  rw[List.range_eq_range'];refine aux _ _ 0 (by rw[Jo];exact hacc.1) fun i v hi=>?_
  obtain⟨t,ht⟩:=hacc.2 i v (by rw[<- Array.getElem?_toList];exact hi)
  exact#[t,by rw[ht];congr 1;lia]
 exact#[by simp only[Je,List.length_range];exact JQ hj (by rw[JF];decide),acc'.toList,c',vals,hS']
inductive MA (x:V) (lo:Option Int) (hi:Option Int) (H:Hp) (Q:VK):Prop
 |mk (a:_) (xs:_) (h1:x= .ref a) (h2:H a=some (.tup xs)) (h3:∀p H',F5 H H'->H' p=some (.tup (Qd xs lo hi))->(p=a\/H p=none)->Q (.ref p) H')
def DL:V->Option Int->Option Int->Hp->VK->Prop:=fun x lo hi H Q=>MA x lo hi H Q
theorem dc{prog:Ξ}{w:Ω}{A:Around}{E:F2}{s:Θ}{t sl:Δ}{items:Array Γ}{vl vu:Γ}{lo hi:Option Int}{Q:F2}(ht:IsTup s.heap t items)(hs:s.heap.IsSliceOf sl vl vu .none)(pl:IsPart vl lo)(pu:IsPart vu hi)
  (hw:HT.sIx items.size 0 lo=0/\HT.sIx items.size items.size hi=items.size)(h:Q (.ref t) s):ζ (model prog w) A (getItem (.ref t) (.ref sl)) Q E s:=by
 obtain⟨os,hos,hcs,hds⟩:=id hs;have hTs:s.TypeIs (.ref sl) "slice":=#[os,hos,hcs]
 unfold getItem
 try with_reducible refine JD ?_
 first|refine Ja (Jd ?_)|skip
 refine Ja (wpAny_sequenceKey ht.typeIs (by decide) ?_)
 refine Ja (wpAny_callSpecial?_slot (name:=Str.ofString "__getitem__") ht.typeIs FB
  (J1 FB ht.typeIs entry_tuple_getitem ?_ (args_tuple_getitem _ _)))
 show ζ _ _ (δ.Tuple.tupleItemsOf (.ref t) >>= _) _ _ s
 refine Ja (tupleItemsOf_ ht ?_)
 refine Ja (Fg hTs ?_)
 rw[Jb (by decide)]
 refine Ja (HT.sliceApplied_gen hs pl pu ?_)
 show ζ _ _ (if(((HT.sIx items.size 0 lo:Nat):Int)==0&&(1:Int)==1&&(HT.sIx items.size items.size hi-HT.sIx items.size 0 lo)==items.size)=true then _ else _) _ _ s
 rw[hw.1,hw.2,Jb (by simp)]
 refine Ja (m:=δ.Tuple.tupleIsExact _) ?_
 unfold δ.Tuple.tupleIsExact;refine Ja (Fg ht.typeIs (Jd ?_))
 rw[Jb (by rfl)]
 exact Ja (Eu (Jd #[_,rfl,Jd h]))
theorem jc:tM X DL:=by
 intro MT s σ H x v vl vu lo hi sl Q I rx hs pl pu h;obtain⟨a,xs,rfl,hx,q⟩:=h
 by_cases hw:HT.sIx xs.length 0 lo=0/\HT.sIx xs.length xs.length hi=xs.length
 ·cases rx
  obtain⟨its,r,ht,hz⟩:=I.tuple (Gh.of hx)
  have hlen:its.toArray.size=xs.length:=by rw[Jp];exact r.length.symm
  refine#["tuple",_,PyProof.Rows.slot_tuple_getitem.lookup,ht.typeIs,?_]
  refine dc ht hs pl pu (by rw[hlen];exact hw) #[.ref a,H,I,rfl,q a H (F5.refl H) ?_ (.inl rfl)]
  have:Qd xs lo hi=xs:=by unfold Qd;rw[hw.1,hw.2];simp
  rw[this];exact hx
 ·exact BI MT s σ H _ v vl vu lo hi sl Q I rx hs pl pu #[a,xs,rfl,Gh.of hx,hw,fun p hp=>q p _ (fun b o e=>by rw[qj (qk e hp)];exact e) qa (.inr hp)]
inductive L7 (x:V) (y:V) (H:Hp) (Q:VK):Prop
 |mk (a:_) (b:_) (xs:_) (ys:_) (h1:x= .ref a) (h2:y= .ref b) (h3:H a=some (.tup xs)) (h4:H b=some (.tup ys)) (h5:xs.length+ys.length<=η) (h6:∀p H',F5 H H'->H' p=some (.tup (xs++ys))->Q (.ref p) H')
def Di:R2:=fun x y H Q=>L7 x y H Q
theorem cm:zt X (binaryOp .Add) Di:=by
 intro MT s σ H x y v u Q I rx ry h;obtain⟨a,b,xs,ys,rfl,rfl,ha,hb,hz,q⟩:=h
 by_cases hx:xs=[]
 ·subst hx
  cases rx;cases ry;obtain⟨its,r1,p1,_⟩:=I.tuple (Gh.of ha)
  obtain⟨its2,r2,p2,_⟩:=I.tuple (Gh.of hb)
  cases r1;obtain⟨⟨cls,dd,data,sl⟩,ho,hc,n,hd⟩:=id p1;obtain⟨⟨cls2,dd2,data2,sl2⟩,ho2,hc2,n2,hd2⟩:=id p2;simp only at hc hd hc2 hd2
  subst hc hd hc2 hd2;exact concat_meets #[_,ho,rfl] #[_,ho2,rfl] noFill_tuple_add seq_tuple_add FP FQ (FR _ _)
   (tuple_addW0 a b _ its2.toArray n n2 dd dd2 sl sl2 (by simp)) #[ho,ho2,#[.ref b,H,I,rfl,q b H (F5.refl H) hb]]
 ·refine yQ MT s σ H _ _ v u Q I rx ry #[a,b,xs,ys,rfl,rfl,Gh.of ha,Gh.of hb,hx,hz,fun e=>q a H (F5.refl H) (by subst e;simpa using ha),fun _ p hp=>q p _ (fun b o e=>by rw[qj (qk e hp)];exact e) qa]
theorem fL{ns:List Int}{us:List Γ}(r:Ga (ns.map V.int) us)(j:Nat)(h:j<us.length)(h':j<ns.length):∃t,us[j]=Γ.int ns[j] t:=by
 obtain⟨u,hu,ru⟩:=r.get (i:=j) (x:=V.int ns[j]) (by rw[Jn,Jg h'];rfl)
 rw[Jg h]at hu;cases hu;exact ru
theorem vf(ns ms:List Int)(h:ns.length=ms.length):((List.range ns.length).all fun j=>(ns.getD j 0==ms.getD j 0))=decide (ns=ms):=by
 rw[Ej,EG,Fw];constructor
 ·intro q
  refine List.ext_getElem h fun i h1 h2=>?_
  have:=q i (JN.mpr h1)
  simp only[JA,Jg h1,Jg h2,EN,JT]at this;exact this
 ·rintro rfl i _
  simp
end
def cg:Φ->Bool
 | .Starred .. =>false
 |_=>true
theorem jE{e:Φ}{es:List Φ}{env:Env}(h:cg e=true):ι (e::es) env=(false,eval e env)::ι es env:=by
 cases e<;>first|rfl|cases h
theorem D4{X:Cx}{e:Φ}{es:List Φ}{te:TE}{t:TA}(ha:PE X e te)(hr:PA X es t)(h:cg e=true:=by rfl):PA X (e::es) (pW te t):=AL ha hr (jE h)
structure Df(P:Ξ)(w:Ω)(K:μ)(mg:F3)(base:Ψ)(x:Str)(ps:List Str)(k:Nat)(sp:Sp):Prop where
 ex:∃(f:Δ) (fd:FuncData),HG P w K mg base bh k f fd ps sp/\mg x=some (.ref f)/\PySem.W.keepIn K (.ref f)=true/\G9 K fd ps []
structure At(K:μ)(mg:F3)(x:Str)(st:ε)(ps:List Str):Prop where
 ex:∃(f:Δ) (fd:FuncData),IQ K x x st f fd/\mg x=some (.ref f)/\PySem.W.keepIn K (.ref f)=true/\G9 K fd ps []
section
variable{P:Ξ}{w:Ω}{K:μ}{mg:F3}{base:Ψ}
theorem At.df{x:Str}{st:ε}{ps N:List Str}{k:Nat}{sp:Sp}(a:At K mg x st ps)(S:F6 N ps (qi st))(len:∀vs H Q E,sp vs H Q E->vs.length=ps.length)
  (hbody:∀(f:Δ) (cdv:Γ) (A:Around) (outer:List Env) (s:Θ) (H:Hp) (vs:List V) (Q:VK) (E:XK),Gq k (A.deeper (envOfC x (qi st) s.heap.objs.size f cdv))->sp vs H Q E->
   ∃t,Il (bK bh P w K mg base N x (qi st) f cdv A outer s H E).nox (zO st) t/\t {nx:=fun _ H'=>Q .non H',rt:=Q} (Zi N vs) H):Df P w K mg base x ps (k+1) sp:=by
 obtain⟨f,fd,F,m,kp,bd⟩:=a.ex
 exact#[f,fd,F.ok S len (fun cdv A outer s H vs Q E hr h=>hbody f cdv A outer s H vs Q E hr h),m,kp,bd]
end
section
variable{X:Cx}{x:Str}{ps:List Str}{k:Nat}{sp:Sp}{e:Φ}{es:List Φ}{p pos:Pos}{t:TA}
theorem Bc(D:Df X.prog X.w X.K X.mg X.base x ps k sp)(hr:Gq k X.A)(ha:PA X (e::es) t)(hg:Gl X x:=by rfl)(hdb:(x==("__debug__":Str))=false:=by decide)(he:ι (e::es) X.env=(false,eval e X.env)::ι es X.env:=by rfl)(hpl:(backTo pos (ι es X.env)).any (·.1)=false:=by rfl):
  PE X (.Call (.Name x p) (e::es) [] pos) (pM sp [] E0 t):=by
 obtain⟨f,fd,ok,m,kp,bd⟩:=D.ex;exact Aj ok hr hg m kp bd .nil kG ha hdb he hpl
end
theorem az{X:Cx}{scope:Scope}(kind:scope.kind= .function)(names:∀x∈scope.names,x.2= .local->scope.names.lookup x.1=some .local)(nocell:∀x∈scope.names,x.2≠ .cell)
  (free:∀x∈scope.names,x.2= .free->x.1∈([]:List Str)):GI X scope [] []:=#[kind,names,nocell,free,rfl,fun i j y h=>by simp at h]
theorem iM{X:Cx}{scope:Scope}{y:Str}{j:Nat}(kind:scope.kind= .function)(names:∀x∈scope.names,x.2= .local->scope.names.lookup x.1=some .local)(nocell:∀x∈scope.names,x.2≠ .cell)
  (free:∀x∈scope.names,x.2= .free->x.1∈([y]:List Str))(h1:X.N[j]? =some y)(h2:X.env.kindOf y=some .cell)(h3:(relabel scope X.env).names.lookup y=some .cell):GI X scope [y] [j]:=
 #[kind,names,nocell,free,rfl,fun i j' y' e1 e2=>by
  cases i with
  |zero=>cases e1;cases e2;exact#[h1,h2,h3]
  |succ i=>simp at e1]
theorem i5{X:Cx}{y:Str}{c:Δ}(h:X.env.cells.lookup y=some c):∀z d,([(y,c)]:List (Str×Δ)).lookup z=some d->X.env.cells.lookup z=some d:=fun z d e=>by
 by_cases hz:z=y
 ·subst hz
  simp at e
  rw[<- e];exact h
 ·simp [EB,show(z==y)=false from by simpa using hz]at e
theorem vJ{X:Cx}{K:μ}(h:X.K=K):Lg X (v8 K):=by subst h;exact qA
theorem aP{X:Cx}{K:μ}(h:X.K=K):Lg X (vF K):=by subst h;exact qT
abbrev rS(n m k:Int):HO:= .lst [.int n,.int m,.int k]
theorem _root_.L2.F5.upd{H:Hp}{p:Δ}{o:HO}(h:H p=none):F5 H (F9 H p o):=fun b u e=>by rw[qj (qk e h)];exact e
theorem tm(c:Bool): -(2 ^ 64:Int)<(if c=true then(1:Int)else 0):=by cases c<;>decide
theorem sW(c:Bool):(if c=true then(1:Int)else 0)<(2 ^ 64:Int):=by cases c<;>decide
theorem oR{n j:Nat}(h:j<n):cv n (j:Int)=some j:=by unfold cv;rw[Jb (by lia),Jb (by lia)];simp
def br(ns:List Int)(lo hi:Option Int):List Int:=(ns.drop (HT.sIx ns.length 0 lo)).take (HT.sIx ns.length ns.length hi-HT.sIx ns.length 0 lo)
theorem cX(ns:List Int)(lo hi:Option Int):Qd (ns.map V.int) lo hi=(br ns lo hi).map V.int:=by unfold Qd br;rw[Je,List.map_take,List.map_drop]
theorem QV{ns:List Int}{i:Nat}{x:V}(h:(ns.map V.int)[i]? =some x):∃z,x= .int z/\ns[i]? =some z:=by
 rw[Jn]at h;cases e:ns[i]? with
 |none=>rw[e]at h;cases h
 |some z=>rw[e]at h;exact#[z,(JG h).symm,rfl]
theorem i3{ns:List Int}{i:Nat}(h:i<ns.length):(ns.map V.int)[i]? =some (.int ns[i]):=by rw[Jn,Jg h];rfl
theorem cJ(ns:List Int)(i:Nat)(z:Int):(ns.map V.int).set i (.int z)=(ns.set i z).map V.int:=by rw[List.map_set]
def yn:Option HO->Option String
 |some (.lst _)=>some "list"
 |some (.tup _)=>some "tuple"
 |_=>none
def kd(H:Hp):V->Option String
 | .non=>some "NoneType"
 | .bl _=>some "bool"
 | .int _=>some "int"
 | .str _=>some "str"
 | .ref a=>yn (H a)
 |_=>none
theorem sP{o:Option HO}{t:String}(h:yn o=some t):(∃xs,o=some (.lst xs)/\t="list")\/(∃xs,o=some (.tup xs)/\t="tuple"):=by
 cases o with
 |none=>cases h
 |some u=>
  cases u with
  |lst xs=>cases h;exact .inl #[xs,rfl,rfl]
  |tup xs=>cases h;exact .inr #[xs,rfl,rfl]
  |_=>cases h
theorem gS{H:Hp}{a:Δ}{t:String}(h:kd H (.ref a)=some t):(∃xs,H a=some (.lst xs)/\t="list")\/(∃xs,H a=some (.tup xs)/\t="tuple"):=sP h
theorem De{K:μ}{H:Hp}{x:V}{t:String}(h:kd H x=some t):HL K H x (.type t)/\t∈iQ:=by
 cases x with
 |non=>cases h;exact#[.non,by simp]
 |bl b=>cases h;exact#[.bl b,by simp]
 |int i=>cases h;exact#[.int i,by simp]
 |str x=>cases h;exact#[.str x,by simp]
 |byt b=>cases h
 |flt b=>cases h
 |ty b=>cases h
 |ref a=>
  rcases gS h with⟨xs,e,rfl⟩|⟨xs,e,rfl⟩
  ·exact#[.lst e,by simp]
  ·exact#[.tup e,by simp]
theorem fD{H H':Hp}{x:V}{t:String}(s:F5 H H')(h:kd H x=some t):kd H' x=some t:=by
 cases x with
 |ref a=>
  rcases gS h with⟨xs,e,rfl⟩|⟨xs,e,rfl⟩
  ·show yn (H' a)=_;rw[s _ _ e];rfl
  ·show yn (H' a)=_;rw[s _ _ e];rfl
 |_=>exact h
def cL:V->Bool
 | .int i=>decide (0<=i)&&decide (i<16)
 |_=>false
inductive L8 (K:μ) (vs:List V) (H:Hp) (Q:VK):Prop
 |mk (a:Δ) (ns:List Int) (h1:vs=[.ref a]) (h2:Gd K H a (ns.map V.int)) (h3:ns.length<=63) (h4:∀H',Q (.bl true) H')
def kK(K:μ):Sp:=fun vs H Q _=>L8 K vs H Q
inductive Li (vs:List V) (H:Hp) (Q:VK):Prop
 |mk (x:_) (t:_) (h1:vs=[x]) (h2:kd H x=some t) (h3:Q (.bl (cL x)) H)
def oe:Sp:=fun vs H Q _=>Li vs H Q
inductive IR (vs:List V) (H:Hp) (Q:VK):Prop
 |mk (p:_) (xs:_) (h1:vs=[.ref p]) (h2:H p=some (.tup xs)) (h3:xs.length<=η) (h4:(∀x∈xs,∃t,kd H x=some t)) (h5:∀H',F5 H H'->Q (.bl (xs.all cL)) H')
def k7:Sp:=fun vs H Q _=>IR vs H Q
end L3
namespace L3
open PySem PySem.Spec L2
structure QE(X:Cx)(e:Φ)(t:TE):Prop where
 h:PE X e t
structure QT(X:Cx)(e:Φ)(t:TT):Prop where
 h:PT X e t
structure QW(X:Cx)(e:Φ)(t:TT):Prop where
 h:PW X e t
structure QA(X:Cx)(e:List Φ)(t:TA):Prop where
 h:PA X e t
structure QS(X:Cx)(e:ε)(t:TS):Prop where
 h:PS X e t
structure Lj(X:Cx)(e:List ε)(t:TS):Prop where
 h:Il X e t
structure QG(X:Cx)(e:Φ)(t:TG):Prop where
 h:PG X e t
structure Mn(X:Cx)(e:List Φ)(t:ao):Prop where
 h:oy X e t
structure QO(X:Cx)(e:Option Φ)(t:TO):Prop where
 h:PO X e t
structure QI(X:Cx)(tg e:Φ)(t:TI):Prop where
 h:PI X tg e t
variable{X:Cx}
theorem qf{i j pos}:QE X (.Constant (.int i) j pos) (tC (.int i)):=#[Bq]
theorem ZD{b j pos}:QE X (.Constant (.bool b) j pos) (tC (.bl b)):=#[Dd]
theorem zf{j pos}:QE X (.Constant .none j pos) (tC .non):=#[Bd]
theorem qR{x j pos}:QE X (.Constant (.str x) j pos) (tC (.str x)):=#[BS]
theorem zg{x:Str}{v:V}{u:Γ}{pos:Pos}(hg:Gl X x)(hm:X.mg x=some u)(r:Ge v u)(hd:(x==("__debug__":Str))=false:=by decide):QE X (.Name x pos) (tC v):=#[As (hg:=hg) (hm:=hm) (r:=r) (hd:=hd)]
theorem aK{x:Str}{v:V}{u:Γ}{pos:Pos}(hg:Gl X x)(hm:X.mg x=none)(hv:bootBuiltins x=some u)(r:Ge v u)(hn:x≠"__name__":=by decide)(hd:(x==("__debug__":Str))=false:=by decide):QE X (.Name x pos) (tC v):=#[yR (hg:=hg) (hm:=hm) (hv:=hv) (r:=r) (hn:=hn) (hd:=hd)]
theorem qp{a b:Φ}{ta tb:TE}{pos:Pos}{op:Operator}{r:R2}(ho:zt X (binaryOp op) r)(ha:QE X a ta)(hb:QE X b tb):QE X (.BinOp a op b pos) (jr r ta tb):=#[C2 (ho:=ho) (ha:=ha.h) (hb:=hb.h)]
theorem kH{a:Φ}{ta:TE}{pos:Pos}{op:UnaryOp}{r:V->Hp->VK->Prop}(ho:xn X (unaryOp op) r)(ha:QE X a ta):QE X (.UnaryOp op a pos) (DC r ta):=#[C3 (ho:=ho) (ha:=ha.h)]
theorem zX{a b:Φ}{ta tb:TE}{pos:Pos}{op:CmpOp}{r:R2}(ho:zt X (compareOp op) r)(ha:QE X a ta)(hb:QE X b tb)(hm:behindInMarks op b=false):QE X (.Compare a [op] [b] pos) (jr r ta tb):=#[Am (ho:=ho) (ha:=ha.h) (hb:=hb.h) (hm:=hm)]
theorem qE{a b:Φ}{ta tb:TE}{pos:Pos}{op:CmpOp}{r:R2}(ho:zt X (compareOp op) r)(ha:QE X a ta)(hb:QE X b tb)(hm:behindInMarks op b=false):QT X (.Compare a [op] [b] pos) (hJ (jr r ta tb)):=#[Au (ho:=ho) (ha:=ha.h) (hb:=hb.h) (hm:=hm)]
theorem ge{a b c:Φ}{ta tb tc:TE}{pos:Pos}{op op':CmpOp}{r r':R2}(ho:zt X (compareOp op) r)(ho':zt X (compareOp op') r')(ha:QE X a ta)(hb:QE X b tb)(hc:QE X c tc)(hm:lastMarks [op,op'] [b,c]=false:=by with_unfolding_all rfl):QE X (.Compare a [op,op'] [b,c] pos) (iz r r' ta tb tc):=#[vi (ho:=ho) (ho':=ho') (ha:=ha.h) (hb:=hb.h) (hc:=hc.h) (hm:=hm)]
theorem wX{a b c:Φ}{ta tb tc:TE}{pos:Pos}{op op':CmpOp}{r r':R2}(ho:zt X (compareOp op) r)(ho':zt X (compareOp op') r')(ha:QE X a ta)(hb:QE X b tb)(hc:QE X c tc)(hm:lastMarks [op,op'] [b,c]=false:=by with_unfolding_all rfl):QT X (.Compare a [op,op'] [b,c] pos) (hJ (iz r r' ta tb tc)):=#[vR (ho:=ho) (ho':=ho') (ha:=ha.h) (hb:=hb.h) (hc:=hc.h) (hm:=hm)]
theorem af{a b:Φ}{rest:List Φ}{ta tb:TE}{pos:Pos}(ha:QE X a ta)(hb:QE X (.BoolOp .And (b::rest) pos) tb):QE X (.BoolOp .And (a::b::rest) pos) (ye ta tb):=#[Bo (ha:=ha.h) (hb:=hb.h)]
theorem bg{a:Φ}{pos:Pos}{op}{t:TE}(h:QE X a t):QE X (.BoolOp op [a] pos) t:=#[Cf (h:=h.h)]
theorem Bf{a:Φ}{ta:TE}{pos:Pos}(ha:QE X a ta):QE X (.UnaryOp .Not a pos) (yg ta):=#[CP (ha:=ha.h)]
theorem lX{a b:Φ}{rest:List Φ}{tA tB':TT}{pos:Pos}(ha:QT X a tA)(hb:QW X (.BoolOp .And (b::rest) pos) tB'):QW X (.BoolOp .And (a::b::rest) pos) (Bj tA tB'):=#[BD (ha:=ha.h) (hb:=hb.h)]
theorem Z6{a b:Φ}{rest:List Φ}{tA tB':TT}{pos:Pos}(ha:QT X a tA)(hb:QW X (.BoolOp .Or (b::rest) pos) tB'):QW X (.BoolOp .Or (a::b::rest) pos) (DF tA tB'):=#[Dm (ha:=ha.h) (hb:=hb.h)]
theorem iU{a:Φ}{tA:TT}{pos:Pos}(ha:QT X a tA):QW X (.BoolOp .And [a] pos) tA:=#[Ae (ha:=ha.h)]
theorem ZI{a:Φ}{tA:TT}{pos:Pos}(ha:QT X a tA):QW X (.BoolOp .Or [a] pos) tA:=#[BU (ha:=ha.h)]
theorem Qx{a:Φ}{tA:TT}{pos:Pos}(ha:QT X a tA):QT X (.UnaryOp .Not a pos) (BM tA):=#[Cr (ha:=ha.h)]
theorem Qy{e:Φ}{t:TE}(h:QE X e t)(he:∀whole,isTrue e X.env whole=(do let v <- whole;standAt e.pos;holding [v] (truthy v)):=by intro _;rfl):QT X e (tB t):=#[Br (h:=h.h) (he:=he)]
theorem qc{e:Φ}{es:List Φ}{te:TE}{t:TA}(ha:QE X e te)(hr:QA X es t)(h:cg e=true:=by rfl):QA X (e::es) (pW te t):=#[D4 (ha:=ha.h) (hr:=hr.h) (h:=h)]
theorem qb:QA X [] vw:=#[Co]
theorem qF{es:List Φ}{t:TA}{pos:Pos}{x1}(h:QA X es t):QE X (.Tuple es x1 pos) (CO t):=#[Ce (h:=h.h)]
theorem zC{es:List Φ}{t:TA}{pos:Pos}(h:QA X es t):QE X (.List es pos) (Cc t):=#[CF (h:=h.h)]
theorem qt{a b:Φ}{ta tb:TE}{pos:Pos}{r:R2}(hr:Lg X r)(ha:QE X a ta)(hb:QE X b tb)(hs:pD b:=by exact fun _ _=>rfl):QE X (.Subscript a b pos) (jr r ta tb):=#[CZ (hr:=hr) (ha:=ha.h) (hb:=hb.h) (hs:=hs)]
theorem QY{e:Φ}{te:TE}{lo hi:Option Φ}{tl th:TO}{pos p2:Pos}{r:V->Option Int->Option Int->Hp->VK->Prop}(hr:tM X r)(he:QE X e te)(hl:QO X lo tl)(hu:QO X hi th):QE X (.Subscript e (.Slice lo hi none p2) pos) (DE r te tl th):=#[vn (hr:=hr) (he:=he.h) (hl:=hl.h) (hu:=hu.h)]
theorem Zt:QO X none oB:=#[yV]
theorem Zv{e:Φ}{te:TE}(h:QE X e te):QO X (some e) (yH te):=#[AD (h:=h.h)]
theorem qz{x:Str}{p pos:Pos}{e:Φ}{es:List Φ}{t:TA}{id:String}{r:List V->Hp->VK->Prop}(hc:zi X (.builtin id) r)(hm:X.mg x=none)(hv:bootBuiltins x=some (.builtin id))(ha:QA X (e::es) t)(hg:Gl X x:=by rfl)(hn:x≠"__name__":=by decide)(hdb:(x==("__debug__":Str))=false:=by decide)(he:ι (e::es) X.env=(false,eval e X.env)::ι es X.env:=by rfl)(hpl:(backTo pos (ι es X.env)).any (·.1)=false:=by rfl):QE X (.Call (.Name x p) (e::es) [] pos) (yz r t):=#[vI (hc:=hc) (hg:=hg) (hm:=hm) (hv:=hv) (ha:=ha.h) (hn:=hn) (hdb:=hdb) (he:=he) (hpl:=hpl)]
theorem qH{x:Str}{p pos:Pos}{e:Φ}{es:List Φ}{t:TA}{T:String}{r:List V->Hp->VK->Prop}(hc:zi X (.type T) r)(hm:X.mg x=none)(hv:bootBuiltins x=some (.type T))(ha:QA X (e::es) t)(hg:Gl X x:=by rfl)(hn:x≠"__name__":=by decide)(hdb:(x==("__debug__":Str))=false:=by decide)(he:ι (e::es) X.env=(false,eval e X.env)::ι es X.env:=by rfl)(hpl:(backTo pos (ι es X.env)).any (·.1)=false:=by rfl):QE X (.Call (.Name x p) (e::es) [] pos) (yz r t):=#[tz (hc:=hc) (hg:=hg) (hm:=hm) (hv:=hv) (ha:=ha.h) (hn:=hn) (hdb:=hdb) (he:=he) (hpl:=hpl)]
theorem qr{x:Str}{ps:List Str}{k:Nat}{sp:Sp}{e:Φ}{es:List Φ}{p pos:Pos}{t:TA}(D:Df X.prog X.w X.K X.mg X.base x ps k sp)(hr:Gq k X.A)(ha:QA X (e::es) t)(hg:Gl X x:=by rfl)(hdb:(x==("__debug__":Str))=false:=by decide)(he:ι (e::es) X.env=(false,eval e X.env)::ι es X.env:=by rfl)(hpl:(backTo pos (ι es X.env)).any (·.1)=false:=by rfl):QE X (.Call (.Name x p) (e::es) [] pos) (pM sp [] E0 t):=#[Bc (D:=D) (hr:=hr) (ha:=ha.h) (hg:=hg) (hdb:=hdb) (he:=he) (hpl:=hpl)]
theorem qB:Lj X [] yG:=#[Az]
theorem qe{st:ε}{rest:List ε}{t u:TS}(h1:QS X st t)(h2:Lj X rest u):Lj X (st::rest) (iX t u):=#[xm (h1:=h1.h) (h2:=h2.h)]
theorem qg{st:ε}{t:TS}(h1:QS X st t):Lj X [st] t:=#[Af (h1:=h1.h)]
theorem qw{pos:Pos}{i:Nat}{x:Str}{e:Φ}{te:TE}{pos':Pos}(hN:X.N.Nodup)(hi:X.N[i]? =some x)(hx:f8 X.env.scope x)(he:QE X e te)(hs:swapsWith e (some (.Name x pos')) pos.line X.env=pure false:=by rfl)(hf:X.fn x=true\/X.env.scope.names.lookup x=some .local:=by first|exact .inl rfl|exact .inr rfl|assumption):QS X (.Assign [.Name x pos'] e pos) (eG te (QK i)):=#[Bl (hN:=hN) (hi:=hi) (hx:=hx) (he:=he.h) (hs:=hs) (hf:=hf)]
theorem zz{pos:Pos}{tg e:Φ}{te:TE}{g:TG}(he:QE X e te)(hg:QG X tg g)(hs:swapsWithSole [tg] e pos.line X.env=pure false:=by rfl)(hw:swappedStores [tg] e X.env=pure none:=by rfl)(h1:(assignEach [tg] X.env).map (·.2)=[assign tg X.env]:=by rfl):QS X (.Assign [tg] e pos) (eG te g):=#[Bk (he:=he.h) (hg:=hg.h) (hs:=hs) (hw:=hw) (h1:=h1)]
theorem ql{e:Φ}{te:TE}{pos:Pos}(he:QE X e te):QS X (.Return (some e) pos) (CN te):=#[Cd (he:=he.h)]
theorem qN{t u:TS}{pos:Pos}{c:Φ}{a b:List ε}{tc:TT}(hc:QT X c tc)(ha:Lj X a t)(hb:Lj X b u):QS X (.If c a b pos) (Cj tc t u):=#[C6 (hc:=hc.h) (ha:=ha.h) (hb:=hb.h)]
theorem qZ{tg:Φ}{iter:Φ}{body:List ε}{wi:TI}{g:TG}{tb:TS}{pos:Pos}(hp:PassesOwn (model X.prog X.w) X.A X.env X.xe)(hc:X.calm=true)(hi:QI X tg iter wi)(hg:QG X tg g)(hb:Lj X body tb)(hs:∀x,foldedSetIterable iter X.env x=pure x:=by intro _;rfl):QS X (.For tg iter body [] pos) (Cl wi g tb):=#[B8 (hp:=hp) (hc:=hc) (hi:=hi.h) (hg:=hg.h) (hb:=hb.h) (hs:=hs)]
theorem Qg{e:Φ}{te:TE}{pos:Pos}(he:QE X e te)(hs:swapsWith e none pos.line X.env=pure false:=by rfl):QS X (.Expr e pos) (yL te):=#[Ag (he:=he.h) (hs:=hs)]
theorem Ah{pos:Pos}{o i e:Φ}{to ti te:TE}{tget:V->V->Hp->VK->Prop}{tip:sO}{tset:gf}{op:Operator}{tpos:Pos}(ho:QE X o to)(hi:QE X i ti)(hg:vG X tget)(he:QE X e te)(hp:B9 X op tip)(hs:mF X tset)(ha:∀ov iv new,augStore i ov iv new=(do holding [new,ov,iv] (setItem ov iv new);release [new,ov,iv] [];pure .next):=by intros;rfl):QS X (.AugAssign (.Subscript o i tpos) op e pos) (ym to ti te tget tip tset):=#[yX (ho:=ho.h) (hi:=hi.h) (hg:=hg) (he:=he.h) (hp:=hp) (hs:=hs) (ha:=ha)]
theorem zo{tg:Φ}{l:Φ}{tl:TE}(hl:QE X l tl):QI X tg l (xq X.K tl):=#[AT (hl:=hl.h)]
theorem aV{tg:Φ}{l:Φ}{tl:TE}(hl:QE X l tl):QI X tg l (Ca X.K tl):=#[Cm (hl:=hl.h)]
theorem zI{tg:Φ}{a:Φ}{ta:TA}{p pos:Pos}(hg:Gl X "range")(hm:X.mg "range"=none)(ha:QA X [a] ta)(hs:ι [a] X.env=[(false,eval a X.env)]:=by rfl):QI X tg (.Call (.Name "range" p) [a] [] pos) (yj ta):=#[uP (hg:=hg) (hm:=hm) (ha:=ha.h) (hs:=hs)]
theorem ff{tg:Φ}{a b:Φ}{ta:TA}{p pos:Pos}(hg:Gl X "range")(hm:X.mg "range"=none)(ha:QA X [a,b] ta)(hs:ι [a,b] X.env=[(false,eval a X.env),(false,eval b X.env)]:=by rfl)(hs2:ι [b] X.env=[(false,eval b X.env)]:=by rfl):QI X tg (.Call (.Name "range" p) [a,b] [] pos) (xt ta):=#[uG (hg:=hg) (hm:=hm) (ha:=ha.h) (hs:=hs) (hs2:=hs2)]
theorem AZ{a:Φ}{ta:TA}{p pos:Pos}{elts:List Φ}{x1}{tpos:Pos}(hg:Gl X "enumerate")(hm:X.mg "enumerate"=none)(ha:QA X [a] ta)(hs:ι [a] X.env=[(false,eval a X.env)]:=by rfl):QI X (.Tuple elts x1 tpos) (.Call (.Name "enumerate" p) [a] [] pos) (xu X.K ta):=#[yY (hg:=hg) (hm:=hm) (ha:=ha.h) (hs:=hs)]
theorem qh{pos:Pos}{i:Nat}{x:Str}(hN:X.N.Nodup)(hi:X.N[i]? =some x)(hx:f8 X.env.scope x)(hf:X.fn x=true\/X.env.scope.names.lookup x=some .local:=by first|exact .inl rfl|exact .inr rfl|assumption):QG X (.Name x pos) (QK i):=#[AG (hN:=hN) (hi:=hi) (hx:=hx) (hf:=hf)]
theorem gV{pos:Pos}{es:List Φ}{k:Nat}{t:ao}{n:Nat}(hc:X.calm=true)(h:Mn X es t)(hn:(assignEach es X.env).length=n:=by rfl)(hst:(assignEach es X.env).findIdx? (·.1)=none:=by rfl):QG X (.Tuple es k pos) (wF X.K n t):=#[lS (hc:=hc) (h:=h.h) (hn:=hn) (hst:=hst)]
theorem eD{pos:Pos}{o i:Φ}{to ti:TE}{t:gf}(ho:QE X o to)(hi:QE X i ti)(hs:mF X t)(ha:∀v,assign (.Subscript o i pos) X.env v=(do
      let ov <- holding [v] (eval o X.env)
      let iv <- holding [v,ov] (eval i X.env)
      standAt pos
      holding [v,ov,iv] (setItem ov iv v)
      release [v,ov,iv] []):=by intro _;rfl):QG X (.Subscript o i pos) (CQ to ti t):=#[BT (ho:=ho.h) (hi:=hi.h) (hs:=hs) (ha:=ha)]
theorem q9:Mn X [] BB:=#[AF]
theorem qm{e:Φ}{es:List Φ}{t:TG}{u:ao}(h1:QG X e t)(h2:Mn X es u)(hs:(assignEach (e::es) X.env).map (·.2)=assign e X.env::(assignEach es X.env).map (·.2):=by rfl):Mn X (e::es) (yq t u):=#[vU (h1:=h1.h) (h2:=h2.h) (hs:=hs)]
theorem QW.pt{e:Φ}{t:TT}(h:QW X e t):QT X e t:=#[PW.pt h.h]
theorem qv(i:Nat){x:Str}{pos:Pos}(hN:X.N[i]? =some x:=by rfl)(hv:BC X.env.scope x:=by first|exact Or.inl rfl|exact Or.inr (Or.inl rfl)|exact Or.inr (Or.inr rfl))(hd:(x==("__debug__":Str))=false:=by decide)
  (hcd:(x==("__classdict__":Str))=false:=by decide):QE X (.Name x pos) (Bg i):=#[CM hN hv hd hcd]
theorem zL{elt tg iter:Φ}{scope:Scope}{cl:List (Str×Δ)}{pos:Pos}{fr own:List Str}{js:List Nat}{wi:TI}{g:TG}{te:TE}
  (hc:X.calm=true)(hi:QI X tg iter wi)(hclos:closureFor scope X.env=pure cl)(hcl:∀y c,cl.lookup y=some c->X.env.cells.lookup y=some c)(hfr:cl.map (·.1)=fr)
  (S:GI X scope fr js)
  (hg:∀C s H fp,QG (qX X (own++fr) scope cl C s H fp) tg g)(he:∀C s H fp,QE (qX X (own++fr) scope cl C s H fp) elt te)
  (hs:∀x,foldedSetIterable iter X.env x=pure x:=by intro _;rfl):
  QE X (.ListComp elt [#[tg,iter,[],0]] scope pos) (gX own.length js wi g te):=#[yT hc hi.h hclos hcl hfr S (fun C s H fp=>(hg C s H fp).h) (fun C s H fp=>(he C s H fp).h) hs]
theorem fK{elt tg iter:Φ}{scope:Scope}{cl:List (Str×Δ)}{pos spos py:Pos}{fr own:List Str}{js:List Nat}{wi:TI}{g:TG}{te:TE}{i:Nat}{y:Str}
  (hN:X.N.Nodup)(hi':X.N[i]? =some y)(hx:f8 X.env.scope y)
  (hc:X.calm=true)(hi:QI X tg iter wi)(hclos:closureFor scope X.env=pure cl)(hcl:∀y c,cl.lookup y=some c->X.env.cells.lookup y=some c)(hfr:cl.map (·.1)=fr)
  (S:GI X scope fr js)
  (hg:∀C s H fp,QG (qX X (own++fr) scope cl C s H fp) tg g)(he:∀C s H fp,QE (qX X (own++fr) scope cl C s H fp) elt te)
  (hs:∀x,foldedSetIterable iter X.env x=pure x:=by intro _;rfl)(hsw:swapsWith (.ListComp elt [#[tg,iter,[],0]] scope pos) (some (.Name y py)) spos.line X.env=pure true:=by rfl)
  (hf:X.fn y=true\/X.env.scope.names.lookup y=some .local:=by first|exact .inl rfl|exact .inr rfl|assumption):
  QS X (.Assign [.Name y py] (.ListComp elt [#[tg,iter,[],0]] scope pos) spos) (eG (gX own.length js wi g te) (QK i)):=#[Ap hN hi' hx hc hi.h hclos hcl hfr S (fun C s H fp=>(hg C s H fp).h) (fun C s H fp=>(he C s H fp).h) hs hsw hf]
section
variable{P:Ξ}{w:Ω}{K:μ}{mg:F3}{base:Ψ}
theorem At.dq{x:Str}{st:ε}{ps N:List Str}{k:Nat}{sp:Sp}(a:At K mg x st ps)(S:F6 N ps (qi st))
  (hbody:∀(f:Δ) (cdv:Γ) (A:Around) (outer:List Env) (s:Θ) (H:Hp) (vs:List V) (Q:VK) (E:XK),Gq k (A.deeper (PyProof.Rows.envOfC x (qi st) s.heap.objs.size f cdv))->sp vs H Q E->
   ∃t,Lj (bK bh P w K mg base N x (qi st) f cdv A outer s H E).nox (zO st) t/\t {nx:=fun _ H'=>Q .non H',rt:=Q} (Zi N vs) H)(len:∀vs H Q E,sp vs H Q E->vs.length=ps.length:=by intro vs H Q E h;first|(cases h;subst_vars;rfl)|((repeat first|obtain⟨rfl,h⟩:=h|obtain⟨_,h⟩:=h);all_goals rfl)):Df P w K mg base x ps (k+1) sp:=
 a.df S len fun f cdv A outer s H vs Q E hr h=>let⟨t,q1,q2⟩:=hbody f cdv A outer s H vs Q E hr h;#[t,q1.h,q2]
theorem _root_.L2.IQ.dq{x MU:Str}{st:ε}{f:Δ}{fd:FuncData}{N ps:List Str}{k:Nat}{sp:Sp}(F:IQ K x MU st f fd)(S:F6 N ps (qi st))(len:∀vs H Q E,sp vs H Q E->vs.length=ps.length)
  (hbody:∀(cdv:Γ) (A:Around) (outer:List Env) (s:Θ) (H:Hp) (vs:List V) (Q:VK) (E:XK),Gq k (A.deeper (PyProof.Rows.envOfC MU (qi st) s.heap.objs.size f cdv))->sp vs H Q E->
   ∃t,Lj (bK bh P w K mg base N MU (qi st) f cdv A outer s H E).nox (zO st) t/\t {nx:=fun _ H'=>Q .non H',rt:=Q} (Zi N vs) H):HG P w K mg base bh (k+1) f fd ps sp:=
 F.ok S len fun cdv A outer s H vs Q E hr h=>let⟨t,q1,q2⟩:=hbody cdv A outer s H vs Q E hr h;#[t,q1.h,q2]
theorem Dc{x:Str}{st:ε}{ps:List Str}{f:Δ}{fd:FuncData}(F:IQ K x x st f fd)(m:mg x=some (.ref f))(b:G9 K fd ps []):At K mg x st ps:=#[f,fd,F,m,F.kp,b]
end
end L3
namespace L3
open PySem PySem.Spec PyProof.Rows L2
def GG:List Int:=(List.range 16).map fun i=>((i:Nat):Int)
theorem kW:GG.length=16:=by decide
theorem Cb:((List.range 16).map fun i=>V.int ((i:Nat):Int))=GG.map V.int:=by decide +kernel
theorem yO{α:Type}{xs:List α}{z:Int}{j:Nat}{v:α}(e:z=(j:Int))(h:xs[j]? =some v):QL xs z=some v:=by rw[e];exact QD h
theorem iP{n j:Nat}{z:Int}(e:z=(j:Int))(h:j<n):cv n z=some j:=by rw[e];exact oR h
theorem mD{z:Int}(h:z∈GG):0<=z/\z<16:=by
 obtain⟨i,hi,e⟩:=Jq.mp h
 have:=JN.mp hi
 lia
end L3
namespace L3
open PySem PySem.Spec PyProof.Rows L2
open Sem (wp)
section
variable{prog:Ξ}{w:Ω}{A:Around}{E:F2}{s:Θ}
theorem si{it t:Δ}{i:Nat}{its:Array Γ}{x:Γ}{Q:F2}(hit:s.heap.IsTupleIter it t i)(ht:s.heap.IsTuple t its)(hx:its[i]? =some x)
  (hQ:∀h',h'.IsTupleIter it t (i+1)->Ψ.SameBut it s.heap h'->Q x {s with heap:=h'}):ζ (model prog w) A (δ.SmallTypes.nextOf (.ref it)) Q E s:=by
 obtain⟨o,ho,hc,hd⟩:=id hit;obtain⟨ol,hol,_,nl,hdl⟩:=ht;unfold δ.SmallTypes.nextOf;refine Ja (wpAny_callSpecial?_slot (name:=Str.ofString "__next__") hit.typeIs FD
  (J1 FD hit.typeIs F.entry_tuple_iterator_next ?_ (F.args_tuple_iterator_next_1 _)))
 show ζ _ _ (field (.ref it) 0 >>= _) _ _ s
 refine Ja (El ho hd (x:= .ref t) rfl ?_)
 show ζ _ _ (if(Γ.ref t==Γ.none)=true then _ else _) _ _ s
 rw[Jc (show¬((Γ.ref t==Γ.none)=true)from JI)]
 show ζ _ _ (field (.ref it) 1 >>= _) _ _ s
 refine Ja (El ho hd (x:= .int i 0) rfl ?_)
 show ζ _ _ (seqItems? (.ref t) >>= _) _ _ s
 refine Ja (FE hol hdl ?_)
 simp only[EC,hx];refine Ja (ED ho hd (by simp) (Jd #[x,rfl,Jd (hQ _ ?_ (J6 ..))]))
 exact#[_,EY _ ho (FF (E5 hd _)),(Obj.cls_mapFields ..).trans hc,by
  rw[E5 hd];simp [rawInt]]
theorem jq{it t:Δ}{i:Nat}{its:Array Γ}{Q:F2}(hh:A.handled=none)(hit:s.heap.IsTupleIter it t i)(ht:s.heap.IsTuple t its)(hx:its[i]? =none)
  (hE:∀h' e,Ψ.ExtBut it s.heap h'->(∃o,h'.get? e=some o/\o.cls= .type "StopIteration")->E (.ref e) {s with heap:=h'}):
  ζ (model prog w) A (δ.SmallTypes.nextOf (.ref it)) Q E s:=by
 obtain⟨o,ho,hc,hd⟩:=id hit;obtain⟨ol,hol,_,nl,hdl⟩:=ht;unfold δ.SmallTypes.nextOf;refine Ja (wpAny_callSpecial?_slot (name:=Str.ofString "__next__") hit.typeIs FD
  (J1 FD hit.typeIs F.entry_tuple_iterator_next ?_ (F.args_tuple_iterator_next_1 _)))
 show ζ _ _ (field (.ref it) 0 >>= _) _ _ s
 refine Ja (El ho hd (x:= .ref t) rfl ?_)
 show ζ _ _ (if(Γ.ref t==Γ.none)=true then _ else _) _ _ s
 rw[Jc (show¬((Γ.ref t==Γ.none)=true)from JI)]
 show ζ _ _ (field (.ref it) 1 >>= _) _ _ s
 refine Ja (El ho hd (x:= .int i 0) rfl ?_)
 show ζ _ _ (seqItems? (.ref t) >>= _) _ _ s
 refine Ja (FE hol hdl ?_)
 simp only[EC,hx];refine Ja (Eu (Ja (ED ho hd (by simp) ?_)))
 show ζ _ _ (newExc (.type "StopIteration") [] >>= _) _ _ _
 refine Ja ?_
 simp only[newExc,newTuple];refine Ja (J5 ?_ (by size_fits))
 refine Ja (m:=firstArgMember _ _) (Ez (a:=Γ.none) (by first|rfl|(simp only[firstArgMember];rfl)) ?_)
 refine J5 ?_ (by size_fits)
 simp only[raiseNew];refine Ja (wpAny_handled ?_)
 first|rw[show A.in1.handled=none from hh]|rw[hh]
 refine Ja (Jd (wpAny_throw ?_))
 exact hE _ _ (((J6 ..).extBut.push _).push _) #[_,Js _ rfl,rfl]
end
theorem CH{prog:Ξ}{w:Ω}{A:Around}(hh:A.handled=none)(it t:Δ)(hne:t≠it)(its:Array Γ):
  Draws prog w A it [it,t] its.size (fun i v=>its[i]? =some v) (fun i h=>h.IsTupleIter it t i/\h.IsTuple t its) where
 live:=fun _ _ st=>let⟨o,ho,_⟩:=st.1;#[o,ho]
 frame:=fun _ _ _ st hk=>#[st.1.at fun o e=>hk it (by simp) o e,let⟨o,e,r⟩:=st.2;#[o,hk t (by simp) o e,r]]
 item:=fun i s Q E hi st hQ=>by
  refine si st.1 st.2 (x:=its[i]) (by simp [hi]) fun h' hit' hs'=>?_
  exact hQ _ h' s.toks (by simp [hi]) #[hit',let⟨o,e,r⟩:=st.2;#[o,hs'.extBut _ _ hne e,r]] hs'
 done:=fun s Q E st hE=>jq hh st.1 st.2 (by simp) hE
open AutoSeq1 (wpAny_loadPart')in
theorem m7(l:Δ)(items:Array Γ)(n:Nat)(dct:Option Δ)(sl:Array (Option Γ)):
  Meets (δ.«enumerate.__new__» #[[.type "enumerate",.ref l],[]]) (fun _ R s=>s.heap.get? l=some {cls:= .type "tuple",dict:=dct,data:= .seq items n,slots:=sl}/\
   R (.ok (.ret (.ref (s.heap.push {cls:= .type "tuple_iterator",data:= .fields (List.toArray [.ref l,.int 0 0])}).objs.size)))
    {s with heap:=(s.heap.push {cls:= .type "tuple_iterator",data:= .fields (List.toArray [.ref l,.int 0 0])}).push {cls:= .type "enumerate",data:= .fields (List.toArray [.none,.bool false,.ref s.heap.objs.size,rawInt 0,.none,.none])}}):=
 .of_wp fun prog w A R s h=>by
  obtain⟨hp,g,d,tk,os⟩:=s;obtain⟨hl,h⟩:=h
  have hsub:=sub_enumerate;have hL:Ψ.IsTuple (Θ.heap #[hp,g,d,tk,os]) l items:=#[_,hl,rfl,n,rfl]
  wp_walk using EO hl
  refine wpAny_stack_any fun st=>Jd ?_
  split
  ·rename_i c _ _ _ _ _
   cases(c==Γ.type "enumerate")
   ·wp_walk using EO hl,Fd hL
    exact#[_,rfl,h]
   ·wp_walk using EO hl,Fd hL
    exact#[_,rfl,h]
  ·wp_walk using EO hl,Fd hL
   exact#[_,rfl,h]
section
variable{prog:Ξ}{w:Ω}{A:Around}{E:F2}{s:Θ}
theorem rf{l:Δ}{items:Array Γ}{Q:F2}(hL:s.heap.IsTuple l items)
  (h:∀h',IsEnum h' (s.heap.objs.size+1) s.heap.objs.size 0 .none->h'.IsTupleIter s.heap.objs.size l 0->(∀b o,s.heap.get? b=some o->h'.get? b=some o)->Q (.ref (s.heap.objs.size+1)) {s with heap:=h'}):
  ζ (model prog w) A (call (.type "enumerate") [.ref l]) Q E s:=by
 obtain⟨⟨c,dct,dt,sl⟩,hl,hc,n,hd⟩:=hL
 replace hc:c= .type "tuple":=hc
 replace hd:dt= .seq items n:=hd
 subst hc hd;refine callType_new F.called_enumerate (by decide) (F.typeCall_enumerate_1 _) (F.newCall_enumerate_1 _) (fun obj=>F.args_object_init_2 obj _) F.entry_enumerate_new
  (m7 l items n dct sl) #[hl,?_]
 have hz:(s.heap.push {cls:= .type "tuple_iterator",data:= .fields (List.toArray [.ref l,.int 0 0])}).objs.size=s.heap.objs.size+1:=JX ..
 show _/\_
 rw[hz];have he:IsEnum ((s.heap.push {cls:= .type "tuple_iterator",data:= .fields (List.toArray [.ref l,.int 0 0])}).push
   {cls:= .type "enumerate",data:= .fields (List.toArray [.none,.bool false,.ref s.heap.objs.size,rawInt 0,.none,.none])}) (s.heap.objs.size+1) s.heap.objs.size 0 .none:=by
  have:=Js (s.heap.push {cls:= .type "tuple_iterator",data:= .fields (List.toArray [.ref l,.int 0 0])})
   (o:={cls:= .type "enumerate",data:= .fields (List.toArray [.none,.bool false,.ref s.heap.objs.size,rawInt 0,.none,.none])}) rfl
  rw[hz]at this;exact this
 exact#[#[_,he,rfl],h _ he #[_,Jj _ (Js _ rfl),rfl,rfl] fun b o x=>Jj _ (Jj _ x)]
end
def mf(K:μ)(a:Δ):It:=
 #[fun i H=>∃xs x,Gh K H a xs/\xs[i]? =some x,fun i H x H'=>∃p v,H p=none/\x= .ref p/\(∀xs,Gh K H a xs->xs[i]? =some v)/\H'=F9 H p (.tup [.int i,v]),fun i H=>∃xs,Gh K H a xs/\xs.length<=i]
theorem rb{P:Ξ}{w:Ω}{K:μ}{elts:List Φ}{x1}{pos:Pos}(a e it:Δ)(hei:e≠it):
  HV P w K (.Tuple elts x1 pos) (mf K a) [e,it] e (fun i h=>(∃old,IsEnum h e it i old)/\h.IsTupleIter it a i) where
 mem:=by simp
 obj:=fun i h st b hb=>by
  obtain⟨⟨old,he⟩,⟨o,ho,hc,hd⟩⟩:=st;rcases Jr.mp hb with z|z
  ·subst z
   refine#[_,he,fun v z=>?_]
   have z':Data.fields _=Data.cell v:=z
   cases z'
  ·rw[Jl.mp z]
   exact#[o,ho,fun v z=>by rw[hd]at z;cases z]
 keep:=fun i h h' st k=>#[let⟨old,he⟩:=st.1;#[old,k e (by simp) _ he],st.2.at fun o q=>k it (by simp) o q]
 item:=by
  intro X hP hw hK hc i MT s σ H E I hf st hg;subst hP hw hK;obtain⟨xs,x,hq,hx⟩:=hg;obtain⟨its,rv,p,hz⟩:=I.tuple hq;obtain⟨u,hu,ru⟩:=rv.get hx;obtain⟨⟨old,he⟩,hit⟩:=st;have nae:a≠e:=fun z=>by
   subst z;obtain⟨o,ho,hcl,_⟩:=p;rw[he]at ho;cases ho;exact absurd (show Γ.type "enumerate"=Γ.type "tuple" from hcl) (by decide)
  have nai:a≠it:=fun z=>by
   subst z;obtain⟨o,ho,hcl,_⟩:=p;obtain⟨o',ho',hc',_⟩:=hit;rw[ho]at ho';cases ho';rw[hcl]at hc';exact absurd hc' (by decide)
  have hil:i<its.toArray.size:=by
   have:=(Jy.mp hu).1
   simpa using this
  refine wpAny_pyNext_enum_itemD (CH (A:=X.A.in1) (I.ok.hd hc) it a nai its.toArray) he #[hit,p] hil hei (by simp [hei,Ne.symm nae]) fun v h' tk hv ho ⟨hit',_⟩ ht hsz hk=>#[_,rfl,?_]
  have ev:v=u:=by
   have hv':its[i]? =some v:=by simpa using hv
   rw[hu]at hv';exact(JG hv').symm
  subst ev;refine wpAny_letOwnedTupleGo_enum ho fun h'' he'' hs''=>?_
  have helt:e<s.heap.objs.size:=Ji he
  have hilt:it<s.heap.objs.size:=by obtain⟨_,y,_⟩:=hit;exact Ji y
  refine#[.ref s.heap.objs.size,F9 H s.heap.objs.size (.tup [.int i,x]),?_,rfl,#[_,x,I.hok.fresh (Jf _),rfl,fun ys hy=>by rw[I.tuple_inj hy hq];exact hx,rfl],#[#[_,by simpa using he''],?_],?_]
  ·show L2.F8 X MT σ _ {s with heap:=h'',toks:=tk+1}
   refine oC (s:=s) (its:=[.int i tk,v]) I (ch:=[e,it]) (fun b o hb q=>?_) hf (fun b hb=>?_) (Jf _) (by show 2<=η;decide) (.cons #[_,rfl] (.cons ru .nil)) ?_
   ·have hb1:b≠e:=fun z=>hb (by simp [z])
    have hb2:b≠it:=fun z=>hb (by simp [z])
    exact(hs''.2 b hb1).trans (hk b o hb1 hb2 q)
   ·rcases Jr.mp hb with z|z
    ·subst z;exact#[_,he'']
    ·rw[Jl.mp z]
     obtain⟨o,y,_⟩:=hit'
     exact#[o,(hs''.2 it (Ne.symm hei)).trans y]
   ·exact#[_,(hs''.2 _ (J7 helt)).trans ht,rfl,_,rfl]
  ·exact hit'.extBut hs''.extBut (Ne.symm hei)
  ·intro b hb
   rw[qj]
   ·exact(hf b hb).1
   ·rcases Jr.mp hb with z|z
    ·subst z;exact Jk helt
    ·rw[Jl.mp z];exact Jk hilt
 done:=by
  intro X hP hw hK hc i MT s σ H E I hf st hg;subst hP hw hK;obtain⟨xs,hq,hx⟩:=hg;obtain⟨its,rv,p,hz⟩:=I.tuple hq;obtain⟨⟨old,he⟩,hit⟩:=st;obtain⟨f0,f1,f2,f3,f4,f5⟩:=hf it (by simp)
  have hl:=rv.length;have nai:a≠it:=fun z=>by
   subst z;obtain⟨o,ho,hcl,_⟩:=p;obtain⟨o',ho',hc',_⟩:=hit;rw[ho]at ho';cases ho';rw[hcl]at hc';exact absurd hc' (by decide)
  unfold pyNext;have hT:s.TypeIs (.ref e) "enumerate":=#[_,he,rfl]
  refine Ja (Fk (wpAny_callSpecial?_slot (name:=Str.ofString "__next__") hT F.slot_enumerate_next
   (J1 F.slot_enumerate_next hT F.entry_enumerate_next ?_ (F.args_enumerate_next_1 _))))
  show ζ _ _ (field (.ref e) 2 >>= _) _ _ _
  refine Ja (El he rfl (x:= .ref it) rfl ?_)
  refine Ja (jq (I.ok.hd hc) hit p (by simp;lia) fun h' ex eb hx'=>?_)
  obtain⟨o,ho,hcl⟩:=hx';refine Ja (E6 (T:="StopIteration") (b:=true) #[o,ho,hcl] isSubtype_stop ?_)
  exact Jd #[rfl,I.turned (t':=s.toks) (fun b o hb e=>eb b o hb e) f0 f1 f3 f4 f5]
 self:=fun _ _ _ _ _ st h=>by
  obtain⟨⟨old,he⟩,_⟩:=st;exact Fv he h
section
variable{X:Cx}
def tG(K:μ)(ta:TA):TI:=fun σ H R=>ta σ H fun vs H1=>∃a,vs=[.ref a]/\((∃xs,Gd K H1 a xs)/\R (oH K a) H1\/(∃xs,Gh K H1 a xs)/\R (mf K a) H1)
theorem vd{a:Φ}{ta:TA}{p pos:Pos}{elts:List Φ}{x1}{tpos:Pos}(hg:Gl X "enumerate")(hm:X.mg "enumerate"=none)(ha:PA X [a] ta)(hs:ι [a] X.env=[(false,eval a X.env)]:=by rfl):
  PI X (.Tuple elts x1 tpos) (.Call (.Name "enumerate" p) [a] [] pos) (tG X.K ta):=by
 intro MT s σ H R I h;refine Call_ (ac I hg hm boot_enumerate (Fe (qu (ha pos MT s σ H _ I h) fun us s1 zq=>?_) hs rfl))
 obtain⟨vs,H1,I1,r1,q1⟩:=zq;obtain⟨l,e,q1⟩:=q1;subst e;obtain⟨u,rfl,ru⟩:=r1.one;cases ru;have fpk:∀b∈[s1.heap.objs.size+1,s1.heap.objs.size],Zp X MT H1 b:=fun b hb=>by
  have hb':s1.heap.objs.size<=b:=by
   rcases Jr.mp hb with z|z
   ·rw[z];exact EW _
   ·rw[Jl.mp z];exact Jf _
  exact I1.fpOk hb' (I1.hok.fresh hb')
 rcases q1 with⟨⟨xs,hq⟩,q⟩|⟨⟨xs,hq⟩,q⟩
 ·obtain⟨its,rv,pl,hz⟩:=I1.list hq
  refine call_enumerate_list pl.isList fun h' he hit hsz hk=>Fv he ?_
  exact#[s1.heap.objs.size+1,[s1.heap.objs.size+1,s1.heap.objs.size],_,_,H1,rfl,I1.kept (t':=s1.toks) hk,jF l _ _ (J7 (Ew _)),#[#[_,he],hit],fpk,q]
 ·obtain⟨its,rv,pl,hz⟩:=I1.tuple hq
  refine rf (show s1.heap.IsTuple l its.toArray from pl) fun h' he hit hk=>Fv he ?_
  exact#[s1.heap.objs.size+1,[s1.heap.objs.size+1,s1.heap.objs.size],_,_,H1,rfl,I1.kept (t':=s1.toks) hk,rb l _ _ (J7 (Ew _)),#[#[_,he],hit],fpk,q]
theorem tP{K:μ}{a:Δ}{xs:List V}{g:TG}{tb:TS}{D:GX}{σ:L2.St}{H:Hp}(Pv:Nat->L2.St->Hp->Prop)(h0:Pv 0 σ H)(hl:∀i σ H,i<=xs.length->Pv i σ H->Gh K H a xs)
  (hs:∀i x σ H p,xs[i]? =some x->Pv i σ H->H p=none->g (.ref p) σ (F9 H p (.tup [.int i,x])) fun σ2 H2=>tb {D with nx:=Pv (i+1),ct:=Pv (i+1),bk:=D.nx} σ2 H2)(hd:∀σ H,Pv xs.length σ H->D.nx σ H):
  ∃W:Nat->Nat->L2.St->Hp->Prop,(∃m,W 0 m σ H)/\∀i m σ H,W i m σ H->
   ((mf K a).stop i H/\D.nx σ H)\/((mf K a).go i H/\∃N:L2.St->Hp->Prop,(∀σ' H',N σ' H'->∃m',m'<m/\W (i+1) m' σ' H')/\∀x H',(mf K a).yld i H x H'->g x σ H' fun σ2 H2=>tb {D with nx:=N,ct:=N,bk:=D.nx} σ2 H2):=by
 refine#[fun i m σ H=>m=xs.length-i/\i<=xs.length/\Pv i σ H,#[xs.length,by simp,JC _,h0],?_]
 rintro i m σ H ⟨rfl,hi,p⟩
 have q:=hl i σ H hi p
 by_cases hlt:i<xs.length
 ·refine .inr #[#[xs,xs[i],q,by simp [hlt]],Pv (i+1),fun σ' H' p'=>#[xs.length-(i+1),by lia,rfl,hlt,p'],fun x H' y=>?_]
  obtain⟨pp,v,hp,rfl,hv,rfl⟩:=y;exact hs i v σ H pp (hv xs q) p hp
 ·have e:i=xs.length:=by lia
  subst e;exact .inl #[#[xs,q,Jf _],hd σ H p]
end
end L3
namespace L3
open PySem PySem.Spec PyProof.Rows L2 PySem.SeqAt
open Sem (wp)
open AutoSeq1 (wpAny_loadPart')
section
variable{X:Cx}
theorem Rd.same{H H':Hp}{a:Δ}{u:HO}(s:F5 H H')(h:Rd H a u):Rd H' a u:=by
 rcases h with h|⟨o,h⟩
 ·exact .inl (s _ _ h)
 ·exact .inr #[o,s _ _ h]
inductive LN (H:Hp):V->String->Prop where
 |int (i:Int):LN H (.int i) "int"
 |bl (b:Bool):LN H (.bl b) "bool"
 |tup {a:Δ} {xs:List V} (h:Rd H a (.tup xs)):LN H (.ref a) "tuple"
 |str (x:Str):LN H (.str x) "str"
 |non:LN H .non "NoneType"
 |lst {a:Δ} {xs:List V} (h:H a=some (.lst xs)):LN H (.ref a) "list"
theorem AY{H:Hp}{x:V}{t:String}(h:LN H x t):t∈iQ:=by cases h<;>simp
theorem eF:zi X (.builtin "isinstance") (fun xs H Q=>∃x c t,xs=[x,.ty c]/\LN H x t/\c∈lB/\Q (.bl (aX t c)) H):=by
 intro MT s σ H xs us Q I r h;obtain⟨x,c,t,rfl,ty,hc,q⟩:=h;obtain⟨u,v,rfl,ru,rv⟩:=kM r
 cases(show v=Γ.type c from rv)
 have e:=oM X.K t (AY ty) c hc;have fin:∀tk,EP X MT σ Q (.bool (aX t c)) {s with toks:=tk}:=fun tk=>#[.bl _,H,I.tok tk,rfl,q]
 cases ty with
 |int i=>obtain⟨t,q⟩:=(show∃t,u=Γ.int i t from ru);cases q;exact JY W.kitx_int I.kIn True.intro e (fun z=>nomatch z) fin
 |bl b=>cases(show u=Γ.bool b from ru);exact JY W.kitx_bool I.kIn True.intro e (fun z=>nomatch z) fin
 | @tup a ys hr=>
  cases(show u=Γ.ref a from ru)
  obtain⟨its,_,⟨o,h1,h2,_⟩,_⟩:=I.tuple (.inl hr)
  exact JY W.kitx_tuple I.kIn #[o,h1,h2] e (fun z=>nomatch z) fin
 |str x=>obtain⟨t,q⟩:=(show∃t,u=Γ.str x t from ru);cases q;exact JY W.kitx_str I.kIn True.intro e (fun z=>nomatch z) fin
 |non=>cases(show u=Γ.none from ru);exact JY W.kitx_none I.kIn True.intro e (fun z=>nomatch z) fin
 | @lst a ys ea=>
  cases(show u=Γ.ref a from ru)
  obtain⟨_,_,n,_,h1⟩:=(show Gn X.prog X.w H s.heap a (.lst ys)from I.hok a _ ea)
  exact JY W.kitx_list I.kIn #[_,h1,rfl] e (fun z=>nomatch z) fin
end
def zE(t:List Int):List Int:=(List.range 16).map fun d=>((t.idxOf ((d:Nat):Int):Nat):Int)
theorem bG(t:List Int):(zE t).length=16:=by simp [zE]
section
variable{t:List Int}(p:t.Perm GG)
include p
theorem uL:t.Nodup:=p.nodup_iff.mpr (by decide)
theorem oN:t.length=16:=by rw[p.length_eq,kW]
theorem y8{d:Nat}(h:d<16):((d:Nat):Int)∈t:=p.mem_iff.mpr (Jq.mpr #[d,JN.mpr h,rfl])
theorem mY{i:Nat}(h:i<t.length):0<=t[i]/\t[i]<16:=mD (p.mem_iff.mp (EZ h))
theorem tX{i:Nat}(h:i<t.length):t.idxOf t[i]=i:=(uL p).idxOf_getElem i h
theorem yP{d:Nat}(h:d<16):(zE t)[d]'(by rw[bG];exact h)=((t.idxOf ((d:Nat):Int):Nat):Int):=by simp [zE]
end
end L3
namespace L3
open PySem PySem.Spec L2
variable{X:Cx}
theorem bD{sts:List ε}:Lj X sts um:=#[uh]
theorem wu{a:Φ}{ta:TA}{p pos:Pos}{elts:List Φ}{x1}{tpos:Pos}(hg:Gl X "enumerate")(hm:X.mg "enumerate"=none)(ha:QA X [a] ta)(hs:ι [a] X.env=[(false,eval a X.env)]:=by rfl):QI X (.Tuple elts x1 tpos) (.Call (.Name "enumerate" p) [a] [] pos) (tG X.K ta):=#[vd (hg:=hg) (hm:=hm) (ha:=ha.h) (hs:=hs)]
def HH(H:Hp)(b:Δ)(c:Nat):Prop:=∃n m k:Int,H b=some (rS n m k)/\0<=m/\m<4611686018427387904/\0<=k/\k<=c
structure HB(b:Δ)(c:Nat)(H H':Hp):Prop where
 kp:∀a o,a≠b->H a=some o->H' a=some o
 bx:HH H' b c
theorem HH.mono{H:Hp}{b:Δ}{c d:Nat}(h:HH H b c)(l:c<=d):HH H b d:=by
 obtain⟨n,m,k,e,a1,a2,a3,a4⟩:=h
 exact#[n,m,k,e,a1,a2,a3,by lia]
theorem HB.mono{b:Δ}{c d:Nat}{H H':Hp}(h:HB b c H H')(l:c<=d):HB b d H H':=#[h.kp,h.bx.mono l]
theorem HB.trans{b:Δ}{c d:Nat}{H H1 H2:Hp}(x:HB b c H H1)(y:HB b d H1 H2):HB b d H H2:=#[fun c o n e=>y.kp c o n (x.kp c o n e),y.bx]
theorem _root_.L2.F5.grc{b:Δ}{c:Nat}{H H':Hp}(x:F5 H H')(h:HH H b c):HB b c H H':=#[fun c o _ e=>x c o e,let⟨n,m,k,e,r⟩:=h;#[n,m,k,x _ _ e,r]]
theorem HB.same{b:Δ}{c:Nat}{H H1 H2:Hp}(x:HB b c H H1)(y:F5 H1 H2):HB b c H H2:=x.trans (y.grc x.bx)
theorem qU{H:Hp}{b l:Δ}{c:Nat}(hb:HH H b c)(h:H l=none):l≠b:=fun z=>by
 obtain⟨_,_,_,e,_⟩:=hb;subst z;rw[e]at h;cases h
inductive LO (K:μ) (vs:List V) (H:Hp) (Q:VK):Prop
 |mk (a:Δ) (ns:List Int) (k:Nat) (h1:vs=[.ref a,.int k]) (h2:Gd K H a (ns.map V.int)) (h3:∀b H',H b=none->F5 H H'->HH H' b 0->Q (.ref b) H')
def uM(K:μ):Sp:=fun vs H Q _=>LO K vs H Q
inductive Lk (vs:List V) (H:Hp) (Q:VK):Prop
 |mk (b:Δ) (many:Int) (c:Nat) (h1:vs=[.ref b,.int many]) (h2:HH H b c) (h3:c<1000000000) (h4:0<many) (h5:many<1073741824) (h6:∀r H',0<=r->r<many->HB b (c+1) H H'->Q (.int r) H')
def cn:Sp:=fun vs H Q _=>Lk vs H Q
theorem QR{H H':Hp}{p:Δ}(h:H' p=none)(s:F5 H H'):H p=none:=by
 cases e:H p with
 |none=>rfl
 |some o=>rw[s _ _ e]at h;cases h
def gt:V->Bool
 | .int _=>true
 |_=>false
theorem AO{H:Hp}{x:V}{t:String}(h:kd H x=some t):gt x=(aX t "int"&& !aX t "bool"):=by
 cases x with
 |non=>cases h;decide
 |bl b=>cases h;show false=_;decide
 |int i=>cases h;show true=_;decide
 |str x=>cases h;show false=_;decide
 |byt b=>cases h
 |flt b=>cases h
 |ty b=>cases h
 |ref a=>
  rcases gS h with⟨xs,e,rfl⟩|⟨xs,e,rfl⟩
  ·show false=_;decide
  ·show false=_;decide
theorem wB{x:V}(h:gt x=true):∃i,x= .int i:=by
 cases x<;>first|exact#[_,rfl]|cases h
theorem tE{x:V}(h:gt x=false):cL x=false:=by
 cases x<;>first|rfl|cases h
inductive IS (vs:List V) (H:Hp) (Q:VK):Prop
 |mk (x:_) (t:_) (h1:vs=[x]) (h2:kd H x=some t) (h3:Q (.bl (gt x)) H)
def gM:Sp:=fun vs H Q _=>IS vs H Q
theorem F5.sqt{K:μ}{H H':Hp}{a:Δ}{xs:List V}(e:F5 H H')(h:Gh K H a xs):Gh K H' a xs:=by
 rcases h with h|h
 ·exact .inl (Rd.same e h)
 ·exact .inr h
def Q6(t:List Int)(i:Nat):List Int:=(List.range 16).map fun d=>if((d:Nat):Int)∈t.take i then((t.idxOf ((d:Nat):Int):Nat):Int)else 0
theorem cj(t:List Int)(i:Nat):(Q6 t i).length=16:=by simp [Q6]
theorem wg(t:List Int):Q6 t 0=List.replicate 16 0:=by simp only[Q6,List.take_zero,Ex,Jz];rfl
theorem uX{t:List Int}{i d:Nat}(h:d<16):(Q6 t i)[d]'(by rw[cj];exact h)=if((d:Nat):Int)∈t.take i then((t.idxOf ((d:Nat):Int):Nat):Int)else 0:=by simp [Q6]
theorem yU{t:List Int}(p:t.Perm GG):Q6 t t.length=zE t:=by
 unfold Q6 zE;refine E7 fun d hd=>?_
 rw[Ep,Jb (y8 p (JN.mp hd))]
theorem wZ{t:List Int}(p:t.Perm GG){i:Nat}(hi:i<t.length):(Q6 t i).set t[i].toNat (i:Int)=Q6 t (i+1):=by
 have b:=mY p hi;refine List.ext_getElem (by rw[Fu,cj,cj]) fun d h1 h2=>?_
 have hd:d<16:=by rw[cj]at h2;exact h2
 rw[List.getElem_set,uX hd,uX hd,Ed,Jg hi,Option.toList_some]
 by_cases e:t[i].toNat=d
 ·have e':((d:Nat):Int)=t[i]:=by lia
  rw[Jb e,Jb (by rw[e'];exact JH _ (Jl.mpr rfl)),e',tX p hi]
 ·have e':((d:Nat):Int)≠t[i]:=by lia
  rw[Jc e];simp only[JB,Jl,e',Ey]
inductive LP (K:μ) (vs:List V) (H:Hp) (Q:VK):Prop
 |mk (a:Δ) (t:List Int) (h1:vs=[.ref a]) (h2:(Gd K H a (t.map V.int)\/Gh K H a (t.map V.int))) (h3:t.Perm GG) (h4:∀p H',F5 H H'->H' p=some (.tup ((zE t).map V.int))->Q (.ref p) H')
def tK(K:μ):Sp:=fun vs H Q _=>LP K vs H Q
theorem Aq{X:Cx}{K:μ}(hK:X.K=K){pos:Pos}{es:List Φ}{k:Nat}{t:ao}(n:Nat)(hc:X.calm=true)(h:Mn X es t)(hn:(assignEach es X.env).length=n:=by rfl)(hst:(assignEach es X.env).findIdx? (·.1)=none:=by rfl):QG X (.Tuple es k pos) (wF K n t):=by
 subst hK
 exact#[lS (hc:=hc) (h:=h.h) (hn:=hn) (hst:=hst)]
end L3
namespace L3
open PySem PySem.Spec PyProof.Rows L2
open Sem (wp)
namespace RV
theorem uu:Slot "reversed" "__init__" "object.__init__":=
  .of (owner := "object") (n := "__init__") (by rw[Fl,Fm]
                                                kernel_rfl) (by decide +kernel) (by decide +kernel) (by decide +kernel)
    (by first | exact .inl (by decide +kernel) | exact .inr (by decide +kernel)) (by rw[E2]
                                                                                     kernel_rfl)
theorem called:TypeCalled "reversed" "reversed.__new__" "object.__init__":=
 #[by decide +kernel,by decide +kernel,#[_,_,F.mro_reversed],F.made_reversed,by decide +kernel,F.sub_reversed_self,uu]
theorem slot_next:Slot "reversed" "__next__" "reversed.__next__":=
  .of (owner := "reversed") (n := "__next__") (by rw[Fl,Fm]
                                                  kernel_rfl) (by decide +kernel) (by decide +kernel) (by decide +kernel)
    (by first | exact .inl (by decide +kernel) | exact .inr (by decide +kernel)) (by rw[E2]
                                                                                     kernel_rfl)
theorem entry_next:entryFor table "reversed.__next__"=some δ.«reversed.__next__»:=entryFor_of_tree (by kernel_rfl)
theorem jA:Manifest.owners.lookup (String.ofList ['d', 'e', 's', 'r', 'e', 'v', 'e', 'r'].reverse)=some Manifest.sig_reversed:=by kernel_rfl
theorem args_next(a:Γ):argsOk "reversed.__next__" #[[a],[]]:=by
 unfold argsOk;rw[signature?_of (id:="reversed.__next__") (n:=['_', '_', 't', 'x', 'e', 'n', '_', '_']) (o:=['d', 'e', 's', 'r', 'e', 'v', 'e', 'r']) (by kernel_rfl) jA]
 kernel_rfl
theorem slot_iter:Slot "reversed" "__iter__" "reversed.__iter__":=
  .of (owner := "reversed") (n := "__iter__") (by rw[Fl,Fm]
                                                  kernel_rfl) (by decide +kernel) (by decide +kernel) (by decide +kernel)
    (by first | exact .inl (by decide +kernel) | exact .inr (by decide +kernel)) (by rw[E2]
                                                                                     kernel_rfl)
theorem args_iter(a:Γ):argsOk "reversed.__iter__" #[[a],[]]:=by
 unfold argsOk;rw[signature?_of (id:="reversed.__iter__") (n:=['_', '_', 'r', 'e', 't', 'i', '_', '_']) (o:=['d', 'e', 's', 'r', 'e', 'v', 'e', 'r']) (by kernel_rfl) jA]
 kernel_rfl
theorem entry_iter:entryFor table "reversed.__iter__"=some δ.«dict_keyiterator.__iter__»:=
  entryFor_alias (id':="dict_keyiterator.__iter__") (by kernel_rfl)
    (by first | rfl | decide +kernel | (unfold String.splitOn
                                        simp +decide [String.splitOnAux])) (by decide +kernel) (by kernel_rfl)
theorem no_tuple:typeLookup (.type "tuple") "__reversed__"=pure none:=by
 rw[Fl,Fm]
 kernel_rfl
theorem tup_dict:isSubtype (.type "tuple") (.type "dict")=pure false:=by
 rw[E2]
 kernel_rfl
theorem ri_rev:isSubtype (.type "range_iterator") (.type "reversed")=pure false:=by
 rw[E2]
 kernel_rfl
theorem tc1(a:Γ):checkTypeCall "reversed" #[[a],[]]=pure ():=by kernel_rfl
end RV
def HI(h:Ψ)(it t:Δ)(i:Int):Prop:=∃o,h.get? it=some o/\o.cls= .type "reversed"/\o.data= .fields (List.toArray [.ref t,rawInt i])
theorem sv(l:Δ)(items:Array Γ)(hz:items.size<=η):
  Meets (δ.«reversed.__new__» #[[.type "reversed",.ref l],[]]) (fun A R s=>s.heap.IsTuple l items/\
   R (.ok (.ret (.ref s.heap.objs.size))) {s with heap:=s.heap.push {cls:= .type "reversed",data:= .fields (List.toArray [.ref l,rawInt ((items.size:Int)-1)])},toks:=s.toks+2}):=
 .of_wp fun prog w A R s h=>by
  obtain⟨hp,g,d,tk,os⟩:=s;obtain⟨hl,h⟩:=h
  have hsub:=F.sub_reversed_self;have hT:Θ.TypeIs #[hp,g,d,tk,os] (.ref l) "tuple":=let⟨o,e,c,_⟩:=hl;#[o,e,c]
  have hL:Ψ.IsTuple (Θ.heap #[hp,g,d,tk,os]) l items:=hl
  have hd:=RV.tup_dict;have hI:IsTup (Θ.heap #[hp,g,d,tk,os]) l items:=hl
  have hn:=ab
  wp_walk using E8 hT RV.no_tuple,Ez hd,E8 hT F.slot_tuple_getitem.lookup,len_tuple hI (by omega)
  exact#[_,rfl,h]
end L3
namespace L3
open PySem PySem.Spec PyProof.Rows L2
open Sem (wp)
abbrev yI(a b c:Int):Bool:=δ.Range.rangeFitsLong a&&δ.Range.rangeFitsLong b&&δ.Range.rangeFitsLong c&&δ.Range.rangeFitsLong (-c)&&δ.Range.rangeFitsLong (a-c)&&δ.Range.rangeFitsLong (δ.Range.rangeSize a b c)
theorem nD(r:Δ)(a b c:Int)(t u v:Tok)(hc0:¬(!yI a b c)=true):
  Meets (δ.«range.__reversed__» #[[.ref r],[]]) (fun _ R s=>s.heap.get? r=some {cls:= .type "range",dict:=none,data:= .fields (List.toArray [.int a t,.int b u,.int c v]),slots:= (List.toArray [])}/\
   R (.ok (.ret (.ref s.heap.objs.size))) {s with heap:=s.heap.push {cls:= .type (if yI a b c then "range_iterator" else "longrange_iterator"),data:= .fields (List.toArray [rawInt (a+(δ.Range.rangeSize a b c-1)*c),rawInt (δ.Range.rangeSize a b c),rawInt (-c)])}}):=
 .of_wp fun prog w A R s h=>by obtain⟨hp,g,d,tk,os⟩:=s;obtain⟨hl,h⟩:=h;wp_walk;exact#[_,rfl,h]
theorem va(n:Nat):δ.Range.rangeSize 0 n 1=n:=by
 unfold δ.Range.rangeSize;rw[Jb (by decide)]
 split<;>lia
theorem t9{n:Nat}(hn:(n:Int)<2 ^ 62):yI 0 n 1=true:=by
 unfold yI;rw[va];simp only[δ.Range.rangeFitsLong,Ju,decide_eq_true_eq];lia
theorem pK(r:Δ)(n:Nat)(t u v:Tok)(hn:(n:Int)<2 ^ 62):
  Meets (δ.«range.__reversed__» #[[.ref r],[]]) (fun _ R s=>s.heap.get? r=some {cls:= .type "range",data:= .fields (List.toArray [.int 0 t,.int n u,.int 1 v])}/\
   R (.ok (.ret (.ref s.heap.objs.size))) {s with heap:=s.heap.push {cls:= .type "range_iterator",data:= .fields (List.toArray [rawInt ((n:Int)-1),rawInt n,rawInt (-1)])}}):=by
 have g:=nD r 0 n 1 t u v (by rw[t9 hn];decide)
 rw[t9 hn,va,Jb rfl,Int.mul_one,Int.zero_add]at g;exact g
section
variable{prog:Ξ}{w:Ω}{A:Around}{E:F2}{s:Θ}
theorem HI.typeIs{it t:Δ}{i:Int}(x:HI s.heap it t i):s.TypeIs (.ref it) "reversed":=by
 obtain⟨o,ho,hc,_⟩:=x
 exact#[o,ho,hc]
theorem nN{it t:Δ}{i:Nat}{items:Array Γ}{x:Γ}{Q:Option Γ->Θ->Prop}(hit:HI s.heap it t (i:Int))(hl:IsTup s.heap t items)(hx:items[i]? =some x)(hz:items.size<=η)
  (hQ:∀h' tk,HI h' it t ((i:Int)-1)->Ψ.SameBut it s.heap h'->Q (some x) {s with heap:=h',toks:=tk}):ζ (model prog w) A (pyNext (.ref it)) Q E s:=by
 obtain⟨o,ho,hc,hd⟩:=id hit;have hT:s.TypeIs (.ref t) "tuple":=let⟨o,e,c,_⟩:=hl;#[o,e,c]
 have hn:=ab;have hlt:i<items.size:=(Array.getElem?_eq_some_iff.mp hx).1
 unfold pyNext;refine Ja (Fk (wpAny_callSpecial?_slot (name:=Str.ofString "__next__") (HI.typeIs hit) RV.slot_next
  (J1 RV.slot_next (HI.typeIs hit) RV.entry_next ?_ (RV.args_next _))))
 unfold δ.«reversed.__next__»
 refine Ja (Ez (a:=(Γ.ref it,[])) rfl ?_)
 try dsimp only
 refine Ja (El ho hd (x:= .ref t) rfl ?_)
 refine Ja (El ho hd (x:=rawInt (i:Int)) rfl ?_)
 show ζ _ _ (if(i:Int)<0 then _ else _) _ _ s
 rw[Jc (by lia)]
 try dsimp only
 refine Ja (E8 hT F.slot_tuple_getitem.lookup ?_)
 rw[Jc (show¬((some (Γ.builtin "tuple.__getitem__")).isNone=true)from JI)]
 refine Ja (wpAny_mkInt ?_)
 have hI:IsTup (Θ.heap {s with toks:=s.toks+1}) t items:=hl
 refine Ja (Fk (getItem_tuple hI (by lia) (by lia) (by unfold seqIndex?;rw[Jc (show¬((i:Int)<0) by lia)];simp [hlt]) hx ?_))
 try dsimp only
 refine Ja (El (s:={s with toks:=s.toks+1}) ho hd (x:=rawInt (i:Int)) rfl ?_)
 show ζ _ _ (setField (.ref it) 1 (rawInt ((i:Int)-1)) >>= _) _ _ _
 refine Ja (ED (s:={s with toks:=s.toks+1}) ho hd (by simp) ?_)
 refine Jd #[x,rfl,Jd (hQ _ _ ?_ (J6 ..))]
 exact#[_,EY _ ho (FF (E5 hd _)),(Obj.cls_mapFields ..).trans hc,by
  rw[E5 hd];simp]
theorem p9{it t:Δ}{Q:Option Γ->Θ->Prop}(hh:A.handled=none)(hit:HI s.heap it t (-1))
  (hQ:∀h',Ψ.ExtBut it s.heap h'->Q none {s with heap:=h'}):ζ (model prog w) A (pyNext (.ref it)) Q E s:=by
 obtain⟨o,ho,hc,hd⟩:=id hit;unfold pyNext;refine Ja (Fk (wpAny_callSpecial?_slot (name:=Str.ofString "__next__") (HI.typeIs hit) RV.slot_next
  (J1 RV.slot_next (HI.typeIs hit) RV.entry_next ?_ (RV.args_next _))))
 unfold δ.«reversed.__next__»
 refine Ja (Ez (a:=(Γ.ref it,[])) rfl ?_)
 try dsimp only
 refine Ja (El ho hd (x:= .ref t) rfl ?_)
 refine Ja (El ho hd (x:=rawInt (-1)) rfl ?_)
 show ζ _ _ (if(-1:Int)<0 then _ else _) _ _ s
 rw[Jb (by decide)]
 refine Ja (Eu ?_)
 refine Ja ?_
 show ζ _ _ (setField (.ref it) 1 (rawInt (-1)) >>= _) _ _ _
 refine Ja (ED ho hd (by simp) ?_)
 have hg1:=EY (Obj.mapFields (·.setIfInBounds 1 (rawInt (-1)))) ho (FF (E5 hd _))
 refine ED hg1 (E5 hd _) (by simp) ?_
 refine Ja ?_
 show ζ _ _ (newExc (.type "StopIteration") [] >>= _) _ _ _
 refine Ja ?_
 simp only[newExc,newTuple];refine Ja (J5 ?_ (by size_fits))
 refine Ja (m:=firstArgMember _ _) (Ez (a:=Γ.none) (by first|rfl|(simp only[firstArgMember];rfl)) ?_)
 refine J5 ?_ (by size_fits)
 simp only[raiseNew];refine Ja (wpAny_handled ?_)
 first|rw[show A.in1.handled=none from hh]|rw[hh]
 refine Ja (Jd (wpAny_throw ?_))
 refine Ja (E6 (T:="StopIteration") (b:=true) #[_,Js _ rfl,rfl] isSubtype_stop ?_)
 exact Jd (hQ _ (((((J6 ..).trans (J6 ..)).extBut).push _).push _))
theorem tD{it t:Δ}{i:Int}{Q:F2}(hit:HI s.heap it t i)(h:Q (.ref it) s):ζ (model prog w) A (pyIter (.ref it)) Q E s:=by
 refine wpAny_pyIter_slot (HI.typeIs hit) RV.slot_iter (J1 RV.slot_iter (HI.typeIs hit) RV.entry_iter ?_ (RV.args_iter _))
 show ζ _ _ (ret (.ref it)) _ _ s
 exact Jd #[_,rfl,"reversed",_,HI.typeIs hit,RV.slot_next.lookup,h]
theorem Cp{l:Δ}{items:Array Γ}{Q:F2}(hl:s.heap.IsTuple l items)(hz:items.size<=η)
  (h:∀h' tk,HI h' s.heap.objs.size l ((items.size:Int)-1)->(∀b o,s.heap.get? b=some o->h'.get? b=some o)->Q (.ref s.heap.objs.size) {s with heap:=h',toks:=tk}):
  ζ (model prog w) A (call (.type "reversed") [.ref l]) Q E s:=by
 refine callType_new RV.called (by decide) (RV.tc1 _) (F.newCall_reversed_1 _) (fun obj=>F.args_object_init_2 obj _) F.entry_reversed_new (sv l items hz) #[hl,?_]
 exact#[#[_,Js _ rfl,rfl],h _ _ #[_,Js _ rfl,rfl,rfl] fun b o e=>Jj _ e]
theorem Ch{r:Δ}{n:Nat}{t u v:Tok}{Q:F2}(hr:s.heap.get? r=some {cls:= .type "range",data:= .fields (List.toArray [.int 0 t,.int n u,.int 1 v])})(hn:(n:Int)<2 ^ 62)
    (h:∀h',IsRangeIter h' s.heap.objs.size ((n:Int)-1) n (-1)->(∀b o,s.heap.get? b=some o->h'.get? b=some o)->Q (.ref s.heap.objs.size) {s with heap:=h'}):
    ζ (model prog w) A (call (.type "reversed") [.ref r]) Q E s:=by
  have hT:s.TypeIs (.ref r) "range":=#[_,hr,rfl]
  refine callType_other (U:="range_iterator") (Q₁:=fun obj s₁=>obj= .ref s.heap.objs.size/\∃h',s₁={s with heap:=h'}/\IsRangeIter h' s.heap.objs.size ((n:Int)-1) n (-1)/\∀b o,s.heap.get? b=some o->h'.get? b=some o) (by decide +kernel) F.create_reversed #[_,_,F.mro_reversed] F.made_reversed RV.ri_rev (RV.tc1 _) ?_ ?_
  · refine codeAny_of_tree ?_
    show ζ _ A.in1.in1 (do checkBuiltinCall "reversed.__new__" #[[.type "reversed",.ref r],[]];again (.builtin "reversed.__new__" #[[.type "reversed",.ref r],[]])) _ _ s
    refine Ja (Ez (F.newCall_reversed_1 _) (Jd #[plainId_quiet F.plain_reversed_new _,ER F.entry_reversed_new ?_]))
    rw[Around.under_plainId F.plain_reversed_new _];unfold δ.«reversed.__new__»
    refine Ja (Ez (newClass_reversed _) ?_)
    try dsimp only
    refine Ja (Ez (a:=()) (by first|rfl|kernel_rfl) ?_)
    refine Ja (Ez (a:=()) (by first|rfl|kernel_rfl) ?_)
    try dsimp only
    refine Ja (E8 hT F.slot_range_reversed.lookup ?_)
    try dsimp only
    refine Ja (Ez (F.slot_range_reversed.bind _) ?_)
    try dsimp only
    first
    |rw[Jc (show¬((Γ.builtin "range.__reversed__"==Γ.none)=true)from JI)]
    | (show ζ _ _ (if(Γ.builtin "range.__reversed__"==Γ.none)=true then _ else _) _ _ _
       rw[Jc (show¬((Γ.builtin "range.__reversed__"==Γ.none)=true)from JI)])
    refine Ja (Eu ?_)
    refine Ja (m:=runValue (.call (.builtin "range.__reversed__") ⟨[.ref r],[]⟩)) (show ζ _ _ (call (.builtin "range.__reversed__") [.ref r]) _ _ _ from
      call_meets F.slot_range_reversed hT F.entry_range_reversed (F.args_range_reversed_1 _) (pK r n t u v hn) ⟨hr,?_⟩)
    first
    |exact Jd ⟨rfl,_,rfl,Js _ rfl,fun b o e=>Jj _ e⟩
    |exact Ja (Jd (Jd ⟨rfl,_,rfl,Js _ rfl,fun b o e=>Jj _ e⟩))
  · rintro obj s₁ ⟨rfl,h',rfl,hi,hk⟩
    exact⟨⟨_,hi,rfl⟩,h h' hi hk⟩
end
def rM(K:μ)(a:Δ)(n:Nat):It:=
 ⟨fun i H=>i<n/\∃xs,Gd K H a xs/\xs.length=n,fun i H x H'=>H'=H/\∀xs,Gd K H a xs->xs[n-1-i]? =some x,fun i _=>n<=i⟩
def rW(K:μ)(a:Δ)(n:Nat):It:=
 ⟨fun i H=>i<n/\∃xs,Gh K H a xs/\xs.length=n,fun i H x H'=>H'=H/\∀xs,Gh K H a xs->xs[n-1-i]? =some x,fun i _=>n<=i⟩
def pT(n:Nat):It:=⟨fun i _=>i<n,fun i H x H'=>H'=H/\x= .int ((n:Int)-1-i),fun i _=>n<=i⟩
theorem rT{P:Ξ}{w:Ω}{K:μ}{tg:Φ}(a it:Δ)(n:Nat):HV P w K tg (rM K a n) [it] it (fun i h=>i<=n/\h.IsRevIter it a ((n:Int)-1-i)) where
 mem:=by simp
 obj:=fun i h st b hb=>by
  have e:b=it:=by simpa using hb
  subst e;obtain⟨_,o,e,c,d⟩:=st
  exact#[o,e,fun v z=>by rw[d]at z;cases z]
 keep:=fun i h h' st k=>#[st.1,st.2.at fun o e=>k it (by simp) o e]
 item:=by
  intro X hP hw hK hc i MT s σ H E I hf st hg;subst hP hw hK;obtain⟨hi,xs,hq,hn⟩:=hg;obtain⟨its,rv,p,hz⟩:=I.list hq;have hlt:n-1-i<xs.length:=by lia
  obtain⟨u,hu,ru⟩:=rv.get (Jg hlt)
  obtain⟨f0,f1,f2,f3,f4,f5⟩:=hf it (by simp)
  have e1:(n:Int)-1-i=((n-1-i:Nat):Int):=by lia
  have st2:=st.2;rw[e1]at st2;refine wpAny_pyNext_rev_item st2 p.isList (x:=u) (by simpa using hu) fun h' st' sb=>?_
  have I1:L2.F8 X MT σ H {s with heap:=h'}:=I.turned (t':=s.toks) (fun b o hb e=>(sb.2 b hb).trans e) f0 f1 f3 f4 f5
  obtain⟨o,e,c,d⟩:=id st';refine#[u,rfl,cP (s:={s with heap:=h'}) e c d (by decide) #[_,H,I1,ru,#[rfl,fun ys hy=>by rw[I.list_inj hy hq];exact Jg hlt],#[by lia,?_],fun b hb=>(hf b hb).1]]
  have e2:((n-1-i:Nat):Int)-1=(n:Int)-1-((i+1:Nat):Int):=by lia
  rw[<- e2];exact st'
 done:=by
  intro X hP hw hK hc i MT s σ H E I hf st hg;subst hP hw hK;obtain⟨f0,f1,f2,f3,f4,f5⟩:=hf it (by simp)
  have hi:i=n:=Nat.le_antisymm st.1 hg
  have st2:=st.2;rw[show(n:Int)-1-i= -1 by lia]at st2
  exact wpAny_pyNext_rev_end (I.ok.hd hc) st2 fun h' eb=>#[rfl,I.turned (t':=s.toks) (fun b o hb e=>eb b o hb e) f0 f1 f3 f4 f5]
 self:=fun _ _ _ _ _ st h=>wpAny_pyIter_revIter st.2 h
theorem sH{P:Ξ}{w:Ω}{K:μ}{tg:Φ}(a it:Δ)(n:Nat):HV P w K tg (rW K a n) [it] it (fun i h=>i<=n/\HI h it a ((n:Int)-1-i)) where
 mem:=by simp
 obj:=fun i h st b hb=>by
  have e:b=it:=by simpa using hb
  subst e;obtain⟨_,o,e,c,d⟩:=st
  exact#[o,e,fun v z=>by rw[d]at z;cases z]
 keep:=fun i h h' st k=>#[st.1,let⟨o,e,r⟩:=st.2;#[o,k it (by simp) o e,r]]
 item:=by
  intro X hP hw hK hc i MT s σ H E I hf st hg;subst hP hw hK;obtain⟨hi,xs,hq,hn⟩:=hg;obtain⟨its,rv,p,hz⟩:=I.tuple hq;have hlen:=rv.length;have hlt:n-1-i<xs.length:=by lia
  obtain⟨u,hu,ru⟩:=rv.get (Jg hlt)
  obtain⟨f0,f1,f2,f3,f4,f5⟩:=hf it (by simp)
  have e1:(n:Int)-1-i=((n-1-i:Nat):Int):=by lia
  have st2:=st.2;rw[e1]at st2;refine nN st2 p (x:=u) (by simpa using hu) (by simp;lia) fun h' tk st' sb=>?_
  have I1:L2.F8 X MT σ H {s with heap:=h',toks:=tk}:=I.turned (t':=tk) (fun b o hb e=>(sb.2 b hb).trans e) f0 f1 f3 f4 f5
  obtain⟨o,e,c,d⟩:=id st';refine#[u,rfl,cP (s:={s with heap:=h',toks:=tk}) e c d (by decide) #[_,H,I1,ru,#[rfl,fun ys hy=>by rw[I.tuple_inj hy hq];exact Jg hlt],#[by lia,?_],fun b hb=>(hf b hb).1]]
  have e2:((n-1-i:Nat):Int)-1=(n:Int)-1-((i+1:Nat):Int):=by lia
  rw[<- e2];exact st'
 done:=by
  intro X hP hw hK hc i MT s σ H E I hf st hg;subst hP hw hK;obtain⟨f0,f1,f2,f3,f4,f5⟩:=hf it (by simp)
  have hi:i=n:=Nat.le_antisymm st.1 hg
  have st2:=st.2;rw[show(n:Int)-1-i= -1 by lia]at st2
  exact p9 (I.ok.hd hc) st2 fun h' eb=>#[rfl,I.turned (t':=s.toks) (fun b o hb e=>eb b o hb e) f0 f1 f3 f4 f5]
 self:=fun _ _ _ _ _ st h=>tD st.2 h
theorem sR{P:Ξ}{w:Ω}{K:μ}{tg:Φ}(it:Δ)(n:Nat):HV P w K tg (pT n) [it] it (fun i h=>IsRangeIter h it ((n:Int)-1+(i:Nat)*(-1)) ((n:Int)-(i:Nat)) (-1)) where
 mem:=by simp
 obj:=fun i h st b hb=>by
  have e:b=it:=by simpa using hb
  subst e
  exact#[_,st,fun v z=>by
   have z':Data.fields _=Data.cell v:=z
   cases z']
 keep:=fun i h h' st k=>k it (by simp) _ st
 item:=by
  intro X hP hw hK hc i MT s σ H E I hf st hg;subst hP hw hK;obtain⟨f0,f1,f2,f3,f4,f5⟩:=hf it (by simp)
  have W:=Walks.range (prog:=X.prog) (w:=X.w) (I.ok.hd hc) it ((n:Int)-1) (-1) n
  refine W.item i s _ _ hg st fun v h' tk hv st' kk=>?_
  obtain⟨t,rfl⟩:=hv;have I1:L2.F8 X MT σ H {s with heap:=h',toks:=tk}:=I.turned (fun b o hb e=>kk b o (by simpa using hb) e) f0 f1 f3 f4 f5
  refine#[_,rfl,cP (s:={s with heap:=h',toks:=tk}) (n:="range_iterator") st' rfl rfl (by decide) #[.int ((n:Int)-1-i),H,I1,#[t,?_],#[rfl,rfl],st',fun b hb=>(hf b hb).1]]
  rw[show(n:Int)-1+(i:Nat)*(-1)=(n:Int)-1-i by lia]
 done:=by
  intro X hP hw hK hc i MT s σ H E I hf st hg;subst hP hw hK;obtain⟨f0,f1,f2,f3,f4,f5⟩:=hf it (by simp)
  exact wpAny_pyNext_range_end (I.ok.hd hc) st (by have:n<=i:=hg;lia) fun h' eb=>#[rfl,I.turned (t':=s.toks) (fun b o hb e=>eb b o hb e) f0 f1 f3 f4 f5]
 self:=fun _ _ _ _ _ st h=>FO st h
section
variable{X:Cx}{tg:Φ}
theorem xh:bootBuiltins "reversed"=some (.type "reversed"):=by kernel_rfl
def B5(K:μ)(ta:TA):TI:=fun σ H R=>ta σ H fun vs H1=>∃a,vs=[.ref a]/\((∃xs,Gd K H1 a xs/\R (rM K a xs.length) H1)\/(∃xs,Gh K H1 a xs/\R (rW K a xs.length) H1)\/∃n:Nat,H1 a=some (.rng 0 n)/\(n:Int)<2 ^ 62/\R (pT n) H1)
theorem B6{a:Φ}{ta:TA}{p pos:Pos}(hg:Gl X "reversed")(hm:X.mg "reversed"=none)(ha:PA X [a] ta)(hn:cg a=true:=by rfl):
  PI X tg (.Call (.Name "reversed" p) [a] [] pos) (B5 X.K ta):=by
 intro MT s σ H R I h;refine Call_ (ac I hg hm xh (Fe (qu (ha pos MT s σ H _ I h) fun us s1 zq=>?_) (jE hn) rfl))
 obtain⟨vs,H1,I1,r1,q1⟩:=zq;obtain⟨l,e,q1⟩:=q1;subst e;obtain⟨u,rfl,ru⟩:=r1.one;cases ru;have fpk:∀b∈[s1.heap.objs.size],Zp X MT H1 b:=fun b hb=>by
  rw[Jl.mp hb];exact I1.fpOk (Jf _) (I1.hok.fresh (Jf _))
 rcases q1 with⟨xs,hq,q⟩|⟨xs,hq,q⟩|⟨n,hq,hn62,q⟩
 ·obtain⟨its,rv,pl,hz⟩:=I1.list hq
  have hlen:=rv.length;refine call_reversed_list pl.isList ?_
  have hi:(s1.heap.push (revObj l ((its.toArray.size:Int)-1))).IsRevIter s1.heap.objs.size l ((its.toArray.size:Int)-1):=#[_,Js _ rfl,rfl,rfl]
  refine wpAny_pyIter_revIter hi ?_
  refine#[s1.heap.objs.size,[s1.heap.objs.size],_,_,H1,rfl,I1.kept (t':=s1.toks) fun b o e=>Jj _ e,rT l _ xs.length,#[JC _,?_],fpk,q]
  rw[show(xs.length:Int)-1-((0:Nat):Int)=(its.toArray.size:Int)-1 by simp [hlen]]
  exact hi
 ·obtain⟨its,rv,pl,hz⟩:=I1.tuple hq
  have hlen:=rv.length;refine Cp (show s1.heap.IsTuple l its.toArray from pl) (by simp;lia) fun h' tk hi hk=>tD hi ?_
  refine#[s1.heap.objs.size,[s1.heap.objs.size],_,_,H1,rfl,I1.kept (t':=tk) hk,sH l _ xs.length,#[JC _,?_],fpk,q]
  rw[show(xs.length:Int)-1-((0:Nat):Int)=(its.toArray.size:Int)-1 by simp [hlen]]
  exact hi
 ·obtain⟨t,u,v,hr⟩:=I1.hok l _ hq
  refine Ch hr hn62 fun h' hi hk=>FO hi ?_
  refine#[s1.heap.objs.size,[s1.heap.objs.size],_,_,H1,rfl,I1.kept (t':=s1.toks) hk,sR _ n,?_,fpk,q]
  show IsRangeIter _ _ _ _ _
  rw[show(n:Int)-1+((0:Nat):Int)*(-1)=(n:Int)-1 by lia,show(n:Int)-((0:Nat):Int)=n by lia]
  exact hi
def CL(K:μ)(tl:TE):TI:=fun σ H R=>tl σ H fun x H1=>∃a,x= .ref a/\((∃xs,Gd K H1 a xs)/\R (c9 K a) H1\/(∃xs,Gh K H1 a xs)/\R (jv K a) H1)
theorem Cq{l:Φ}{tl:TE}(hl:PE X l tl):PI X tg l (CL X.K tl):=by
 intro MT s σ H R I h;refine qu (hl MT s σ H _ I h) fun v s1 zq=>?_
 obtain⟨x,H1,I1,r1,q1⟩:=zq;obtain⟨a,e,q1⟩:=q1;subst e;cases r1;have fpk:∀b∈[s1.heap.objs.size],Zp X MT H1 b:=fun b hb=>by
  rw[Jl.mp hb];exact I1.fpOk (Jf _) (I1.hok.fresh (Jf _))
 rcases q1 with⟨⟨xs,hq⟩,q⟩|⟨⟨xs,hq⟩,q⟩
 ·obtain⟨its,rv,p,hz⟩:=I1.list hq
  refine Fc p.isList ?_
  exact#[s1.heap.objs.size,[s1.heap.objs.size],_,_,H1,rfl,I1.kept (t':=s1.toks) fun b o e=>Jj _ e,jl a _,#[_,Js _ rfl,rfl,rfl],fpk,q]
 ·obtain⟨its,rv,p,hz⟩:=I1.tuple hq
  refine Fd (show s1.heap.IsTuple a its.toArray from p) ?_
  exact#[s1.heap.objs.size,[s1.heap.objs.size],_,_,H1,rfl,I1.kept (t':=s1.toks) fun b o e=>Jj _ e,gQ a _,#[_,Js _ rfl,rfl,rfl],fpk,q]
end
section
variable{K:μ}{a:Δ}{xs:List V}{g:TG}{tb:TS}{D:GX}{σ:L2.St}{H:Hp}
abbrev Z5(J:It)(g:TG)(tb:TS)(D:GX)(σ:L2.St)(H:Hp):Prop:=∃W:Nat->Nat->L2.St->Hp->Prop,(∃m,W 0 m σ H)/\∀i m σ H,W i m σ H->
      (J.stop i H/\D.nx σ H)\/(J.go i H/\∃N:L2.St->Hp->Prop,(∀σ' H',N σ' H'->∃m',m'<m/\W (i+1) m' σ' H')/\∀x H',J.yld i H x H'->g x σ H' fun σ2 H2=>tb {D with nx:=N,ct:=N,bk:=D.nx} σ2 H2)
theorem fE{J:It}{n:Nat}(Pv:Nat->L2.St->Hp->Prop)(h0:Pv 0 σ H)(hgo:∀i σ H,i<n->Pv i σ H->J.go i H)(hst:∀H,J.stop n H)
  (hs:∀i x σ H H',i<n->Pv i σ H->J.yld i H x H'->g x σ H' fun σ2 H2=>tb {D with nx:=Pv (i+1),ct:=Pv (i+1),bk:=D.nx} σ2 H2)(hd:∀σ H,Pv n σ H->D.nx σ H):Z5 J g tb D σ H:=by
 refine#[fun i m σ H=>m=n-i/\i<=n/\Pv i σ H,#[n,by simp,JC _,h0],?_]
 rintro i m σ H ⟨rfl,hi,p⟩
 by_cases hlt:i<n
 ·exact .inr #[hgo i σ H hlt p,Pv (i+1),fun σ' H' p'=>#[n-(i+1),by lia,rfl,hlt,p'],fun x H' y=>hs i x σ H H' hlt p y]
 ·have e:i=n:=by lia
  subst e;exact .inl #[hst H,hd σ H p]
theorem vg(Pv:Nat->L2.St->Hp->Prop)(h0:Pv 0 σ H)(hl:∀i σ H,Pv i σ H->Gd K H a xs)
  (hs:∀i x σ H,i<xs.length->xs[xs.length-1-i]? =some x->Pv i σ H->g x σ H fun σ2 H2=>tb {D with nx:=Pv (i+1),ct:=Pv (i+1),bk:=D.nx} σ2 H2)(hd:∀σ H,Pv xs.length σ H->D.nx σ H):Z5 (rM K a xs.length) g tb D σ H:=
 fE Pv h0 (fun i σ H hi p=>#[hi,xs,hl i σ H p,rfl]) (fun _=>Jf _) (fun i x σ H H' hi p y=>by
  obtain⟨rfl,y⟩:=y;exact hs i x σ H' hi (y xs (hl i σ H' p)) p) hd
theorem vj(Pv:Nat->L2.St->Hp->Prop)(h0:Pv 0 σ H)(hl:∀i σ H,Pv i σ H->Gh K H a xs)
  (hs:∀i x σ H,i<xs.length->xs[xs.length-1-i]? =some x->Pv i σ H->g x σ H fun σ2 H2=>tb {D with nx:=Pv (i+1),ct:=Pv (i+1),bk:=D.nx} σ2 H2)(hd:∀σ H,Pv xs.length σ H->D.nx σ H):Z5 (rW K a xs.length) g tb D σ H:=
 fE Pv h0 (fun i σ H hi p=>#[hi,xs,hl i σ H p,rfl]) (fun _=>Jf _) (fun i x σ H H' hi p y=>by
  obtain⟨rfl,y⟩:=y;exact hs i x σ H' hi (y xs (hl i σ H' p)) p) hd
theorem wN{n:Nat}(Pv:Nat->L2.St->Hp->Prop)(h0:Pv 0 σ H)
  (hs:∀i σ H,i<n->Pv i σ H->g (.int ((n:Int)-1-i)) σ H fun σ2 H2=>tb {D with nx:=Pv (i+1),ct:=Pv (i+1),bk:=D.nx} σ2 H2)(hd:∀σ H,Pv n σ H->D.nx σ H):Z5 (pT n) g tb D σ H:=
 fE Pv h0 (fun i σ H hi p=>hi) (fun _=>Jf _) (fun i x σ H H' hi p y=>by
  obtain⟨rfl,rfl⟩:=y;exact hs i σ H' hi p) hd
end
end L3
namespace L3
open PySem PySem.Spec L2
variable{X:Cx}
theorem uC{tg:Φ}{a:Φ}{ta:TA}{p pos:Pos}(hg:Gl X "reversed")(hm:X.mg "reversed"=none)(ha:QA X [a] ta)(hn:cg a=true:=by rfl):QI X tg (.Call (.Name "reversed" p) [a] [] pos) (B5 X.K ta):=#[B6 (hg:=hg) (hm:=hm) (ha:=ha.h) (hn:=hn)]
theorem Ci{tg:Φ}{l:Φ}{tl:TE}(hl:QE X l tl):QI X tg l (CL X.K tl):=#[Cq (hl:=hl.h)]
def b9(x:Int):Prop:=0<=x/\x<16
def zB(r:List Int):Prop:=∀x∈r,b9 x
def yD(n i:Nat):Nat:=if i=0 then n-1 else i-1
def ah(r:List Int)(i:Nat):Int:=r.getD (yD r.length i) 0
def iI(t:List Int)(s:Int)(r:List Int)(i:Nat):List Int:=r.set i (t.getD ((r.getD i 0+s+i+ah r i)%16).toNat 0)
def gA(b:List Int)(s:Int)(r:List Int)(i:Nat):List Int:=r.set i ((b.getD (r.getD i 0).toNat 0-s-i-ah r i)%16)
def ar(t:List Int)(s:Int)(r:List Int):Nat->List Int
 |0=>r
 |n+1=>iI t s (ar t s r n) n
def aW(b:List Int)(s:Int)(r:List Int):Nat->List Int
 |0=>r
 |n+1=>aW b s (gA b s r n) n
def QQ(t:List Int):List Int->List Int->List Int
 | [],r=>r
 |s::ks,r=>QQ t ks (ar t s r r.length)
def Zq(b:List Int):List Int->List Int->List Int
 | [],r=>r
 |s::ks,r=>aW b s (Zq b ks r) r.length
theorem wU{t:List Int}{s:Int}{r:List Int}{i:Nat}:(iI t s r i).length=r.length:=Fu ..
theorem mn{b:List Int}{s:Int}{r:List Int}{i:Nat}:(gA b s r i).length=r.length:=Fu ..
theorem QU{t:List Int}{s:Int}{r:List Int}:∀{n:Nat},(ar t s r n).length=r.length
 |0=>rfl
 |n+1=>by rw[ar,wU,QU]
theorem kT{b:List Int}{s:Int}:∀{n:Nat} {r:List Int},(aW b s r n).length=r.length
 |0,_=>rfl
 |n+1,r=>by rw[aW,kT,mn]
theorem cy{t:List Int}:∀{ks r:List Int},(QQ t ks r).length=r.length
 | [],_=>rfl
 |s::ks,r=>by rw[QQ,cy,QU]
theorem gL{b:List Int}:∀{ks r:List Int},(Zq b ks r).length=r.length
 | [],_=>rfl
 |s::ks,r=>by rw[Zq,kT,gL]
theorem mW{r:List Int}{i:Nat}{x:Int}(h:zB r)(hx:b9 x):zB (r.set i x):=fun y hy=>by
 rcases List.mem_or_eq_of_mem_set hy with z|z
 ·exact h y z
 ·rw[z];exact hx
theorem aM(x:Int):b9 (x%16):=#[ES _ (by decide),ET _ (by decide)]
theorem iY{r:List Int}(h:zB r)(i:Nat):b9 (r.getD i 0):=by
 rw[JA]
 by_cases hi:i<r.length
 ·rw[Jg hi];exact h _ (EZ hi)
 ·rw[FS (by lia)];exact#[by decide,by decide]
theorem vh{t:List Int}(p:t.Perm GG):zB t:=fun x hx=>mD (p.mem_iff.mp hx)
theorem vO{t:List Int}(p:t.Perm GG){s:Int}{r:List Int}{i:Nat}(h:zB r):zB (iI t s r i):=mW h (iY (vh p) _)
theorem lv{b:List Int}{s:Int}{r:List Int}{i:Nat}(h:zB r):zB (gA b s r i):=mW h (aM _)
theorem cB{t:List Int}(p:t.Perm GG){s:Int}{r:List Int}(h:zB r):∀{n:Nat},zB (ar t s r n)
 |0=>h
 |n+1=>vO p (cB p h)
theorem lL{b:List Int}{s:Int}:∀{n:Nat} {r:List Int},zB r->zB (aW b s r n)
 |0,_,h=>h
 |n+1,_,h=>lL (n:=n) (lv h)
theorem mh{t:List Int}(p:t.Perm GG):∀{ks r:List Int},zB r->zB (QQ t ks r)
 | [],_,h=>h
 |s::ks,_,h=>mh (ks:=ks) p (cB p h)
theorem lE{b:List Int}:∀{ks r:List Int},zB r->zB (Zq b ks r)
 | [],_,h=>h
 |s::ks,_,h=>lL (lE (ks:=ks) h)
theorem kC{r:List Int}{i:Nat}{x:Int}(h:i<r.length):(r.set i x).getD i 0=x:=by
 rw[JA,FM h];rfl
theorem ny{r:List Int}{i j:Nat}{x:Int}(h:i≠j):(r.set i x).getD j 0=r.getD j 0:=by
 rw[JA,FN h,<- JA]
theorem C7{n i:Nat}(h2:2<=n)(hi:i<n):i≠yD n i:=by unfold yD;split<;>lia
theorem Bh{r:List Int}{i:Nat}{x:Int}(h2:2<=r.length)(hi:i<r.length):ah (r.set i x) i=ah r i:=by
 unfold ah;rw[Fu,ny (C7 h2 hi)]
theorem vN{r:List Int}{i:Nat}(hi:i<r.length):r.set i (r.getD i 0)=r:=by
 rw[JA,Jg hi];exact List.set_getElem_self hi
theorem xi{t:List Int}(p:t.Perm GG){z:Int}(h:b9 z):(zE t).getD (t.getD z.toNat 0).toNat 0=z:=by
 have hz:z.toNat<t.length:=by rw[oN p];have:=h.1;have:=h.2;lia
 have e:t.getD z.toNat 0=t[z.toNat]:=by rw[JA,Jg hz];rfl
 have bd:=mY p hz;have hb:t[z.toNat].toNat<(zE t).length:=by rw[bG];lia
 rw[e,JA,Jg hb,EN,yP p (by rw[bG]at hb;exact hb)]
 have e2:((t[z.toNat].toNat:Nat):Int)=t[z.toNat]:=by lia
 rw[e2,tX p hz]
 have:=h.1
 lia
theorem wI{t:List Int}(p:t.Perm GG){s:Int}{r:List Int}{i:Nat}(hr:zB r)(h2:2<=r.length)(hi:i<r.length):gA (zE t) s (iI t s r i) i=r:=by
 unfold gA iI;rw[kC hi,Bh h2 hi,List.set_set,xi p (aM _)];have hd:=iY hr i;have e:((r.getD i 0+s+i+ah r i)%16-s-i-ah r i)%16=r.getD i 0:=by
  have:=hd.1
  have:=hd.2
  lia
 rw[e,vN hi]
theorem ma{t:List Int}(p:t.Perm GG){s:Int}{r:List Int}(hr:zB r)(h2:2<=r.length):∀{n:Nat},n<=r.length->aW (zE t) s (ar t s r n) n=r
 |0,_=>rfl
 |n+1,hn=>by
  rw[ar,aW,wI p (cB p hr) (by rw[QU];exact h2) (by rw[QU];lia)]
  exact ma p hr h2 (by lia)
theorem mL{t:List Int}(p:t.Perm GG):∀{ks r:List Int},zB r->2<=r.length->Zq (zE t) ks (QQ t ks r)=r
 | [],_,_,_=>rfl
 |s::ks,r,hr,h2=>by
  rw[Zq,QQ,mL p (cB p hr) (by rw[QU];exact h2),cy,QU,ma p hr h2 (Jf _)]
theorem mZ(t:List Int):∀(ks:List Int) (s:Int) (r:List Int),QQ t (ks++[s]) r=ar t s (QQ t ks r) r.length
 | [],_,_=>rfl
 |a::ks,s,r=>by rw[List.cons_append,QQ,mZ t ks s,QQ,QU]
def Sq(K:μ)(H:Hp)(a:Δ)(xs:List V):Prop:=Gd K H a xs\/Gh K H a xs
theorem Sq.same{K:μ}{H H':Hp}{a:Δ}{xs:List V}(e:F5 H H')(h:Sq K H a xs):Sq K H' a xs:=h.elim (fun h=> .inl (e.seq h)) fun h=> .inr (F5.sqt e h)
theorem Sq.lst{K:μ}{H:Hp}{a:Δ}{xs:List V}(h:H a=some (.lst xs)):Sq K H a xs:= .inl (Gd.of h)
theorem Sq.tup{K:μ}{H:Hp}{a:Δ}{xs:List V}(h:H a=some (.tup xs)):Sq K H a xs:= .inr (Gh.of h)
inductive Ll (K:μ) (vs:List V) (H:Hp) (Q:VK):Prop
 |mk (a b c:Δ) (t ks ds:List Int) (h1:vs=[.ref a,.ref b,.ref c]) (h2:Sq K H a (t.map V.int)) (h3:Sq K H b (ks.map V.int)) (h4:Sq K H c (ds.map V.int)) (h5:t.length=16) (h6:1<=ds.length) (h7:ds.length<64) (h8:∀p H',F5 H H'->H p=none->H' p=some (.tup ((QQ t ks ds).map V.int))->Q (.ref p) H')
def i9(K:μ):Sp:=fun vs H Q _=>Ll K vs H Q
inductive Iq (K:μ) (vs:List V) (H:Hp) (Q:VK):Prop
 |mk (a b c:Δ) (t ks ds:List Int) (h1:vs=[.ref a,.ref b,.ref c]) (h2:Sq K H a (t.map V.int)) (h3:Sq K H b (ks.map V.int)) (h4:Sq K H c (ds.map V.int)) (h5:t.Perm GG) (h6:zB ds) (h7:1<=ds.length) (h8:ds.length<64) (h9:∀p H',F5 H H'->H p=none->H' p=some (.tup ((Zq (zE t) ks ds).map V.int))->Q (.ref p) H')
def jB(K:μ):Sp:=fun vs H Q _=>Iq K vs H Q
theorem be{r:List Int}{i:Nat}{z:Int}(e:z=(i:Int))(h:i<r.length):QL (r.map V.int) z=some (.int (r.getD i 0)):=by
 rw[yO e (i3 h),JA,Jg h];rfl
theorem uB{r:List Int}{i:Nat}{z:Int}(e:z=(i:Int)-1)(h:i<r.length):QL (r.map V.int) z=some (.int (ah r i)):=by
 subst e;unfold ah yD
 by_cases h0:i=0
 ·subst h0
  rw[Jb rfl];have hl:r.length-1<r.length:=by lia
  unfold QL cv;rw[Je,Jc (by lia),Jb (by lia)]
  have e2:((((0:Nat):Int)-1)+(r.length:Int)).toNat=r.length-1:=by lia
  show(r.map V.int)[((((0:Nat):Int)-1)+(r.length:Int)).toNat]? =_
  rw[e2,i3 hl,JA,Jg hl];rfl
 ·rw[Jc h0]
  exact be (by lia) (by lia)
theorem Sq.ix{K:μ}{H:Hp}{a:Δ}{xs:List V}{i:Int}{v:V}{Q:VK}(h:Sq K H a xs)(e:QL xs i=some v)(q:Q v H):v8 K (.ref a) (.int i) H Q\/vF K (.ref a) (.int i) H Q:=
 h.elim (fun h=> .inl #[a,xs,i,v,rfl,rfl,h,e,q]) fun h=> .inr #[a,xs,i,v,rfl,rfl,h,e,q]
section
variable{K:μ}{a:Δ}{xs:List V}{g:TG}{tb:TS}{D:GX}{σ:L2.St}{H H0:Hp}
theorem AX(hq:Sq K H0 a xs)(Pv:Nat->L2.St->Hp->Prop)(h0:Pv 0 σ H)(hk:∀i σ' H',Pv i σ' H'->F5 H0 H')
  (hs:∀i x σ H,xs[i]? =some x->Pv i σ H->g x σ H fun σ2 H2=>tb {D with nx:=Pv (i+1),ct:=Pv (i+1),bk:=D.nx} σ2 H2)(hd:∀σ H,Pv xs.length σ H->D.nx σ H):
  ((∃xs,Gd K H a xs)/\Z5 (c9 K a) g tb D σ H)\/((∃xs,Gh K H a xs)/\Z5 (jv K a) g tb D σ H):=by
 rcases hq with hq|hq
 ·exact .inl #[#[xs,(hk _ _ _ h0).seq hq],zY Pv h0 (fun i σ H _ p=>(hk i σ H p).seq hq) hs hd]
 ·exact .inr #[#[xs,F5.sqt (hk _ _ _ h0) hq],og Pv h0 (fun i σ H _ p=>F5.sqt (hk i σ H p) hq) hs hd]
theorem wC(hq:Sq K H0 a xs)(Pv:Nat->L2.St->Hp->Prop)(h0:Pv 0 σ H)(hk:∀i σ' H',Pv i σ' H'->F5 H0 H')
  (hs:∀i x σ H,i<xs.length->xs[xs.length-1-i]? =some x->Pv i σ H->g x σ H fun σ2 H2=>tb {D with nx:=Pv (i+1),ct:=Pv (i+1),bk:=D.nx} σ2 H2)(hd:∀σ H,Pv xs.length σ H->D.nx σ H):
  (∃xs,Gd K H a xs/\Z5 (rM K a xs.length) g tb D σ H)\/(∃xs,Gh K H a xs/\Z5 (rW K a xs.length) g tb D σ H)\/(∃n:Nat,H a=some (.rng 0 n)/\(n:Int)<2 ^ 62/\Z5 (pT n) g tb D σ H):=by
 rcases hq with hq|hq
 ·exact .inl #[xs,(hk _ _ _ h0).seq hq,vg Pv h0 (fun i σ H p=>(hk i σ H p).seq hq) hs hd]
 ·exact .inr (.inl #[xs,F5.sqt (hk _ _ _ h0) hq,vj Pv h0 (fun i σ H p=>F5.sqt (hk i σ H p) hq) hs hd])
end
theorem ZG{H H2:Hp}{l:Δ}{o:HO}(s:F5 H H2)(h:H l=none):F5 H (F9 H2 l o):=fun d u e=>by
 rw[qj (qk e h)];exact s _ _ e
theorem iR{ks:List Int}{j:Nat}{s:Int}(h:ks[j]? =some s):ks.take (j+1)=ks.take j++[s]:=by rw[Ed,h];rfl
theorem tT{ks:List Int}{j:Nat}{s:Int}(h:ks[j]? =some s):ks.drop j=s::ks.drop (j+1):=by
 obtain⟨hj,e⟩:=Jy.mp h;rw[List.drop_eq_getElem_cons hj,e]
inductive IL (H:Hp):Nat->V->V->Prop where
 |int (n:Nat) (i:Int):IL H n (.int i) (.int i)
 |str (n:Nat) (x:Str):IL H n (.str x) (.str x)
 |non (n:Nat):IL H n .non .non
 |bl (n:Nat) (b:Bool):IL H n (.bl b) (.bl b)
 | tup {n:Nat} {a b:Δ} {xs ys:List V} (h1:Rd H a (.tup xs)) (h2:Rd H b (.tup ys)) (hl:xs.length=ys.length)
   (hi:∀(i:Nat) (x y:V),xs[i]? =some x->ys[i]? =some y->IL H n x y):IL H (n+1) (.ref a) (.ref b)
 | lst {n:Nat} {a b:Δ} {xs ys:List V} (h1:H a=some (.lst xs)) (h2:H b=some (.lst ys)) (hl:xs.length=ys.length)
   (hi:∀(i:Nat) (x y:V),xs[i]? =some x->ys[i]? =some y->IL H n x y):IL H (n+1) (.ref a) (.ref b)
theorem ci(n:Nat):((List.range n).all fun _=>true)=true:=by simp
section
open SeqAt
variable{MT:F4}{σ:L2.St}{H:Hp}{s:Θ}
theorem zr{xs:List V}{us:List Γ}(r:Ga xs us){j:Nat}(h:j<us.length):∃x,xs[j]? =some x/\Ge x us[j]:=by
 have hl:=r.length;have hj:j<xs.length:=by lia
 obtain⟨u,hu,ru⟩:=r.get (Jg hj)
 rw[Jg h]at hu;cases hu
 exact⟨_,Jg hj,ru⟩
theorem vb(I:L2.F8 X MT σ H s){n:Nat}{x y:V}(h:IL H n x y):∀{v u:Γ} {A:Around},Ge x v->Ge y u->A.units+n<cLine->EqAt A s v u true:=by
 induction h with
 |int n i=>rintro v u A ⟨t,rfl⟩ ⟨t',rfl⟩ _;have:=EqAt.int_int (A:=A) (s:=s) i t i t';rwa [Er]at this
 |str n z=>rintro v u A ⟨t,rfl⟩ ⟨t',rfl⟩ _;have:=EqAt.str_str (A:=A) (s:=s) z t z t';rwa [Er]at this
 |non n=>
  intro v u A r1 r2 _
  cases(show v=Γ.none from r1)
  cases(show u=Γ.none from r2)
  exact EqAt.same _
 |bl n b=>
  intro v u A r1 r2 _
  cases(show v=Γ.bool b from r1)
  cases(show u=Γ.bool b from r2)
  exact EqAt.same _
 | @tup n a b xs ys h1 h2 hl _ ih=>
  intro v u A r1 r2 hu
  cases(show v=Γ.ref a from r1)
  cases(show u=Γ.ref b from r2)
  by_cases hab:a=b
  ·rw[hab];exact EqAt.same _
  ·obtain⟨its,q1,p1,_⟩:=I.tuple (.inl h1)
   obtain⟨its2,q2,p2,_⟩:=I.tuple (.inl h2)
   have l1:=q1.length;have l2:=q2.length;have e:=RcAt.tuples (A:=A) (e:=fun _=>true) (show s.heap.IsTuple a its.toArray from p1) (show s.heap.IsTuple b its2.toArray from p2) (by lia) (fun j z1 z2=>by
    obtain⟨x,ex,rx⟩:=zr q1 (j:=j) (by simpa using z1)
    obtain⟨y,ey,ry⟩:=zr q2 (j:=j) (by simpa using z2)
    exact ih j x y ex ey rx ry (by rw[Ee];lia))
   rw[ci,show(its.toArray.size==its2.toArray.size)=true by simp;lia]at e
   exact EqAt.of_refs hab e
 | @lst n a b xs ys h1 h2 hl _ ih=>
  intro v u A r1 r2 hu
  cases(show v=Γ.ref a from r1)
  cases(show u=Γ.ref b from r2)
  by_cases hab:a=b
  ·rw[hab];exact EqAt.same _
  ·obtain⟨its,q1,p1,_⟩:=I.list (Gd.of h1)
   obtain⟨its2,q2,p2,_⟩:=I.list (Gd.of h2)
   have l1:=q1.length;have l2:=q2.length;have e:=RcAt.lists (A:=A) (e:=fun _=>true) p1.isList p2.isList (by simp;lia) (by lia) (fun j z1 z2=>by
    obtain⟨x,ex,rx⟩:=zr q1 (j:=j) (by simpa using z1)
    obtain⟨y,ey,ry⟩:=zr q2 (j:=j) (by simpa using z2)
    exact ih j x y ex ey rx ry (by rw[Ee];lia))
   rw[ci]at e;exact EqAt.of_refs hab e
theorem B7(I:L2.F8 X MT σ H s){n:Nat}{x y:V}{v u:Γ}{A:Around}(h:IL H n x y)(r1:Ge x v)(r2:Ge y u)(hu:A.units+n<cLine):RcAt A s v u true/\RcNeAt A s v u false:=by
 cases h with
 |int n i=>
  obtain⟨t,rfl⟩:=r1;obtain⟨t',rfl⟩:=r2;have e1:=RcAt.int_int (A:=A) (s:=s) i t i t'
  have e2:=RcNeAt.int_int (A:=A) (s:=s) i t i t'
  rw[Er]at e1 e2
  exact#[e1,e2]
 |str n z=>
  obtain⟨t,rfl⟩:=r1;obtain⟨t',rfl⟩:=r2;have e1:=RcAt.str_str (A:=A) (s:=s) z t z t'
  have e2:=RcNeAt.str_str (A:=A) (s:=s) z t z t'
  rw[Er]at e1 e2
  exact#[e1,e2]
 |non n=>
  cases(show v=Γ.none from r1)
  cases(show u=Γ.none from r2)
  exact#[RcAt.none_none,RcNeAt.none_none]
 |bl n b=>
  cases(show v=Γ.bool b from r1)
  cases(show u=Γ.bool b from r2)
  have e1:=RcAt.bool_bool (A:=A) (s:=s) b b
  have e2:=RcNeAt.bool_bool (A:=A) (s:=s) b b
  rw[Er]at e1 e2
  exact#[e1,e2]
 | @tup n a b xs ys h1 h2 hl ih=>
  cases(show v=Γ.ref a from r1)
  cases(show u=Γ.ref b from r2)
  obtain⟨its,q1,p1,_⟩:=I.tuple (.inl h1)
  obtain⟨its2,q2,p2,_⟩:=I.tuple (.inl h2)
  have l1:=q1.length;have l2:=q2.length;have he:∀j (z1:j<its.toArray.size) (z2:j<its2.toArray.size),EqAt A.in1 s its.toArray[j] its2.toArray[j] ((fun _=>true) j):=fun j z1 z2=>by
   obtain⟨x,ex,rx⟩:=zr q1 (j:=j) (by simpa using z1)
   obtain⟨y,ey,ry⟩:=zr q2 (j:=j) (by simpa using z2)
   exact vb I (ih j x y ex ey) rx ry (by rw[Ee];lia)
  have e1:=RcAt.tuples (A:=A) (e:=fun _=>true) (show s.heap.IsTuple a its.toArray from p1) (show s.heap.IsTuple b its2.toArray from p2) (by lia) he
  have e2:=RcNeAt.tuples (A:=A) (e:=fun _=>true) (show s.heap.IsTuple a its.toArray from p1) (show s.heap.IsTuple b its2.toArray from p2) (by lia) he
  rw[ci,show(its.toArray.size==its2.toArray.size)=true by simp;lia]at e1 e2
  exact#[e1,e2]
 | @lst n a b xs ys h1 h2 hl ih=>
  cases(show v=Γ.ref a from r1)
  cases(show u=Γ.ref b from r2)
  obtain⟨its,q1,p1,_⟩:=I.list (Gd.of h1)
  obtain⟨its2,q2,p2,_⟩:=I.list (Gd.of h2)
  have l1:=q1.length;have l2:=q2.length;have he:∀j (z1:j<its.toArray.size) (z2:j<its2.toArray.size),EqAt A.in1 s its.toArray[j] its2.toArray[j] ((fun _=>true) j):=fun j z1 z2=>by
   obtain⟨x,ex,rx⟩:=zr q1 (j:=j) (by simpa using z1)
   obtain⟨y,ey,ry⟩:=zr q2 (j:=j) (by simpa using z2)
   exact vb I (ih j x y ex ey) rx ry (by rw[Ee];lia)
  have e1:=RcAt.lists (A:=A) (e:=fun _=>true) p1.isList p2.isList (by simp;lia) (by lia) he
  have e2:=RcNeAt.lists (A:=A) (e:=fun _=>true) p1.isList p2.isList (by simp;lia) (by lia) he
  rw[ci]at e1 e2
  exact#[e1,e2]
inductive MB (b:Bool) (x:V) (y:V) (H:Hp) (Q:VK):Prop
 |mk (n:_) (h1:n<=32) (h2:IL H n x y) (h3:Q (.bl b) H)
def DV(b:Bool):R2:=fun x y H Q=>MB b x y H Q
theorem CJ{k:Nat}(hr:Gq k X.A):zt X (compareOp .NotEq) (DV false):=by
 intro MT s σ H x y v u Q I rx ry h;obtain⟨n,hn,e,q⟩:=h
 exact(B7 I e rx ry (by have:=hr.un;lia)).2 _ _ _ _ #[.bl _,H,I,rfl,q]
end
end L3
namespace L3
open PySem PySem.Spec PyProof.Rows L2
open Sem (wp)
def yo(x:Str):It:=#[fun i _=>i<x.cps.size,fun i H v H'=>H'=H/\∃c,x.cps[i]? =some c/\v= .str #[(List.toArray [c])],fun i _=>x.cps.size<=i]
theorem wV{P:Ξ}{w:Ω}{K:μ}{tg:Φ}(it:Δ)(x:Str)(t:Tok):HV P w K tg (yo x) [it] it (fun i h=>h.IsStrIter it "str_ascii_iterator" x t i) where
 mem:=by simp
 obj:=fun i h st b hb=>by
  have e:b=it:=by simpa using hb
  subst e;obtain⟨o,e,c,d⟩:=st
  exact#[o,e,fun v z=>by rw[d]at z;cases z]
 keep:=fun i h h' st k=>let⟨o,e,r⟩:=st;#[o,k it (by simp) o e,r]
 item:=by
  intro X hP hw hK hc i MT s σ H E I hf st hg;subst hP hw hK;obtain⟨f0,f1,f2,f3,f4,f5⟩:=hf it (by simp)
  have W:=Walks.strAscii (prog:=X.prog) (w:=X.w) (I.ok.hd hc) it x t
  refine W.item i s _ _ hg st fun v h' tk hv st' kk=>?_
  obtain⟨c,u,hc',rfl⟩:=hv;have I1:L2.F8 X MT σ H {s with heap:=h',toks:=tk}:=I.turned (fun b o hb e=>kk b o (by simpa using hb) e) f0 f1 f3 f4 f5
  obtain⟨o,e,cc,d⟩:=id st'
  exact#[_,rfl,cP (s:={s with heap:=h',toks:=tk}) e cc d (by decide) #[.str #[(List.toArray [c])],H,I1,#[u,rfl],#[rfl,c,hc',rfl],st',fun b hb=>(hf b hb).1]]
 done:=by
  intro X hP hw hK hc i MT s σ H E I hf st hg;subst hP hw hK;obtain⟨f0,f1,f2,f3,f4,f5⟩:=hf it (by simp)
  have hg':x.cps.size<=i:=hg
  exact wpAny_pyNext_ascii_end (I.ok.hd hc) st (by simp [hg']) fun h' eb=>#[rfl,I.turned (t':=s.toks) (fun b o hb e=>eb b o hb e) f0 f1 f3 f4 f5]
 self:=fun _ _ _ _ _ st h=>wpAny_pyIter_striter_ascii st h
section
variable{X:Cx}{tg:Φ}
def Cn(tl:TE):TI:=fun σ H R=>tl σ H fun v H1=>∃x,v= .str x/\x.cps.all (· <128)=true/\R (yo x) H1
theorem B0{l:Φ}{tl:TE}(hl:PE X l tl):PI X tg l (Cn tl):=by
 intro MT s σ H R I h;refine qu (hl MT s σ H _ I h) fun v s1 zq=>?_
 obtain⟨x,H1,I1,r1,q1⟩:=zq;obtain⟨z,rfl,ha,q⟩:=q1;obtain⟨t,rfl⟩:=r1;refine wpAny_pyIter_ascii ha ?_
 refine#[s1.heap.objs.size,[s1.heap.objs.size],_,_,H1,rfl,I1.kept (t':=s1.toks) fun b o e=>Jj _ e,wV _ z t,#[_,Js _ rfl,rfl,rfl],fun b hb=>?_,q]
 rw[Jl.mp hb];exact I1.fpOk (Jf _) (I1.hok.fresh (Jf _))
theorem tR{l:Φ}{tl:TE}(hl:QE X l tl):QI X tg l (Cn tl):=#[B0 hl.h]
end
theorem An{x:Str}{g:TG}{tb:TS}{D:GX}{σ:L2.St}{H:Hp}(Pv:Nat->L2.St->Hp->Prop)(h0:Pv 0 σ H)
  (hs:∀i c σ H,x.cps[i]? =some c->Pv i σ H->g (.str #[(List.toArray [c])]) σ H fun σ2 H2=>tb {D with nx:=Pv (i+1),ct:=Pv (i+1),bk:=D.nx} σ2 H2)(hd:∀σ H,Pv x.cps.size σ H->D.nx σ H):Z5 (yo x) g tb D σ H:=
 fE Pv h0 (fun i σ H hi p=>hi) (fun _=>Jf _) (fun i v σ H H' hi p y=>by
  obtain⟨rfl,c,hc,rfl⟩:=y;exact hs i c σ H' hc p) hd
section
variable{X:Cx}{o e:Φ}{es:List Φ}{to:TE}{t:TA}{name:Str}{apos cpos:Pos}{T id:String}{r:V->List V->Hp->VK->Prop}
theorem ZA(pa:PlainAttrs T)(slot:Slot T name id)(hty:typeOf (.builtin id)=pure (.type "method_descriptor"))(hm:t6 X id r)(ho:QE X o to)(ha:QA X (e::es) t)
  (hbase:attributeBase o name X.env (eval o X.env)=eval o X.env:=by rfl)
  (hfew:((backTo cpos (ι (e::es) X.env)).all (fun x=> !x.1)&&(backToKw cpos (keywordEach [] X.env)).all (fun x=>x.1.isSome)
   &&decide ((e::es).length+([]:List Keyword).length+(if([]:List Keyword).isEmpty then 0 else 1)<30))=true:=by rfl)
  (hline:(apos.endLine==cpos.line)=true:=by rfl)(hs:ι (e::es) X.env=(false,eval e X.env)::ι es X.env:=by rfl)(hplain:(backTo cpos (ι es X.env)).any (·.1)=false:=by rfl):
  QE X (.Call (.Attribute o name apos) (e::es) [] cpos) (Bx X.K T r to t):=#[C5 pa slot hty hm ho.h ha.h hbase hfew hline hs hplain]
theorem zW:t6 X "list.append" oQ:=tJ
theorem ou:∀{ys:List Str} {us:List Γ},Ga (ys.map V.str) us->StrsAre us ys
 | [],_,.nil=> .nil
 |y::ys,_,.cons r t=>by
  obtain⟨u,rfl⟩:=(show∃u,_=Γ.str y u from r)
  exact .cons _ _ (ou t)
end
theorem bL(ns:List Int):∀n,n<=ns.length->preSum (fun i=>ns.getD i 0) n=(ns.take n).sum
 |0,_=>by simp [preSum]
 |n+1,h=>by
  have hn:n<ns.length:=by lia
  rw[preSum,bL ns n (by lia),Ed,Jg hn,Option.toList_some,List.sum_append,JA,Jg hn]
  simp
theorem uO{B:Int}:∀{ns:List Int},(∀z∈ns,0<=z/\z<=B)->0<=ns.sum/\ns.sum<=ns.length*B
 | [],_=>#[by simp,by simp]
 |n::r,h=>by
  have h1:=h n Jv;have h2:=uO (ns:=r) fun z hz=>h z (JE _ hz)
  rw[List.sum_cons,JP];refine#[by lia,?_]
  have:(((r.length+1:Nat):Int))*B=r.length*B+B:=by rw[Int.natCast_add,Int.add_mul];simp
  lia
section
variable{X:Cx}
theorem tF(hc:X.calm=true):zi X (.builtin "sum") (fun xs H Q=>∃(p:Δ) (ns:List Int),xs=[.ref p]/\Sq X.K H p (ns.map V.int)/\ns.length<=1000/\(∀z∈ns,0<=z/\z<=1000000)/\Q (.int ns.sum) H):=by
 intro MT s σ H xs us Q I r h;obtain⟨p,ns,rfl,hq,hl,hb,q⟩:=h;obtain⟨u,rfl,ru⟩:=zU r;cases ru;have bd:∀n,n<=ns.length->0<=preSum (fun i=>ns.getD i 0) n/\preSum (fun i=>ns.getD i 0) n<=1000000000:=fun n hn=>by
  rw[bL ns n hn];have h1:=uO (B:=1000000) (ns:=ns.take n) fun z hz=>hb z (List.mem_of_mem_take hz)
  have h2:(ns.take n).length<=1000:=by rw[J8];lia
  lia
 have fit:∀j,j<ns.length->InLong ((fun i=>ns.getD i 0) j)/\InLong (preSum (fun i=>ns.getD i 0) (j+1)):=fun j hj=>by
  have b1:=bd (j+1) (by lia)
  have b2:0<=ns.getD j 0/\ns.getD j 0<=1000000:=by
   rw[JA,Jg hj];exact hb _ (EZ hj)
  unfold InLong;simp only
  lia
 have eS:preSum (fun i=>ns.getD i 0) ns.length=ns.sum:=by rw[bL ns _ (Jf _),Ep]
 have val:∀{its:List Γ},Ga (ns.map V.int) its->∀(i:Nat) (v:Γ),its.toArray[i]? =some v->∃t,v= .int ((fun i=>ns.getD i 0) i) t:=fun{its} rv i v hv=>by
  have hv':its[i]? =some v:=by simpa using hv
  have hi:i<its.length:=(Jy.mp hv').1
  obtain⟨x,ex,rx⟩:=zr rv hi;obtain⟨z,rfl,hz⟩:=QV ex;obtain⟨t,ht⟩:=rx;refine#[t,?_]
  rw[(Jy.mp hv').2]at ht;rw[ht]
  show Γ.int z t=Γ.int (ns.getD i 0) t
  rw[JA,hz];rfl
 rcases hq with hq|hq
 ·obtain⟨its,rv,pl,hz⟩:=I.list hq
  have hlen:ns.length=its.length:=by have:=rv.length;rwa [Je]at this
  have hlt:p<s.heap.objs.size:=by obtain⟨_,e,_⟩:=pl.isList;exact Ji e
  refine call_sum_walk (Fc pl.isList ?_)
  refine#[s.heap.objs.size,[s.heap.objs.size,p],[s.heap.objs.size],its.toArray.size,_,_,fun i=>ns.getD i 0,rfl,Walks.list (A:=X.A.in1) (I.ok.hd hc) _ p (Jk hlt) its.toArray,
   #[#[_,Js _ rfl,rfl,rfl],pl.isList.push _],fun b hb'=>?_,val rv,fun j hj=>fit j (by simp at hj;lia),fun h' tk t' hk=>?_]
  ·have sz:(s.heap.push {cls:= .type "list_iterator",data:= .fields (List.toArray [.ref p,.int 0 0])}).objs.size=s.heap.objs.size+1:=JX ..
   simp only[Jr,Ex,Ey]at hb'
   show b<(Ψ.push s.heap _).objs.size
   rw[JX];rcases hb' with rfl|rfl
   ·exact Ew _
   ·exact Eo hlt
  ·have e2:preSum (fun i=>ns.getD i 0) its.toArray.size=ns.sum:=by rw[Jp,<- hlen];exact eS
   rw[e2];refine#[.int _,H,I.kept (h':=h') (t':=tk) fun b o q=>hk b o (fun hm=>?_) (Jj _ q),#[_,rfl],q]
   rw[Jl.mp hm]at q;exact Et _ (Ji q)
 ·obtain⟨its,rv,pl,hz⟩:=I.tuple hq
  have hlen:ns.length=its.length:=by have:=rv.length;rwa [Je]at this
  have hT:s.heap.IsTuple p its.toArray:=pl
  have hlt:p<s.heap.objs.size:=by obtain⟨_,e,_⟩:=hT;exact Ji e
  refine call_sum_walk (Fd hT ?_)
  refine#[s.heap.objs.size,[s.heap.objs.size,p],[s.heap.objs.size],its.toArray.size,_,_,fun i=>ns.getD i 0,rfl,Walks.tuple (A:=X.A.in1) (I.ok.hd hc) _ p (Jk hlt) its.toArray,
   #[#[_,Js _ rfl,rfl,rfl],let⟨o,e,r⟩:=hT;#[o,Jj _ e,r]],fun b hb'=>?_,val rv,fun j hj=>fit j (by simp at hj;lia),fun h' tk t' hk=>?_]
  ·simp only[Jr,Ex,Ey]at hb'
   show b<(Ψ.push s.heap _).objs.size
   rw[JX];rcases hb' with rfl|rfl
   ·exact Ew _
   ·exact Eo hlt
  ·have e2:preSum (fun i=>ns.getD i 0) its.toArray.size=ns.sum:=by rw[Jp,<- hlen];exact eS
   rw[e2];refine#[.int _,H,I.kept (h':=h') (t':=tk) fun b o q=>hk b o (fun hm=>?_) (Jj _ q),#[_,rfl],q]
   rw[Jl.mp hm]at q;exact Et _ (Ji q)
end
end L3
namespace L3
open PySem PySem.Spec PyProof.Rows L2
section
variable{X:Cx}
theorem ve:vG X (fun x y H Q=>∃(p:Δ) (xs:List V) (i:Nat) (v:V),x= .ref p/\y= .int (i:Int)/\H p=some (.lst xs)/\xs[i]? =some v/\Q v H):=by
 intro MT s σ H o i ov iv Q I r1 r2 h;obtain⟨p,xs,j,v,rfl,rfl,hH,hv,q⟩:=h;cases r1;obtain⟨t,rfl⟩:=r2;obtain⟨its,r,pl,hz⟩:=I.list (Gd.of hH)
 obtain⟨u,hu,ru⟩:=r.get hv;have hl:=r.length;have hn:=ab;have hj:j<xs.length:=(Jy.mp hv).1
 exact wpAny_getItem_list pl.isList (by lia) (by lia) (by simpa using hu) #[v,H,I,ru,q]
end
def Zo(z:Str):Prop:=(∀c∈z.cps.toList,97<=c/\c<=122)/\1<=z.cps.toList.length/\z.cps.toList.length<=8
theorem mO{z:Str}(h:Zo z):z.cps.all (· <128)=true:=by
 rw[Array.all_eq_true'];intro c hc
 have:=h.1 c (by simpa using hc)
 simp;lia
def xk(c:Nat):List Int:=[((c:Int)-97)%16,((c:Int)-97)/16]
def Zk(cs:List Nat):List Int:=cs.flatMap xk
theorem sI(cs:List Nat)(c:Nat):Zk (cs++[c])=Zk cs++xk c:=by simp [Zk]
theorem jV(cs:List Nat):(Zk cs).length=2*cs.length:=by
 induction cs with
 |nil=>rfl
 |cons c r ih=>simp only[Zk,List.flatMap_cons,Jt,JP]at ih⊢;rw[ih];simp [xk];lia
def iE(ds:List Int)(j:Nat):Nat->Int
 |0=>0
 |n+1=>iE ds j n+if n%4=j then ds.getD n 0 else 0
def Z7(ds:List Int)(n:Nat):List Int:=[iE ds 0 n,iE ds 1 n,iE ds 2 n,iE ds 3 n]
theorem uW(ds:List Int)(n:Nat):(Z7 ds n).set (n%4) ((Z7 ds n).getD (n%4) 0+ds.getD n 0)=Z7 ds (n+1):=by
 have h:n%4=0\/n%4=1\/n%4=2\/n%4=3:=by lia
 rcases h with h|h|h|h<;>simp [Z7,iE,h]
def bW(ds:List Int):List Int:=(Z7 ds ds.length).map (· %16)
theorem lJ(ds:List Int):(bW ds).length=4:=rfl
inductive Ir (vs:List V) (H:Hp) (Q:VK):Prop
 |mk (z:_) (h1:vs=[.str z]) (h2:Zo z) (h3:∀l H',F5 H H'->H l=none->H' l=some (.lst ((Zk z.cps.toList).map V.int))->Q (.ref l) H')
def jW:Sp:=fun vs H Q _=>Ir vs H Q
inductive Lm (K:μ) (vs:List V) (H:Hp) (Q:VK):Prop
 |mk (a b:Δ) (z:Str) (t ks:List Int) (h1:vs=[.ref a,.ref b,.str z]) (h2:Sq K H a (t.map V.int)) (h3:Sq K H b (ks.map V.int)) (h4:Zo z) (h5:t.length=16) (h6:∀p H',F5 H H'->H p=none->H' p=some (.tup ((QQ t ks (bW (Zk z.cps.toList))).map V.int))->Q (.ref p) H')
def iD(K:μ):Sp:=fun vs H Q _=>Lm K vs H Q
theorem Ar{cs:List Nat}{i c:Nat}(h:cs[i]? =some c):cs.take (i+1)=cs.take i++[c]:=by rw[Ed,h];rfl
theorem oE{z:Str}{i c:Nat}(h:z.cps[i]? =some c):z.cps.toList[i]? =some c:=by simpa using h
theorem vK{X:Cx}{scope:Scope}{y z:Str}{j k:Nat}(kind:scope.kind= .function)(names:∀x∈scope.names,x.2= .local->scope.names.lookup x.1=some .local)(nocell:∀x∈scope.names,x.2≠ .cell)
  (free:∀x∈scope.names,x.2= .free->x.1∈([y,z]:List Str))(h1:X.N[j]? =some y)(h2:X.env.kindOf y=some .cell)(h3:(relabel scope X.env).names.lookup y=some .cell)
  (g1:X.N[k]? =some z)(g2:X.env.kindOf z=some .cell)(g3:(relabel scope X.env).names.lookup z=some .cell):GI X scope [y,z] [j,k]:=
 #[kind,names,nocell,free,rfl,fun i j' y' e1 e2=>by
  match i with
  |0=>cases e1;cases e2;exact#[h1,h2,h3]
  |1=>cases e1;cases e2;exact#[g1,g2,g3]
  |i+2=>simp at e1]
theorem vZ{X:Cx}{y z:Str}{c d:Δ}(h:X.env.cells.lookup y=some c)(g:X.env.cells.lookup z=some d):∀u e,([(y,c),(z,d)]:List (Str×Δ)).lookup u=some e->X.env.cells.lookup u=some e:=fun u e he=>by
 by_cases hu:u=y
 ·subst hu
  simp at he
  rw[<- he];exact h
 ·by_cases hv:u=z
  ·subst hv
   simp [EB,show(u==y)=false from by simpa using hu]at he
   rw[<- he];exact g
  ·simp [EB,show(u==y)=false from by simpa using hu,show(u==z)=false from by simpa using hv]at he
end L3
namespace L3
open PySem PySem.Spec PyProof.Rows L2
open Sem (wp)
section
variable{prog:Ξ}{w:Ω}{A:Around}{E:F2}{s:Θ}
theorem im{it t:Δ}{items:Array Γ}(hne:t≠it):∀(n i:Nat) (s:Θ) (Q:List Γ->Θ->Prop),s.heap.IsListIter it t i->s.heap.IsList t items->i+n<=items.size->
  (∀h',h'.IsListIter it t (i+n)->Ψ.SameBut it s.heap h'->Q ((items.toList.drop i).take n) {s with heap:=h'})->ζ (model prog w) A (draw (.ref it) n) Q E s
 |0,i,s,Q,hit,_,_,hQ=>by
  show ζ _ _ (pure []) Q E s
  refine Jd ?_
  have:=hQ s.heap hit (Ψ.SameBut.refl ..)
  simpa using this
 |n+1,i,s,Q,hit,ht,hle,hQ=>by
  have hlt:i<items.size:=by lia
  show ζ _ _ (pyNext (.ref it) >>= _) Q E s
  refine Ja (wpAny_pyNext_list_item hit ht (x:=items[i]) (by simp [hlt]) fun h₁ hit₁ hs₁=>?_)
  have ht1:(Θ.heap {s with heap:=h₁}).IsList t items:=let⟨o,e,r⟩:=ht;#[o,hs₁.extBut _ _ hne e,r]
  refine Ja (JD (im hne n (i+1) _ _ hit₁ ht1 (by lia) fun h₂ hit₂ hs₂=>Jd ?_))
  have hd:items.toList.drop i=items[i]::items.toList.drop (i+1):=by simp [List.drop_eq_getElem_cons,hlt]
  have z:=hQ h₂ (by rw[show i+(n+1)=i+1+n by lia];exact hit₂) (hs₁.trans hs₂)
  rw[hd,List.take_succ_cons]at z;exact z
theorem mw{t:Δ}{items:Array Γ}{targets:List (Bool×(Γ->Sem Unit))}{Q:Unit->Θ->Prop}(hh:A.handled=none)(ht:s.heap.IsList t items)
  (hn:targets.length=items.size)(hstar:targets.findIdx? (·.1)=none)
  (h:∀h',Ψ.ExtBut s.heap.objs.size s.heap h'->ζ (model prog w) A (assignInOrder (targets.map (·.2)) items.toList) Q E {s with heap:=h'}):
  ζ (model prog w) A (unpack (.ref t) targets) Q E s:=by
 have hlt:t≠s.heap.objs.size:=by obtain⟨o,ho,_⟩:=ht;exact Jk (Ji ho)
 unfold unpack;rw[hn,hstar];refine Ja (JD ?_)
 unfold unpackItems;refine Ja ?_
 unfold notIterableAtAll;refine Ja (E8 ht.typeIs F.slot_list_iter.lookup ?_)
 refine Jd ?_
 simp only[Bool.false_eq_true,Jz];refine Ja (JD (Fc ht ?_))
 refine Ja (JD (im hlt items.size 0 _ _ #[_,Js _ rfl,rfl,rfl] (ht.push _) (by lia) fun h₁ hit₁ hs₁=>?_))
 have hall:List.take items.size (List.drop 0 items.toList)=items.toList:=by
  rw[List.drop_zero];exact List.take_of_length_le (by simp)
 rw[hall];rw[Jc (by simp)]
 have ht₁:h₁.IsList t items:=let⟨o,e,r⟩:=ht.push _;#[o,hs₁.extBut _ _ hlt e,r]
 refine Ja (JD (wpAny_pyNext_list_end hh hit₁ ht₁ (by simp) fun h₂ he₂=>?_))
 simp only[Option.isSome_none,Bool.false_eq_true,Jz];exact Jd (h h₂ fun b o hb e=>he₂ b o hb (hs₁.extBut b o hb (Jj _ e)))
end
section
variable{X:Cx}{pos:Pos}
inductive MC (K:μ) (n:Nat) (t:ao) (v:V) (σ:L2.St) (H:Hp) (Q:L2.St->Hp->Prop):Prop
 |mk (a:_) (xs:_) (h1:v= .ref a) (h2:Sq K H a xs) (h3:xs.length=n) (h4:t xs σ H Q)
def CB(K:μ)(n:Nat)(t:ao):TG:=fun v σ H Q=>MC K n t v σ H Q
theorem Bs{es:List Φ}{k:Nat}{t:ao}{n:Nat}(hc:X.calm=true)(h:oy X es t)
  (hn:(assignEach es X.env).length=n:=by rfl)(hst:(assignEach es X.env).findIdx? (·.1)=none:=by rfl):PG X (.Tuple es k pos) (CB X.K n t):=by
 intro MT s σ H v u Q I r hw;obtain⟨a,xs,e1,hq,hl,hw⟩:=hw;rcases hq with hq|hq
 ·subst e1
  cases r;obtain⟨its,rv,ht,hz⟩:=I.list hq;rw[assign_Tuple];refine Ja (Eh (mw (I.ok.hd hc) ht.isList (by simp [hn,<- hl,rv.length]) hst fun h' hx=>?_))
  have I1:L2.F8 X MT σ H {s with heap:=h'}:=I.kept (t':=s.toks) fun b o e=>hx b o (Jk (Ji e)) e
  exact h MT _ σ H xs _ Q I1 (by simpa using rv) hw
 ·exact lS hc h hn hst MT s σ H v u Q I r #[a,xs,e1,hq,hl,hw]
theorem zR{es:List Φ}{k:Nat}{t:ao}{n:Nat}(hc:X.calm=true)(h:Mn X es t)
  (hn:(assignEach es X.env).length=n:=by rfl)(hst:(assignEach es X.env).findIdx? (·.1)=none:=by rfl):QG X (.Tuple es k pos) (CB X.K n t):=#[Bs hc h.h hn hst]
end
end L3
namespace L3
open PySem PySem.Spec PyProof.Rows L2
def aC(c d:Int):List Int:=[c%16,c/16%16,c/256,d]
def aH(c d:Int):List Int:=aC c d++[(aC c d).sum%16]
def jd(t ks:List Int)(z:Str):List Int:=QQ t ks (bW (Zk z.cps.toList))
def cO(t ks:List Int)(z:Str)(c d:Int):List Int:=QQ t (jd t ks z) (aH c d)
def kJ(r:List Int):Option (Int×Int):=if r.getD 4 0=(r.getD 0 0+r.getD 1 0+r.getD 2 0+r.getD 3 0)%16 then some (r.getD 0 0+r.getD 1 0*16+r.getD 2 0*256,r.getD 3 0)else none
def ZB(t ks:List Int)(z:Str)(ds:List Int):Option (Int×Int):=kJ (Zq (zE t) (jd t ks z) ds)
theorem cW(c d:Int):(aH c d).length=5:=rfl
theorem wO(c d:Int):(aC c d).sum=c%16+c/16%16+c/256+d:=by simp [aC];lia
theorem gG{c d:Int}(h0:0<=c)(h1:c<4096)(hd:b9 d):zB (aH c d):=fun x hx=>by
 simp only[aH,aC,List.cons_append,List.nil_append,Jr,Ex,Ey]at hx;rcases hx with rfl|rfl|rfl|rfl|rfl
 ·exact aM _
 ·exact aM _
 ·exact#[by lia,by lia]
 ·exact hd
 ·exact aM _
theorem tS{c d:Int}(h0:0<=c)(h1:c<4096):kJ (aH c d)=some (c,d):=by
 have e:(aH c d)=[c%16,c/16%16,c/256,d,(c%16+c/16%16+c/256+d)%16]:=by unfold aH;rw[wO];rfl
 unfold kJ;rw[e]
 show(if(c%16+c/16%16+c/256+d)%16=(c%16+c/16%16+c/256+d)%16 then some (c%16+c/16%16*16+c/256*256,d)else none)=_
 rw[Jb rfl,show c%16+c/16%16*16+c/256*256=c by lia]
theorem Ak{r:List Int}(hl:r.length=5):∃a b c d e:Int,r=[a,b,c,d,e]:=by
 match r,hl with
 | [a,b,c,d,e],_=>exact#[a,b,c,d,e,rfl]
theorem uA(t ks:List Int)(z:Str)(c d:Int):(cO t ks z c d).length=5:=by unfold cO;rw[cy,cW]
theorem vQ{t ks:List Int}(p:t.Perm GG){z:Str}{c d:Int}(h0:0<=c)(h1:c<4096)(hd:b9 d):zB (cO t ks z c d):=mh p (gG h0 h1 hd)
theorem jz{t ks:List Int}(p:t.Perm GG){z:Str}{c d:Int}(h0:0<=c)(h1:c<4096)(hd:b9 d):ZB t ks z (cO t ks z c d)=some (c,d):=by
 unfold ZB cO;rw[mL p (gG h0 h1 hd) (by rw[cW];decide),tS h0 h1]
def fm(H:Hp)(x:V):Option (Int×Int)->Prop
 |none=>x= .non
 |some (c,d)=>∃p,x= .ref p/\H p=some (.tup [.int c,.int d])
inductive MD (vs:List V) (H:Hp) (Q:VK):Prop
 |mk (c:Int) (h1:vs=[.int c]) (h2:∀p H',F5 H H'->H' p=some (.tup [.int (c%16),.int (c/16%16),.int (c/256)])->Q (.ref p) H')
def Bt:Sp:=fun vs H Q _=>MD vs H Q
inductive Ln (K:μ) (vs:List V) (H:Hp) (Q:VK):Prop
 |mk (a b:Δ) (z:Str) (age c d:Int) (t ks:List Int) (h1:vs=[.ref a,.ref b,.str z,.int age,.int c,.int d]) (h2:Sq K H a (t.map V.int)) (h3:Sq K H b (ks.map V.int)) (h4:Zo z) (h5:t.length=16) (h6:0<=c) (h7:c<4096) (h8:b9 d) (h9:∀p pc H',F5 H H'->H' p=some (.tup [.str z,.int age,.ref pc])->H' pc=some (.tup ((cO t ks z c d).map V.int))->Q (.ref p) H')
def i0(K:μ):Sp:=fun vs H Q _=>Ln K vs H Q
inductive LQ (K:μ) (vs:List V) (H:Hp) (Q:VK):Prop
 |mk (a b pr pc:Δ) (z:Str) (age:Int) (t ks ds:List Int) (h1:vs=[.ref a,.ref b,.ref pr]) (h2:Sq K H a (t.map V.int)) (h3:Sq K H b (ks.map V.int)) (h4:Sq K H pr [.str z,.int age,.ref pc]) (h5:Sq K H pc (ds.map V.int)) (h6:Zo z) (h7:t.Perm GG) (h8:ds.length=5) (h9:zB ds) (h10:∀x H',F5 H H'->fm H' x (ZB t ks z ds)->Q x H')
def mP(K:μ):Sp:=fun vs H Q _=>LQ K vs H Q
theorem Cy{X:Cx}{pos:Pos}{i j:Nat}{x y:Str}{a b:Φ}{ta:TA}{px py pt:Pos}{kt k2 pt2}(hc:X.calm=true)(hN:X.N.Nodup)(hi:X.N[i]? =some x)(hj:X.N[j]? =some y)(hij:i≠j)
  (hx:X.env.scope.names.lookup x=some .local)(hy:X.env.scope.names.lookup y=some .local)(ha:QA X [a,b] ta)
  (hw:swappedStores [.Tuple [.Name x px,.Name y py] kt pt] (.Tuple [a,b] k2 pt2) X.env=pure (some [x,y]):=by rfl)
  (hs:swapsWithSole [.Tuple [.Name x px,.Name y py] kt pt] (.Tuple [a,b] k2 pt2) pos.line X.env=pure false:=by rfl):
  QS X (.Assign [.Tuple [.Name x px,.Name y py] kt pt] (.Tuple [a,b] k2 pt2) pos) (BY i j ta):=#[BN hc hN hi hj hij hx hy ha.h hw hs]
def bV(K:μ)(H:Hp)(a:Δ)(f:Str)(v:V):Prop:=∃C dx fs,H a=some (.ins C dx fs)/\IP K C/\GB K C f/\fs.lookup f=some v
def iT(K:μ)(H:Hp)(a:Δ)(f:Str)(v:V)(H':Hp):Prop:=∃C dx fs,H a=some (.ins C dx fs)/\IP K C/\GB K C f/\fs.length<1000/\H'=F9 H a (.ins C dx (Qq f v fs))
def DG(C:Δ)(H:Hp)(a:Δ)(m:Str):Prop:=∃dx fs,H a=some (.ins C dx fs)/\fs.lookup m=none
def yb(K:μ)(ta:TE)(f:Str):TE:=fun σ H Q=>ta σ H fun x H1=>∃a v,x= .ref a/\bV K H1 a f v/\Q v H1
def Du(K:μ)(ta tv:TE)(f:Str):TS:=fun D σ H=>tv σ H fun y H1=>ta σ H1 fun x H2=>∃a H3,x= .ref a/\iT K H2 a f y H3/\D.nx σ H3
def tW(C:Δ)(m:Str)(sp:Sp)(ta:TE)(t:TA):TE:=fun σ H Q=>ta σ H fun x H1=>∃a,x= .ref a/\DG C H1 a m/\t σ H1 fun vs H2=>sp (x::(vs++[])) H2 Q E0
section
variable{X:Cx}{o e value:Φ}{f:Str}{pos pos':Pos}{ta tv:TE}
theorem qP(he:QE X e ta)(hb:attributeBase e f X.env (eval e X.env)=eval e X.env:=by rfl):QE X (.Attribute e f pos) (yb X.K ta f):=#[by
 intro MT s σ H Q I h;refine AM hb (qu (he.h MT s σ H _ I h) fun u s1 zq=>?_)
 obtain⟨x,H1,I1,rx,a,v,ex,⟨C,dx,fs,ea,c,n,l⟩,q⟩:=zq;subst ex
 obtain rfl:u=Γ.ref a:=rx
 exact rJ I1 ea c n l fun u' s2 I2 ru=>#[v,H1,I2,ru,q]]
theorem zH(ha:QE X o ta)(hv:QE X value tv)(hs:swapsWith value (some (.Attribute o f pos')) pos.line X.env=pure false:=by rfl):QS X (.Assign [.Attribute o f pos'] value pos) (Du X.K ta tv f):=#[by
 intro MT s σ H D I h;refine plainObj_wpAny_Assign_Attribute (qu (hv.h MT s σ H _ I h) fun u s1 ⟨y,H1,I1,ry,q⟩=>qu (ha.h MT s1 σ H1 _ I1 q) fun ov s2 zq=>?_) hs
 obtain⟨x,H2,I2,rx,a,H3,ex,⟨C,dx,fs,ea,c,n,l,e3⟩,q2⟩:=zq;subst ex e3
 obtain rfl:ov=Γ.ref a:=rx
 exact se I2 ea c n l ry fun s3 I3=>#[σ,_,I3,q2]]
end
structure Mf(P:Ξ)(w:Ω)(K:μ)(mg:F3)(base:Ψ)(C:Δ)(m:Str)(ps:List Str)(k:Nat)(sp:Sp):Prop where
 ex:∃(f:Δ) (fd:FuncData),HG P w K mg base bh k f fd ps sp/\LK K C m f/\G9 K fd ps []
structure Ia(K:μ)(C:Δ)(m MU:Str)(st:ε)(ps:List Str):Prop where
 ex:∃(f:Δ) (fd:FuncData),IQ K m MU st f fd/\LK K C m f/\G9 K fd ps []
structure Mi(P:Ξ)(w:Ω)(K:μ)(mg:F3)(base:Ψ)(C:Δ)(x:Str)(ps:List Str)(k:Nat)(sp:Sp):Prop where
 ex:∃(f:Δ) (fd:FuncData),HG P w K mg base bh k f fd ps sp/\Mk K C f/\mg x=some (.ref C)/\G9 K fd ps []
section
variable{P:Ξ}{w:Ω}{K:μ}{mg:F3}{base:Ψ}{C:Δ}
theorem Ia.mq{m MU:Str}{st:ε}{ps N:List Str}{k:Nat}{sp:Sp}(a:Ia K C m MU st ps)(S:F6 N ps (qi st))
  (hbody:∀(f:Δ) (cdv:Γ) (A:Around) (outer:List Env) (s:Θ) (H:Hp) (vs:List V) (Q:VK) (E:XK),Gq k (A.deeper (envOfC MU (qi st) s.heap.objs.size f cdv))->sp vs H Q E->
   ∃t,Lj (bK bh P w K mg base N MU (qi st) f cdv A outer s H E).nox (zO st) t/\t {nx:=fun _ H'=>Q .non H',rt:=Q} (Zi N vs) H)(len:∀vs H Q E,sp vs H Q E->vs.length=ps.length:=by intro vs H Q E h;first|(cases h;subst_vars;rfl)|((repeat first|obtain⟨rfl,h⟩:=h|obtain⟨_,h⟩:=h);all_goals rfl)):Mf P w K mg base C m ps (k+1) sp:=by
 obtain⟨f,fd,F,m,bd⟩:=a.ex
 exact#[f,fd,F.ok S len (fun cdv A outer s H vs Q E hr h=>let⟨t,q1,q2⟩:=hbody f cdv A outer s H vs Q E hr h;#[t,q1.h,q2]),m,bd]
theorem Mf.mi{x:Str}{ps:List Str}{k:Nat}{sp:Sp}(a:Mf P w K mg base C "__init__" ps k sp)(mk:W.makesIn K C=true)(kc:W.keepIn K (.ref C)=true)(hx:mg x=some (.ref C)):Mi P w K mg base C x ps k sp:=
 let⟨f,fd,F,m,bd⟩:=a.ex;#[f,fd,F,#[mk,m.at_,m.fn,kc],hx,bd]
end
section
variable{X:Cx}{C:Δ}{x m:Str}{ps:List Str}{k:Nat}{sp:Sp}{o e:Φ}{es:List Φ}{p pos apos:Pos}{ta:TE}{t:TA}
theorem za{pl:Sem Bool}(M:Mf X.prog X.w X.K X.mg X.base C m ps k sp)(c:IP X.K C)(hr:Gq k X.A)(he:QE X o ta)(ha:QA X (e::es) t)
  (hst:ι (e::es) X.env=(false,eval e X.env)::ι es X.env:=by rfl)(hpl:(backTo pos (ι es X.env)).any (·.1)=false:=by rfl)
  (ht:eval (.Call (.Attribute o m apos) (e::es) [] pos) X.env=(do
   let ov <- eval o X.env
   standAt apos.atName
   let(f,first) <- holding [ov] (getMethod ov m pl)
   callWith pos f first (backTo pos (ι (e::es) X.env)) (backToKw pos (keywordEach [] X.env))):=by rfl):
  QE X (.Call (.Attribute o m apos) (e::es) [] pos) (tW C m sp ta t):=#[by
 obtain⟨f,fd,F,hm,hb⟩:=M.ex;intro MT s σ H Q I h;refine W.methodCall_KW (pl:=pl) (qu (he.h MT s σ H _ I h) fun u s1 zq=>?_) ht
 obtain⟨x,H1,I1,rx,a,ex,⟨dx,fs,ea,l⟩,q⟩:=zq;subst ex
 obtain rfl:u=Γ.ref a:=rx
 refine iC I1 ea c hm l ?_
 refine W.callWith_K (first:=[.ref a]) (h₀:=X.base) I.ok.mod.kin hm.kp (qu (ha.h pos MT s1 σ H1 _ I1 q) fun us s2 ⟨vs,H2,I2,r,q2⟩=>#[I2.kIn,?_]) hst hpl
 exact lu (us:= .ref a::us) (vs:= .ref a::vs) F hr hb .nil kG I2 (.cons rfl r) q2]
theorem zS{pl:Sem Bool}(M:Mf X.prog X.w X.K X.mg X.base C m ps k sp)(c:IP X.K C)(hr:Gq k X.A)(he:QE X o ta)
  (ht:eval (.Call (.Attribute o m apos) [] [] pos) X.env=(do
   let ov <- eval o X.env
   standAt apos.atName
   let(f,first) <- holding [ov] (getMethod ov m pl)
   callWith pos f first (backTo pos (ι [] X.env)) (backToKw pos (keywordEach [] X.env))):=by rfl):
  QE X (.Call (.Attribute o m apos) [] [] pos) (tW C m sp ta vw):=#[by
 obtain⟨f,fd,F,hm,hb⟩:=M.ex;intro MT s σ H Q I h;refine W.methodCall_KW (pl:=pl) (qu (he.h MT s σ H _ I h) fun u s1 zq=>?_) ht
 obtain⟨x,H1,I1,rx,a,ex,⟨dx,fs,ea,l⟩,q⟩:=zq;subst ex
 obtain rfl:u=Γ.ref a:=rx
 refine iC I1 ea c hm l ?_
 exact W.callWith_K0 (first:=[.ref a]) I1.kIn hm.kp (lu (us:=[.ref a]) (vs:=[.ref a]) F hr hb .nil kG I1 (.cons rfl .nil) q)]
theorem pI(M:Mi X.prog X.w X.K X.mg X.base C x ps k sp)(hr:Gq (k+1) X.A)(ha:QA X (e::es) t)(hg:Gl X x:=by rfl)(hdb:(x==("__debug__":Str))=false:=by decide)
  (he:ι (e::es) X.env=(false,eval e X.env)::ι es X.env:=by rfl)(hpl:(backTo pos (ι es X.env)).any (·.1)=false:=by rfl):
  QE X (.Call (.Name x p) (e::es) [] pos) (xz C sp [] E0 t):=#[by
 obtain⟨f,fd,F,mk,hx,hb⟩:=M.ex;exact AE mk F hr hg hx hb .nil kG ha.h hdb he hpl]
end
section
variable{X:Cx}{o e:Φ}{es:List Φ}{to:TE}{t:TA}{name:Str}{apos cpos:Pos}{T id:String}{r:V->List V->Hp->VK->Prop}{K:μ}
theorem CD(hK:X.K=K)(pa:PlainAttrs T)(slot:Slot T name id)(hty:typeOf (.builtin id)=pure (.type "method_descriptor"))(hm:t6 X id r)(ho:QE X o to)(ha:QA X (e::es) t)
  (hbase:attributeBase o name X.env (eval o X.env)=eval o X.env:=by rfl)
  (hfew:((backTo cpos (ι (e::es) X.env)).all (fun x=> !x.1)&&(backToKw cpos (keywordEach [] X.env)).all (fun x=>x.1.isSome)
   &&decide ((e::es).length+([]:List Keyword).length+(if([]:List Keyword).isEmpty then 0 else 1)<30))=true:=by rfl)
  (hline:(apos.endLine==cpos.line)=true:=by rfl)(hs:ι (e::es) X.env=(false,eval e X.env)::ι es X.env:=by rfl)(hplain:(backTo cpos (ι es X.env)).any (·.1)=false:=by rfl):
  QE X (.Call (.Attribute o name apos) (e::es) [] cpos) (Bx K T r to t):=by
 subst hK;exact ZA pa slot hty hm ho ha hbase hfew hline hs hplain
theorem xl:t6 X "list.pop" ue:=vD
end
theorem jG{f:Str}{v:V}:∀{fs:List (Str×V)} (i:Nat),fs[i]? =some (f,v)->(fs.map (·.1)).Nodup->fs.lookup f=some v
 | [],i,h,_=>by cases h
 |(g,x)::r,0,h,_=>by
  cases JG h
  exact List.lookup_cons_self
 |(g,x)::r,i+1,h,nd=>by
  have h':r[i]? =some (f,v):=h
  have nd':g∉r.map (·.1)/\(r.map (·.1)).Nodup:=EX.mp nd
  have hm:f∈r.map (·.1):=Jq.mpr #[(f,v),J9 h',rfl]
  have ne:f≠g:=fun z=>nd'.1 (z▸hm)
  rw[EB,E9 ne];exact jG i h' nd'.2
theorem jM{f:Str}:∀{fs:List (Str×V)},f∉fs.map (·.1)->fs.lookup f=none
 | [],_=>rfl
 |(g,x)::r,h=>by
  have ne:f≠g:=fun z=>h (z▸Jv ..)
  rw[EB,E9 ne];exact jM fun z=>h (JE _ z)
theorem nW{f:Str}{v u:V}:∀{fs:List (Str×V)} (i:Nat),fs[i]? =some (f,u)->(fs.map (·.1)).Nodup->Qq f v fs=fs.set i (f,v)
 | [],i,h,_=>by cases h
 |(g,x)::r,0,h,_=>by
  cases JG h
  show(if f=f then _ else _)=_
  rw[Jb rfl];rfl
 |(g,x)::r,i+1,h,nd=>by
  have h':r[i]? =some (f,u):=h
  have nd':g∉r.map (·.1)/\(r.map (·.1)).Nodup:=EX.mp nd
  have hm:f∈r.map (·.1):=Jq.mpr #[(f,u),J9 h',rfl]
  have ne:¬g=f:=fun z=>nd'.1 (z▸hm)
  show(if g=f then _ else(g,x)::Qq f v r)=_
  rw[Jc ne,nW i h' nd'.2];rfl
theorem l6{f:Str}{v:V}:∀{fs:List (Str×V)},f∉fs.map (·.1)->Qq f v fs=fs++[(f,v)]
 | [],_=>rfl
 |(g,x)::r,h=>by
  have ne:¬g=f:=fun z=>h (z▸Jv ..)
  show(if g=f then _ else(g,x)::Qq f v r)=_
  rw[Jc ne,l6 fun z=>h (JE _ z)];rfl
def Mv(S:List Δ)(H H':Hp):Prop:=∀c o,c∉S->H c=some o->H' c=some o
theorem Mv.trans{S:List Δ}{H H1 H2:Hp}(a:Mv S H H1)(b:Mv S H1 H2):Mv S H H2:=fun c o n e=>b c o n (a c o n e)
theorem Mv.mono{S S':List Δ}{H H':Hp}(a:Mv S H H')(h:∀c,c∉S'->c∉S):Mv S' H H':=fun c o n e=>a c o (h c n) e
theorem _root_.L2.F5.mv{S:List Δ}{H H':Hp}(a:F5 H H'):Mv S H H':=fun c o _ e=>a c o e
theorem Mv.upd1{a:Δ}{H:Hp}{o:HO}:Mv [a] H (F9 H a o):=fun c u n e=>by
 rw[qj (fun z=>n (Jl.mpr z))];exact e
def yp:HO->Prop
 | .tup _=>False
 | .frz _ (.dK _)=>True
 | .frz _ _=>False
 |_=>True
def NT(S:List Δ)(H:Hp):Prop:=∀c,c∈S->∃o,H c=some o/\yp o
theorem Mv.rd{S:List Δ}{H H':Hp}{a:Δ}{xs:List V}(m:Mv S H H')(n:NT S H)(h:Rd H a (.tup xs)):Rd H' a (.tup xs):=by
 have hn:a∉S:=fun z=>by
  obtain⟨o,e,no⟩:=n a z;rcases h with h|⟨o',h⟩
  ·rw[e]at h;cases h;exact no
  ·rw[e]at h;cases h;exact no
 rcases h with h|⟨o',h⟩
 ·exact .inl (m _ _ hn h)
 ·exact .inr #[o',m _ _ hn h]
theorem Mv.sqt{K:μ}{S:List Δ}{H H':Hp}{a:Δ}{xs:List V}(m:Mv S H H')(n:NT S H)(h:Gh K H a xs):Gh K H' a xs:=by
 rcases h with h|h
 ·exact .inl (m.rd n h)
 ·exact .inr h
inductive IT (vs:List V) (H:Hp) (Q:VK):Prop
 |mk (b:Δ) (c:Nat) (h1:vs=[.ref b]) (h2:HH H b c) (h3:c<100000000) (h4:∀p (t:List Int) H',HB b (c+16) H H'->H p=none->H' p=some (.tup (t.map V.int))->t.Perm GG->Q (.ref p) H')
def lm:Sp:=fun vs H Q _=>IT vs H Q
inductive Lo (vs:List V) (H:Hp) (Q:VK):Prop
 |mk (b:Δ) (c:Nat) (h1:vs=[.ref b]) (h2:HH H b c) (h3:c<100000000) (h4:∀p (ks:List Int) H',HB b (c+9) H H'->H p=none->H' p=some (.tup (ks.map V.int))->zB ks->1<=ks.length->ks.length<=8->Q (.ref p) H')
def nZ:Sp:=fun vs H Q _=>Lo vs H Q
theorem HB.fresh{b c:Δ}{n:Nat}{H H':Hp}(g:HB b n H H')(hb:HH H b n)(h:H' c=Option.none):H c=Option.none:=by
 cases e:H c with
 |none=>rfl
 |some o=>
  by_cases z:c=b
  ·subst z
   obtain⟨_,_,_,e',_⟩:=g.bx;rw[e']at h;cases h
  ·rw[g.kp c o z e]at h;cases h
theorem vY{K:μ}{H:Hp}{a:Δ}{xs:List V}{Q:VK}(h:Sq K H a xs)(q:∀l H',F5 H H'->Gh K H' l xs->Q (.ref l) H'):(Gd K H a xs/\∀l,H l=none->Q (.ref l) (F9 H l (.tup xs)))\/(Gh K H a xs/\Q (.ref a) H):=
 h.elim (fun h=> .inl #[h,fun l hl=>q l _ (F5.upd hl) (Gh.of qa)]) fun h=> .inr #[h,q a H (F5.refl _) h]
theorem fI{K:μ}{C p dx a:Δ}{H:Hp}{fs:List (Str×V)}{xs:List V}{o:HO}(e:H p=some (.ins C dx fs))(h:Gh K H a xs):Gh K (F9 H p o) a xs:=by
 rcases h with(h|⟨u,h⟩)|h
 ·exact .inl (.inl (by rw[qj (Qu h e (by intro z;cases z))];exact h))
 ·exact .inl (.inr #[u,by rw[qj (Qu h e (by intro z;cases z))];exact h])
 ·exact .inr h
theorem aq{X:Cx}{K:μ}(hK:X.K=K):zi X (.builtin "len") (fun xs H Q=>∃p ys,xs=[.ref p]/\(Gd K H p ys\/Gh K H p ys)/\Q (.int (ys.length:Nat)) H):=by
 subst hK;exact qW
theorem kQ{k n:Nat}(h:k<n):seqIndex? (k:Int) n=some k:=by
 unfold seqIndex?
 simp
 omega
theorem vX{ms zs:List Int}{k:Nat}(h:k<ms.length):(zs++[ms[k]]++ms.eraseIdx k).Perm (zs++ms):=by
 rw[EL];refine List.Perm.append_left zs ?_
 rw[List.eraseIdx_eq_take_drop_succ];have e:ms=ms.take k++ms[k]::ms.drop (k+1):=by rw[<- List.drop_eq_getElem_cons h,List.take_append_drop]
 refine List.Perm.trans (List.perm_middle (a:=ms[k]) (l₁:=ms.take k) (l₂:=ms.drop (k+1))).symm ?_
 rw[<- e]
theorem rD(ms:List Int)(k:Nat):(ms.map V.int).eraseIdx k=(ms.eraseIdx k).map V.int:=by
 rw[List.eraseIdx_eq_take_drop_succ,List.eraseIdx_eq_take_drop_succ,JJ,List.map_take,List.map_drop]
theorem bX{X:Cx}:zi X (.type "tuple") (fun xs H Q=>∃p ys,xs=[.ref p]/\Sq X.K H p ys/\∀l H',F5 H H'->Gh X.K H' l ys->Q (.ref l) H'):=by
 intro MT s σ H xs us Q I r h;obtain⟨p,ys,e,hs,q⟩:=h;exact qV MT s σ H xs us Q I r #[p,ys,e,vY hs q]
section
variable{H:Hp}{b:Δ}{n:Nat}
theorem qM{a x:Δ}(h:a≠x):a∉[x]:=fun z=>h (Jl.mp z)
theorem Z3(hb:HH H b n):NT [b] H:=fun c hc=>by
 obtain⟨_,_,_,e,_⟩:=hb;rw[Jl.mp hc]
 exact#[_,e,trivial]
end
theorem Dt(n:Nat)(h:n<=100:=by omega):n<η:=Nat.lt_of_le_of_lt h (by decide)
theorem NT.one{H:Hp}{a:Δ}{o:HO}(e:H a=some o)(n:yp o):NT [a] H:=fun c hc=>#[o,by rw[Jl.mp hc];exact e,n]
end L3
namespace L2
open PySem PySem.Spec PyProof.Rows
section
variable{κ:Type} [DecidableEq κ]
def Z0(kvs:List (κ×V))(k:κ):Option V:=(kvs.find? fun kv=>decide (kv.1=k)).map (·.2)
def G8(kvs:List (κ×V))(k:κ)(v:V):List (κ×V):=
 if(kvs.any fun kv=>decide (kv.1=k))=true then kvs.map (fun kv=>if kv.1=k then(kv.1,v)else kv)else kvs++[(k,v)]
theorem cz{p:κ×V}{r:List (κ×V)}{k:κ}(e:p.1=k):Z0 (p::r) k=some p.2:=by simp [Z0,Fb,e]
theorem cR{p:κ×V}{r:List (κ×V)}{k:κ}(e:¬p.1=k):Z0 (p::r) k=Z0 r k:=by simp [Z0,Fb,e]
theorem lF(k:κ):∀kvs:List (κ×V),(kvs.any fun kv=>decide (kv.1=k))=(Z0 kvs k).isSome
 | []=>rfl
 |p::r=>by
  rw[Ef]
  by_cases e:p.1=k
  ·simp only[cz e,Jh e,Bool.true_or,Option.isSome_some]
  ·rw[cR e,Jm e,Bool.false_or];exact lF k r
theorem bN(kvs:List (κ×V))(k:κ)(v:V):(G8 kvs k v).length<=kvs.length+1:=by
 unfold G8;split
 ·rw[Je];lia
 ·rw[Jt,JP,List.length_nil];lia
theorem Hj.isSome_eq{o:Option V}{u:Option Γ}(r:Hj o u):o.isSome=u.isSome:=by
 cases o with
 |none=>cases u with
  |none=>rfl
  |some _=>exact(show False from r).elim
 |some _=>cases u with
  |none=>exact(show False from r).elim
  |some _=>rfl
theorem Hj.getD{o:Option V}{u:Option Γ}{d:V}{d':Γ}(r:Hj o u)(rd:Ge d d'):Ge (o.getD d) (u.getD d'):=by
 cases o with
 |none=>cases u with
  |none=>exact rd
  |some _=>exact(show False from r).elim
 |some _=>cases u with
  |none=>exact(show False from r).elim
  |some _=>exact r
theorem KV.val{kvs:List (κ×V)}{vs:List (κ×Γ)}(r:KV kvs vs)(k:κ):Hj (Z0 kvs k) (valueAt vs k):=by
 unfold KV at r
 induction r with
 |nil=>exact True.intro
 | @cons p q ps qs h t ih=>
  obtain⟨h1,h2⟩:=h
  by_cases e:p.1=k
  ·have e':q.1=k:=h1.symm.trans e
   have b:valueAt (q::qs) k=some q.2:=by simp [valueAt,Fb,e']
   rw[cz e,b];exact h2
  ·have e':¬q.1=k:=fun z=>e (h1.trans z)
   have b:valueAt (q::qs) k=valueAt qs k:=by simp [valueAt,Fb,e']
   rw[cR e,b];exact ih
theorem KV.any{kvs:List (κ×V)}{vs:List (κ×Γ)}(r:KV kvs vs)(k:κ):(kvs.any fun kv=>decide (kv.1=k))=vs.any fun kv=>decide (kv.1=k):=by
 unfold KV at r
 induction r with
 |nil=>rfl
 |cons h t ih=>rw[Ef,Ef,ih,h.1]
theorem KV.repl{kvs:List (κ×V)}{vs:List (κ×Γ)}(r:KV kvs vs)(k:κ){y:V}{u:Γ}(ry:Ge y u):
  KV (kvs.map fun kv=>if kv.1=k then(kv.1,y)else kv) (vs.map fun kv=>if kv.1=k then(kv.1,u)else kv):=by
 unfold KV at r⊢
 induction r with
 |nil=>exact .nil
 | @cons p q ps qs h t ih=>
  rw[JU,JU];refine .cons ?_ ih
  obtain⟨h1,h2⟩:=h
  by_cases e:p.1=k
  ·rw[Jb e,Jb (h1.symm.trans e)];exact#[h1,ry]
  ·rw[Jc e,Jc (fun z=>e (h1.trans z))];exact#[h1,h2]
theorem KV.put{kvs:List (κ×V)}{vs:List (κ×Γ)}(r:KV kvs vs)(k:κ){y:V}{u:Γ}(ry:Ge y u):KV (G8 kvs k y) (stored vs k u):=by
 unfold G8 stored;rw[r.any k]
 by_cases e:(vs.any fun kv=>decide (kv.1=k))=true
 ·rw[Jb e,Jb e];exact r.repl k ry
 ·rw[Jc e,Jc e];exact Paired.snoc r #[rfl,ry]
theorem KV.keys{kvs:List (κ×V)}{vs:List (κ×Γ)}(r:KV kvs vs):kvs.map (·.1)=vs.map (·.1):=by
 unfold KV at r
 induction r with
 |nil=>rfl
 |cons h t ih=>rw[JU,JU,ih,h.1]
theorem KV.length{kvs:List (κ×V)}{vs:List (κ×Γ)}(r:KV kvs vs):kvs.length=vs.length:=Paired.length r
end
theorem fG{P:Ξ}{w:Ω}{k:qO}{u:Γ}(r:Ge (kV k) u):(qS P w).is k u=true:=by
 cases k with
 |inl i=>obtain⟨t,e⟩:=(show∃t,u=Γ.int i t from r);subst e;exact nH P w i t
 |inr x=>obtain⟨t,e⟩:=(show∃t,u=Γ.str x t from r);subst e;exact nh P w x t
theorem j6{P:Ξ}{w:Ω}:∀{ks:List qO} {us:List Γ},Ga (ks.map kV) us->ItemsAre (qS P w) ks us
 | [],_,r=>by rw[Fh]at r;cases r;exact .nil
 |k::ks,_,r=>by
  rw[JU]at r;cases r with
  |cons h t=>exact .cons (fG h) (j6 t)
abbrev KT(H:Hp):List (List qO×V)->List (List qO×Δ×Γ)->Prop:=Paired fun p q=>p.1=q.1/\H q.2.1=some (.tup (p.1.map kV))/\Ge p.2 q.2.2
theorem KT.val{H:Hp}{kvs:List (List qO×V)}{xs:List (List qO×Δ×Γ)}(r:KT H kvs xs)(k:List qO):Hj (Z0 kvs k) ((atKey xs k).map (·.2)):=by
 induction r with
 |nil=>exact True.intro
 | @cons p q ps qs h t ih=>
  obtain⟨h1,_,h2⟩:=h
  by_cases e:p.1=k
  ·have e':q.1=k:=h1.symm.trans e
   have b:atKey (q::qs) k=some q.2:=by simp [atKey,Fb,e']
   rw[cz e,b];exact h2
  ·have e':¬q.1=k:=fun z=>e (h1.trans z)
   have b:atKey (q::qs) k=atKey qs k:=by simp [atKey,Fb,e']
   rw[cR e,b];exact ih
theorem KT.repl{H:Hp}{kvs:List (List qO×V)}{xs:List (List qO×Δ×Γ)}(r:KT H kvs xs)(k:List qO){y:V}{u:Γ}(ry:Ge y u):
  KT H (kvs.map fun kv=>if kv.1=k then(kv.1,y)else kv) (xs.map (putAt k u)):=by
 induction r with
 |nil=>exact .nil
 | @cons p q ps qs h t ih=>
  rw[JU,JU];refine .cons ?_ ih
  obtain⟨h1,h2,h3⟩:=h;unfold putAt
  by_cases e:p.1=k
  ·rw[Jb e,Jb (h1.symm.trans e)];exact#[h1,h2,ry]
  ·rw[Jc e,Jc (fun z=>e (h1.trans z))];exact#[h1,h2,h3]
theorem KT.put{H:Hp}{kvs:List (List qO×V)}{xs:List (List qO×Δ×Γ)}(r:KT H kvs xs)(k:List qO){b:Δ}{y:V}{u:Γ}(hb:H b=some (.tup (k.map kV)))(ry:Ge y u):
  KT H (G8 kvs k y) (storedH xs k b u):=by
 have e:(kvs.any fun kv=>decide (kv.1=k))=(atKey xs k).isSome:=by
  rw[lF,(r.val k).isSome_eq,Option.isSome_map]
 unfold G8 storedH;rw[e]
 by_cases q:(atKey xs k).isSome=true
 ·rw[Jb q,Jb q];exact r.repl k ry
 ·rw[Jc q,Jc q];exact Paired.snoc r #[rfl,hb,ry]
theorem KT.keeps{H H':Hp}{kvs:List (List qO×V)}{xs:List (List qO×Δ×Γ)}(r:KT H kvs xs)(ht:∀b ys,H b=some (.tup ys)->H' b=some (.tup ys)):KT H' kvs xs:=
 Paired.mapP r fun _ _ z=>#[z.1,ht _ _ z.2.1,z.2.2]
section
variable{P:Ξ}{w:Ω}{H:Hp}{h:Ψ}{a:Δ}
theorem yF{u:HO}(ok:HJ P w H h)(e:Rd H a u):Gn P w H h a u:=e.ok ok
theorem bF{kvs:List (qO×V)}(ok:HJ P w H h)(e:Rd H a (.dK kvs)):kvs.length<=η/\(a==sysModules)=false/\∃vs,KV kvs vs/\h.DictOf (qS P w) a vs:=
 show Gn P w H h a (.dK kvs)from yF ok e
theorem yf{kvs:List (qO×V)}(ok:HJ P w H h)(e:H a=some (.dK kvs)):kvs.length<=η/\(a==sysModules)=false/\∃vs,KV kvs vs/\h.DictOf (qS P w) a vs:=bF ok (.inl e)
theorem fc{ks:List qO}(ok:HJ P w H h)(e:H a=some (.tup (ks.map kV))):(tupleKind (qS P w)).is h ks a:=by
 obtain⟨_,its,r,o,h1,h2,n,h3⟩:=(show Gn P w H h a (.tup (ks.map kV))from ok a _ e)
 exact#[o,its.toArray,n,h1,h2,h3,by simpa using j6 r]
theorem fu{kvs:List (List qO×V)}(ok:HJ P w H h)(e:Rd H a (.dT kvs)):kvs.length<=η/\(a==sysModules)=false/\
  ∃xs,KT H kvs xs/\h.DictOfH (tupleKind (qS P w)) a xs:=by
 obtain⟨z,y,xs,r,o,es,ep,h1,h2,h3,h4,h5⟩:=(show Gn P w H h a (.dT kvs)from yF ok e)
 refine#[z,y,xs,r,o,es,ep,h1,h2,h3,h4,fun x hx=>?_,h5]
 have all:∀{l:List (List qO×V)} {m:List (List qO×Δ×Γ)},KT H l m->∀x∈m,(tupleKind (qS P w)).is h x.1 x.2.1:=by
  intro l m q
  induction q with
  |nil=>intro x hx;exact nomatch hx
  | @cons p q ps qs hq t ih=>
   intro x hx;rcases Jr.mp hx with e|hx
   ·subst e
    exact fc ok (by rw[<- hq.1];exact hq.2.1)
   ·exact ih x hx
 exact all r x hx
theorem Do{kvs:List (List qO×V)}(ok:HJ P w H h)(e:H a=some (.dT kvs)):kvs.length<=η/\(a==sysModules)=false/\
  ∃xs,KT H kvs xs/\h.DictOfH (tupleKind (qS P w)) a xs:=fu ok (.inl e)
end
def HP(H:Hp)(a:Δ)(y:V)(r:Option V):Prop:=
 (∃kvs k,Rd H a (.dK kvs)/\y=kV k/\r=Z0 kvs k)\/∃kvs k b,Rd H a (.dT kvs)/\y= .ref b/\H b=some (.tup (k.map kV))/\r=Z0 kvs k
def IU(H:Hp)(a:Δ)(y v:V)(H':Hp):Prop:=
 (∃kvs k,H a=some (.dK kvs)/\y=kV k/\kvs.length<η/\H'=F9 H a (.dK (G8 kvs k v)))\/
 ∃kvs k b,H a=some (.dT kvs)/\y= .ref b/\H b=some (.tup (k.map kV))/\kvs.length<η/\H'=F9 H a (.dT (G8 kvs k v))
theorem HP.k{H:Hp}{a:Δ}{kvs:List (qO×V)}{k:qO}(e:H a=some (.dK kvs)):HP H a (kV k) (Z0 kvs k):= .inl #[kvs,k,.inl e,rfl,rfl]
theorem IU.k{H:Hp}{a:Δ}{kvs:List (qO×V)}{k:qO}{v:V}(e:H a=some (.dK kvs))(hl:kvs.length<η):IU H a (kV k) v (F9 H a (.dK (G8 kvs k v))):= .inl #[kvs,k,e,rfl,hl,rfl]
section
variable{X:Cx}{MT:F4}{σ:St}{H:Hp}{s:Θ}{a:Δ}{y v:V}{u r:Γ}{o:Option V}{A:Around}{E:F2}
theorem F8.big(I:F8 X MT σ H s):sysModules<s.heap.objs.size:=by
 have h:θ<s.heap.objs.size:=(I.mod.glob.keeps I.bk).lt
 exact Nat.lt_trans (by decide) h
theorem sM{Q:F2}(hu:A.units+1<cLine)(I:F8 X MT σ H s)(g:HP H a y (some v))(ry:Ge y u)(h:∀w' s',F8 X MT σ H s'->Ge v w'->Q w' s'):
  ζ (model X.prog X.w) A (getItem (.ref a) u) Q E s:=by
 rcases g with⟨kvs,k,e,ey,l⟩|⟨kvs,k,b,e,ey,eb,l⟩
 ·subst ey
  obtain⟨z,hd,vs,rel,dd⟩:=bF I.hok e;obtain⟨w',hw,rw'⟩:=Hj.some_of (v:=v) (o:=valueAt vs k) (by rw[l];exact rel.val k)
  exact wpAny_getItem_of (fG ry) dd.mapOf hw (h w' _ (I.tok _) rw')
 ·subst ey
  cases(show u=Γ.ref b from ry)
  obtain⟨z,hd,xs,rel,dd⟩:=fu I.hok e;obtain⟨w',hw,rw'⟩:=Hj.some_of (v:=v) (o:=(atKey xs k).map (·.2)) (by rw[l];exact rel.val k)
  obtain⟨p,hp,hp2⟩:=JW.mp hw;refine wpAny_getItem_heap (FG hu) (fc I.hok eb) dd hp ?_
  rw[hp2];exact h w' _ (I.tok _) rw'
theorem DO{Q:F2}(hu:A.units+1<cLine)(I:F8 X MT σ H s)(g:HP H a y o)(ry:Ge y u)(h:∀s',F8 X MT σ H s'->Q (.bool o.isSome) s'):
  ζ (model X.prog X.w) A (compareOp .In u (.ref a)) Q E s:=by
 rcases g with⟨kvs,k,e,ey,l⟩|⟨kvs,k,b,e,ey,eb,l⟩
 ·subst ey
  obtain⟨z,hd,vs,rel,dd⟩:=bF I.hok e;refine wpAny_in_of (fG ry) hd dd.mapOf ?_
  rw[<- (rel.val k).isSome_eq,<- l];exact h _ (I.tok _)
 ·subst ey
  cases(show u=Γ.ref b from ry)
  obtain⟨z,hd,xs,rel,dd⟩:=fu I.hok e;refine wpAny_in_heap (FG hu) (fc I.hok eb) hd dd ?_
  have q:=(rel.val k).isSome_eq;rw[Option.isSome_map]at q;rw[<- q,<- l];exact h _ (I.tok _)
theorem pF{h':Ψ}{t':Nat}{ob:HO}(I:F8 X MT σ H s)(mu:tZ (H a))(hs:Ψ.SameBut a s.heap h')(he:∃q,h'.get? a=some q)(new:Gn X.prog X.w (F9 H a ob) h' a ob):
  F8 X MT σ (F9 H a ob) {s with heap:=h',toks:=t'}:=
 I.write (x:=a) (e:=a) mu (.inl rfl) (fun b q hb z=>(hs.2 b hb).trans z) he new
theorem sX{P:Ξ}{w:Ω}{H':Hp}{h':Ψ}{kvs:List (qO×V)}{vs:List (qO×Γ)}(z:kvs.length<=η)(hd:(a==sysModules)=false)(rel:KV kvs vs)(dd:h'.DictOf (qS P w) a vs):
  Gn P w H' h' a (.dK kvs):=#[z,hd,vs,rel,dd]
theorem sN{H':Hp}{Q:Unit->Θ->Prop}(hu:A.units+1<cLine)(I:F8 X MT σ H s)(g:IU H a y v H')(ry:Ge y u)(rv:Ge v r)(h:∀s',F8 X MT σ H' s'->Q () s'):
  ζ (model X.prog X.w) A (setItem (.ref a) u r) Q E s:=by
 rcases g with⟨kvs,k,e,ey,l,eH⟩|⟨kvs,k,b,e,ey,eb,l,eH⟩
 ·subst ey eH
  obtain⟨z,hd,vs,rel,dd⟩:=yf I.hok e;have hz:vs.length<=η:=by rw[<- rel.length];exact z
  have hl:(G8 kvs k v).length<=η:=by have:=bN kvs k v;lia
  refine wpAny_setItem_pairs (hsz:=hz) (fG ry) dd fun h' dd' hs=>h _ ?_
  have he:∃q,h'.get? a=some q:=let⟨q,_,_,hq,_⟩:=dd';#[q,hq]
  exact pF I (by rw[e];exact True.intro) hs he (sX hl hd (rel.put k rv) dd')
 ·subst ey eH
  cases(show u=Γ.ref b from ry)
  obtain⟨z,hd,xs,rel,dd⟩:=Do I.hok e;have hz:xs.length<=η:=by rw[<- Paired.length rel];exact z
  have hl:(G8 kvs k v).length<=η:=by have:=bN kvs k v;lia
  refine wpAny_setItem_heap (hsz:=hz) (FG hu) (fc I.hok eb) dd fun h' dd' hs=>h _ ?_
  obtain⟨q,es,ep,hq,h2,h3,h4,_,h5⟩:=dd';refine pF I (by rw[e];exact True.intro) hs #[q,hq] #[hl,hd,_,(rel.put k eb rv).keeps fun c ys ec=>?_,q,es,ep,hq,h2,h3,h4,h5]
  rw[qj (Qu ec e (fun z=>nomatch z))]
  exact ec
end
section
variable{X:Cx}{MT:F4}{σ:St}{H:Hp}{s:Θ}{a:Δ}{kvs:List (qO×V)}{A:Around}{E:F2}
theorem CW{Q:F2}(I:F8 X MT σ H s)(e:Rd H a (.dK kvs))(h:∀t s',F8 X MT σ H s'->Q (.int kvs.length t) s'):ζ (model X.prog X.w) A (call (.builtin "len") [.ref a]) Q E s:=by
 obtain⟨z,hd,vs,rel,dd⟩:=bF I.hok e;refine call_len_dict hd dd (by rw[<- rel.length];rw[JF]at z;lia) ?_
 rw[<- rel.length];exact h _ _ (I.tok _)
end
def vC(i:Φ):Prop:=∀ov iv,subscripted i false ov iv=operate [ov,iv] (getItem ov iv)
theorem Ad{prog:Ξ}{w:Ω}{A:Around}{E:F2}{s:Θ}{env:Env}{value slice:Φ}{pos:Pos}{T id:String}{Q:F2}
  (hl:typeLookup (.type T) "__getitem__"=pure (some (.builtin id)))(hs:vC slice)
  (h:ζ (model prog w) A (eval value env) (fun o s₁=>ζ (model prog w) A (eval slice env) (fun i s₂=>s₂.TypeIs o T/\ζ (model prog w) A (getItem o i) Q E s₂) E s₁) E s):
  ζ (model prog w) A (eval (.Subscript value slice pos) env) Q E s:=by
 refine Subscript_ (Jw h (fun o s₁ h₁=>Jw h₁ (fun i s₂ h₂=>?_) fun _ _ x=>x) fun _ _ x=>x)
 obtain⟨hT,h₂⟩:=h₂;unfold subscriptTail;refine Ja ?_
 rw[getitemInPython_of_ne hT.not_modules];refine Ja (E8 hT hl ?_)
 have fin:ζ (model prog w) A (subscripted slice false o i) (fun r s₃=>ζ (model prog w) A (letTemporaryGo value o r >>= fun _=>pure r) Q E s₃) E s₂:=by
  rw[hs o i];exact wpAny_operating (Jw h₂ (fun r s₃ h₃=>Ja (wpAny_letTemporaryGo (Jd h₃))) fun _ _ x=>x)
 first
  |exact Jd (Ja fin)
  |exact Ja (Jd (Ja fin))
  |exact Ja fin
theorem nQ{X:Cx}{MT:F4}{σ:St}{H:Hp}{s:Θ}{a:Δ}{y:V}{o:Option V}(I:F8 X MT σ H s)(g:HP H a y o):s.TypeIs (.ref a) "dict":=by
 rcases g with⟨kvs,k,e,_,_⟩|⟨kvs,k,b,e,_,_,_⟩
 ·obtain⟨_,_,vs,_,dd⟩:=bF I.hok e
  exact dd.typeIs
 ·obtain⟨_,_,xs,_,dd⟩:=fu I.hok e
  exact dd.typeIs
def yx(td ty:TE):TE:=fun σ H Q=>td σ H fun x H1=>ty σ H1 fun y H2=>∃a v,x= .ref a/\HP H2 a y (some v)/\Q v H2
def Bp(ty td:TE):TE:=fun σ H Q=>ty σ H fun y H1=>td σ H1 fun x H2=>∃a o,x= .ref a/\HP H2 a y o/\Q (.bl o.isSome) H2
def yE(td ty tv:TE):TS:=fun D σ H=>tv σ H fun v H1=>td σ H1 fun x H2=>ty σ H2 fun y H3=>∃a H4,x= .ref a/\IU H3 a y v H4/\D.nx σ H4
section
variable{X:Cx}{o i value:Φ}{pos pos':Pos}{td ty tv:TE}
theorem AU(hu:X.A.units+1<cLine)(ho:PE X o td)(hi:PE X i ty)(hs:vC i):PE X (.Subscript o i pos) (yx td ty):=by
 intro MT s σ H Q I h;refine Ad PySem.F.slot_dict_getitem.lookup hs (qu (ho MT s σ H _ I h) fun u s1 ⟨x,H1,I1,rx,q1⟩=>qu (hi MT s1 σ H1 _ I1 q1) fun iv s2 zq=>?_)
 obtain⟨y,H2,I2,ry,a,v,ex,g,q2⟩:=zq;subst ex
 obtain rfl:u=Γ.ref a:=rx
 exact#[nQ I2 g,sM hu I2 g ry fun w' s3 I3 rw'=>#[v,H2,I3,rw',q2]]
theorem BH(hu:X.A.units+1<cLine)(hi:PE X i ty)(ho:PE X o td):PC X .In i o (Bp ty td):=by
 intro MT s σ H Q I h;refine qu (hi MT s σ H _ I h) fun iv s1 ⟨y,H1,I1,ry,q1⟩=>qu (ho MT s1 σ H1 _ I1 q1) fun u s2 zq=>?_
 obtain⟨x,H2,I2,rx,a,ov,ex,g,q2⟩:=zq;subst ex
 obtain rfl:u=Γ.ref a:=rx
 exact DO hu I2 g ry fun s3 I3=>#[.bl ov.isSome,H2,I3,rfl,q2]
theorem Ai(hu:X.A.units+1<cLine)(ho:PE X o td)(hi:PE X i ty)(hv:PE X value tv)(hs:swapsWith value (some (.Subscript o i pos')) pos.line X.env=pure false):
  PS X (.Assign [.Subscript o i pos'] value pos) (yE td ty tv):=by
 intro MT s σ H D I h;refine wpAny_Assign_Subscript (qu (hv MT s σ H _ I h) fun r s1 ⟨v,H1,I1,rv,q1⟩=>qu (ho MT s1 σ H1 _ I1 q1) fun u s2 ⟨x,H2,I2,rx,q2⟩=>qu (hi MT s2 σ H2 _ I2 q2) fun iv s3 zq=>?_) hs
 obtain⟨y,H3,I3,ry,a,H4,ex,g,q3⟩:=zq;subst ex
 obtain rfl:u=Γ.ref a:=rx
 exact sN hu I3 g ry rv fun s4 I4=>#[σ,H4,I4,q3]
end
theorem wQ{P:Ξ}{w:Ω}{H:Hp}(h:Ψ)(hb:sysModules<h.objs.size):Gn P w H (h.push {cls:= .type "dict",data:= .dict (List.toArray [])}) h.objs.size (.dK []):=
 #[JC _,EK.mpr (Ne.symm (Jk hb)),[],.nil,Ψ.DictOf.new h]
def sV:TE:=fun _ H Q=>∀p,H p=none->Q (.ref p) (F9 H p (.dK []))
section
variable{X:Cx}{pos:Pos}
theorem vV:PE X (.Dict [] [] pos) sV:=fun MT s σ H Q I h=>
 wpAny_Dict_empty #[.ref s.heap.objs.size,_,I.laid (a:=s.heap.objs.size) (o:= .dK []) (t':=s.toks) (fun _ _ q=>Jj _ q) (Jf _) (wQ s.heap I.big),rfl,h _ (I.hok.fresh (Jf _))]
end
structure M1(X:Cx)(o:Φ)(m:Str)(apos:Pos)(e:Φ)(cpos:Pos):Prop where
 base:attributeBase o m X.env (eval o X.env)=eval o X.env
 few:((backTo cpos (ι [e] X.env)).all (fun x=> !x.1)&&(backToKw cpos (keywordEach [] X.env)).all (fun x=>x.1.isSome)
  &&decide (([e]:List Φ).length+([]:List Keyword).length+(if([]:List Keyword).isEmpty then 0 else 1)<30))=true
 line:(apos.endLine==cpos.line)=true
 trees:backTo cpos (ι [e] X.env)=[(false,eval e X.env)]
def DJ(H:Hp)(a:Δ):Prop:=(∃kvs,Rd H a (.dK kvs))\/∃kvs,Rd H a (.dT kvs)
theorem Cz{X:Cx}{MT:F4}{σ:St}{H:Hp}{s:Θ}{a:Δ}(I:F8 X MT σ H s)(d:DJ H a):
  s.TypeIs (.ref a) "dict"/\(∀b,Γ.ref a= .ref b->∃ob,s.heap.get? b=some ob/\ob.dict=none)/\(a==sysModules)=false:=by
 rcases d with⟨kvs,e⟩|⟨kvs,e⟩
 ·obtain⟨_,hd,vs,_,dd⟩:=bF I.hok e
  refine#[dd.typeIs,fun b q=>?_,hd]
  cases q;obtain⟨ob,_,_,h1,h2,_⟩:=dd
  exact#[ob,h1,h2.2.1]
 ·obtain⟨_,hd,xs,_,dd⟩:=fu I.hok e
  refine#[dd.typeIs,fun b q=>?_,hd]
  cases q;obtain⟨ob,_,_,h1,h2,_⟩:=dd
  exact#[ob,h1,h2.2.1]
section
variable{X:Cx}{MT:F4}{σ:St}{H:Hp}{s:Θ}{a:Δ}{y:V}{u:Γ}{o:Option V}{A:Around}{E:F2}
theorem Bn{Q:F2}(hu:A.units+1<cLine)(I:F8 X MT σ H s)(g:HP H a y o)(ry:Ge y u)(h:∀w' s',F8 X MT σ H s'->Ge (o.getD .non) w'->Q w' s'):
  ζ (model X.prog X.w) A (call (.builtin "dict.get") [.ref a,u]) Q E s:=by
 rcases g with⟨kvs,k,e,ey,l⟩|⟨kvs,k,b,e,ey,eb,l⟩
 ·subst ey
  obtain⟨z,hd,vs,rel,dd⟩:=bF I.hok e;refine call_meetsIn FT dd.typeIs PySem.F.entry_dict_get (PySem.F.args_dict_get_2 _ _) (meets_dict_get (qS X.prog X.w) a (fG ry) hd) #[_,dd.mapOf,h _ _ (I.tok _) ?_]
  rw[l]
  exact(rel.val k).getD rfl
 ·subst ey
  cases(show u=Γ.ref b from ry)
  obtain⟨z,hd,xs,rel,dd⟩:=fu I.hok e;refine call_meetsIn FT dd.typeIs PySem.F.entry_dict_get (PySem.F.args_dict_get_2 _ _) (meetsH_dict_get (tupleKind (qS X.prog X.w)) a b hd) #[FG hu,k,xs,fc I.hok eb,dd,h _ _ (I.tok _) ?_]
  rw[l]
  exact(rel.val k).getD rfl
end
def tU(td ty:TE):TE:=fun σ H Q=>td σ H fun x H1=>∃a,x= .ref a/\DJ H1 a/\ty σ H1 fun y H2=>∃o,HP H2 a y o/\Q (o.getD .non) H2
section
variable{X:Cx}{o e:Φ}{apos cpos:Pos}{td ty:TE}
theorem wR(hu:X.A.units+1<cLine)(ho:PE X o td)(he:PE X e ty)(m:M1 X o "get" apos e cpos):PE X (.Call (.Attribute o "get" apos) [e] [] cpos) (tU td ty):=by
 intro MT s σ H Q I h;refine wpAny_Call_method m.base m.few m.line PySem.F.plainAttrs_dict FT PySem.F.type_dict_get (qu (ho MT s σ H _ I h) fun u s1 zq=>?_)
 obtain⟨x,H1,I1,rx,a,ex,d,q1⟩:=zq;subst ex
 obtain rfl:u=Γ.ref a:=rx
 obtain⟨t1,t2,_⟩:=Cz I1 d;refine#[t1,t2,?_]
 rw[m.trees];refine Calls.callWith_builtin rfl (Calls.evalArgs_plain (Calls.spliced_cons (qu (he MT s1 σ H1 _ I1 q1) fun iv s2 ⟨y,H2,I2,ry,ov,g,q2⟩=>Calls.spliced_nil ?_)))
 exact Bn hu I2 g ry fun w' s3 I3 rw'=>#[_,H2,I3,rw',q2]
end
section
variable{X:Cx}
theorem tQ:zi X (.builtin "len") (fun xs H Q=>∃a kvs,xs=[V.ref a]/\H a=some (.dK kvs)/\Q (.int kvs.length) H):=by
 intro MT s σ H xs us Q I r h;obtain⟨a,kvs,rfl,ha,q⟩:=h;obtain⟨u,rfl,ru⟩:=zU r;cases ru;exact CW I (.inl ha) fun t s' I'=>#[.int kvs.length,H,I',#[t,rfl],q]
end
end L2
namespace L3
open PySem PySem.Spec PyProof.Rows L2
open PySem.W (kdl_dict kdl_extend)
section
variable{prog:Ξ}{w:Ω}{A:Around}{E:F2}{s:Θ}
theorem mQ{d:Δ}{kvs:List (qO×Γ)}{ep:Nat}{Q:List Γ->Θ->Prop}(hh:A.handled=none)(hm:s.heap.DictAt (qS prog w) d kvs ep)(lo:(d==sysModules)=false)(hn:kvs.length<=η)
  (h:∀(vs:List Γ) (h':Ψ) (tk:Nat),s.heap.objs.size<h'.objs.size->(∀b o,s.heap.get? b=some o->h'.get? b=some o)->vs.length=kvs.length->(∀(j:Nat) (v:Γ),vs[j]? =some v->∃k x,kvs[j]? =some (k,x)/\(qS prog w).is k v=true)->Q vs {s with heap:=h',toks:=tk}):
  ζ (model prog w) A (collect (.ref d)) Q E s:=by
 unfold collect;refine Ja (wpAny_runValue (ER entry_proto_collect' ?_))
 show ζ _ _ (do again (.builtin "list.__iadd__" #[[<- newList [],.ref d],[]])) _ _ s
 refine Ja (wpAny_newList (Jd #[Code.quiet_builtin _ (by decide +kernel),ER entry_list_iadd' ?_]))
 rw[Around.under_plainId PySem.F.plain_list_iadd _];have hlt:d<s.heap.objs.size:=hm.lt_size
 refine kdl_extend (s:={s with heap:=s.heap.push (seqObj "list" (List.toArray []) 0)}) (R:=fun r s'=>match r with
   | .ok (.ret v)=>ζ (model prog w) A (match v with
    | .ref a=>(do
     let o <- load a
     match o.data with
     | .seq xs _=>pure xs.toList
     |_=>unsupported "internal:collect")
    |_=>unsupported "internal:collect") Q E s'
   | .ok _=>False
   | .error e=>E e s') (kdl_dict (knd:=qS prog w) (ep:=ep) (kvs:=kvs) lo) hh (hm.push _) s.heap.objs.size (J7 hlt) (J7 hlt) _ 0 (Js _ rfl) (fun h' tk acc' c' hk hS hI=>?_) hn
 show ζ (model prog w) A (do
   let o <- load s.heap.objs.size
   match o.data with
   | .seq xs _=>pure xs.toList
   |_=>unsupported "internal:collect") Q E {s with heap:=h',toks:=tk}
 refine Ja (wpAny_load hS ?_)
 refine Jd (h acc'.toList h' tk (Ji hS) (fun b o e=>hk b o (Jk (Ji e)) (Jj _ e)) (by rw[Jo];exact hI.1) fun j v e=>hI.2 j v (by rw[<- Array.getElem?_toList];exact e))
theorem iF:∀{us:List Γ} {ss:List Str},us.length=ss.length->(∀(j:Nat) (v:Γ),us[j]? =some v->∃x t,ss[j]? =some x/\v= .str x t)->StrsAre us ss
 | [],[],_,_=> .nil
 |u::us,x::ss,hl,h=>by
  obtain⟨y,t,e1,e2⟩:=h 0 u rfl;cases e1;subst e2;exact .cons _ _ (iF (Nat.succ.inj hl) fun j v e=>h (j+1) v e)
 | [],_::_,hl,_=>by cases hl
 |_::_,[],hl,_=>by cases hl
theorem nj{d:Δ}{kvs:List (qO×Γ)}{ep:Nat}{ss:List Str}{Q:F2}(hh:A.handled=none)(hm:s.heap.DictAt (qS prog w) d kvs ep)(lo:(d==sysModules)=false)(hks:kvs.map (·.1)=ss.map Sum.inr)(h64:ss.length<64)
  (h:∀(h':Ψ) (tk:Nat) (l:Δ) (its:List Γ) (n:Nat) (ss':List Str),s.heap.objs.size<=l->(∀b o,s.heap.get? b=some o->h'.get? b=some o)->h'.get? l=some (seqObj "list" its.toArray n)->StrsAre its ss'->ss'.Perm ss->sortedS ss'=true->Q (.ref l) {s with heap:=h',toks:=tk}):
  ζ (model prog w) A (call (.builtin "sorted") [.ref d]) Q E s:=by
 have hlen:kvs.length=ss.length:=by have:=JO List.length hks;rwa [Je,Je]at this
 refine Calls.call_function_entry kind_sorted plain_sorted entry_sorted (args_sorted1 _) ?_
 unfold δ.«sorted»
 refine Ja (m:=checkCount "sorted" 1 1 _) (Jd ?_)
 refine Ja (mQ (ep:=ep) (kvs:=kvs) hh hm lo (by rw[JF];lia) fun us h' tk hlt hk hl hv=>?_)
 have hS:StrsAre us ss:=iF (hl.trans hlen) fun j v e=>by
  obtain⟨k,x,e1,e2⟩:=hv j v e;have e3:(kvs.map (·.1))[j]? =some k:=by rw[Jn,e1];rfl
  rw[hks,Jn]at e3;cases e4:ss[j]? with
  |none=>rw[e4]at e3;cases e3
  |some y=>
   rw[e4]at e3;have e5:Sum.inr y=k:=JG e3
   subst e5;have e6:Γ.isStrOf y v=true:=e2
   cases v<;>simp [Γ.isStrOf]at e6
   subst e6
   exact#[_,_,rfl,rfl]
 refine Ja (wpAny_newList ?_)
 have hoL:(h'.push (seqObj "list" us.toArray 0)).get? h'.objs.size=some (seqObj "list" us.toArray 0):=Js _ rfl
 show ζ _ _ _ _ _ {s with heap:=h'.push (seqObj "list" us.toArray 0),toks:=tk}
 refine Ja (JD (J1 slot_list_sort #[_,hoL,rfl] entry_list_sort (list_sort_treeK (κ:=PyProof.Rows.strKind) strKind_oneLt hoL hS.keysOf (fun v₁ v₂ rest e=>keyKind_strs (by rw[<- e];exact hS)) (by rw[hl,hlen];exact h64) fun st' a1 a2=>#[_,rfl,?_]) (args_list_sort _)))
 obtain⟨ss',b1,b2,b3⟩:=sorted_out_str hS a1 a2;obtain⟨n',hn'⟩:∃n',(sortedHeap (h'.push (seqObj "list" us.toArray 0)) h'.objs.size us ((arrOf st').map (·.2))).get? h'.objs.size=some (seqObj "list" ((arrOf st').map (·.2)) n'):=sortedHeap_at hoL
 refine Jd #[_,rfl,h _ tk h'.objs.size ((arrOf st').map (·.2)).toList n' ss' (Fo hlt) (fun b o e=>?_) (by rw[hn']) b1 b2 b3]
 have e':=hk b o e;have hb:b<h'.objs.size:=Ji e'
 rw[sortedHeap_old (Jk hb) (by rw[JX];exact Eo hb)]
 exact Jj _ e'
end
theorem eZ:∀{us:List Γ} {ss:List Str},StrsAre us ss->Ga (ss.map V.str) us
 | [],[],.nil=> .nil
 |_,_::_,.cons _ _ t=> .cons #[_,rfl] (eZ t)
theorem lp{X:Cx}(hc:X.calm=true):zi X (.builtin "sorted") (fun xs H Q=>∃(d:Δ) (kvs:List (qO×V)) (ss:List Str),xs=[.ref d]/\H d=some (.dK kvs)/\kvs.map (·.1)=ss.map Sum.inr/\ss.length<64/\
  ∀l ss',H l=none->ss'.Perm ss->sortedS ss'=true->Q (.ref l) (F9 H l (.lst (ss'.map V.str)))):=by
 intro MT s σ H xs us Q I r h;obtain⟨d,kvs,ss,rfl,hH,hks,h64,q⟩:=h;obtain⟨u,rfl,ru⟩:=zU r;cases ru;obtain⟨z,lo,vs,rel,o,es,ep,d1,d2,d3,d4,d5,d6⟩:=yf I.hok hH;have hks':vs.map (·.1)=ss.map Sum.inr:=by rw[<- hks,rel.keys]
 refine nj (I.ok.hd hc) (#[o,es,d1,d2,d3,d4,d5,d6]:s.heap.DictAt (qS X.prog X.w) d vs ep) lo hks' h64 fun h' tk l its n ss' hl hk hL b1 b2 b3=>?_
 refine#[.ref l,_,I.laid (a:=l) (o:= .lst (ss'.map V.str)) (t':=tk) hk hl ?_,rfl,q l ss' (I.hok.fresh hl) b2 b3]
 have vl:=eZ b1;refine#[?_,its,n,vl,hL]
 have:=b2.length_eq
 rw[Je,JF];lia
end L3
namespace L3
open PySem PySem.Spec PyProof.Rows L2
open Sem (wp)
variable{X:Cx}
section
variable{o i value:Φ}{pos pos':Pos}{td ty tv:TE}
theorem oG{k:Nat}(hr:Gq k X.A)(ho:QE X o td)(hi:QE X i ty)(hs:vC i:=by exact fun _ _=>rfl):QE X (.Subscript o i pos) (yx td ty):=#[AU (by have:=hr.un;lia) ho.h hi.h hs]
theorem gi{k:Nat}(hr:Gq k X.A)(ho:QE X o td)(hi:QE X i ty)(hv:QE X value tv)(hs:swapsWith value (some (.Subscript o i pos')) pos.line X.env=pure false:=by rfl):
  QS X (.Assign [.Subscript o i pos'] value pos) (yE td ty tv):=#[Ai (by have:=hr.un;lia) ho.h hi.h hv.h hs]
end
end L3
namespace L3
open PySem PySem.Spec PyProof.Rows L2
section
variable{X:Cx}{o e:Φ}{apos cpos pos:Pos}{td ty:TE}
theorem wk{k:Nat}(hr:Gq k X.A)(ho:QE X o td)(ha:QE X e ty)(m:M1 X o "get" apos e cpos:=by exact#[rfl,rfl,rfl,rfl]):QE X (.Call (.Attribute o "get" apos) [e] [] cpos) (tU td ty):=#[wR (by have:=hr.un;lia) ho.h ha.h m]
theorem lw:QE X (.Dict [] [] pos) sV:=#[vV]
theorem uH{k:Nat}(hr:Gq k X.A)(hi:QE X e ty)(ho:QE X o td)(h1:behindInMarks CmpOp.In o=false:=by rfl):QT X (.Compare e [.In] [o] pos) (hJ (Bp ty td)):=#[Bv (BH (by have:=hr.un;lia) hi.h ho.h) (h1:=h1)]
end
structure Kb where
 age:Int
 last:Int
 wt:Option (Int×Int)
abbrev Kw:=List (Str×Kb)
def Wt(H:Hp)(v:V):Option (Int×Int)->Prop
 |none=>v= .non
 |some (x,c)=>∃w,v= .ref w/\H w=some (.tup [.int x,.int c])
def GH(H:Hp)(a:Δ)(e:Kb):Prop:=∃v,H a=some (.tup [.int e.age,.int e.last,v])/\Wt H v e.wt
def bz(kn:Kw)(f:Str->Δ):List (qO×V):=kn.map fun e=>(Sum.inr e.1,V.ref (f e.1))
def Hl(H:Hp)(d:Δ)(kn:Kw):Prop:=∃f:Kw×(Str->Δ),H d=some (.dK (bz f.1 f.2))/\(∀e∈kn,GH H (f.2 e.1) e.2)/\f.1.Perm kn/\(kn.map (·.1)).Nodup
def zk(kn:Kw)(nm:Str)(e:Kb):Kw:=if nm∈kn.map (·.1)then kn.map (fun p=>if p.1=nm then(nm,e)else p)else kn++[(nm,e)]
theorem Mv.tup{S:List Δ}{H H':Hp}{a:Δ}{xs:List V}(m:Mv S H H')(n:NT S H)(h:H a=some (.tup xs)):H' a=some (.tup xs):=m _ _ (fun z=>by
 obtain⟨o,e,no⟩:=n a z;rw[e]at h;cases h;exact no) h
theorem Wt.mv{S:List Δ}{H H':Hp}{v:V}{o:Option (Int×Int)}(m:Mv S H H')(n:NT S H)(h:Wt H v o):Wt H' v o:=by
 cases o with
 |none=>exact h
 |some p=>obtain⟨w,e,r⟩:=h;exact#[w,e,m.tup n r]
theorem GH.mv{S:List Δ}{H H':Hp}{a:Δ}{e:Kb}(m:Mv S H H')(n:NT S H)(h:GH H a e):GH H' a e:=by
 obtain⟨v,r,w⟩:=h
 exact#[v,m.tup n r,w.mv m n]
theorem GH.same{H H':Hp}{a:Δ}{e:Kb}(s:F5 H H')(h:GH H a e):GH H' a e:=h.mv (S:=[]) s.mv (fun c h=>nomatch h)
theorem Hl.mv{S:List Δ}{H H':Hp}{d:Δ}{kn:Kw}(m:Mv S H H')(n:NT S H)(hd:d∉S)(h:Hl H d kn):Hl H' d kn:=by
 obtain⟨f,r,w,p⟩:=h
 exact#[f,m _ _ hd r,fun e he=>(w e he).mv m n,p]
theorem Hl.same{H H':Hp}{d:Δ}{kn:Kw}(s:F5 H H')(h:Hl H d kn):Hl H' d kn:=h.mv (S:=[]) s.mv (fun c h=>nomatch h) (fun h=>nomatch h)
theorem pB(f:Str->Δ)(nm:Str):∀kn:Kw,Z0 (bz kn f) (Sum.inr nm:qO)=(kn.lookup nm).map fun _=>V.ref (f nm)
 | []=>rfl
 |(m,e)::r=>by
  show Z0 ((Sum.inr m,V.ref (f m))::bz r f) (Sum.inr nm)=_
  by_cases q:m=nm
  ·subst q
   rw[cz rfl,List.lookup_cons_self];rfl
  ·rw[cR (by intro z;injection z with z;exact q z),EB,E9 (fun z=>q z.symm)]
   exact pB f nm r
theorem zF{nm:Str}{e:Kb}:∀{kn:Kw},kn.lookup nm=some e->(nm,e)∈kn
 |(m,x)::r,h=>by
  rw[EB]at h
  by_cases q:nm=m
  ·subst q
   rw[Er]at h;cases h;exact Jv ..
  ·rw[E9 q]at h
   exact JE _ (zF h)
theorem Gb{nm:Str}:∀{kn:Kw},(kn.lookup nm).isSome=true↔nm∈kn.map (·.1)
 | []=>by simp
 |(m,x)::r=>by
  rw[EB,JU,Jr]
  by_cases q:nm=m
  ·subst q;simp
  ·rw[E9 q]
   simp only[q,false_or];exact Gb
theorem bI(kn:Kw)(nm:Str)(e:Kb):(zk kn nm e).map (·.1)=if nm∈kn.map (·.1)then kn.map (·.1)else kn.map (·.1)++[nm]:=by
 unfold zk;split
 ·rw[Es]
  refine E7 fun p hp=>?_
  simp only[Function.comp]
  by_cases y:p.1=nm
  ·rw[Jb y,y]
  ·rw[Jc y]
 ·rw[JJ];rfl
theorem wS(kn:Kw)(nm:Str)(e:Kb):(zk kn nm e).length<=kn.length+1:=by
 have:=JO List.length (bI kn nm e)
 rw[Je]at this;rw[this];split
 ·rw[Je];lia
 ·rw[Jt,Je];exact Jf _
theorem iN{kn:Kw}(nd:(kn.map (·.1)).Nodup)(nm:Str)(e:Kb):((zk kn nm e).map (·.1)).Nodup:=by
 rw[bI];split
 ·exact nd
 ·rename_i z
  exact EU.mpr #[nd,by simp,fun a ha b hb=>by rw[Jl.mp hb];exact fun w=>z (w▸ha)]
theorem QF{nm:Str}{e:Kb}:∀{kn:Kw},(kn.map (·.1)).Nodup->kn.lookup nm=some e->∀p∈kn,p.1=nm->p=(nm,e)
 | [],_,h,_,hp,_=>by cases hp
 |(m,x)::r,nd,h,p,hp,hn=>by
  have nd':m∉r.map (·.1)/\(r.map (·.1)).Nodup:=EX.mp nd
  rw[EB]at h
  by_cases q:nm=m
  ·subst q
   rw[Er]at h;cases h;rcases Jr.mp hp with rfl|hp
   ·rfl
   ·exact absurd (Jq.mpr #[p,hp,hn]) nd'.1
  ·rw[E9 q]at h
   rcases Jr.mp hp with rfl|hp
   ·exact absurd hn.symm q
   ·exact QF nd'.2 h p hp hn
theorem nr{k0 kn:Kw}(pm:k0.Perm kn)(nd:(kn.map (·.1)).Nodup)(nm:Str):k0.lookup nm=kn.lookup nm:=by
 cases e:k0.lookup nm with
 |none=>
  cases e':kn.lookup nm with
  |none=>rfl
  |some x=>
   have:(k0.lookup nm).isSome=true:=Gb.mpr ((pm.map (·.1)).mem_iff.mpr (Gb.mp (by rw[e'];rfl)))
   rw[e]at this;cases this
 |some x=>
  obtain⟨y,hy⟩:∃y,kn.lookup nm=some y:=Ft.mp (Gb.mpr (Jq.mpr #[_,pm.mem_iff.mp (zF e),rfl]))
  rw[hy]
  have:=QF nd hy _ (pm.mem_iff.mp (zF e)) rfl
  cases this;rfl
theorem Hl.get{H:Hp}{d:Δ}{kn:Kw}(h:Hl H d kn)(nm:Str):(kn.lookup nm=none/\HP H d (.str nm) none)\/∃e a,kn.lookup nm=some e/\HP H d (.str nm) (some (.ref a))/\GH H a e:=by
 obtain⟨⟨k0,f⟩,hd,hb,pm,nd⟩:=h;have g:=HP.k (k:=Sum.inr nm) hd
 rw[pB,nr pm nd]at g;cases q:kn.lookup nm with
 |none=>rw[q]at g;exact .inl #[rfl,g]
 |some e=>rw[q]at g;exact .inr #[e,f nm,rfl,g,hb _ (zF q)]
theorem jO{k0 kn:Kw}(pm:k0.Perm kn)(nm:Str)(e:Kb):(zk k0 nm e).Perm (zk kn nm e):=by
 unfold zk
 by_cases z:nm∈kn.map (·.1)
 ·rw[Jb ((pm.map (·.1)).mem_iff.mpr z),Jb z];exact pm.map _
 ·rw[Jc (fun w=>z ((pm.map (·.1)).mem_iff.mp w)),Jc z];exact pm.append_right _
theorem Hl.put{H:Hp}{d a:Δ}{kn:Kw}{e:Kb}(h:Hl H d kn)(nm:Str)(hl:kn.length<=100)(hb:GH H a e):∃H',IU H d (.str nm) (.ref a) H'/\Mv [d] H H'/\Hl H' d (zk kn nm e):=by
 obtain⟨⟨k0,f⟩,hd,hk0,pm,nd⟩:=h;have hlen:(bz k0 f).length=kn.length:=(Je _).trans pm.length_eq
 have hk:∀e∈k0,GH H (f e.1) e.2:=fun e he=>hk0 e (pm.mem_iff.mp he)
 refine#[_,IU.k (k:=Sum.inr nm) hd (by rw[hlen];exact Dt _),Mv.upd1,(zk k0 nm e,fun n=>if n=nm then a else f n),?_,?_,jO pm nm e,iN nd nm e]
 ·rw[qa]
  congr 2
  unfold G8 zk bz;have ea:((k0.map fun e=>((Sum.inr e.1:qO),V.ref (f e.1))).any fun kv=>decide (kv.1=(Sum.inr nm:qO)))=true↔nm∈k0.map (·.1):=by
   rw[List.any_eq_true];constructor
   ·rintro⟨p,hp,z⟩
    obtain⟨q,hq,rfl⟩:=Jq.mp hp;have z':(Sum.inr q.1:qO)=Sum.inr nm:=Jx z
    injection z' with z'
    exact Jq.mpr #[q,hq,z']
   ·intro z
    obtain⟨q,hq,e⟩:=Jq.mp z
    exact#[_,Jq.mpr #[q,hq,rfl],Jh (by rw[e])]
  by_cases z:nm∈k0.map (·.1)
  ·rw[Jb (ea.mpr z),Jb z,Es,Es]
   refine E7 fun p hp=>?_
   simp only[Function.comp]
   by_cases y:p.1=nm
   ·rw[Jb (by rw[y]),Jb y]
    simp [y]
   ·rw[Jc (by intro w;injection w with w;exact y w),Jc y]
    simp [y]
  ·rw[Jc (fun w=>z (ea.mp w)),Jc z,JJ]
   congr 1
   ·refine E7 fun p hp=>?_
    have y:¬p.1=nm:=fun w=>z (Jq.mpr #[p,hp,w])
    simp [y]
   ·simp
 ·have nt:NT [d] H:=NT.one hd trivial
  intro p hp;have hp:=(jO pm nm e).mem_iff.mpr hp;have hb':=hb.mv (Mv.upd1 (o:= .dK (G8 (bz k0 f) (Sum.inr nm) (.ref a)))) nt
  unfold zk at hp;split at hp
  ·obtain⟨q,hq,rfl⟩:=Jq.mp hp
   by_cases y:q.1=nm
   ·rw[Jb y];simp only[Ek];exact hb'
   ·rw[Jc y]
    show GH _ (if q.1=nm then a else f q.1) q.2
    rw[Jc y]
    exact(hk q hq).mv Mv.upd1 nt
  ·rename_i z
   rcases JB.mp hp with hq|hq
   ·have y:¬p.1=nm:=fun w=>z (Jq.mpr #[p,hq,w])
    show GH _ (if p.1=nm then a else f p.1) p.2
    rw[Jc y]
    exact(hk p hq).mv Mv.upd1 nt
   ·rw[Jl.mp hq];simp only[Ek];exact hb'
def GA(K:μ)(H:Hp)(hk:Δ)(kss:List (List Int)):Prop:=∃as:List Δ,H hk=some (.lst (as.map V.ref))/\as.length=kss.length/\∀(i:Nat) (a:Δ) (ks:List Int),as[i]? =some a->kss[i]? =some ks->Gh K H a (ks.map V.int)
theorem GA.mv{K:μ}{S:List Δ}{H H':Hp}{hk:Δ}{kss:List (List Int)}(m:Mv S H H')(n:NT S H)(hd:hk∉S)(h:GA K H hk kss):GA K H' hk kss:=by
 obtain⟨as,e,l,r⟩:=h
 exact#[as,m _ _ hd e,l,fun i a ks e1 e2=>m.sqt n (r i a ks e1 e2)]
structure Dr where
 t:List Int
 kss:List (List Int)
 near:Int
 far:Int
 most:Int
 least:Int
 kn:Kw
def dF(D:Dr)(ta hk bd lg:Δ):List (Str×V):=
 [("table",.ref ta),("house_keys",.ref hk),("near",.int D.near),("far",.int D.far),("most",.int D.most),("least_age",.int D.least),("buttons",.ref bd),("log",.ref lg)]
def dN:List Str:=["table","house_keys","near","far","most","least_age","buttons","log"]
theorem CY:dN.Nodup:=by decide +kernel
theorem kI(D:Dr)(ta hk bd lg:Δ):((dF D ta hk bd lg).map (·.1)).Nodup:=CY
structure Hf(K:μ)(C:Δ):Prop where
 cl:IP K C
 n_table:GB K C "table"
 n_house_keys:GB K C "house_keys"
 n_near:GB K C "near"
 n_far:GB K C "far"
 n_most:GB K C "most"
 n_least_age:GB K C "least_age"
 n_buttons:GB K C "buttons"
 n_log:GB K C "log"
structure F7(K:μ)(C:Δ)(H:Hp)(p ta hk bd lg:Δ)(n:Nat)(D:Dr):Prop where
 ob:∃dx,H p=some (.ins C dx (dF D ta hk bd lg))
 tb:Gh K H ta (D.t.map V.int)
 ks:GA K H hk D.kss
 kb:Hl H bd D.kn
 lo:∃rs:List Δ,H lg=some (.lst (rs.map V.ref))/\rs.length<=n
 ne:lg≠hk
section
variable{K:μ}{C:Δ}{H H':Hp}{p ta hk bd lg dx:Δ}{n:Nat}{D:Dr}
theorem F7.has(b:F7 K C H p ta hk bd lg n D)(U:Hf K C)(i:Nat){f:Str}{v:V}(h:(dF D ta hk bd lg)[i]? =some (f,v))(na:GB K C f):bV K H p f v:=by
 obtain⟨dx,e⟩:=b.ob
 exact#[C,dx,_,e,U.cl,na,jG i h (kI ..)]
theorem F7.h_table(b:F7 K C H p ta hk bd lg n D)(U:Hf K C):bV K H p "table" (.ref ta):=b.has U 0 rfl U.n_table
theorem F7.h_house_keys(b:F7 K C H p ta hk bd lg n D)(U:Hf K C):bV K H p "house_keys" (.ref hk):=b.has U 1 rfl U.n_house_keys
theorem F7.h_near(b:F7 K C H p ta hk bd lg n D)(U:Hf K C):bV K H p "near" (.int D.near):=b.has U 2 rfl U.n_near
theorem F7.h_far(b:F7 K C H p ta hk bd lg n D)(U:Hf K C):bV K H p "far" (.int D.far):=b.has U 3 rfl U.n_far
theorem F7.h_most(b:F7 K C H p ta hk bd lg n D)(U:Hf K C):bV K H p "most" (.int D.most):=b.has U 4 rfl U.n_most
theorem F7.h_least_age(b:F7 K C H p ta hk bd lg n D)(U:Hf K C):bV K H p "least_age" (.int D.least):=b.has U 5 rfl U.n_least_age
theorem F7.h_buttons(b:F7 K C H p ta hk bd lg n D)(U:Hf K C):bV K H p "buttons" (.ref bd):=b.has U 6 rfl U.n_buttons
theorem F7.h_log(b:F7 K C H p ta hk bd lg n D)(U:Hf K C):bV K H p "log" (.ref lg):=b.has U 7 rfl U.n_log
theorem F7.no(b:F7 K C H p ta hk bd lg n D){m:Str}(h:m∉dN:=by decide +kernel):DG C H p m:=by
 obtain⟨dx,e⟩:=b.ob
 exact#[dx,_,e,jM h]
theorem F7.mv{S:List Δ}(b:F7 K C H p ta hk bd lg n D)(m:Mv S H H')(nt:NT S H)(hp:p∉S)(hh:hk∉S)(hb:bd∉S)(hl:lg∉S):F7 K C H' p ta hk bd lg n D:=by
 obtain⟨dx,e⟩:=b.ob;obtain⟨rs,el,l⟩:=b.lo
 exact#[#[dx,m _ _ hp e],m.sqt nt b.tb,b.ks.mv m nt hh,b.kb.mv m nt hb,#[rs,m _ _ hl el,l],b.ne]
theorem F7.same(b:F7 K C H p ta hk bd lg n D)(s:F5 H H'):F7 K C H' p ta hk bd lg n D:=b.mv (S:=[]) s.mv (fun c h=>nomatch h) (fun h=>nomatch h) (fun h=>nomatch h) (fun h=>nomatch h) (fun h=>nomatch h)
end
inductive ME (x:V) (y:V) (H:Hp) (Q:VK):Prop
 |mk (o:Option (Int×Int)) (b:Δ) (a c:Int) (h1:Wt H x o) (h2:y= .ref b) (h3:Rd H b (.tup [.int a,.int c])) (h4:Q (.bl (decide (o=some (a,c)))) H)
def D3:R2:=fun x y H Q=>ME x y H Q
theorem Bi{X:Cx}{k:Nat}(hr:Gq k X.A):zt X (compareOp .Eq) D3:=by
 intro MT s σ H x y v u Q I rx ry h;obtain⟨o,b,a,c,hw,rfl,hb,q⟩:=h;cases ry;obtain⟨its2,r2,p2,_⟩:=I.tuple (.inl hb)
 have hu:X.A.units<cLine:=by have:=hr.un;lia
 cases o with
 |none=>
  have hw':x= .non:=hw
  subst hw';cases rx;rw[Jm (by intro z;cases z)]at q
  exact SeqAt.RcAt.none_tuple p2 hu _ _ _ _ #[.bl false,H,I,rfl,q]
 |some pr=>
  obtain⟨x1,x2⟩:=pr;obtain⟨w,rfl,hw'⟩:=hw;cases rx;obtain⟨its,r1,p1,_⟩:=I.tuple (.inl (.inl hw'))
  have l1:=r1.length;have l2:=r2.length;have e1:=SeqAt.RcAt.tuples (A:=X.A) (e:=fun j=>[x1,x2].getD j 0==[a,c].getD j 0) (show s.heap.IsTuple w its.toArray from p1) (show s.heap.IsTuple b its2.toArray from p2) hu (fun j h1 h2=>by
   have h1':j<its.length:=by simpa using h1
   have h2':j<its2.length:=by simpa using h2
   obtain⟨t,e⟩:=fL (ns:=[x1,x2]) r1 j h1' (by rw[<- l1]at h1';exact h1')
   obtain⟨t',e'⟩:=fL (ns:=[a,c]) r2 j h2' (by rw[<- l2]at h2';exact h2')
   simp only[List.getElem_toArray,e,e',JA,Jg (show j<[x1,x2].length by rw[<- l1]at h1';exact h1'),Jg (show j<[a,c].length by rw[<- l2]at h2';exact h2'),EN]
   exact SeqAt.EqAt.int_int _ _ _ _)
  have z1:its.toArray.size=2:=by rw[Jp,<- l1];rfl
  have z2:its2.toArray.size=2:=by rw[Jp,<- l2];rfl
  refine e1 _ _ _ _ #[.bl _,H,I,?_,q]
  show Γ.bool _=Γ.bool _
  congr 1
  rw[z1,z2,show min 2 2=([x1,x2]:List Int).length from rfl,vf [x1,x2] [a,c] rfl]
  simp
def rh(c l n f:Int):Str:=if c<=l then "old" else if c<=l+n then "near" else if c<=l+f then "far" else "beyond"
inductive Lq (vs:List V) (H:Hp) (Q:VK):Prop
 |mk (c l n f:Int) (h1:vs=[.int c,.int l,.int n,.int f]) (h2:Q (.str (rh c l n f)) H)
def nX:Sp:=fun vs H Q _=>Lq vs H Q
def zx(near far:Int)(e:Kb)(age c:Int):Str×Kb:=
 if c<=e.last then("old",e)else if c<=e.last+near then("near",#[age,c,none])
 else if c<=e.last+far then(if e.wt=some (age,c-1)then("near",#[age,c,none])else("far",#[e.age,e.last,some (age,c)]))else("beyond",e)
inductive Lr (vs:List V) (H:Hp) (Q:VK):Prop
 |mk (a:Δ) (e:Kb) (age c near far:Int) (h1:vs=[.ref a,.int age,.int c,.int near,.int far]) (h2:GH H a e) (h3:∀q a' H',F5 H H'->H' q=some (.tup [.str (zx near far e age c).1,.ref a'])->GH H' a' (zx near far e age c).2->Q (.ref q) H')
def ja:Sp:=fun vs H Q _=>Lr vs H Q
def Ze(D:Dr)(age:Int):Bool:=decide (D.least<=age)&&decide (age<D.kss.length)
def qG(D:Dr)(e:Kb)(age:Int):Bool:=Ze D age&&decide (e.age<=age)
def zb(D:Dr)(nm:Str)(age:Int)(r:Option (Int×Int)):List V×Kw:=
 match D.kn.lookup nm with
 |none=>([.str "held",.str "unknown"],D.kn)
 |some e=>if qG D e age=true then(match r with
   |none=>([.str "held",.str "false"],D.kn)
   |some (c,d)=>if(zx D.near D.far e age c).1="near" then([.str "open",.str nm,.int d],zk D.kn nm (zx D.near D.far e age c).2)else([.str "held",.str (zx D.near D.far e age c).1],zk D.kn nm (zx D.near D.far e age c).2))
  else([.str "held",.str "age"],D.kn)
structure Hg(D:Dr):Prop where
 tp:D.t.Perm GG
 l0:0<=D.least
 kl:D.kss.length<=8
 nl:D.kn.length<=60
 nd:(D.kn.map (·.1)).Nodup
section
variable(K:μ)(C:Δ)
inductive Ls (vs:List V) (H:Hp) (Q:VK):Prop
 |mk (p ta hk bd lg:Δ) (n:Nat) (D:Dr) (h1:vs=[.ref p]) (h2:F7 K C H p ta hk bd lg n D) (h3:Q (.bl (decide (D.most<=(D.kn.length:Int)))) H)
def pE:Sp:=fun vs H Q _=>Ls K C vs H Q
inductive IV (vs:List V) (H:Hp) (Q:VK):Prop
 |mk (p ta hk bd lg:Δ) (n:Nat) (D:Dr) (age:Int) (h1:vs=[.ref p,.int age]) (h2:F7 K C H p ta hk bd lg n D) (h3:Q (.bl (Ze D age)) H)
def gI:Sp:=fun vs H Q _=>IV K C vs H Q
inductive Lu (vs:List V) (H:Hp) (Q:VK):Prop
 |mk (p ta hk bd lg a:Δ) (n:Nat) (D:Dr) (e:Kb) (age:Int) (h1:vs=[.ref p,.ref a,.int age]) (h2:F7 K C H p ta hk bd lg n D) (h3:GH H a e) (h4:Q (.bl (qG D e age)) H)
def bZ:Sp:=fun vs H Q _=>Lu K C vs H Q
inductive L9 (vs:List V) (H:Hp) (Q:VK):Prop
 |mk (p ta hk bd lg:Δ) (n:Nat) (D:Dr) (nm:Str) (h1:vs=[.ref p,.str nm]) (h2:F7 K C H p ta hk bd lg n D) (h3:(D.kn.lookup nm=none->Q .non H)) (h4:(∀e a,D.kn.lookup nm=some e->GH H a e->Q (.ref a) H))
def ig:Sp:=fun vs H Q _=>L9 K C vs H Q
inductive Lv (vs:List V) (H:Hp) (Q:VK):Prop
 |mk (p ta hk bd lg a:Δ) (n:Nat) (D:Dr) (e:Kb) (age c:Int) (h1:vs=[.ref p,.ref a,.int age,.int c]) (h2:F7 K C H p ta hk bd lg n D) (h3:GH H a e) (h4:qG D e age=true) (h5:∀q a' H',F5 H H'->H' q=some (.tup [.str (zx D.near D.far e age c).1,.ref a'])->GH H' a' (zx D.near D.far e age c).2->Q (.ref q) H')
def oS:Sp:=fun vs H Q _=>Lv K C vs H Q
def Gz(H:Hp)(pr:Δ)(nm:Str)(age:Int)(ds:List Int):Prop:=∃pc,H pr=some (.tup [.str nm,.int age,.ref pc])/\H pc=some (.tup (ds.map V.int))
def QJ(D:Dr)(age:Int):List Int:=D.kss.getD age.toNat []
inductive Iu (vs:List V) (H:Hp) (Q:VK):Prop
 |mk (p ta hk bd lg pr:Δ) (n:Nat) (D:Dr) (nm:Str) (age:Int) (ds:List Int) (h1:vs=[.ref p,.ref pr]) (h2:F7 K C H p ta hk bd lg n D) (h3:Hg D) (h4:Gz H pr nm age ds) (h5:Zo nm) (h6:ds.length=5) (h7:zB ds) (h8:∀q H',Mv [bd] H H'->H' q=some (.tup (zb D nm age (ZB D.t (QJ D age) nm ds)).1)->F7 K C H' p ta hk bd lg n {D with kn:=(zb D nm age (ZB D.t (QJ D age) nm ds)).2}->Q (.ref q) H')
def jh:Sp:=fun vs H Q _=>Iu K C vs H Q
end
theorem Gz.mv{S:List Δ}{H H':Hp}{pr:Δ}{nm:Str}{age:Int}{ds:List Int}(m:Mv S H H')(n:NT S H)(h:Gz H pr nm age ds):Gz H' pr nm age ds:=by
 obtain⟨pc,e1,e2⟩:=h
 exact#[pc,m.tup n e1,m.tup n e2]
theorem Gz.same{H H':Hp}{pr:Δ}{nm:Str}{age:Int}{ds:List Int}(s:F5 H H')(h:Gz H pr nm age ds):Gz H' pr nm age ds:=by
 obtain⟨pc,e1,e2⟩:=h
 exact#[pc,s _ _ e1,s _ _ e2]
theorem jf{X:Cx}:zt X (compareOp .LtE) (fun x y H Q=>∃i j,x= .str i/\y= .str j/\Q (.bl (!decide (j.cps.toList<i.cps.toList))) H):=by
 intro MT s σ H x y v u Q I rx ry h;obtain⟨i,j,rfl,rfl,q⟩:=h;obtain⟨t,rfl⟩:=rx;obtain⟨t',rfl⟩:=ry;exact PySem.P.le_str (qQ I q rfl)
theorem wJ{js:List Nat}{te:TE}{σ:L2.St}{H:Hp}{Q:VK}{x:Str}(hn:x.cps.size<=η)(Pv:Nat->List V->Hp->Prop)(h0:Pv 0 [] H)
  (hs:∀i ys H c,x.cps[i]? =some c->ys.length=i->Pv i ys H->te (some (.str #[(List.toArray [c])])::aA js σ) H fun v H3=>Pv (i+1) (ys++[v]) H3)
  (hd:∀ys H,ys.length=x.cps.size->Pv x.cps.size ys H->∀p,H p=none->Q (.ref p) (F9 H p (.lst ys))):bB (yo x) js te σ H Q:=
 cN hn (fun i v=>∃c,x.cps[i]? =some c/\v= .str #[(List.toArray [c])]) Pv h0 (fun i ys H hi p=>hi) (fun ys H p=>Jf _) (fun i ys H v H' _ p y=>y) (fun i ys H v hi hl p hx=>by
  obtain⟨c,hc,rfl⟩:=hx;exact hs i ys H c hc hl p) hd
theorem wl{ds:List Int}(h:zB ds):(ds.map V.int).all cL=true:=by
 rw[EG];intro x hx;obtain⟨i,hi,rfl⟩:=Jq.mp hx
 have:=h i hi
 show(decide (0<=i)&&decide (i<16))=true
 rw[Jh this.1,Jh this.2];rfl
theorem ZE{c:Bool}{a b:Prop}(h:c=true)(x:a):if c=true then a else b:=by rw[Jb h];exact x
theorem ZH{c:Bool}{a b:Prop}(h:c=false)(x:b):if c=true then a else b:=by rw[Jc (by rw[h];intro z;cases z)];exact x
theorem zu{K:μ}{C p dx:Δ}{H:Hp}{fs:List (Str×V)}{f:Str}{v:V}(c:IP K C)(e:H p=some (.ins C dx fs))(n:GB K C f)(i:Nat)(hns:fs.map (·.1)=dN.take i:=by rfl)(hn:f∉dN.take i:=by decide +kernel):
  iT K H p f v (F9 H p (.ins C dx (fs++[(f,v)]))):=#[C,dx,fs,e,c,n,by
  have h1:fs.length=(dN.take i).length:=by rw[<- hns,Je]
  have h2:(dN.take i).length<=8:=by rw[J8];exact Nat.min_le_right _ _
  lia,by rw[l6 (by rw[hns];exact hn)]]
theorem GA.upd{K:μ}{C p dx b:Δ}{H:Hp}{fs:List (Str×V)}{kss:List (List Int)}{o:HO}(e:H p=some (.ins C dx fs))(h:GA K H b kss):GA K (F9 H p o) b kss:=by
 obtain⟨as,e1,l,r⟩:=id h;exact h.mv Mv.upd1 (NT.one e trivial) (qM (Qu e1 e (by intro z;cases z)))
theorem GA.same{K:μ}{H H':Hp}{b:Δ}{kss:List (List Int)}(s:F5 H H')(h:GA K H b kss):GA K H' b kss:=h.mv (S:=[]) s.mv (fun c h=>nomatch h) (fun h=>nomatch h)
theorem Mv.nfree{S:List Δ}{H H':Hp}{x:Δ}(m:Mv S H H')(hn:x∉S)(h:H' x=none):H x=none:=by
 cases e:H x with
 |none=>rfl
 |some o=>rw[m x o hn e]at h;cases h
theorem GA.at{K:μ}{H:Hp}{hk:Δ}{D:Dr}{age:Int}(h:GA K H hk D.kss)(h0:0<=age)(h1:age<D.kss.length):∃(xs:List V) (ak:Δ),H hk=some (.lst xs)/\QL xs age=some (.ref ak)/\Gh K H ak ((QJ D age).map V.int):=by
 obtain⟨as,e,l,r⟩:=h;obtain⟨i,rfl⟩:∃i:Nat,age=(i:Int):=#[age.toNat,by lia]
 have hi:i<D.kss.length:=by lia
 have hi':i<as.length:=by lia
 refine#[_,as[i],e,QD (by rw[Jn,Jg hi'];rfl),?_]
 have:=r i as[i] D.kss[i] (Jg hi') (Jg hi)
 unfold QJ;rw[EC,JA,Jg hi];exact this
theorem Z9{D:Dr}{e:Kb}{age:Int}(h:qG D e age=true)(h0:0<=D.least):0<=age/\age<D.kss.length:=by
 unfold qG Ze at h;rw[Ju,Ju]at h;have h1:=Jx h.1.1;have h2:=Jx h.1.2;lia
theorem F7.putK{K:μ}{C:Δ}{H H':Hp}{p ta hk bd lg:Δ}{n:Nat}{D:Dr}{kn':Kw}(b:F7 K C H p ta hk bd lg n D)(m:Mv [bd] H H')(kb:Hl H' bd kn'):F7 K C H' p ta hk bd lg n {D with kn:=kn'}:=by
 obtain⟨dx,e⟩:=b.ob;obtain⟨f,hd,_⟩:=b.kb;obtain⟨rs,el,l⟩:=b.lo;obtain⟨as,eh,_⟩:=id b.ks;have nt:NT [bd] H:=NT.one hd trivial
 exact#[#[dx,m _ _ (qM (Qu e hd (by intro z;cases z))) e],m.sqt nt b.tb,b.ks.mv m nt (qM (Qu eh hd (by intro z;cases z))),kb,#[rs,m _ _ (qM (Qu el hd (by intro z;cases z))) el,l],b.ne]
theorem F7.putL{K:μ}{C:Δ}{H:Hp}{p ta hk bd lg r:Δ}{n:Nat}{D:Dr}{rs:List Δ}(b:F7 K C H p ta hk bd lg n D)(el:H lg=some (.lst (rs.map V.ref)))(hl:rs.length<=n):F7 K C (F9 H lg (.lst (rs.map V.ref++[.ref r]))) p ta hk bd lg (n+1) D:=by
 obtain⟨dx,e⟩:=b.ob;obtain⟨f,hd,_⟩:=id b.kb;have nt:NT [lg] H:=NT.one el trivial
 have m:Mv [lg] H (F9 H lg (.lst (rs.map V.ref++[.ref r]))):=Mv.upd1
 exact#[#[dx,m _ _ (qM (Qu e el (by intro z;cases z))) e],m.sqt nt b.tb,b.ks.mv m nt (qM b.ne.symm),b.kb.mv m nt (qM (Qu hd el (by intro z;cases z))),#[rs++[r],by rw[qa,JJ];rfl,by rw[Jt];exact E4 hl],b.ne]
theorem IL.pair{H:Hp}{a b:Δ}{z:Str}{i:Int}(h1:H a=some (.tup [.str z,.int i]))(h2:H b=some (.tup [.str z,.int i])):IL H 1 (.ref a) (.ref b):=
 .tup (n:=0) (.inl h1) (.inl h2) rfl fun j x y ex ey=>by
  match j,ex,ey with
  |0,ex,ey=>cases ex;cases ey;exact .str _ _
  |1,ex,ey=>cases ex;cases ey;exact .int _ _
  |j+2,ex,ey=>cases ex
abbrev yt(a b:Str):Prop:=a.cps.toList<=b.cps.toList
theorem BA{a b:Str}(h:ltCps b.cps.toList a.cps.toList=false):yt a b:=by
 rw[ltCps_eq]at h;exact List.not_lt.mp (of_decide_eq_false h)
theorem jx:∀{l:List Str} {p:Str},risingS p l=true->(p::l).Pairwise yt
 | [],p,_=>by simp
 |x::r,p,h=>by
  have h':(!ltCps x.cps.toList p.cps.toList&&risingS x r)=true:=h
  rw[Ju,Bool.not_eq_true']at h';have ih:=jx h'.2;have hpx:=BA h'.1;refine List.pairwise_cons.mpr #[fun y hy=>?_,ih]
  rcases Jr.mp hy with rfl|hy
  ·exact hpx
  ·exact List.le_trans hpx ((List.pairwise_cons.mp ih).1 y hy)
theorem iu{l:List Str}(h:sortedS l=true):l.Pairwise yt:=by
 cases l with
 |nil=>exact .nil
 |cons x r=>exact jx h
theorem bM{l a b:List Str}(pa:a.Perm l)(sa:sortedS a=true)(pb:b.Perm l)(sb:sortedS b=true):a=b:=by
 refine List.Perm.eq_of_pairwise (le:=yt) (fun x y _ _ h1 h2=>?_) (iu sa) (iu sb) (pa.trans pb.symm)
 have e:x.cps.toList=y.cps.toList:=List.le_antisymm h1 h2
 cases x with
 |mk u=>cases y with
  |mk v=>
   have:u=v:=Array.toList_inj.mp e
   rw[this]
def Ht(H:Hp)(q:Δ)(ss:List Str)(kn:Kw):Prop:=∃as:List Δ,H q=some (.tup (as.map V.ref))/\as.length=ss.length/\∀(i:Nat) (a:Δ) (nm:Str) (e:Kb),as[i]? =some a->ss[i]? =some nm->kn.lookup nm=some e->∃v,H a=some (.tup [.str nm,.int e.age,.int e.last,v])/\Wt H v e.wt
inductive IW (K:μ) (C:Δ) (vs:List V) (H:Hp) (Q:VK):Prop
 |mk (p ta hk bd lg:Δ) (n:Nat) (D:Dr) (h1:vs=[.ref p]) (h2:F7 K C H p ta hk bd lg n D) (h3:Hg D) (h4:∀q ss H',F5 H H'->ss.Perm (D.kn.map (·.1))->sortedS ss=true->Ht H' q ss D.kn->Q (.ref q) H')
def gJ(K:μ)(C:Δ):Sp:=fun vs H Q _=>IW K C vs H Q
theorem AJ{X:Cx}{K:μ}{e:Φ}{f:Str}{pos:Pos}{ta:TE}(hK:X.K=K)(he:QE X e ta)(hb:attributeBase e f X.env (eval e X.env)=eval e X.env:=by rfl):QE X (.Attribute e f pos) (yb K ta f):=by
 subst hK;exact qP he hb
theorem y9(kn:Kw)(f:Str->Δ):(bz kn f).map (·.1)=(kn.map (·.1)).map Sum.inr:=by
 unfold bz;rw[Es,Es];rfl
theorem Zg{kn:Kw}{nm:Str}(h:nm∈kn.map (·.1)):∃e,kn.lookup nm=some e:=Ft.mp (Gb.mpr h)
theorem gk{kn:Kw}{nm:Str}{x:Kb}{e:Str×Kb}(h:e∈zk kn nm x):e∈kn\/e=(nm,x):=by
 unfold zk at h;split at h
 ·obtain⟨p,hp,rfl⟩:=Jq.mp h
  by_cases y:p.1=nm
  ·rw[Jb y];exact .inr rfl
  ·rw[Jc y];exact .inl hp
 ·rcases JB.mp h with h|h
  ·exact .inl h
  ·exact .inr (Jl.mp h)
theorem mC{kn:Kw}{nm:Str}{e:Kb}:∀{l:Kw},(∀p∈l,p.1=nm->p=(nm,e))->l.map (fun p=>if p.1=nm then(nm,e)else p)=l
 | [],_=>rfl
 |p::r,h=>by
  rw[JU,mC (kn:=kn) fun q hq=>h q (JE _ hq)]
  by_cases y:p.1=nm
  ·rw[Jb y,h p (Jv ..) y]
  ·rw[Jc y]
theorem jo{kn:Kw}{nm:Str}{e:Kb}(nd:(kn.map (·.1)).Nodup)(h:kn.lookup nm=some e):zk kn nm e=kn:=by
 unfold zk;rw[Jb (Gb.mp (by rw[h];rfl))]
 exact mC (kn:=kn) (QF nd h)
theorem pQ{kn:Kw}{nm:Str}{e x:Kb}(h:kn.lookup nm=some e):(zk kn nm x).map (·.1)=kn.map (·.1):=by
 rw[bI,Jb (Gb.mp (by rw[h];rfl))]
end L3
namespace L2
open PySem PySem.Spec PyProof.Rows
section
variable{X:Cx}{MT:F4}{σ:St}{H:Hp}{s:Θ}{a:Δ}{kvs:List (qO×V)}{A:Around}{E:F2}
theorem wK{Q:F2}(I:F8 X MT σ H s)(e:Rd H a (.dK kvs))(h:∀p s',H p=none->F8 X MT σ (F9 H p (.dK kvs)) s'->Q (.ref p) s'):ζ (model X.prog X.w) A (call (.type "dict") [.ref a]) Q E s:=by
 obtain⟨z,hd,vs,rel,dd⟩:=bF I.hok e;refine kt_call_dict hd dd (by rw[<- rel.length];exact z) fun h' dd' hs=>?_
 refine h _ _ (I.hok.fresh (Jf _)) (I.laid (a:=s.heap.objs.size) (o:= .dK kvs) (t':=s.toks) (fun b q hq=>?_) (Jf _) (sX z (EK.mpr (Ne.symm (Jk I.big))) rel dd'))
 exact(hs.2 b (Jk (Ji hq))).trans (Jj _ hq)
end
end L2
namespace L3
open PySem PySem.Spec PyProof.Rows L2
theorem rg{X:Cx}:zi X (.type "dict") (fun xs H Q=>∃(d:Δ) (kvs:List (qO×V)),xs=[.ref d]/\H d=some (.dK kvs)/\∀p,H p=none->Q (.ref p) (F9 H p (.dK kvs))):=by
 intro MT s σ H xs us Q I r h;obtain⟨d,kvs,rfl,hd,q⟩:=h;obtain⟨u,rfl,ru⟩:=zU r;cases ru;exact wK I (.inl hd) fun p s' hp I'=>#[.ref p,_,I',rfl,q p hp]
theorem F7.setF{K:μ}{C:Δ}{H:Hp}{p dx:Δ}{fs:List (Str×V)}{f:Str}{u v:V}(i:Nat)(c:IP K C)(na:GB K C f)(e:H p=some (.ins C dx fs))(hf:fs[i]? =some (f,u))(nd:(fs.map (·.1)).Nodup)(hl:fs.length<1000):
  iT K H p f v (F9 H p (.ins C dx (fs.set i (f,v)))):=#[C,dx,fs,e,c,na,hl,by rw[nW i hf nd]]
theorem _root_.L2.F5.put{H H1:Hp}{x:Δ}{o:HO}(s:F5 H H1)(h:H x=none):F5 H (F9 H1 x o):=fun c u e=>by
 rw[qj (qk e h)];exact s c u e
section
variable{K:μ}{C:Δ}{H:Hp}{p ta hk bd lg dx:Δ}{D:Dr}
theorem uT(U:Hf K C)(e:H p=some (.ins C dx (dF D ta hk bd lg)))(z:Int):iT K H p "least_age" (.int z) (F9 H p (.ins C dx (dF {D with least:=z} ta hk bd lg))):=F7.setF 5 U.cl U.n_least_age e rfl (kI ..) (by show 8<1000;decide)
theorem nV(U:Hf K C)(e:H p=some (.ins C dx (dF D ta hk bd lg)))(x:Δ):iT K H p "buttons" (.ref x) (F9 H p (.ins C dx (dF D ta hk x lg))):=F7.setF 6 U.cl U.n_buttons e rfl (kI ..) (by show 8<1000;decide)
theorem AN(U:Hf K C)(e:H p=some (.ins C dx (dF D ta hk bd lg)))(x:Δ):iT K H p "log" (.ref x) (F9 H p (.ins C dx (dF D ta hk bd x))):=F7.setF 7 U.cl U.n_log e rfl (kI ..) (by show 8<1000;decide)
end
theorem gs{kn:Kw}{nm:Str}{x:Kb}(nd:(kn.map (·.1)).Nodup):(zk kn nm x).lookup nm=some x:=by
 have hm:(nm,x)∈zk kn nm x:=by
  unfold zk;split
  ·rename_i h
   obtain⟨p,hp,e⟩:=Jq.mp h;exact Jq.mpr #[p,hp,Jb e]
  ·exact JH _ (Jl.mpr rfl)
 obtain⟨y,hy⟩:=Zg (Jq.mpr #[_,hm,rfl])
 have:=QF (iN nd nm x) hy _ hm rfl
 cases this;exact hy
theorem nF{kn:Kw}{nm z:Str}{x:Kb}(nd:(kn.map (·.1)).Nodup)(h:z≠nm):(zk kn nm x).lookup z=kn.lookup z:=by
 have back:∀{e:Kb},(z,e)∈zk kn nm x->(z,e)∈kn:=fun{e} hm=>(gk hm).resolve_right (fun q=>h (JO Prod.fst q))
 have forth:∀{e:Kb},(z,e)∈kn->(z,e)∈zk kn nm x:=fun{e} hm=>by
  unfold zk;split
  ·exact Jq.mpr #[_,hm,Jc h]
  ·exact Eg _ hm
 cases e1:kn.lookup z with
 |some e=>
  obtain⟨e',he'⟩:=Zg (Jq.mpr #[_,forth (zF e1),rfl])
  have:=QF nd e1 _ (back (zF he')) rfl
  cases this;exact he'
 |none=>
  cases e2:(zk kn nm x).lookup z with
  |none=>rfl
  |some e=>
   have:(kn.lookup z).isSome=true:=Gb.mpr (Jq.mpr #[_,back (zF e2),rfl])
   rw[e1]at this;cases this
theorem Ht.same{H H':Hp}{q:Δ}{ss:List Str}{kn:Kw}(h:Ht H q ss kn)(s:F5 H H'):Ht H' q ss kn:=by
 obtain⟨as,e,l,r⟩:=h
 exact#[as,s _ _ e,l,fun i a nm x e1 e2 e3=>let⟨v,a1,a2⟩:=r i a nm x e1 e2 e3;#[v,s _ _ a1,a2.mv (S:=[]) s.mv (fun c h=>nomatch h)]]
def qI(D:Dr)(e:Kb)(age c:Int):Str×Kb:=if qG D e age=true then zx D.near D.far e age c else("age",e)
inductive IX (K:μ) (C:Δ) (vs:List V) (H:Hp) (Q:VK):Prop
 |mk (p ta hk bd lg a:Δ) (n:Nat) (D:Dr) (e:Kb) (age c:Int) (h1:vs=[.ref p,.ref a,.int age,.int c]) (h2:F7 K C H p ta hk bd lg n D) (h3:GH H a e) (h4:∀q a' H',F5 H H'->H' q=some (.tup [.str (qI D e age c).1,.ref a'])->GH H' a' (qI D e age c).2->Q (.ref q) H')
def gD(K:μ)(C:Δ):Sp:=fun vs H Q _=>IX K C vs H Q
inductive LS (K:μ) (H:Hp):Nat->V->V->Prop where
 |int (n:Nat) (i:Int):LS K H n (.int i) (.int i)
 |str (n:Nat) (x:Str):LS K H n (.str x) (.str x)
 |non (n:Nat):LS K H n .non .non
 | tup {n:Nat} {a b:Δ} {xs ys:List V} (h1:Gh K H a xs) (h2:Gh K H b ys) (hl:xs.length=ys.length)
   (hi:∀(i:Nat) (x y:V),xs[i]? =some x->ys[i]? =some y->LS K H n x y):LS K H (n+1) (.ref a) (.ref b)
section
open SeqAt
variable{X:Cx}{MT:F4}{σ:L2.St}{H:Hp}{s:Θ}
theorem BL(I:L2.F8 X MT σ H s){n:Nat}{x y:V}(h:LS X.K H n x y):∀{v u:Γ} {A:Around},Ge x v->Ge y u->A.units+n<cLine->EqAt A s v u true:=by
 induction h with
 |int n i=>rintro v u A ⟨t,rfl⟩ ⟨t',rfl⟩ _;have:=EqAt.int_int (A:=A) (s:=s) i t i t';rwa [Er]at this
 |str n z=>rintro v u A ⟨t,rfl⟩ ⟨t',rfl⟩ _;have:=EqAt.str_str (A:=A) (s:=s) z t z t';rwa [Er]at this
 |non n=>
  intro v u A r1 r2 _
  cases(show v=Γ.none from r1)
  cases(show u=Γ.none from r2)
  exact EqAt.same _
 | @tup n a b xs ys h1 h2 hl _ ih=>
  intro v u A r1 r2 hu
  cases(show v=Γ.ref a from r1)
  cases(show u=Γ.ref b from r2)
  by_cases hab:a=b
  ·rw[hab];exact EqAt.same _
  ·obtain⟨its,q1,p1,_⟩:=I.tuple h1
   obtain⟨its2,q2,p2,_⟩:=I.tuple h2;have l1:=q1.length;have l2:=q2.length;have e:=RcAt.tuples (A:=A) (e:=fun _=>true) (show s.heap.IsTuple a its.toArray from p1) (show s.heap.IsTuple b its2.toArray from p2) (by lia) (fun j z1 z2=>by
    obtain⟨x,ex,rx⟩:=zr q1 (j:=j) (by simpa using z1)
    obtain⟨y,ey,ry⟩:=zr q2 (j:=j) (by simpa using z2)
    exact ih j x y ex ey rx ry (by rw[Ee];lia))
   rw[ci,show(its.toArray.size==its2.toArray.size)=true by simp;lia]at e
   exact EqAt.of_refs hab e
theorem Bu(I:L2.F8 X MT σ H s){n:Nat}{x y:V}{v u:Γ}{A:Around}(h:LS X.K H n x y)(r1:Ge x v)(r2:Ge y u)(hu:A.units+n<cLine):RcAt A s v u true/\RcNeAt A s v u false:=by
 cases h with
 |int n i=>
  obtain⟨t,rfl⟩:=r1;obtain⟨t',rfl⟩:=r2;have e1:=RcAt.int_int (A:=A) (s:=s) i t i t'
  have e2:=RcNeAt.int_int (A:=A) (s:=s) i t i t'
  rw[Er]at e1 e2
  exact#[e1,e2]
 |str n z=>
  obtain⟨t,rfl⟩:=r1;obtain⟨t',rfl⟩:=r2;have e1:=RcAt.str_str (A:=A) (s:=s) z t z t'
  have e2:=RcNeAt.str_str (A:=A) (s:=s) z t z t'
  rw[Er]at e1 e2
  exact#[e1,e2]
 |non n=>
  cases(show v=Γ.none from r1)
  cases(show u=Γ.none from r2)
  exact#[RcAt.none_none,RcNeAt.none_none]
 | @tup n a b xs ys h1 h2 hl ih=>
  cases(show v=Γ.ref a from r1)
  cases(show u=Γ.ref b from r2)
  obtain⟨its,q1,p1,_⟩:=I.tuple h1;obtain⟨its2,q2,p2,_⟩:=I.tuple h2;have l1:=q1.length;have l2:=q2.length;have he:∀j (z1:j<its.toArray.size) (z2:j<its2.toArray.size),EqAt A.in1 s its.toArray[j] its2.toArray[j] ((fun _=>true) j):=fun j z1 z2=>by
   obtain⟨x,ex,rx⟩:=zr q1 (j:=j) (by simpa using z1)
   obtain⟨y,ey,ry⟩:=zr q2 (j:=j) (by simpa using z2)
   exact BL I (ih j x y ex ey) rx ry (by rw[Ee];lia)
  have e1:=RcAt.tuples (A:=A) (e:=fun _=>true) (show s.heap.IsTuple a its.toArray from p1) (show s.heap.IsTuple b its2.toArray from p2) (by lia) he
  have e2:=RcNeAt.tuples (A:=A) (e:=fun _=>true) (show s.heap.IsTuple a its.toArray from p1) (show s.heap.IsTuple b its2.toArray from p2) (by lia) he
  rw[ci,show(its.toArray.size==its2.toArray.size)=true by simp;lia]at e1 e2
  exact#[e1,e2]
inductive MF (K:μ) (b:Bool) (x:V) (y:V) (H:Hp) (Q:VK):Prop
 |mk (n:_) (h1:n<=32) (h2:LS K H n x y) (h3:Q (.bl b) H)
def DU(K:μ)(b:Bool):R2:=fun x y H Q=>MF K b x y H Q
theorem B1{k:Nat}(hr:Gq k X.A):zt X (compareOp .NotEq) (DU X.K false):=by
 intro MT s σ H x y v u Q I rx ry h;obtain⟨n,hn,e,q⟩:=h
 exact(Bu I e rx ry (by have:=hr.un;lia)).2 _ _ _ _ #[.bl _,H,I,rfl,q]
end
section
variable(K:μ)(C:Δ)
inductive Lx (vs:List V) (H:Hp) (Q:VK):Prop
 |mk (p ta hk bd lg:Δ) (n:Nat) (D:Dr) (h1:vs=[.ref p]) (h2:F7 K C H p ta hk bd lg n D) (h3:∀t (as:List Δ) H',F5 H H'->Gh K H' t (as.map V.ref)->as.length=D.kss.length->(∀(i:Nat) (a:Δ) (ks:List Int),as[i]? =some a->D.kss[i]? =some ks->Gh K H' a (ks.map V.int))->Q (.ref t) H')
def oX:Sp:=fun vs H Q _=>Lx K C vs H Q
inductive Iv (vs:List V) (H:Hp) (Q:VK):Prop
 |mk (p ta hk bd lg:Δ) (n:Nat) (D:Dr) (h1:vs=[.ref p]) (h2:F7 K C H p ta hk bd lg n D) (h3:Q (.int D.least) H)
def jQ:Sp:=fun vs H Q _=>Iv K C vs H Q
inductive Iw (vs:List V) (H:Hp) (Q:VK):Prop
 |mk (p ta hk bd lg:Δ) (n:Nat) (D:Dr) (h1:vs=[.ref p]) (h2:F7 K C H p ta hk bd lg n D) (h3:∀t H',F5 H H'->H' t=some (.tup [.int D.near,.int D.far,.int D.most])->Q (.ref t) H')
def eM:Sp:=fun vs H Q _=>Iw K C vs H Q
end
structure Ac(K:μ)(mg:F3)(x:Str)(st:ε):Prop where
 ex:∃(f:Δ) (fd:FuncData),IQ K x x st f fd/\mg x=some (.ref f)
structure Ic(K:μ)(C:Δ)(m MU:Str)(st:ε):Prop where
 ex:∃(f:Δ) (fd:FuncData),IQ K m MU st f fd/\LK K C m f
section
variable{K:μ}{mg:F3}{h:Ψ}{x m MU:Str}{st:ε}{C f:Δ}{oc:Γ}{od an:Option Δ}{osl:Array (Option Γ)}{kV doc pm cdv ct:Γ}{ps:List Str}
theorem yd(X:K.In h)(G:h.Ns θ mg)(a:W.nsIn K θ x=some (some (.ref f)))(l:K.lookup f=some #[oc,od,.func (W.fnOf x x (QH st) (zO st) (qi st) .none kV doc pm an cdv ct),osl])(c:W.codeIn K cdv x=true)(k:W.keepIn K (.ref f)=true):Ac K mg x st:=#[f,_,lC l c k,EV X G a]
theorem CS(a:W.findIn K (.ref C) m=some (some (.ref f)))(i:W.isFn K (.ref f)=true)(l:K.lookup f=some #[oc,od,.func (W.fnOf m MU (QH st) (zO st) (qi st) .none kV doc pm an cdv ct),osl])(c:W.codeIn K cdv MU=true)(k:W.keepIn K (.ref f)=true):Ic K C m MU st:=#[f,_,lC l c k,a,i,k]
theorem Ec{p:List Γ->Prop}(h:p []):∀us:List Γ,us.length=0->p us:=by
 intro us hl;rw[List.eq_nil_of_length_eq_zero hl];exact h
theorem pH{n:Nat}{p:List Γ->Prop}(h:∀a us,us.length=n->p (a::us)):∀us:List Γ,us.length=n+1->p us:=by
 intro us hl;cases us with
 |nil=>cases hl
 |cons a r=>exact h a r (Nat.succ.inj hl)
theorem Zc{p:List Γ->Prop}(h:∀a0,p [a0]):∀us:List Γ,us.length=1->p us:=pH fun a=>Ec (p:=fun r=>p (a::r)) (h a)
theorem bj{p:List Γ->Prop}(h:∀a0 a1,p [a0,a1]):∀us:List Γ,us.length=2->p us:=pH fun a=>Zc (p:=fun r=>p (a::r)) (h a)
theorem fU{p:List Γ->Prop}(h:∀a0 a1 a2,p [a0,a1,a2]):∀us:List Γ,us.length=3->p us:=pH fun a=>bj (p:=fun r=>p (a::r)) (h a)
theorem om{p:List Γ->Prop}(h:∀a0 a1 a2 a3,p [a0,a1,a2,a3]):∀us:List Γ,us.length=4->p us:=pH fun a=>fU (p:=fun r=>p (a::r)) (h a)
theorem DA{p:List Γ->Prop}(h:∀a0 a1 a2 a3 a4,p [a0,a1,a2,a3,a4]):∀us:List Γ,us.length=5->p us:=pH fun a=>om (p:=fun r=>p (a::r)) (h a)
theorem Dw{p:List Γ->Prop}(h:∀a0 a1 a2 a3 a4 a5,p [a0,a1,a2,a3,a4,a5]):∀us:List Γ,us.length=6->p us:=pH fun a=>DA (p:=fun r=>p (a::r)) (h a)
theorem Ac.at(a:Ac K mg x st)(b:∀(kV doc pm:Γ) (an:Option Δ) (cdv ct:Γ) (us:List Γ),us.length=ps.length->bindArgs (W.fnOf x x (QH st) (zO st) (qi st) .none kV doc pm an cdv ct) #[us,[]]=pure (ps.zip us):=by intro _ _ _ _ _ _;first|exact Zc fun _=>rfl|exact bj fun _ _=>rfl|exact fU fun _ _ _=>rfl|exact om fun _ _ _ _=>rfl|exact DA fun _ _ _ _ _=>rfl|exact Dw fun _ _ _ _ _ _=>rfl):At K mg x st ps:=by
 obtain⟨_,_,F,m⟩:=a.ex;exact Dc F m (F.binds b)
theorem Ic.at(a:Ic K C m MU st)(b:∀(kV doc pm:Γ) (an:Option Δ) (cdv ct:Γ) (us:List Γ),us.length=ps.length->bindArgs (W.fnOf m MU (QH st) (zO st) (qi st) .none kV doc pm an cdv ct) #[us,[]]=pure (ps.zip us):=by intro _ _ _ _ _ _;first|exact Zc fun _=>rfl|exact bj fun _ _=>rfl|exact fU fun _ _ _=>rfl|exact om fun _ _ _ _=>rfl|exact DA fun _ _ _ _ _=>rfl|exact Dw fun _ _ _ _ _ _=>rfl):Ia K C m MU st ps:=by
 obtain⟨_,_,F,m⟩:=a.ex
 exact#[_,_,F,m,F.binds b]
end
structure Ps where
 nm:Str
 age:Int
 ds:List Int
def ZU(H:Hp)(p:Δ)(P:Ps):Prop:=Gz H p P.nm P.age P.ds
structure Iy(P:Ps):Prop where
 nm:Zo P.nm
 l:P.ds.length=5
 dg:zB P.ds
def fZ(D:Dr)(P:Ps):Option (Int×Int):=if Ze D P.age=true then ZB D.t (QJ D P.age) P.nm P.ds else none
def l9(c:Nat):Bool:=decide (97<=c)&&decide (c<=122)
def BZ(z:Str):Bool:=z.cps.toList.all l9
def xo(z:Str):Bool:=decide (1<=z.length)&&decide (z.length<=8)&&BZ z
theorem IM{z:Str}:xo z=true↔Zo z:=by
 unfold xo BZ Zo;rw[Ju,Ju,Fw,Fw,EG];have zl:z.length=z.cps.toList.length:=rfl
 rw[zl];constructor
 ·rintro⟨⟨h1,h2⟩,h3⟩
  refine#[fun c hc=>?_,h1,h2]
  have:=h3 c hc
  unfold l9 at this;rw[Ju,Fw,Fw]at this;exact this
 ·rintro⟨h3,h1,h2⟩
  refine#[#[h1,h2],fun c hc=>?_]
  unfold l9;rw[Jh (h3 c hc).1,Jh (h3 c hc).2];rfl
theorem hX{a b:Nat}:([a]:List Nat)<[b]↔a<b:=by
 rw[List.cons_lt_cons_iff];constructor
 ·rintro(h|⟨_,h⟩)
  ·exact h
  ·exact absurd h (List.not_lt_nil _)
 ·exact .inl
theorem rV(c:Nat):(!decide ((#[(List.toArray [c])]:Str).cps.toList<("a":Str).cps.toList))=decide (97<=c)/\(!decide (("z":Str).cps.toList<(#[(List.toArray [c])]:Str).cps.toList))=decide (c<=122):=by
 have e1:("a":Str).cps.toList=[97]:=by decide +kernel
 have e2:("z":Str).cps.toList=[122]:=by decide +kernel
 rw[e1,e2]
 show(!decide ([c]<[97]))=_/\(!decide ([122]<[c]))=_
 constructor
 ·by_cases h:97<=c
  ·rw[Jh h,Jm (by rw[hX];lia)];rfl
  ·rw[Jm h,Jh (by rw[hX];lia)];rfl
 ·by_cases h:c<=122
  ·rw[Jh h,Jm (by rw[hX];lia)];rfl
  ·rw[Jm h,Jh (by rw[hX];lia)];rfl
theorem k9{H:Hp}{x:V}{t:String}(h:kd H x=some t):LN H x t:=by
 cases x with
 |non=>cases h;exact .non
 |bl b=>cases h;exact .bl b
 |int i=>cases h;exact .int i
 |str x=>cases h;exact .str x
 |byt b=>cases h
 |flt b=>cases h
 |ty b=>cases h
 |ref a=>
  rcases gS h with⟨xs,e,rfl⟩|⟨xs,e,rfl⟩
  ·exact .lst e
  ·exact .tup (.inl e)
def Dv(H:Hp)(x:V)(b:Bool):Prop:=(∃z,x= .str z/\z.cps.all (· <128)=true/\z.length<=100/\b=xo z)\/(∃t,kd H x=some t/\aX t "str"=false/\b=false)
def MG(H:Hp)(x:V)(b:Bool):Prop:=(∃(p:Δ) (ds:List V),x= .ref p/\H p=some (.tup ds)/\ds.length<=100/\(∀v∈ds,∃t,kd H v=some t)/\b=(decide (ds.length=5)&&ds.all cL))\/(∃t,kd H x=some t/\aX t "tuple"=false/\b=false)
inductive Ma (H:Hp) (x:V):Bool->Prop where
 |kd {t:String} (h:kd H x=some t) (n:aX t "tuple"=false):Ma H x false
 |len {a:Δ} {xs:List V} (e:x= .ref a) (h:H a=some (.tup xs)) (l:xs.length<=100) (n:xs.length≠3):Ma H x false
 |tup {a:Δ} {n y c:V} {bn bc:Bool} {ty:String} (e:x= .ref a) (h:H a=some (.tup [n,y,c])) (hn:Dv H n bn) (hy:L3.kd H y=some ty) (hc:MG H c bc):Ma H x (bn&&gt y&&bc)
theorem MG.same{H H':Hp}{x:V}{b:Bool}(s:F5 H H')(h:MG H x b):MG H' x b:=h.elim (fun⟨p,ds,e,h1,h2,h3,h4⟩=> .inl ⟨p,ds,e,s _ _ h1,h2,(fun v hv=>let⟨t,ht⟩:=h3 v hv;⟨t,fD s ht⟩),h4⟩) (fun⟨t,h1,h2⟩=> .inr ⟨t,fD s h1,h2⟩)
def Tg(H:Hp)(x:V)(o:Option Ps):Prop:=match o with
 |none=>Ma H x false
 |some P=>∃pr,x= .ref pr/\ZU H pr P/\Iy P
theorem Tg.b{H:Hp}{x:V}{o:Option Ps}(h:Tg H x o):Ma H x o.isSome:=by
 cases o with
 |none=>exact h
 |some P=>
  obtain⟨pr,e,⟨pc,h1,h2⟩,ok⟩:=h;have t:=Ma.tup (bn:=true) (bc:=true) e h1 (.inl #[P.nm,rfl,mO ok.nm,by have:=ok.nm.2.2;show P.nm.cps.toList.length<=100;lia,(IM.mpr ok.nm).symm]) (ty:="int") rfl (.inl #[pc,_,rfl,h2,by rw[Je,ok.l];decide,(fun v hv=>by obtain⟨i,_,rfl⟩:=Jq.mp hv;exact#[_,rfl]),by rw[Je,ok.l,wl ok.dg];rfl])
  exact t
inductive Iz (vs:List V) (H:Hp) (Q:VK):Prop
 |mk (x:_) (b:_) (h1:vs=[x]) (h2:Dv H x b) (h3:∀H',F5 H H'->Q (.bl b) H')
def jL:Sp:=fun vs H Q _=>Iz vs H Q
inductive IG (vs:List V) (H:Hp) (Q:VK):Prop
 |mk (x:_) (b:_) (h1:vs=[x]) (h2:MG H x b) (h3:∀H',F5 H H'->Q (.bl b) H')
def jC:Sp:=fun vs H Q _=>IG vs H Q
inductive Ie (vs:List V) (H:Hp) (Q:VK):Prop
 |mk (x:_) (b:_) (h1:vs=[x]) (h2:Ma H x b) (h3:∀H',F5 H H'->Q (.bl b) H')
def cC:Sp:=fun vs H Q _=>Ie vs H Q
section
variable(K:μ)(C:Δ)
inductive IH (vs:List V) (H:Hp) (Q:VK):Prop
 |mk (p ta hk bd lg:Δ) (n:Nat) (D:Dr) (x:V) (o:Option Ps) (h1:vs=[.ref p,x]) (h2:F7 K C H p ta hk bd lg n D) (h3:Hg D) (h4:Tg H x o) (h5:∀y H',F5 H H'->fm H' y (o.bind (fZ D))->Q y H')
def jY:Sp:=fun vs H Q _=>IH K C vs H Q
end
theorem Mf.weak{P:Ξ}{w:Ω}{K:μ}{mg:F3}{base:Ψ}{C:Δ}{m:Str}{ps:List Str}{k:Nat}{sp sp':Sp}(M:Mf P w K mg base C m ps k sp)(h:∀vs H Q E,sp' vs H Q E->sp vs H Q E):Mf P w K mg base C m ps k sp':=by
 obtain⟨f,fd,F,hm,hb⟩:=M.ex
 exact#[f,fd,#[fun vs H Q E q=>F.len vs H Q E (h vs H Q E q),fun A outer s H args us vs Q E hr e0 hb hv hs=>F.run A outer s H args us vs Q E hr e0 hb hv (h _ _ _ _ hs)],hm,hb]
def Ly(K:μ)(H:Hp)(b:Δ)(kss:List (List Int)):Prop:=∃as:List Δ,Gh K H b (as.map V.ref)/\as.length=kss.length/\∀(i:Nat) (a:Δ) (ks:List Int),as[i]? =some a->kss[i]? =some ks->Gh K H a (ks.map V.int)
theorem Ly.same{K:μ}{H H':Hp}{b:Δ}{kss:List (List Int)}(h:Ly K H b kss)(s:F5 H H'):Ly K H' b kss:=by
 obtain⟨as,e,l,r⟩:=h
 exact#[as,F5.sqt s e,l,fun i a ks e1 e2=>F5.sqt s (r i a ks e1 e2)]
theorem Ly.upd{K:μ}{C p dx:Δ}{H:Hp}{b:Δ}{kss:List (List Int)}{fs:List (Str×V)}{o:HO}(h:Ly K H b kss)(e:H p=some (.ins C dx fs)):Ly K (F9 H p o) b kss:=by
 obtain⟨as,eb,l,r⟩:=h
 exact#[as,fI e eb,l,fun i a ks e1 e2=>fI e (r i a ks e1 e2)]
inductive Rw where
 |learn (P R:Ps)
 |forget (nm:Str)
 |turn (ks:List Int)
 |close (age:Int)
 |hear (P:Ps) (ans:List V)
def uS:V->Prop
 | .int _=>True
 | .str _=>True
 |_=>False
def IZ(H:Hp)(a:Δ):Rw->Prop
 | .learn P R=>∃p1 p2,Rd H a (.tup [.str "learn",.ref p1,.ref p2])/\ZU H p1 P/\ZU H p2 R/\Iy P/\Iy R
 | .forget nm=>Rd H a (.tup [.str "forget",.str nm])
 | .turn ks=>∃k,Rd H a (.tup [.str "turn",.ref k])/\Rd H k (.tup (ks.map V.int))/\ks.length<=8
 | .close age=>Rd H a (.tup [.str "close",.int age])
 | .hear P ans=>∃p q,Rd H a (.tup [.str "hear",.ref p,.ref q])/\ZU H p P/\Iy P/\H q=some (.tup ans)/\ans.length<=3/\∀v∈ans,uS v
def GV(H:Hp)(rs:List Δ)(L:List Rw):Prop:=rs.length=L.length/\∀(i:Nat) (a:Δ) (r:Rw),rs[i]? =some a->L[i]? =some r->IZ H a r
def HW(H:Hp)(lg:Δ)(L:List Rw):Prop:=∃rs:List Δ,H lg=some (.lst (rs.map V.ref))/\GV H rs L
section
variable{S:List Δ}{H H':Hp}{a lg:Δ}{r:Rw}{rs:List Δ}{L:List Rw}
theorem IZ.mv(m:Mv S H H')(n:NT S H)(h:IZ H a r):IZ H' a r:=by
 cases r with
 |learn P R=>obtain⟨p1,p2,h1,h2,h3,h4⟩:=h;exact#[p1,p2,m.rd n h1,Gz.mv m n h2,Gz.mv m n h3,h4]
 |forget nm=>exact m.rd n h
 |turn ks=>obtain⟨k,h1,h2,h3⟩:=h;exact#[k,m.rd n h1,m.rd n h2,h3]
 |close age=>exact m.rd n h
 |hear P ans=>obtain⟨p,q,h1,h2,h3,h4,h5⟩:=h;exact#[p,q,m.rd n h1,Gz.mv m n h2,h3,m.tup n h4,h5]
theorem GV.mv(m:Mv S H H')(n:NT S H)(h:GV H rs L):GV H' rs L:=#[h.1,fun i a r e1 e2=>(h.2 i a r e1 e2).mv m n]
theorem HW.mv(m:Mv S H H')(n:NT S H)(hl:lg∉S)(h:HW H lg L):HW H' lg L:=by
 obtain⟨rs,e,r⟩:=h
 exact#[rs,m _ _ hl e,r.mv m n]
theorem jP:NT [] H:=fun c h=>nomatch h
theorem GV.same(s:F5 H H')(h:GV H rs L):GV H' rs L:=h.mv (S:=[]) s.mv jP
theorem HW.same(s:F5 H H')(h:HW H lg L):HW H' lg L:=h.mv (S:=[]) s.mv jP (fun z=>nomatch z)
theorem GV.add(h:GV H rs L)(hr:IZ H a r):GV H (rs++[a]) (L++[r]):=by
 refine#[by simp [h.1],fun i b q e1 e2=>?_]
 by_cases hi:i<rs.length
 ·rw[J0 hi]at e1
  rw[J0 (by rw[<- h.1];exact hi)]at e2
  exact h.2 i b q e1 e2
 ·rw[JZ (by lia)]at e1
  rw[JZ (by rw[<- h.1];lia),<- h.1]at e2
  cases e:i-rs.length with
  |zero=>rw[e]at e1 e2;cases e1;cases e2;exact hr
  |succ k=>rw[e]at e1;cases e1
end
theorem _root_.L2.Gh.up{K:μ}{H:Hp}{a:Δ}{xs:List V}(h:Gh [] H a xs):Gh K H a xs:=h.elim .inl fun⟨_,_,_,z,_⟩=>nomatch z
theorem _root_.L2.Gh.rd{H:Hp}{a:Δ}{xs:List V}(h:Gh [] H a xs):Rd H a (.tup xs):=h.elim id fun⟨_,_,_,z,_⟩=>nomatch z
theorem GA.up{K:μ}{H:Hp}{a:Δ}{kss:List (List Int)}(h:GA [] H a kss):GA K H a kss:=by
 obtain⟨as,e,l,r⟩:=h
 exact#[as,e,l,fun i a ks e1 e2=>(r i a ks e1 e2).up]
inductive Lz (K:μ) (C:Δ) (vs:List V) (H:Hp) (Q:VK):Prop
 |mk (p a b dx:Δ) (near far most:Int) (t:List Int) (kss:List (List Int)) (h1:vs=[.ref p,.ref a,.ref b,.int near,.int far,.int most]) (h2:H p=some (.ins C dx [])) (h3:Sq K H a (t.map V.int)) (h4:GA [] H b kss) (h5:kss.length<=8) (h6:∀ta hk bd lg H',H hk=none->H bd=none->H lg=none->Mv [p] H H'->F7 K C H' p ta hk bd lg 0 ⟨t,kss,near,far,most,0,[]⟩->GA [] H' hk kss->Q .non H')
def n9(K:μ)(C:Δ):Sp:=fun vs H Q _=>Lz K C vs H Q
inductive I0 (K:μ) (C:Δ) (vs:List V) (H:Hp) (Q:VK):Prop
 |mk (p a b dx:Δ) (near far most:Int) (t:List Int) (kss:List (List Int)) (h1:vs=[.ref p,.ref a,.ref b,.int near,.int far,.int most]) (h2:H p=some (.ins C dx [])) (h3:Sq K H a (t.map V.int)) (h4:Ly [] H b kss) (h5:kss.length<=8) (h6:∀ta hk bd lg H',H hk=none->H bd=none->H lg=none->Mv [p] H H'->F7 K C H' p ta hk bd lg 0 ⟨t,kss,near,far,most,0,[]⟩->GA [] H' hk kss->Q .non H')
def mT(K:μ)(C:Δ):Sp:=fun vs H Q _=>I0 K C vs H Q
structure Da where
 p:Δ
 ta:Δ
 hk:Δ
 bd:Δ
 lg:Δ
structure Gv(K:μ)(C:Δ)(H:Hp)(a:Da)(D:Dr)(L:List Rw):Prop where
 dr:F7 K C H a.p a.ta a.hk a.bd a.lg L.length D
 lo:HW H a.lg L
 kr:GA [] H a.hk D.kss
section
variable{K:μ}{C:Δ}{S:List Δ}{H H':Hp}{a:Da}{D:Dr}{L:List Rw}{r:Δ}{rw:Rw}{rs:List Δ}
theorem Gv.mv(b:Gv K C H a D L)(m:Mv S H H')(nt:NT S H)(hp:a.p∉S)(hh:a.hk∉S)(hb:a.bd∉S)(hl:a.lg∉S):Gv K C H' a D L:=#[b.dr.mv m nt hp hh hb hl,b.lo.mv m nt hl,GA.mv m nt hh b.kr]
theorem Gv.same(b:Gv K C H a D L)(s:F5 H H'):Gv K C H' a D L:=#[b.dr.same s,b.lo.same s,GA.same s b.kr]
theorem Gv.push(b:F7 K C H a.p a.ta a.hk a.bd a.lg L.length D)(el:H a.lg=some (.lst (rs.map V.ref)))(ro:GV H rs L)(kr:GA [] H a.hk D.kss)(hr:IZ H r rw):Gv K C (F9 H a.lg (.lst (rs.map V.ref++[.ref r]))) a D (L++[rw]):=by
 have nt:NT [a.lg] H:=NT.one el trivial
 have e:=b.putL (r:=r) el (Fx ro.1)
 rw[show L.length+1=(L++[rw]).length by simp]at e
 exact#[e,#[rs++[r],by rw[qa,JJ];rfl,(ro.add hr).mv Mv.upd1 nt],GA.mv Mv.upd1 nt (qM b.ne.symm) kr]
theorem xy{p ta hk bd lg:Δ}{n:Nat}{f0:List (qO×V)}(e:H bd=some (.dK f0))(b:F7 K C H p ta hk bd lg n D):hk≠bd:=by
 obtain⟨as,eh,_⟩:=b.ks;exact Qu eh e (by intro z;cases z)
theorem F7.dl{p ta hk bd lg:Δ}(b:F7 K C H p ta hk bd lg 0 D)(kr:GA [] H hk D.kss):Gv K C H #[p,ta,hk,bd,lg] D []:=by
 obtain⟨rs,e,l⟩:=id b.lo
 obtain rfl:rs=[]:=List.length_eq_zero_iff.mp (Nat.le_zero.mp l)
 exact#[b,#[[],e,rfl,fun i a r h=>by cases h],kr]
end
def c4(D:Dr)(P:Ps):List V×Kw:=zb D P.nm P.age (ZB D.t (QJ D P.age) P.nm P.ds)
section
variable(K:μ)(C:Δ)(x:Xa)
inductive LA (vs:List V) (H:Hp) (Q:VK):Prop
 |mk (a:Da) (D:Dr) (L:List Rw) (x:V) (o:Option Ps) (h1:vs=[.ref a.p,x]) (h2:Gv K C H a D L) (h3:L.length<=1000) (h4:Hg D) (h5:Tg H x o) (h6:(o=none->∀q H',F5 H H'->H' q=some (.tup [.str "held",.str "bad"])->Q (.ref q) H')) (h7:∀P,o=some P->∀pr q H',x= .ref pr->Mv [a.bd,a.lg] H H'->ZU H' pr P->H' q=some (.tup (c4 D P).1)->Gv K C H' a {D with kn:=(c4 D P).2} (L++[.hear P (c4 D P).1])->Q (.ref q) H')
def i7:Sp:=fun vs H Q _=>LA K C vs H Q
def Ea(H:Hp)(k:Δ)(ks:List Int):Prop:=H k=some (.lst (ks.map V.int))\/Rd H k (.tup (ks.map V.int))
inductive LB (vs:List V) (H:Hp) (Q:VK):Prop
 |mk (a:Da) (D:Dr) (L:List Rw) (h1:vs=[.ref a.p]) (h2:Gv K C H a D L) (h3:D.kss.length<=8) (h4:∀a' H',F5 H H'->H a'.p=none->H a'.hk=none->H a'.bd=none->H a'.lg=none->Gv K C H' a' D L->Q (.ref a'.p) H')
def iH:Sp:=fun vs H Q _=>LB K C vs H Q
end
theorem gd{X:Cx}:zi X (.type "tuple") (fun xs H Q=>∃kt ks,xs=[.ref kt]/\Ea H kt ks/\∀t H2,F5 H H2->Rd H2 t (.tup (ks.map V.int))->Q (.ref t) H2):=by
 intro MT s σ H xs us Q I r h;obtain⟨kt,ks,e,h,q⟩:=h;refine qV MT s σ H xs us Q I r #[kt,ks.map V.int,e,?_]
 rcases h with h|h
 ·exact .inl #[Gd.of h,fun t ht=>q t _ (F5.upd ht) (.inl qa)]
 ·exact .inr #[.inl h,q kt _ (F5.refl _) h]
section
variable{D:Dr}{P:Ps}
theorem jD(D:Dr)(nm:Str)(age:Int)(r:Option (Int×Int)):(zb D nm age r).1.length<=3/\∀v∈(zb D nm age r).1,uS v:=by
 have two:∀a b:Str,([V.str a,.str b]:List V).length<=3/\∀v∈([V.str a,.str b]:List V),uS v:=fun a b=>#[by show 2<=3;decide,fun v hv=>by simp at hv;rcases hv with rfl|rfl<;>trivial]
 have three:∀(a b:Str) (i:Int),([V.str a,.str b,.int i]:List V).length<=3/\∀v∈([V.str a,.str b,.int i]:List V),uS v:=fun a b i=>#[by show 3<=3;decide,fun v hv=>by simp at hv;rcases hv with rfl|rfl|rfl<;>trivial]
 unfold zb;split
 ·exact two _ _
 ·split
  ·split
   ·exact two _ _
   ·split
    ·exact three _ _ _
    ·exact two _ _
  ·exact two _ _
theorem tO(D:Dr)(P:Ps):(c4 D P).1.length<=3:=(jD ..).1
theorem vL(D:Dr)(P:Ps):∀v∈(c4 D P).1,uS v:=(jD ..).2
end
theorem iW{t u:TS}{D:GX}{σ:L2.St}{H:Hp}(G:L2.St->Hp->Prop)(h:∀D':GX,D'.rt=D.rt->(∀σ' H',G σ' H'->D'.nx σ' H')->t D' σ H)(hG:∀σ' H',G σ' H'->u D σ' H'):iX t u D σ H:=h {D with nx:=u D} rfl hG
section
variable{K:μ}{S:List Δ}{H H':Hp}
theorem Ly.mv{b:Δ}{kss:List (List Int)}(h:Ly K H b kss)(m:Mv S H H')(n:NT S H):Ly K H' b kss:=by
 obtain⟨as,e,l,r⟩:=h
 exact#[as,m.sqt n e,l,fun i a ks e1 e2=>m.sqt n (r i a ks e1 e2)]
end
structure Gu(D:Dr)(e:Kb):Prop where
 a0:0<=e.age
 a1:e.age<D.kss.length
 l0:1<=e.last
 l1:e.last<4096
 w:∀x c,e.wt=some (x,c)->e.age<=x/\x<D.kss.length/\e.last+D.near<c/\c<=e.last+D.far/\0<=c/\c<4096
section
variable{K:μ}{C:Δ}{H:Hp}{a:Da}{D:Dr}{L:List Rw}
def dS(a:Da):List Δ:=[a.p,a.hk,a.bd,a.lg]
theorem Gv.nt(d:Gv K C H a D L):NT (dS a) H:=fun c hc=>by
 obtain⟨dx,ep⟩:=id d.dr.ob;obtain⟨f0,hd,_⟩:=id d.dr.kb;obtain⟨as,eh,_⟩:=id d.dr.ks;obtain⟨rs,el,_⟩:=id d.lo;simp only[dS,Jr,Ex,Ey]at hc;rcases hc with rfl|rfl|rfl|rfl
 ·exact#[_,ep,trivial]
 ·exact#[_,eh,trivial]
 ·exact#[_,hd,trivial]
 ·exact#[_,el,trivial]
end
theorem Gu.mono{D D':Dr}{e:Kb}(k:Gu D e)(h:D.kss.length<=D'.kss.length)(hn:D'.near=D.near:=by rfl)(hf:D'.far=D.far:=by rfl):Gu D' e:=#[k.a0,by have:=k.a1;lia,k.l0,k.l1,fun x c z=>by have:=k.w x c z;rw[hn,hf];lia]
theorem xc{D:Dr}{e:Kb}{age c:Int}(k:Gu D e)(a0:e.age<=age)(a1:age<D.kss.length)(c0:0<=c)(c1:c<4096):Gu D (zx D.near D.far e age c).2:=by
 have e0:=k.a0;have l0:=k.l0;have new:e.last<c->Gu D #[age,c,none]:=fun h=>#[by show 0<=age;lia,a1,by show 1<=c;lia,c1,fun x y z=>by cases z]
 unfold zx;split
 ·exact k
 ·split
  ·exact new (by lia)
  ·split
   ·split
    ·exact new (by lia)
    ·exact#[k.a0,k.a1,k.l0,k.l1,fun x y z=>by cases z;exact#[a0,a1,by show e.last+D.near<c;lia,by show c<=e.last+D.far;lia,c0,c1]]
   ·exact k
theorem iw{D:Dr}{e:Kb}{age:Int}(h:qG D e age=true):e.age<=age:=by
 unfold qG at h;rw[Ju]at h;exact Jx h.2
theorem Qm{i:Nat}{v:V}{σ:L2.St}{H:Hp}{t u:TS}{D:GX}{rt:VK}{bk ct:L2.St->Hp->Prop}(G:L2.St->Hp->Prop)(h:∀D':GX,D'.rt=D.rt->(∀σ' H',G σ' H'->D'.nx σ' H')->t D' (σ.set i (some v)) H)(hG:∀σ' H',G σ' H'->u D σ' H'):QK i v σ H (GX.nx {nx:=iX t u D,rt:=rt,bk:=bk,ct:=ct}):=h {D with nx:=u D} rfl hG
theorem BE{σ:L2.St}{H:Hp}{t u:TS}{D:GX}{rt:VK}{bk ct:L2.St->Hp->Prop}(G:L2.St->Hp->Prop)(h:∀D':GX,D'.rt=D.rt->(∀σ' H',G σ' H'->D'.nx σ' H')->t D' σ H)(hG:∀σ' H',G σ' H'->u D σ' H'):GX.nx {nx:=iX t u D,rt:=rt,bk:=bk,ct:=ct} σ H:=h {D with nx:=u D} rfl hG
theorem ij{K:μ}{H:Hp}{D:Dr}{age:Int}{as:List Δ}(la:as.length=D.kss.length)(hks:∀(i:Nat) (a:Δ) (ks:List Int),as[i]? =some a->D.kss[i]? =some ks->Gh K H a (ks.map V.int))(h0:0<=age)(h1:age<D.kss.length):∃ak,QL (as.map V.ref) age=some (.ref ak)/\Gh K H ak ((QJ D age).map V.int):=by
 obtain⟨i,rfl⟩:∃i:Nat,age=(i:Int):=#[age.toNat,by lia]
 have hi:i<D.kss.length:=by lia
 have hi':i<as.length:=by lia
 refine#[as[i],QD (by rw[Jn,Jg hi'];rfl),?_]
 have:=hks i as[i] D.kss[i] (Jg hi') (Jg hi)
 unfold QJ;rw[EC,JA,Jg hi];exact this
theorem Wt.same{H H':Hp}{v:V}{o:Option (Int×Int)}(s:F5 H H')(h:Wt H v o):Wt H' v o:=h.mv (S:=[]) s.mv jP
theorem ra{kn:Kw}{nm:Str}(h:nm∉kn.map (·.1)):kn.lookup nm=none:=by
 cases e:kn.lookup nm with
 |none=>rfl
 |some x=>exact absurd (Gb.mp (by rw[e];rfl)) h
theorem mN{a:Da}{x:Δ}(h:x∈dS a):x=a.p\/x=a.hk\/x=a.bd\/x=a.lg:=by
 simpa only[dS,Jr,Ex,Ey]using h
theorem cT(a:Da):a.p∈dS a:=by simp [dS]
theorem aG(a:Da):a.hk∈dS a:=by simp [dS]
theorem aE(a:Da):a.bd∈dS a:=by simp [dS]
theorem aB(a:Da):a.lg∈dS a:=by simp [dS]
theorem Gv.some{K:μ}{C:Δ}{H:Hp}{a:Da}{D:Dr}{L:List Rw}(d:Gv K C H a D L){x:Δ}(h:x∈dS a):H x≠none:=fun z=>by
 obtain⟨o,e,_⟩:=d.nt x h;rw[z]at e;cases e
theorem eN{a:Da}{H H':Hp}(m:Mv [a.bd,a.lg] H H'):Mv (dS a) H H':=m.mono (fun c h z=>h (by simp [dS]at z⊢;rcases z with z|z<;>simp [z]))
theorem Ht.mv{S:List Δ}{H H':Hp}{q:Δ}{ss:List Str}{kn:Kw}(h:Ht H q ss kn)(m:Mv S H H')(nt:NT S H):Ht H' q ss kn:=by
 obtain⟨as,e,l,r⟩:=h
 exact#[as,m.tup nt e,l,fun i a nm x e1 e2 e3=>let⟨v,h1,h2⟩:=r i a nm x e1 e2 e3;#[v,m.tup nt h1,h2.mv m nt]]
def Qn(D:Dr)(nm:Str)(age c:Int):Str:=match D.kn.lookup nm with
 |none=>""
 |some e=>if qG D e age=true then(if c-e.last<1\/c-e.last>D.far then "" else if c-e.last<=D.near\/e.wt=some (age,c-1)then "open" else "wait")else ""
def Gc(D:Dr)(nm:Str)(age c:Int):Kw:=(zb D nm age (some (c,0))).2
theorem bH(D:Dr)(nm:Str)(age c d:Int):(zb D nm age (some (c,d))).2=Gc D nm age c:=by
 unfold Gc zb;split
 ·rfl
 ·split
  ·simp only
   split
   ·rfl
   ·rfl
  ·rfl
section
variable(K:μ)(C:Δ)
inductive II (vs:List V) (H:Hp) (Q:VK):Prop
 |mk (a:Da) (D:Dr) (L:List Rw) (p1 p2:Δ) (P R:Ps) (c d d':Int) (h1:vs=[.ref a.p,.ref p1,.ref p2]) (h2:Gv K C H a D L) (h3:L.length<=1000) (h4:Hg D) (h5:ZU H p1 P) (h6:ZU H p2 R) (h7:Iy P) (h8:Iy R) (h9:fZ D P=some (c,d)) (h10:fZ D R=some (c+1,d')) (h11:R.nm=P.nm) (h12:R.age=P.age) (h13:D.kn.lookup R.nm=none) (h14:(D.kn.length:Int)<D.most) (h15:∀H',Mv [a.bd,a.lg] H H'->Gv K C H' a {D with kn:=zk D.kn R.nm ⟨R.age,c+1,none⟩} (L++[.learn P R])->Q .non H')
def jU:Sp:=fun vs H Q _=>II K C vs H Q
end
def zp(D:Dr)(e:Kb)(age:Int):List (Int×Int):=if qG D e age=true then
  (if e.last+1<4096 then [(e.last+1,if 4095<e.last+D.near then 4095 else e.last+D.near)]else [])++
  (match e.wt with
   |none=>[]
   |some (x,w)=>if x=age/\w+1<=(if 4095<e.last+D.far then 4095 else e.last+D.far)then [(w+1,w+1)]else [])
 else []
def Ig(H:Hp)(t:Δ)(zs:List (Int×Int)):Prop:=∃as:List Δ,H t=some (.tup (as.map V.ref))/\as.length=zs.length/\∀(i:Nat) (a:Δ) (z:Int×Int),as[i]? =some a->zs[i]? =some z->H a=some (.tup [.int z.1,.int z.2])
def Mo(H:Hp)(t:Δ)(zs:List (Int×Int)):Prop:=∃as:List Δ,H t=some (.lst (as.map V.ref))/\as.length=zs.length/\∀(i:Nat) (a:Δ) (z:Int×Int),as[i]? =some a->zs[i]? =some z->H a=some (.tup [.int z.1,.int z.2])
section
variable{S:List Δ}{H H':Hp}{t x:Δ}{zs:List (Int×Int)}{z:Int×Int}
theorem Ig.mv(m:Mv S H H')(n:NT S H)(h:Ig H t zs):Ig H' t zs:=by
 obtain⟨as,e,l,r⟩:=h
 exact#[as,m.tup n e,l,fun i a z e1 e2=>m.tup n (r i a z e1 e2)]
theorem Ig.same(s:F5 H H')(h:Ig H t zs):Ig H' t zs:=h.mv (S:=[]) s.mv jP
theorem Mo.add{as:List Δ}(e:H t=some (.lst (as.map V.ref)))(l:as.length=zs.length)(r:∀(i:Nat) (a:Δ) (z:Int×Int),as[i]? =some a->zs[i]? =some z->H a=some (.tup [.int z.1,.int z.2]))(hx:H x=some (.tup [.int z.1,.int z.2])):Mo (F9 H t (.lst (as.map V.ref++[.ref x]))) t (zs++[z]):=by
 have nt:NT [t] H:=NT.one e trivial
 refine#[as++[x],by rw[qa,JJ];rfl,by simp [l],fun i a y e1 e2=>(Mv.upd1 (a:=t)).tup nt ?_]
 by_cases hi:i<as.length
 ·rw[J0 hi]at e1
  rw[J0 (by rw[<- l];exact hi)]at e2
  exact r i a y e1 e2
 ·rw[JZ (by lia)]at e1
  rw[JZ (by rw[<- l];lia),<- l]at e2
  cases q:i-as.length with
  |zero=>rw[q]at e1 e2;cases e1;cases e2;exact hx
  |succ k=>rw[q]at e1;cases e1
end
section
variable(K:μ)(C:Δ)
def LI(H:Hp)(v:V):Option Kb->Prop
 |none=>v= .non
 |some e=>∃a,v= .ref a/\GH H a e
inductive Mb (vs:List V) (H:Hp) (Q:VK):Prop
 |mk (p ta hk bd lg:Δ) (n:Nat) (D:Dr) (v:V) (o:Option Kb) (age:Int) (h1:vs=[.ref p,v,.int age]) (h2:F7 K C H p ta hk bd lg n D) (h3:LI H v o) (h4:∀t H',F5 H H'->Ig H' t (match(generalizing:=false) o with|none=>[]|some e=>zp D e age)->Q (.ref t) H')
def xx:Sp:=fun vs H Q _=>Mb K C vs H Q
structure HQ(H:Hp)(cd tb kt:Δ)(t:List Int)(kss:List (List Int)):Prop where
 e:H cd=some (.tup [.ref tb,.ref kt])
 tb:Rd H tb (.tup (t.map V.int))
 ks:Ly [] H kt kss
def zK(t:List Int)(kss:List (List Int))(nm:Str)(age c d:Int):Ps:=#[nm,age,cO t (kss.getD age.toNat []) nm c d]
end
section
variable{S:List Δ}{H H':Hp}{cd tb kt:Δ}{t:List Int}{kss:List (List Int)}
theorem HQ.mv(h:HQ H cd tb kt t kss)(m:Mv S H H')(n:NT S H):HQ H' cd tb kt t kss:=#[m.tup n h.e,m.rd n h.tb,h.ks.mv m n]
theorem HQ.same(h:HQ H cd tb kt t kss)(s:F5 H H'):HQ H' cd tb kt t kss:=h.mv (S:=[]) s.mv jP
end
end L3
namespace S0
open PySem PyProof.Rows
def Rs(xs:Array Nat):Prop:=xs.toList.Pairwise (· < ·)
theorem Rs.at{xs:Array Nat}(h:Rs xs){i j:Nat}(hi:i<xs.size)(hj:j<xs.size)(hij:i<j):xs[i]<xs[j]:=by
 have:=List.pairwise_iff_getElem.mp h i j (by simpa using hi) (by simpa using hj) hij
 simpa using this
theorem iS{xs:Array Nat}(h:Rs xs)(j:Nat):∀(f lo hi:Nat),lo<=hi->hi<=xs.size->hi-lo<=f->(∀i (hx:i<xs.size),i<lo->xs[i]<j)->(∀i (hx:i<xs.size),hi<=i->j<=xs[i])->
  SetTable.below.go xs j f lo hi<=xs.size/\(∀i (hx:i<xs.size),i<SetTable.below.go xs j f lo hi->xs[i]<j)/\(∀i (hx:i<xs.size),SetTable.below.go xs j f lo hi<=i->j<=xs[i])
 |0,lo,hi,h1,h2,h3,h4,h5=>by
  have e:lo=hi:=by lia
  subst e
  exact#[h2,h4,h5]
 |f+1,lo,hi,h1,h2,h3,h4,h5=>by
  unfold SetTable.below.go
  by_cases hlt:lo<hi
  ·rw[Jb hlt]
   have hm:(lo+hi)/2<xs.size:=by lia
   dsimp only
   have eg:xs.getD ((lo+hi)/2) j=xs[(lo+hi)/2]:=by simp [Array.getD,hm]
   rw[eg]
   by_cases hc:xs[(lo+hi)/2]<j
   ·rw[Jb hc]
    refine iS h j f _ _ (by lia) h2 (by lia) (fun i hi' hi2=>?_) h5
    by_cases e:i=(lo+hi)/2
    ·subst e;exact hc
    ·exact Nat.lt_trans (h.at hi' hm (by lia)) hc
   ·rw[Jc hc]
    refine iS h j f _ _ (by lia) (by lia) (by lia) h4 fun i hi' hi2=>?_
    by_cases e:i=(lo+hi)/2
    ·subst e;lia
    ·have:=h.at hm hi' (by lia)
     lia
  ·rw[Jc hlt]
   exact#[by lia,h4,fun i hx hi2=>h5 i hx (by lia)]
theorem cV{xs:Array Nat}(h:Rs xs)(j:Nat):SetTable.below xs j<=xs.size/\(∀i (hi:i<xs.size),i<SetTable.below xs j->xs[i]<j)/\(∀i (hx:i<xs.size),SetTable.below xs j<=i->j<=xs[i]):=
 iS h j xs.size 0 xs.size (JC _) (Jf _) (by lia) (fun i _ h=>absurd h (Nat.not_lt_zero _)) fun i hx hi=>absurd hx (by lia)
theorem Rs.put{xs:Array Nat}(h:Rs xs){j:Nat}(hj:(xs[SetTable.below xs j]? ==some j)=false):Rs (SetTable.insertAt xs (SetTable.below xs j) j):=by
 obtain⟨h1,h2,h3⟩:=cV h j;generalize SetTable.below xs j=p at *
 unfold Rs;rw[SetTable.toList_insertAt,List.pairwise_append];have hs:(xs.toList.take p++xs.toList.drop p).Pairwise (· < ·):=by rw[List.take_append_drop];exact h
 obtain⟨a1,a2,a3⟩:=List.pairwise_append.mp hs;have lo:∀x∈xs.toList.take p,x<j:=by
  intro x hx;obtain⟨m,hm,rfl⟩:=List.mem_iff_getElem.mp hx;simp at hm
  simpa using h2 m (by lia) (by lia)
 have hi:∀x∈xs.toList.drop p,j<x:=by
  intro x hx;obtain⟨m,hm,rfl⟩:=List.mem_iff_getElem.mp hx;simp at hm
  have hpm:p+m<xs.size:=by lia
  have hp:p<xs.size:=by lia
  have e0:j<=xs[p]:=h3 p hp (Jf _)
  have e1:xs[p]≠j:=by
   intro e;rw[getElem?_pos xs p hp,e]at hj;simp at hj
  simp only[List.getElem_drop,Array.getElem_toList]
  by_cases em:m=0
  ·subst em;simp only[Nat.add_zero];lia
  ·have:=h.at hp hpm (by lia)
   lia
 refine#[a1,List.pairwise_cons.mpr #[hi,a2],fun x hx y hy=>?_]
 rcases Jr.mp hy with rfl|hy
 ·exact lo x hx
 ·exact a3 x hx y hy
theorem cY{t:SetTable}{h:Int}:∀(f:Nat) (p:SetTable.Probe) {j:Nat} {d:Option Nat},(∀j',p.dummy=some j'->t.slot j'= .dummy)->
  SetTable.probe.go t (fun _=>h+1) h f p=some (.empty j d)->t.slot j= .empty/\∀j',d=some j'->t.slot j'= .dummy
 |0,p,j,d,hp,e=>nomatch e
 |f+1,p,j,d,hp,e=>by
  unfold SetTable.probe.go at e;have ha:∀q:SetTable.Probe,(t.advance q).dummy=q.dummy:=fun q=>by
   unfold SetTable.advance;split
   ·rfl
   ·rfl
  cases hs:t.slot p.j with
  |empty=>
   rw[hs]at e;simp only[Option.some.injEq,SetTable.Met.empty.injEq]at e;obtain⟨rfl,rfl⟩:=e
   exact#[hs,hp]
  |dummy=>
   rw[hs]at e;refine cY f _ (fun j' h'=>?_) e
   rw[ha]at h';have h':some p.j=some j':=h'
   injection h' with h'
   rw[<- h'];exact hs
  |live i=>
   rw[hs]at e;have hne:((h+1:Int)==h)=false:=by simp;lia
   simp only[hne,Bool.false_eq_true,Jz]at e;exact cY f _ (fun j' h'=>hp j' (by rw[<- ha p];exact h')) e
theorem sS{t:SetTable}{h:Int}{j:Nat}{b:Bool}(e:t.freeSlot h=some (j,b)):∀i,t.slot j≠ .live i:=by
 unfold SetTable.freeSlot at e;split at e
 ·rename_i j' d he
  obtain⟨a1,a2⟩:=cY _ _ (fun j' h'=>by cases h') he
  simp only[Option.some.injEq,Prod.mk.injEq]at e;obtain⟨e1,_⟩:=e;intro i z;cases d with
  |none=>
   have e1:j'=j:=e1
   rw[<- e1,a1]at z;cases z
  |some k=>
   have e1:k=j:=e1
   rw[<- e1,a2 k rfl]at z;cases z
 ·cases e
def TOk(t:SetTable):Prop:=t.plain=true->Rs t.place
theorem TOk.standIn(t:SetTable)(n:Nat):TOk (t.standIn n):=fun h=>nomatch h
theorem B3{t:SetTable}{j:Nat}(h:TOk t)(h3:∀i,t.slot j≠ .live i):TOk (t.put j).1:=by
 intro hp;have h1:=h hp;unfold SetTable.put
 dsimp only
 refine h1.put ?_
 cases e:(t.place[SetTable.below t.place j]? ==some j)with
 |false=>rfl
 |true=>
  refine absurd ?_ (h3 (SetTable.below t.place j))
  unfold SetTable.slot
  dsimp only
  rw[e];rfl
theorem uf{t:SetTable}(h:TOk t)(es:Array (Int×Γ))(hh:Int)(x:Γ):TOk (layNew t es hh x).2.1/\(layNew t es hh x).2.1.led=t.led:=by
 unfold layNew;split
 ·rename_i slot wd he
  dsimp only
  have hk:=B3 (j:=slot) h (sS he)
  unfold SetTable.orStandIn;split
  ·exact#[hk,rfl]
  ·exact#[TOk.standIn _ _,rfl]
 ·exact#[TOk.standIn _ _,rfl]
theorem gP(f:Nat->Option Nat):∀l:List Nat,(l.filterMap fun j=>(f j).map (j,·)).map (·.1)=l.filter fun j=>(f j).isSome
 | []=>rfl
 |j::l=>by
  rw[JR,List.filter_cons];cases e:f j with
  |none=>simpa using gP f l
  |some k=>simpa using gP f l
theorem oZ{mask fg mv:Nat}{led plain:Bool}{hs:Array Int}{t:SetTable}{o:Array Nat}(e:SetTable.laid mask fg mv led plain hs=some (t,o)):Rs t.place/\t.dummies= (List.toArray [])/\t.led=led:=by
 unfold SetTable.laid at e;cases hl:SetTable.layClean mask hs with
 |none=>rw[hl]at e;exact nomatch e
 |some ow=>
  rw[hl]at e;have e':some (({mask,place:=(((List.range (mask+1)).filterMap fun j=>(ow.getD j none).map (j,·)).map (·.1)).toArray,dummies:= (List.toArray []),finger:=fg,led,moves:=mv,plain}:SetTable),(((List.range (mask+1)).filterMap fun j=>(ow.getD j none).map (j,·)).map (·.2)).toArray)=some (t,o):=e
  injection e' with e'
  injection e' with e1 e2
  subst e1;refine#[?_,rfl,rfl]
  unfold Rs
  dsimp only
  rw[gP];exact List.Pairwise.filter _ List.pairwise_lt_range
theorem wH(t:SetTable)(es:Array (Int×Γ))(wn:Nat):TOk (relayAll t es wn).2.1/\(relayAll t es wn).2.1.led=t.led:=by
 unfold relayAll;split
 ·rename_i t' order he
  dsimp only
  obtain⟨a1,a2,a3⟩:=oZ he;split
  ·exact#[fun _=>a1,a3]
  ·exact#[TOk.standIn _ _,rfl]
 ·exact#[TOk.standIn _ _,rfl]
end S0
namespace S0
open PySem PySem.Spec PyProof.Rows
def zw(w:Ω):Bool:=w.params.followText "set-order"
def TW(w:Ω)(t:SetTable):Prop:=zw w=true\/(t.led=true/\TOk t)
section
variable{prog:Ξ}{w:Ω}{K:Type} [DecidableEq K](knd:PySem.KeyKind prog w K)(kf:Γ->K)
def SetK(h:Ψ)(a:Δ)(ks:List K):Prop:=∃o es ep t,h.get? a=some o/\o.ExactSet/\o.data= .set es ep t/\t.fits es.size=true/\es.size<scanBound/\
 ElemsOf knd es.toList/\(es.toList.map fun e=>kf e.2).Perm ks/\TW w t
variable{knd kf}
theorem SetK.at{h h':Ψ}{a:Δ}{ks:List K}(x:SetK knd kf h a ks)(e:∀o,h.get? a=some o->h'.get? a=some o):SetK knd kf h' a ks:=by
 obtain⟨o,es,ep,t,h1,r⟩:=x
 exact#[o,es,ep,t,e _ h1,r]
theorem SetK.lt{h:Ψ}{a:Δ}{ks:List K}(x:SetK knd kf h a ks):a<h.objs.size:=by
 obtain⟨o,es,ep,t,h1,r⟩:=x;exact Ji h1
theorem SetK.len{h:Ψ}{a:Δ}{ks:List K}(x:SetK knd kf h a ks):ks.length<scanBound:=by
 obtain⟨o,es,ep,t,h1,h2,h3,h4,h5,h6,h7,h8⟩:=x;rw[<- h7.length_eq,Je,Jo];exact h5
theorem lj(hkf:∀k v,knd.is k v=true->kf v=k){es:Array (Int×Γ)}(hel:ElemsOf knd es.toList)(k:K):
  k∈(es.toList.map fun e=>kf e.2)↔∃e∈es.toList,knd.is k e.2=true:=by
 rw[Jq];constructor
 ·rintro⟨e,he,rfl⟩
  obtain⟨⟨k',hk',_⟩,_⟩:=hel e he
  exact#[e,he,by rw[hkf k' _ hk'];exact hk']
 ·rintro⟨e,he,hk⟩
  exact#[e,he,hkf k _ hk]
theorem Zu{h:Ψ}{a:Δ}{o:Obj}{es:Array (Int×Γ)}{ep:Nat}{t:SetTable}(ho:h.get? a=some o)(hd:o.data= .set es ep t)(es':Array (Int×Γ))(t':SetTable):
  (h.update a (Obj.putSet es' t')).get? a=some {o with data:= .set es' (ep+1) t'}:=by
 have:=EY (Obj.putSet es' t') ho (by rw[putSet_of es' t' hd];rfl)
 rw[putSet_of es' t' hd]at this;exact this
variable{A:Around}{E:F2}{s:Θ}
theorem pZ(hkf:∀k v,knd.is k v=true->kf v=k){a:Δ}{ks:List K}{k:K}{x:Γ}{Q:Bool->Θ->Prop}(hkey:knd.is k x=true)(hsc:x.scannable=true)
  (hS:SetK knd kf s.heap a ks)(hroom:ks.length+1<scanBound)
  (h:∀h',Ψ.SameBut a s.heap h'->SetK knd kf h' a (if k∈ks then ks else ks++[k])->Q (decide (k∉ks)) {s with heap:=h'}):
  ζ (model prog w) A (setAddHashed a x (knd.hash k)) Q E s:=by
 obtain⟨o,es,ep,t,ho,hex,hd,hf,hb,hel,hpm,htw⟩:=hS;have hmem:k∈ks↔∃e∈es.toList,knd.is k e.2=true:=by rw[<- hpm.mem_iff];exact lj hkf hel k
 have hsz:es.size=ks.length:=by rw[<- hpm.length_eq,Je,Jo]
 unfold setAddHashed setAddHashedIn;refine JD (Ja (wpAny_setState_of ho hd hf ?_))
 dsimp only
 rw[byScan_of hsc hb hel];simp only[↓reduceIte];unfold setAddByScan;refine Ja (Ja (Eu (Ja (wpAny_setScan_of hkey ho hd hf hel ?_))))
 cases hr:List.findIdx? (fun e=>knd.is k e.2) es.toList with
 |some j=>
  obtain⟨hj,hpj,_⟩:=List.findIdx?_eq_some_iff_getElem.mp hr
  have hk:k∈ks:=hmem.mpr #[es.toList[j],EZ hj,hpj]
  refine Jd (Jd ?_)
  have:=h s.heap (Ψ.SameBut.refl a s.heap) (by rw[Jb hk];exact#[o,es,ep,t,ho,hex,hd,hf,hb,hel,hpm,htw])
  rw[Jm (by simpa using hk)]at this
  exact this
 |none=>
  have hk:k∉ks:=fun z=>by
   obtain⟨e,he,hp⟩:=hmem.mp z
   have:=List.findIdx?_eq_none_iff.mp hr e he
   rw[hp]at this;cases this
  have hgw:∀(b:Bool) {s₁:Θ} {Q':Unit->Θ->Prop},Q' () s₁->ζ (model prog w) A (match b with|true=>rule "set.scan.the-table-gave-way"|false=>pure ()) Q' E s₁:=
   fun b s₁ Q' hq=>by cases b<;>first|exact Jd hq|exact Eu hq
  have hperm:=layNew_perm t es (knd.hash k) x;have hfits:=layNew_fits t es (knd.hash k) x;have htk:TW w (layNew t es (knd.hash k) x).2.1:=by
   rcases htw with z|⟨z1,z2⟩
   ·exact .inl z
   ·obtain⟨b1,b2⟩:=uf z2 es (knd.hash k) x
    exact .inr #[b2.trans z1,b1]
  dsimp only
  generalize hL:layNew t es (knd.hash k) x=L at hperm hfits htk⊢
  obtain⟨es1,t1,wd,gave⟩:=L
  dsimp only at hperm hfits htk⊢
  rw[Array.toList_push]at hperm;have hel1:ElemsOf knd es1.toList:=(hel.push hkey hsc).perm hperm
  have hpm1:(es1.toList.map fun e=>kf e.2).Perm (ks++[k]):=by
   refine(hperm.map _).trans ?_
   rw[JJ];refine hpm.append ?_
   show [kf x].Perm [k]
   rw[hkf k x hkey]
  have hsz1:es1.size=ks.length+1:=by rw[<- Jo,hperm.length_eq,Jt,Jo,hsz];rfl
  have hb1:es1.size<scanBound:=by rw[hsz1];exact hroom
  have key:∀t2:SetTable,t2.fits es1.size=true->TW w t2->∀(Z:Option Bool->Θ->Prop),(∀h',Ψ.SameBut a s.heap h'->SetK knd kf h' a (ks++[k])->Z (some true) {s with heap:=h'})->
    ζ (model prog w) A (do
     storeSet a es1 t2
     if(!wd&&t2.tooFull)=true then do
       (match(relayAll t2 es1 (SetTable.grown es1.size)).2.2 with|true=>rule "set.scan.the-table-gave-way"|false=>pure ())
       storeSet a (relayAll t2 es1 (SetTable.grown es1.size)).1 (relayAll t2 es1 (SetTable.grown es1.size)).2.1
       pure (some true)
      else pure (some true)) Z E s:=by
   intro t2 f2 w2 Z hZ;refine Ja (wpAny_storeSet_of ho hd ?_ (fits_of_scanBound hb1))
   have ho1:=Zu ho hd es1 t2;have sb1:=J6 s.heap a (Obj.putSet es1 t2);split
   ·have hp:=relayAll_perm t2 es1 (SetTable.grown es1.size)
    have hfr:=relayAll_fits t2 es1 (SetTable.grown es1.size);obtain⟨k1,k2⟩:=wH t2 es1 (SetTable.grown es1.size)
    have wr:TW w (relayAll t2 es1 (SetTable.grown es1.size)).2.1:=by
     rcases w2 with z|⟨z1,z2⟩
     ·exact .inl z
     ·exact .inr #[k2.trans z1,k1]
    generalize relayAll t2 es1 (SetTable.grown es1.size)=Rl at hp hfr wr⊢
    obtain⟨es2,t3,g2⟩:=Rl
    dsimp only at hp hfr wr⊢
    have hb2:es2.size<scanBound:=by rw[<- Jo,hp.length_eq,Jo];exact hb1
    refine Ja (hgw _ (Ja (wpAny_storeSet_of ho1 rfl ?_ (fits_of_scanBound hb2))))
    exact Jd (hZ _ (sb1.trans (J6 _ a _)) #[_,es2,_,t3,Zu ho1 rfl es2 t3,hex,rfl,hfr,hb2,hel1.perm hp,(hp.map _).trans hpm1,wr])
   ·exact Jd (hZ _ sb1 #[_,es1,_,t2,ho1,hex,rfl,f2,hb1,hel1,hpm1,w2])
  have fin:∀h',Ψ.SameBut a s.heap h'->SetK knd kf h' a (ks++[k])->Q true {s with heap:=h'}:=fun h' b1 b2=>by
   have:=h h' b1 (by rw[Jc hk];exact b2)
   rw[Jh (by simpa using hk)]at this
   exact this
  refine Ja (hgw _ ?_)
  split
  ·refine Ja ?_
   rw[hashByValue_scannable 8 hsc];refine Jd ?_
   refine key _ ?_ ?_ _ fun h' b1 b2=>Jd (fin h' b1 b2)
   ·split
    ·exact hfits
    ·exact SetTable.fits_plain_off hfits
   ·split
    ·exact htk
    ·rcases htk with z|⟨z1,z2⟩
     ·exact .inl z
     ·exact .inr #[z1,fun z=>nomatch z]
  ·refine Ja (Jd ?_)
   simp only[↓reduceIte];exact key _ hfits htk _ fun h' b1 b2=>Jd (fin h' b1 b2)
end
def Zj{K:Type} [DecidableEq K](acc:List K)(k:K):List K:=if k∈acc then acc else acc++[k]
def cr{K:Type} [DecidableEq K](val:Nat->K)(i:Nat):List K:=((List.range i).map val).foldl Zj []
theorem lW{K:Type} [DecidableEq K](val:Nat->K)(i:Nat):cr val (i+1)=Zj (cr val i) (val i):=by
 unfold cr;rw[List.range_succ,JJ,List.foldl_append];rfl
theorem ph{K:Type} [DecidableEq K](val:Nat->K):∀i,(cr val i).length<=i
 |0=>Jf _
 |i+1=>by
  rw[lW];unfold Zj
  have:=ph val i
  split
  ·lia
  ·rw[Jt,EM];lia
def ddL{K:Type} [DecidableEq K](l:List K):List K:=l.foldl Zj []
theorem uY{K:Type} [DecidableEq K] [Inhabited K](l:List K):cr (fun i=>l.getD i default) l.length=ddL l:=by
 unfold cr ddL;congr 1
 apply List.ext_getElem
 ·simp
 ·intro i h1 h2
  simp [JA,h2]
abbrev Qj(led:Bool):Obj:={cls:= .type "set",dict:=none,data:= .set (List.toArray []) 0 (.fresh 0 0 led)}
section
variable{prog:Ξ}{w:Ω}{K:Type} [DecidableEq K]{knd:PySem.KeyKind prog w K}{kf:Γ->K}
theorem AS{h:Ψ}{a:Δ}(hg:h.get? a=some (Qj (!zw w))):SetK knd kf h a []:=by
 refine#[_,(List.toArray []),0,_,hg,#[rfl,rfl,rfl],rfl,rfl,by unfold scanBound;simp,(fun e he=>nomatch he),List.Perm.nil,?_]
 cases e:zw w with
 |true=>exact .inl e
 |false=>exact .inr #[rfl,fun _=>List.Pairwise.nil]
section
variable{A:Around}{R:Result->Θ->Prop}{I:Δ}{fp wr:List Δ}{G:Array GenState->Array GenState->Prop}{n:Nat}{P:Nat->Γ->Prop}{St:Nat->Θ->Prop}
theorem BW(hkf:∀k v,knd.is k v=true->kf v=k)(W:WalksS prog w A.in1 I fp wr G n P St)(S:Δ)(hSf:S∉fp)
  (val:Nat->K)(hval:∀i v,P i v->knd.is (val i) v=true/\v.scannable=true)(hb:n+1<scanBound):
  ∀(k i:Nat) (s:Θ),n-i=k->i<=n->St i s->SetK knd kf s.heap S (cr val i)->
   (∀s',Moved (S::wr) G s s'->SetK knd kf s'.heap S (cr val n)->R (.ok (.ret .none)) s')->
   codeAny (model prog w) A (.builtin "set.update.loop" #[[.ref S,.ref I],[]]) R s:=by
 have hSw:S∉wr:=fun h=>hSf (W.sub _ h)
 have hsub:∀b∈wr,b∈S::wr:=fun b hb=>JE _ hb
 intro k
 induction k with
 |zero=>
  intro i s hk hi hst hS hR;have hin:i=n:=by lia
  subst hin;refine ER PyProof.Rows.F.entry_set_update_loop ?_
  rw[Around.under_plainId PyProof.Rows.F.plain_set_update_loop _]
  show ζ _ A.in1 (pyNext (.ref I) >>= _) _ _ s
  refine Ja (W.done s _ _ hst fun s' hm=>?_)
  show ζ _ A.in1 (ret Γ.none) _ _ s'
  exact Jd (hR s' (hm.mono hsub) (hS.at fun o e=>hm.heap S _ hSw e))
 |succ k ih=>
  intro i s hk hi hst hS hR;have hlt:i<n:=by lia
  refine ER PyProof.Rows.F.entry_set_update_loop ?_
  rw[Around.under_plainId PyProof.Rows.F.plain_set_update_loop _]
  show ζ _ A.in1 (pyNext (.ref I) >>= _) _ _ s
  refine Ja (W.item i s _ _ hlt hst fun v s' hP hst' hm=>?_)
  obtain⟨hv1,hv2⟩:=hval i v hP;have hS':SetK knd kf s'.heap S (cr val i):=hS.at fun o e=>hm.heap S _ hSw e
  show ζ _ A.in1 (holding [v] (setAdd S v) >>= _) _ _ s'
  refine Ja (JD ?_)
  unfold setAdd;refine JD (Ja (knd.pyHash (k:=val i) hv1 ?_))
  have:=ph val i
  refine pZ (s:={s' with toks:=s'.toks+1}) hkf hv1 hv2 hS' (by lia) fun h' hsb hS2=>?_
  have hSi:SetK knd kf h' S (cr val (i+1)):=by rw[lW];exact hS2
  refine Jd #[plainId_quiet PyProof.Rows.F.plain_set_update_loop _,ih (i+1) _ (by lia) hlt (W.frame _ s' _ _ hst' (EW _) fun b hb o e=>?_) hSi fun s'' hm'' hS''=>?_]
  ·rw[hsb.2 b (fun h:b=S=>hSf (by rw[<- h];exact hb))];exact e
  ·refine hR s'' (Moved.trans W.gtrans ((hm.mono hsub).then_heap (EW _) fun b o hb e=>?_) hm'') hS''
   rw[hsb.2 b (fun h:b=S=>hb (by rw[h];exact Jv))];exact e
end
variable{A:Around}{E:F2}{s:Θ}
theorem Dh(a:Γ){Q₁:F2}(h:Q₁ (.ref s.heap.objs.size) {s with heap:=s.heap.push (Qj (!zw w))}):
  codeAny (model prog w) A (.call (.builtin "set.__new__") #[[.type "set",a],[]]) (wants Q₁ E) s:=by
 refine codeAny_of_tree ?_
 show ζ _ A.in1 (do checkBuiltinCall "set.__new__" #[[.type "set",a],[]];again (.builtin "set.__new__" #[[.type "set",a],[]])) _ _ s
 refine Ja (Ez (PySem.F.newCall_set_1 a) (Jd #[plainId_quiet PySem.F.plain_set_new _,ER PySem.F.entry_set_new ?_]))
 rw[Around.under_plainId PySem.F.plain_set_new _];unfold δ.«set.__new__» δ.Frozenset.newClass
 have hsub:=sub_set_self;obtain⟨hp,g,d,tk,os⟩:=s
 dsimp only
 wp_walk
 refine wpAny_askSetting (Jd ?_)
 dsimp only
 simp only[newObj];refine Ja (wpAny_alloc (Jd ?_))
 exact Jd h
def yK(knd:PySem.KeyKind prog w K)(kf:Γ->K)(s:Θ)(ks:List K)(r:Γ)(s₂:Θ):Prop:=
 r= .none/\∃h' tk,s₂={s with heap:=h',toks:=tk}/\SetK knd kf h' s.heap.objs.size ks/\∀b o,b<s.heap.objs.size->s.heap.get? b=some o->h'.get? b=some o
theorem CK(hkf:∀k v,knd.is k v=true->kf v=k){t:Δ}{items:Array Γ}{val:Nat->K}(hh:A.handled=none)(ht:s.heap.IsList t items)
  (hv:∀i v,items[i]? =some v->knd.is (val i) v=true/\v.scannable=true)(hb:items.size+1<scanBound):
  ζ (model prog w) A.in1.in1 (δ.«set.__init__» #[[.ref s.heap.objs.size,.ref t],[]]) (fun fin s'=>∃v,fin= .done (.ret v)/\yK knd kf s (cr val items.size) v s') E {s with heap:=s.heap.push (Qj (!zw w))}:=by
 obtain⟨⟨oc,od,ot,os⟩,e1,e2,n,e3⟩:=ht;simp only at e2 e3
 subst e2 e3;have e1':(s.heap.push (Qj (!zw w))).get? t=some #[.type "list",od,.seq items n,os]:=Jj _ e1
 have f1:=PySem.F.sub_list_set;have f2:=PySem.F.sub_list_frozenset;have f3:(Γ.type "list"==Γ.type "dict")=false:=by decide
 have t1:(s.heap.push (Qj (!zw w))).IsList t items:=#[_,e1',rfl,n,rfl]
 have hS:(s.heap.push (Qj (!zw w))).get? s.heap.objs.size=some (Qj (!zw w)):=Js _ rfl
 unfold δ.«set.__init__» noKeywords δ.Frozenset.updateFrom
 generalize hPI:pyIter=PI
 wp_walk
 subst hPI;refine Fc t1 (Ja (wpAny_runValue ?_))
 have lt:t<s.heap.objs.size:=Ji e1
 have sz:(s.heap.push (Qj (!zw w))).objs.size=s.heap.objs.size+1:=JX ..
 have h3:A.in1.in1.in1.handled=none:=by simp [hh]
 have ni:t≠(s.heap.push (Qj (!zw w))).objs.size:=by rw[sz];exact Jk (Eo lt)
 have nS:s.heap.objs.size∉[(s.heap.push (Qj (!zw w))).objs.size,t]:=by
  rw[sz];simp only[Jr,Ex,Ey,not_or]
  exact#[Jk (Ew _),J7 lt]
 refine BW hkf ((Walks.list h3 _ t ni items).toS) s.heap.objs.size nS val hv hb items.size 0 _ (by lia) (JC _) #[#[_,Js _ rfl,rfl,rfl],t1.push _] (AS (Jj _ hS)) fun s' mv hS'=>?_
 obtain⟨h',g',d',tk',os'⟩:=s'
 obtain rfl:g'=s.gens:=mv.gens
 obtain rfl:d'=s.drawn:=mv.drawn
 obtain rfl:os'=s.os:=mv.os
 show ζ _ _ _ _ _ _
 refine Jd ?_
 show ζ _ _ (ret Γ.none) _ _ _
 refine Jd #[_,rfl,rfl,h',tk',rfl,hS',fun b o hb' e=>mv.heap b o ?_ (Jj _ (Jj _ e))]
 rw[sz];simp only[Jr,Ex,Ey,not_or]
 exact#[Jk hb',Jk (Eo hb')]
theorem sL(hkf:∀k v,knd.is k v=true->kf v=k){t:Δ}{items:Array Γ}{val:Nat->K}{Q:F2}(hh:A.handled=none)(ht:s.heap.IsList t items)
  (hv:∀i v,items[i]? =some v->knd.is (val i) v=true/\v.scannable=true)(hb:items.size+1<scanBound)
  (h:∀(h':Ψ) (tk:Nat),SetK knd kf h' s.heap.objs.size (cr val items.size)->(∀b o,s.heap.get? b=some o->h'.get? b=some o)->Q (.ref s.heap.objs.size) {s with heap:=h',toks:=tk}):
  ζ (model prog w) A (call (.type "set") [.ref t]) Q E s:=by
 obtain⟨c,tl,hmro⟩:=PySem.F.called_set.mro;have m1:=PySem.F.called_set.made;have m2:=PySem.F.called_set.sub;have m3:=PySem.F.called_set.notType;have m4:=PySem.F.called_set.canCreate;have m5:=PySem.F.typeCall_set_1 (.ref t);refine wpAny_call (codeAny_of_tree ?_)
 show ζ _ _ (callAny (.type "set") _) _ _ _
 refine Jd #[Code.quiet_builtin _ (by decide +kernel),ER PySem.F.entry_type_call ?_]
 rw[Around.under_plain (weight_type_call_type "set" [.ref t] []) rfl]
 repeat (any_goals (first|assumption|wp_step))
 refine E3 (Dh (.ref t) (E:=E) (Q₁:=fun obj s₁=>obj= .ref s.heap.objs.size/\s₁={s with heap:=s.heap.push (Qj (!zw w))}) #[rfl,rfl]) fun r s₁ hr=>?_
 cases r with
 |error e=>exact hr
 |ok fl=>
  cases fl with
  |ret obj=>
   obtain⟨rfl,rfl⟩:=hr;have hT:Θ.TypeIs {s with heap:=s.heap.push (Qj (!zw w))} (.ref s.heap.objs.size) "set":=#[_,Js _ rfl,rfl]
   have n1:=PySem.F.called_set.init.lookup;have n2:=PySem.F.called_set.init.bind (.ref s.heap.objs.size)
   repeat (any_goals (first|assumption|wp_step))
   refine E3 (codeAny_call_builtin (R:=wants (yK knd kf s (cr val items.size)) E) PySem.F.called_set.init.plain PySem.F.entry_set_init (check_set_init_1 hT (Jw (CK hkf hh ht hv hb) (fun fin s' ⟨v,e,d⟩=>by subst e;exact d) fun _ _ z=>z))) fun r₂ s₂ hr₂=>?_
   cases r₂ with
   |error e=>exact hr₂
   |ok fl₂=>
    cases fl₂ with
    |ret r=>
     obtain⟨rfl,h',tk,rfl,hS',hk'⟩:=hr₂
     repeat (any_goals (first|assumption|wp_step))
     exact h _ _ hS' fun b o e=>hk' b o (Ji e) e
    |_=>exact hr₂.elim
  |_=>exact hr.elim
end
theorem cA{α:Type}:∀(l:List α) (i:Nat) (x:α),l[i]? =some x->(x::l.eraseIdx i).Perm l
 | [],i,x,h=>by simp at h
 |y::l,0,x,h=>by simp at h;subst h;exact List.Perm.refl _
 |y::l,i+1,x,h=>by
  have ih:=cA l i x (by simpa using h)
  rw[List.eraseIdx_cons_succ]
  exact(List.Perm.swap y x _).trans (ih.cons y)
theorem oq{α:Type}(next:Nat->Nat):∀(f k:Nat) (l:List α) (out:Array α),l.length=f->(pickOrder.go next f k l out).toList.Perm (out.toList++l)
 |0,k,l,out,h=>by
  have e:l=[]:=List.length_eq_zero_iff.mp h
  subst e;unfold pickOrder.go;simp
 |f+1,k,l,out,h=>by
  unfold pickOrder.go;have hm:next k%l.length<l.length:=Nat.mod_lt _ (by lia)
  have hg:=Jg hm;rw[hg]
  dsimp only
  have hp:=cA l _ _ hg;refine(oq next f (k+1) _ _ (by rw[List.length_eraseIdx,Jb hm];lia)).trans ?_
  rw[Array.toList_push,EL];exact List.Perm.append_left _ hp
theorem jT{α:Type}(next:Nat->Nat)(xs:Array α):(pickOrder next xs).toList.Perm xs.toList:=by
 have:=oq next xs.size 0 xs.toList (List.toArray []) (by simp)
 simpa [pickOrder]using this
section
variable{M:Model}{A:Around}{E:F2}
theorem mU{s:Θ}{src:Source}{n:Nat}{Q:Nat->Θ->Prop}(hn:n≠0)(h:∀i,i<n->Q i {s with drawn:=s.drawn.bump src}):ζ M A (choose src n) Q E s:=
 fun _ _ _=>#[hn,h _ (Nat.mod_lt _ (Nat.pos_of_ne_zero hn))]
theorem ir{α:Type}:∀(n:Nat) (xs:List α) {s:Θ} {Q:List α->Θ->Prop},xs.length<=n->(∀ys d,ys.Perm xs->Q ys {s with drawn:=d})->ζ M A (drawOrder n xs) Q E s
 |0,xs,s,Q,hl,h=>by
  have e:xs=[]:=List.length_eq_zero_iff.mp (by lia)
  subst e;exact Jd (h [] s.drawn (List.Perm.refl _))
 |n+1,[],s,Q,hl,h=>Jd (h [] s.drawn (List.Perm.refl _))
 |n+1,x::xs,s,Q,hl,h=>by
  show ζ M A (do
   let i <- choose .order (x::xs).length
   match(x::xs)[i]? with
   |some y=>return y::(<- drawOrder n ((x::xs).eraseIdx i))
   |none=>unsupported "internal:drawOrder") Q E s
  refine Ja (mU (by simp) fun i hi=>?_)
  have hg:=Jg hi;rw[hg]
  dsimp only
  refine Ja (ir n _ (by rw[List.length_eraseIdx,Jb hi];simp at hl⊢;lia) fun ys d hp=>Jd (h _ d ?_))
  exact(hp.cons _).trans (cA _ _ _ hg)
end
abbrev lR(f:Γ)(i:Nat)(a:Δ)(n ep:Nat):Obj:={cls:= .type "set_iterator",data:= .fields (List.toArray [f,.int i 0,.ref a,.int n 0,.int ep 0])}
def Way(w:Ω)(a T:Δ)(es:Array (Int×Γ))(ep:Nat)(t:SetTable)(vs:List Γ)(i:Nat)(f:Γ)(h:Ψ):Prop:=
 (zw w=true/\(∃z:Nat,f= .int z 0)/\vs=(pickOrder (w.params.setOrder a ep) es).toList.map (·.2))\/
 (zw w=false/\(!t.plain&&decide (es.size>1))=false/\t.led=true/\Rs t.place/\(∃z:Nat,f= .int z 0/\SetTable.below t.place z=i)/\vs=es.toList.map (·.2))\/
 (∃ps:List Nat,f= .ref T/\h.IsTuple T (ps.map fun p:Nat=>Γ.int (p:Int) 0).toArray/\vs.map some=ps.map fun p=>es[p]?.map (·.2))
theorem Way.keep{w:Ω}{a T:Δ}{es:Array (Int×Γ)}{ep:Nat}{t:SetTable}{vs:List Γ}{i:Nat}{f:Γ}{h h':Ψ}(x:Way w a T es ep t vs i f h)
  (e:∀o,h.get? T=some o->h'.get? T=some o):Way w a T es ep t vs i f h':=by
 rcases x with x|x|⟨ps,x1,⟨o,x2,x3⟩,x4⟩
 ·exact .inl x
 ·exact .inr (.inl x)
 ·exact .inr (.inr #[ps,x1,#[o,e _ x2,x3],x4])
theorem sr(a:Δ)(sl gv ep:Nat):setNext a sl gv ep=(do
 let(es,ec,t) <- setState a
 if <- setsByText then
  if ec != ep then unsupported "set_iterator.__next__:elements-changed"
  return ((<- setWalk a)[gv]?).map fun e=>(e.2,sl)
 if !t.plain&&es.size>1 then unsupported "set_iterator.__next__:the-table-is-plain-no-more"
 (do if !t.led&& !es.isEmpty then unsupported "set:maker-not-led":Sem Unit)
 let i:=SetTable.below t.place sl
 return match es[i]?,t.place[i]? with
  |some (_,x),some j=>some (x,j+1)
  |_,_=>none):=rfl
section
variable{prog:Ξ}{w:Ω}{A:Around}{E:F2}{s:Θ}
theorem QN{Q:Bool->Θ->Prop}(h:Q (zw w) s):ζ (model prog w) A setsByText Q E s:=
 Ja (wpAny_askSetting (Jd h))
variable{a T:Δ}{o:Obj}{es:Array (Int×Γ)}{ep:Nat}{t:SetTable}{vs:List Γ}{i:Nat}
theorem ox{Q:Option (Γ×Nat)->Θ->Prop}(ho:s.heap.get? a=some o)(hd:o.data= .set es ep t)(hf:t.fits es.size=true){z:Nat}(W:Way w a T es ep t vs i (.int z 0) s.heap)
  (h:∀r,r.map (·.1)=vs[i]? ->(∀z':Nat,r.map (·.2)=some z'->Way w a T es ep t vs (i+1) (.int z' 0) s.heap)->Q r s):ζ (model prog w) A (setNext a z i ep) Q E s:=by
 rw[sr];refine Ja (wpAny_setState_of ho hd hf ?_)
 dsimp only
 refine Ja (QN ?_)
 rcases W with⟨w1,⟨z1,w2⟩,w3⟩|⟨w1,w2,w3,w4,⟨z1,w5,w6⟩,w7⟩|⟨ps,w1,_⟩
 ·rw[w1,Jb rfl]
  simp only[bne_self_eq_false,Bool.false_eq_true,Jz];refine Ja ?_
  unfold setWalk;refine Ja (wpAny_setState_of ho hd hf ?_)
  dsimp only
  refine Ja (QN ?_)
  rw[w1,Jb rfl];refine Ja (wpAny_askSetting (Jd (Jd (h _ ?_ fun z' _=> .inl #[w1,#[z',rfl],w3]))))
  rw[w3,Jn,Option.map_map,Array.getElem?_toList];rfl
 ·rw[w1,Jc (by decide),w2]
  simp only[Bool.false_eq_true,Jz,w3,Bool.not_true,Ei];refine Ja (Jd ?_)
  have ez:z=z1:=by injection w5 with w5;lia
  subst ez;rw[w6];have hps:t.place.size=es.size:=by
   simp only[SetTable.fits,Ju,JT]at hf;exact hf.1
  refine Jd (h _ ?_ fun z' hz=> .inr (.inl #[w1,w2,w3,w4,#[z',rfl,?_],w7]))
  ·rw[w7,Jn,Array.getElem?_toList]
   by_cases hi:i<es.size
   ·rw[getElem?_pos es i hi,getElem?_pos t.place i (by lia)];rfl
   ·rw[Array.getElem?_eq_none (by lia)];rfl
  ·by_cases hi:i<es.size
   ·have hi':i<t.place.size:=by lia
    rw[getElem?_pos es i hi,getElem?_pos t.place i hi']at hz;simp only[Option.map_some,Option.some.injEq]at hz;subst hz;obtain⟨b1,b2,b3⟩:=cV w4 (t.place[i]+1)
    generalize SetTable.below t.place (t.place[i]+1)=p at *
    have c1:¬p<=i:=fun c=>by have:=b3 i hi' c;lia
    have c2:¬i+2<=p:=fun c=>by
     have hj:i+1<t.place.size:=by lia
     have d1:=b2 (i+1) hj (by lia)
     have d2:=w4.at hi' hj (by lia)
     lia
    lia
   ·rw[Array.getElem?_eq_none (by lia)]at hz;simp at hz
 ·cases w1
end
theorem slot_si_next:Slot "set_iterator" "__next__" "set_iterator.__next__":=
 .of (owner:="set_iterator") (n:="__next__") (by rw[Fl,Fm];kernel_rfl) (by decide +kernel) (by decide +kernel) (by decide +kernel)
  (by first|exact .inl (by decide +kernel)|exact .inr (by decide +kernel)) (by rw[E2];kernel_rfl)
theorem c7:entryFor table "set_iterator.__next__"=some δ.«set_iterator.__next__»:=entryFor_of_tree (by kernel_rfl)
theorem eU(a:Γ):argsOk "set_iterator.__next__" #[[a],[]]:=by unfold argsOk;kernel_rfl
theorem eC:Slot "set_iterator" "__iter__" "set_iterator.__iter__":=
 .of (owner:="set_iterator") (n:="__iter__") (by rw[Fl,Fm];kernel_rfl) (by decide +kernel) (by decide +kernel) (by decide +kernel)
  (by first|exact .inl (by decide +kernel)|exact .inr (by decide +kernel)) (by rw[E2];kernel_rfl)
theorem km:entryFor table "set_iterator.__iter__"=some δ.«dict_keyiterator.__iter__»:=
 entryFor_alias (id':="dict_keyiterator.__iter__") (by kernel_rfl) rfl (by decide +kernel) (by kernel_rfl)
theorem lQ(a:Γ):argsOk "set_iterator.__iter__" #[[a],[]]:=by unfold argsOk;kernel_rfl
theorem i8:entryFor table "set.__iter__"=some δ.«frozenset.__iter__»:=
 entryFor_alias (id':="frozenset.__iter__") (by kernel_rfl) rfl (by decide +kernel) (by kernel_rfl)
section
variable{prog:Ξ}{w:Ω}{A:Around}{E:F2}{s:Θ}
variable{a T:Δ}{o:Obj}{es:Array (Int×Γ)}{ep:Nat}{t:SetTable}{vs:List Γ}{i:Nat}{f:Γ}
theorem ft{h:Ψ}{I:Δ}{o:Obj}{xs:Array Γ}(ho:h.get? I=some o)(hd:o.data= .fields xs)(k:Nat)(x:Γ):
  (h.update I (Obj.mapFields (·.setIfInBounds k x))).get? I=some {o with data:= .fields (xs.setIfInBounds k x)}:=by
 rw[EY _ ho (FF (E5 hd _))];obtain⟨c,d,dt,sl⟩:=o
 dsimp only at hd
 subst hd;rfl
theorem AI{I:Δ}{v:Γ}{Q:Option Γ->Θ->Prop}(hI:s.heap.get? I=some (lR f i a es.size ep))(ho:s.heap.get? a=some o)(hd:o.data= .set es ep t)(hf:t.fits es.size=true)
  (W:Way w a T es ep t vs i f s.heap)(nT:T≠I)(hv:vs[i]? =some v)
  (hQ:∀f' h',Ψ.SameBut I s.heap h'->h'.get? I=some (lR f' (i+1) a es.size ep)->Way w a T es ep t vs (i+1) f' h'->Q (some v) {s with heap:=h'}):
  ζ (model prog w) A (pyNext (.ref I)) Q E s:=by
 have hT:s.TypeIs (.ref I) "set_iterator":=#[_,hI,rfl]
 unfold pyNext;refine Ja (Fk (wpAny_callSpecial?_slot (name:=Str.ofString "__next__") hT slot_si_next (J1 slot_si_next hT c7 ?_ (eU _))))
 unfold δ.«set_iterator.__next__»
 refine Ja (Jd (Ja (wpAny_fieldsOf hI rfl ?_)))
 dsimp only
 refine Ja ?_
 unfold setEntries;refine Ja (wpAny_setState_of ho hd hf (Jd ?_))
 dsimp only
 simp only[bne_self_eq_false,Bool.false_eq_true,Jz];have keep:∀(k:Nat) (x:Γ),∀(h:Ψ),∀o,h.get? T=some o->(h.update I (Obj.mapFields (·.setIfInBounds k x))).get? T=some o:=fun k x h o e=>by
  rw[Fi _ _ (Ne.symm nT)];exact e
 have fin:∀(E':F2) (z:Nat),f= .int z 0->ζ (model prog w) A.in1 (do
   match <- setNext a z i ep with
   |some (x,next)=>
    setField (.ref I) 0 (rawInt next)
    setField (.ref I) 1 (rawInt ((i:Int)+1))
    ret x
   |none=>setField (.ref I) 2 .none;raiseNew (<- newExc (.type "StopIteration") [])) (fun fin s'=>∃v,fin= .done (.ret v)/\(ζ (model prog w) A (pure (some v)) Q E s')) E' s:=by
  intro E' z hz;subst hz;refine Ja (ox ho hd hf W fun r h1 h2=>?_)
  rw[hv]at h1;cases r with
  |none=>cases h1
  |some p=>
   obtain⟨x,j⟩:=p;simp only[Option.map_some,Option.some.injEq]at h1;subst h1
   dsimp only
   refine Ja (ED hI rfl (by simp) ?_)
   have g1:=ft hI rfl 0 (rawInt (j:Int))
   refine Ja (ED g1 rfl (by simp) ?_)
   have g2:=ft g1 rfl 1 (rawInt ((i:Int)+1))
   refine Jd #[_,rfl,Jd (hQ (.int j 0) _ ((J6 ..).trans (J6 ..)) ?_ ((h2 j rfl).keep fun o e=>keep _ _ _ _ (keep _ _ _ _ e)))]
   rw[g2];simp [rawInt]
 rcases id W with⟨_,⟨z,rfl⟩,_⟩|⟨_,_,_,_,⟨z,rfl,_⟩,_⟩|⟨ps,rfl,⟨oT,k1,k2,n,k3⟩,k4⟩
 ·exact fin _ z rfl
 ·exact fin _ z rfl
 ·dsimp only
  refine Ja (FE k1 k3 ?_)
  dsimp only
  have h1:(vs.map some)[i]? =some (some v):=by rw[Jn,hv];rfl
  rw[k4,Jn]at h1;obtain⟨p,hp,h2⟩:=JW.mp h1;obtain⟨e,he,h3⟩:=JW.mp h2;have h4:((ps.map fun p:Nat=>Γ.int (p:Int) 0).toArray)[((i:Nat):Int).toNat]? =some (.int (p:Int) 0):=by
   rw[EC,List.getElem?_toArray,Jn,hp];rfl
  rw[h4]
  dsimp only
  refine Ja ?_
  unfold setNextDrawn;refine Ja (wpAny_setState_of ho hd hf ?_)
  dsimp only
  rw[EC,EC,he];simp only[bne_self_eq_false,Bool.false_eq_true,Jz];refine Jd (Ja (ED hI rfl (by simp) ?_))
  have g1:=ft hI rfl 1 (rawInt ((i:Int)+1))
  refine Jd #[_,rfl,Jd ?_]
  rw[h3];refine hQ (.ref T) _ (J6 ..) ?_ (.inr (.inr #[ps,rfl,#[oT,keep _ _ _ _ k1,k2,n,k3],k4]))
  rw[g1];simp [rawInt]
theorem uv{B:Around}{s:Θ}{Q:Option Γ->Θ->Prop}(hh:B.handled=none)(h:∀h',(∀b o,s.heap.get? b=some o->h'.get? b=some o)->Q none {s with heap:=h'}):
  ζ (model prog w) B.in1 (newExc (.type "StopIteration") [] >>= raiseNew) (fun(fin:Fin) s'=>∃v,fin= .done (.ret v)/\ζ (model prog w) B (pure (some v)) Q E s')
   (fun e s'=>ζ (model prog w) B (do
     let __do_lift <- isInstance e (Γ.type "StopIteration")
     if __do_lift=true then pure none else throw e) Q E s') s:=by
 refine Ja ?_
 simp only[newExc,newTuple];refine Ja (J5 ?_ (by size_fits))
 refine Ja (m:=firstArgMember _ _) (Ez (a:=Γ.none) (by first|rfl|(simp only[firstArgMember];rfl)) ?_)
 refine J5 ?_ (by size_fits)
 simp only[raiseNew];refine Ja (wpAny_handled ?_)
 rw[show B.in1.handled=none from hh]
 refine Ja (Jd (wpAny_throw ?_))
 refine Ja (E6 (T:="StopIteration") (b:=true) #[_,Js _ rfl,rfl] isSubtype_stop ?_)
 exact Jd (h _ fun b o e=>Jj _ (Jj _ e))
theorem BF{I:Δ}{Q:Option Γ->Θ->Prop}(hh:A.handled=none)(hI:s.heap.get? I=some (lR f i a es.size ep))(ho:s.heap.get? a=some o)(hd:o.data= .set es ep t)(hf:t.fits es.size=true)
  (W:Way w a T es ep t vs i f s.heap)(hv:vs[i]? =none)
  (hQ:∀h',(∀b o,b≠I->s.heap.get? b=some o->h'.get? b=some o)->Q none {s with heap:=h'}):
  ζ (model prog w) A (pyNext (.ref I)) Q E s:=by
 have hT:s.TypeIs (.ref I) "set_iterator":=#[_,hI,rfl]
 unfold pyNext;refine Ja (Fk (wpAny_callSpecial?_slot (name:=Str.ofString "__next__") hT slot_si_next (J1 slot_si_next hT c7 ?_ (eU _))))
 unfold δ.«set_iterator.__next__»
 refine Ja (Jd (Ja (wpAny_fieldsOf hI rfl ?_)))
 dsimp only
 refine Ja ?_
 unfold setEntries;refine Ja (wpAny_setState_of ho hd hf (Jd ?_))
 dsimp only
 simp only[bne_self_eq_false,Bool.false_eq_true,Jz];have oth:∀(k:Nat) (x:Γ) (h:Ψ) (b:Δ) (o:Obj),b≠I->h.get? b=some o->(h.update I (Obj.mapFields (·.setIfInBounds k x))).get? b=some o:=fun k x h b o n e=>by
  rw[Fi _ _ (Ne.symm n)];exact e
 have fin:∀(z:Nat),f= .int z 0->ζ (model prog w) A.in1 (do
   match <- setNext a z i ep with
   |some (x,next)=>
    setField (.ref I) 0 (rawInt next)
    setField (.ref I) 1 (rawInt ((i:Int)+1))
    ret x
   | none=>setField (.ref I) 2 .none;raiseNew (<- newExc (.type "StopIteration") [])) (fun fin s'=>∃v,fin= .done (.ret v)/\(ζ (model prog w) A (pure (some v)) Q E s')) (fun e s'=>ζ (model prog w) A (do
     let __do_lift <- isInstance e (Γ.type "StopIteration")
     if __do_lift=true then pure none else throw e) Q E s') s:=by
  intro z hz;subst hz;refine Ja (ox ho hd hf W fun r h1 h2=>?_)
  rw[hv]at h1;cases r with
  |some p=>cases h1
  |none=>
   dsimp only
   refine Ja (ED hI rfl (by simp) ?_)
   exact uv hh fun h' hk=>hQ h' fun b o n e=>hk b o (oth _ _ _ _ _ n e)
 rcases id W with⟨_,⟨z,rfl⟩,_⟩|⟨_,_,_,_,⟨z,rfl,_⟩,_⟩|⟨ps,rfl,⟨oT,k1,k2,n,k3⟩,k4⟩
 ·exact fin z rfl
 ·exact fin z rfl
 ·dsimp only
  refine Ja (FE k1 k3 ?_)
  dsimp only
  have h1:(vs.map some)[i]? =none:=by rw[Jn,hv];rfl
  rw[k4,Jn]at h1;have h4:((ps.map fun p:Nat=>Γ.int (p:Int) 0).toArray)[((i:Nat):Int).toNat]? =none:=by
   rw[EC,List.getElem?_toArray,Jn];cases hp:ps[i]? with
   |none=>rfl
   |some p=>rw[hp]at h1;cases h1
  rw[h4]
  dsimp only
  refine Ja (ED hI rfl (by simp) ?_)
  have g1:=ft hI rfl 0 (rawInt 0);refine Ja (ED g1 rfl (by simp) ?_)
  exact uv hh fun h' hk=>hQ h' fun b o n e=>hk b o (oth _ _ _ _ _ n (oth _ _ _ _ _ n e))
theorem vm{I:Δ}(hh:A.handled=none)(nT:T≠I)(na:a≠I)(hl:vs.length=es.size):Walks prog w A I [I,a,T] [I] es.size (fun i v=>vs[i]? =some v)
  (fun i h=>(∃o,h.get? a=some o/\o.data= .set es ep t/\t.fits es.size=true)/\∃f,h.get? I=some (lR f i a es.size ep)/\Way w a T es ep t vs i f h) where
 sub:=fun b hb=>by simp at hb;simp [hb]
 frame:=fun i h h' ⟨⟨o,x1,x2⟩,f,x3,x4⟩ hk=>#[#[o,hk a (by simp) o x1,x2],f,hk I (by simp) _ x3,x4.keep fun o e=>hk T (by simp) o e]
 item:=fun i s Q E hi ⟨⟨o,x1,x2,x2'⟩,f,x3,x4⟩ hQ=>by
  have hv:vs[i]? =some vs[i]:=Jg (by omega)
  refine AI x3 x1 x2 x2' x4 nT hv fun f' h' hs h1 h2=>hQ _ h' s.toks hv #[#[o,by rw[hs.2 a na];exact x1,x2,x2'],f',h1,h2] fun b o hb e=>?_
  rw[hs.2 b (fun h=>hb (by simp [h]))];exact e
 done:=fun s Q E ⟨⟨o,x1,x2,x2'⟩,f,x3,x4⟩ hQ=>BF hh x3 x1 x2 x2' x4 (FS (by omega)) fun h' hk=>hQ h' s.toks fun b o hb e=>hk b o (fun h=>hb (by simp [h])) e
 self:=fun i s Q E ⟨_,f,x3,_⟩ hQ=>by
  have hT:s.TypeIs (.ref I) "set_iterator":=#[_,x3,rfl]
  refine wpAny_pyIter_slot hT eC (J1 eC hT km ?_ (lQ _))
  show ζ _ _ (ret (.ref I)) _ _ s
  exact Jd #[_,rfl,"set_iterator",_,hT,slot_si_next.lookup,hQ]
end
section
variable{prog:Ξ}{w:Ω}{A:Around}{E:F2}{s:Θ}
variable{a:Δ}{o:Obj}{es:Array (Int×Γ)}{ep:Nat}{t:SetTable}
theorem rl{xs:Array Nat}(h:Rs xs):SetTable.below xs 0=0:=by
 obtain⟨h1,h2,h3⟩:=cV h 0;generalize SetTable.below xs 0=p at *
 cases p with
 |zero=>rfl
 |succ p=>exact absurd (h2 0 (by lia) (by lia)) (Nat.not_lt_zero _)
theorem Rs.few{xs:Array Nat}(h:xs.size<=1):Rs xs:=by
 unfold Rs;rw[List.pairwise_iff_getElem];intro i j hi hj hij;simp at hi hj
 lia
theorem rL{ps:List Nat}(hp:ps.Perm (List.range es.size)):∃vs:List Γ,vs.map some=(ps.map fun p=>es[p]?.map (·.2))/\vs.Perm (es.toList.map (·.2)):=by
 refine#[ps.map fun p=>(es[p]?.map (·.2)).getD .none,?_,?_]
 ·rw[Es]
  refine E7 fun p h=>?_
  have hlt:p<es.size:=JN.mp (hp.mem_iff.mp h)
  show some ((es[p]?.map (·.2)).getD .none)=_
  rw[getElem?_pos es p hlt];rfl
 ·refine(hp.map _).trans (List.Perm.of_eq ?_)
  apply List.ext_getElem
  ·simp
  ·intro i h1 h2
   simp at h1
   simp [h1]
theorem Bw{Q:F2}(ho:s.heap.get? a=some o)(hex:o.ExactSet)(hd:o.data= .set es ep t)(hf:t.fits es.size=true)(hb:es.size<scanBound)(tw:TW w t)
  (hQ:∀(h':Ψ) (d:Drawn) (I T:Δ) (vs:List Γ) (f:Γ),s.heap.objs.size<=I->T≠I->a≠I->(T=a\/s.heap.objs.size<=T)->(∀b o,s.heap.get? b=some o->h'.get? b=some o)->vs.Perm (es.toList.map (·.2))->
   h'.get? I=some (lR f 0 a es.size ep)->Way w a T es ep t vs 0 f h'->Q (.ref I) {s with heap:=h',drawn:=d}):
  ζ (model prog w) A (pyIter (.ref a)) Q E s:=by
 have hT:s.TypeIs (.ref a) "set":=#[o,ho,hex.1]
 have hlt:a<s.heap.objs.size:=Ji ho
 refine wpAny_pyIter_slot hT PySem.F.slot_set_iter (J1 PySem.F.slot_set_iter hT i8 ?_ (PySem.F.args_set_iter_1 _))
 unfold δ.«frozenset.__iter__»
 refine Ja ?_
 show ζ _ _ (pure a) _ _ _
 refine Jd (Ja ?_)
 unfold δ.Frozenset.sizeOf setEntries;refine Ja (Ja (wpAny_setState_of ho hd hf (Jd (Jd ?_))))
 refine Ja ?_
 unfold setDrawn;refine Ja (wpAny_setState_of ho hd hf ?_)
 dsimp only
 refine Ja (QN (Jd ?_))
 show ζ _ _ (if(!zw w&&(!t.plain&&decide (es.size>1)))=true then _ else _) _ _ _
 by_cases hdr:(!zw w&&(!t.plain&&decide (es.size>1)))=true
 ·rw[Jb hdr]
  refine Ja (ir _ _ (by simp) fun ps d hp=>?_)
  obtain⟨vs,v1,v2⟩:=rL hp;refine Ja (wpAny_newTuple (items:=ps.map fun i:Nat=>rawInt (i:Int)) ?_ (by rw[Je,hp.length_eq,List.length_range];exact fits_of_scanBound hb))
  have hT1:(s.heap.push {cls:= .type "tuple",data:= .seq (ps.map fun i:Nat=>rawInt (i:Int)).toArray}).get? s.heap.objs.size=some {cls:= .type "tuple",data:= .seq (ps.map fun i:Nat=>rawInt (i:Int)).toArray}:=Js _ rfl
  have ho1:=Jj {cls:= .type "tuple",data:= .seq (ps.map fun i:Nat=>rawInt (i:Int)).toArray} ho
  unfold setEpoch;refine Ja (Ja (wpAny_setState_of (s:={s with heap:=s.heap.push {cls:= .type "tuple",data:= .seq (ps.map fun i:Nat=>rawInt (i:Int)).toArray},drawn:=d}) ho1 hd hf (Jd ?_)))
  unfold newFields;refine Ja (J5 (Jd #[_,rfl,"set_iterator",_,#[_,Js _ rfl,rfl],slot_si_next.lookup,?_]))
  refine hQ _ d _ s.heap.objs.size vs (.ref s.heap.objs.size) (by rw[JX];exact EW _) (by rw[JX];exact Jk (Ew _)) (by rw[JX];exact Jk (Eo hlt)) (.inr (Jf _))
   (fun b o e=>Jj _ (Jj _ e)) v2 (Js _ rfl) (.inr (.inr #[ps,rfl,?_,v1]))
  exact#[_,Jj _ hT1,rfl,0,rfl]
 ·rw[Jc hdr]
  refine Ja (Jd ?_)
  unfold setEpoch;refine Ja (Ja (wpAny_setState_of ho hd hf (Jd ?_)))
  unfold newFields;refine Ja (J5 (Jd #[_,rfl,"set_iterator",_,#[_,Js _ rfl,rfl],slot_si_next.lookup,?_]))
  have go:∀vs:List Γ,vs.Perm (es.toList.map (·.2))->Way w a a es ep t vs 0 (.int (0:Nat) 0) (s.heap.push (lR (.int (0:Nat) 0) 0 a es.size ep))->Q (.ref s.heap.objs.size) {s with heap:=s.heap.push (lR (.int (0:Nat) 0) 0 a es.size ep)}:=fun vs b1 b2=>
   hQ _ s.drawn _ a vs (.int (0:Nat) 0) (Jf _) (Jk hlt) (Jk hlt) (.inl rfl) (fun b o e=>Jj _ e) b1 (Js _ rfl) b2
  cases hbt:zw w with
  |true=>exact go _ ((jT _ es).map _) (.inl #[hbt,#[0,rfl],rfl])
  |false=>
   rw[hbt]at hdr;have hdr':(!t.plain&&decide (es.size>1))=false:=by simpa using hdr
   rcases tw with z|⟨z1,z2⟩
   ·rw[hbt]at z;cases z
   ·have hRs:Rs t.place:=by
     cases hp:t.plain with
     |true=>exact z2 hp
     |false=>
      rw[hp]at hdr';refine Rs.few ?_
      simp only[SetTable.fits,Ju,JT]at hf;simp at hdr'
      lia
    exact go _ (List.Perm.refl _) (.inr (.inl #[hbt,hdr',z1,hRs,#[0,rfl,rl hRs],rfl]))
theorem wG{Q:Bool->Θ->Prop}(hT:s.TypeIs (.ref a) "set")(h:Q false s):ζ (model prog w) A (δ.List.listLengthHint (.ref a)) Q E s:=by
 unfold δ.List.listLengthHint;refine Ja (E8 hT PySem.F.slot_set_len.lookup ?_)
 generalize hid:("set.__len__":String)=id0
 wp_delta
 rw[show splitId id0=some ("set","__len__")from by subst hid;decide +kernel]
 subst hid;refine Ja (E6 (T:="set") (b:=true) hT (by rw[E2];kernel_rfl) ?_)
 refine wpAny_ite_split (fun hab=>absurd hab (by decide)) (fun _=>?_)
 refine wpAny_ite_split (fun _=>?_) (fun hab=>absurd (by decide +kernel) hab)
 exact Ja (Fg hT (Jd h))
theorem jZ{Q:List Γ->Θ->Prop}(hh:A.handled=none)(ho:s.heap.get? a=some o)(hex:o.ExactSet)(hd:o.data= .set es ep t)(hf:t.fits es.size=true)(hb:es.size<scanBound)(tw:TW w t)
  (h:∀(vs:List Γ) (h':Ψ) (tk:Nat) (d:Drawn),(∀b o,s.heap.get? b=some o->h'.get? b=some o)->s.heap.objs.size<=h'.objs.size->vs.Perm (es.toList.map (·.2))->Q vs {s with heap:=h',toks:=tk,drawn:=d}):
  ζ (model prog w) A (collect (.ref a)) Q E s:=by
 unfold collect;refine Ja (wpAny_runValue (ER entry_proto_collect' ?_))
 show ζ _ _ (do again (.builtin "list.__iadd__" #[[<- newList [],.ref a],[]])) _ _ s
 refine Ja (wpAny_newList (Jd #[Code.quiet_builtin _ (by decide +kernel),ER entry_list_iadd' ?_]))
 rw[Around.under_plainId PySem.F.plain_list_iadd _];have hlt:a<s.heap.objs.size:=Ji ho
 have hLs:(s.heap.push (seqObj "list" (List.toArray []) 0)).get? s.heap.objs.size=some (seqObj "list" (List.toArray []) 0):=Js _ rfl
 have ho1:=Jj (seqObj "list" (List.toArray []) 0) ho
 show ζ _ _ (δ.List.listExtendWith (.ref s.heap.objs.size) (.ref a) (.ref s.heap.objs.size)) _ _ {s with heap:=s.heap.push (seqObj "list" (List.toArray []) 0)}
 unfold δ.List.listExtendWith;have hT1:Θ.TypeIs {s with heap:=s.heap.push (seqObj "list" (List.toArray []) 0)} (.ref a) "set":=#[o,ho1,hex.1]
 refine Ja (Fg hT1 ?_)
 have e1:δ.List.listSameRef (.ref s.heap.objs.size) (.ref a)=false:=by
  simp [δ.List.listSameRef,J7 hlt]
 have e2:(Γ.type "set"==Γ.type "list")=false:=by decide
 have e3:(Γ.type "set"==Γ.type "tuple")=false:=by decide
 simp only[e1,e2,e3,Bool.or_false,Bool.false_eq_true,Jz];refine Ja (Bw ho1 hex hd hf hb tw fun h1 d I T vs f b1 b2 b3 b4 b5 b6 b7 b8=>?_)
 have sz:(s.heap.push (seqObj "list" (List.toArray []) 0)).objs.size=s.heap.objs.size+1:=JX ..
 dsimp only at b1 b4
 rw[sz]at b1 b4;have hT2:Θ.TypeIs {s with heap:=h1,drawn:=d} (.ref a) "set":=#[o,b5 _ _ ho1,hex.1]
 refine Ja (JD (wG hT2 ?_))
 have hL1:=b5 _ _ hLs;have hvl:vs.length=es.size:=by rw[b6.length_eq,Je,Jo]
 have W:=vm (prog:=prog) (w:=w) (A:=A.in1) (ep:=ep) (t:=t) (by simp [hh]) b2 b3 hvl
 have nL:s.heap.objs.size∉[I,a,T]:=by
  simp only[Jr,Ex,Ey,not_or];refine#[by lia,J7 hlt,?_]
  rcases b4 with z|z
  ·rw[z];exact J7 hlt
  ·lia
 have key:∀(h:Ψ) (c₁:Nat),(∀b o,b≠s.heap.objs.size->h1.get? b=some o->h.get? b=some o)->h.get? s.heap.objs.size=some {cls:= .type "list",data:= .seq (List.toArray []) c₁}->
   ∀R:Result->Θ->Prop,(∀(vs':Array Γ) (h':Ψ) (tk c':Nat),vs'.toList=vs->(∀b o,s.heap.get? b=some o->h'.get? b=some o)->h'.get? s.heap.objs.size=some {cls:= .type "list",dict:=none,data:= .seq vs' c',slots:= (List.toArray [])}->
    R (.ok (.ret (.ref s.heap.objs.size))) {s with heap:=h',toks:=tk,drawn:=d})->
   codeAny (model prog w) A (.builtin "list.extend.loop" #[[.ref s.heap.objs.size,.ref I,.ref s.heap.objs.size],[]]) R {s with heap:=h,drawn:=d}:=by
  intro h c₁ hk hS₁ R hR;have nI:I≠s.heap.objs.size:=J7 b1
  refine codeAny_extend_loopS W.toS (fits_of_scanBound hb) s.heap.objs.size nL _ es.size 0 _ (List.toArray []) c₁ (by lia) (JC _) #[#[o,hk _ _ (Jk hlt) (b5 _ _ ho1),hd,hf],f,hk _ _ nI b7,b8.keep fun o e=>hk _ _ ?_ e] hS₁ (ItemsOf.nil _) fun s' acc' c' hm hS' hacc=>?_
  ·rcases b4 with z|z
   ·rw[z];exact Jk hlt
   ·lia
  ·rw[Moved.eq_with hm]
   refine hR acc' s'.heap s'.toks c' ?_ (fun b o e=>hm.heap b o (fun hmem=>?_) (hk b o (Jk (Ji e)) (b5 _ _ (Jj _ e)))) hS'
   ·apply List.ext_getElem?
    intro j;rw[Array.getElem?_toList]
    by_cases hj:j<es.size
    ·have hj':j<acc'.size:=by rw[hacc.1];exact hj
     have:=hacc.2 j acc'[j] (getElem?_pos acc' j hj')
     rw[getElem?_pos acc' j hj',this]
    ·rw[Array.getElem?_eq_none (by rw[hacc.1];lia),FS (by lia)]
   ·have hb':=Ji e
    rcases Jr.mp hmem with z|z
    ·exact absurd z (Jk hb')
    ·exact absurd (Jl.mp z) (Jk (Nat.lt_trans hb' b1))
 have fin:∀(vs':Array Γ) (h':Ψ) (tk c':Nat),vs'.toList=vs->(∀b o,s.heap.get? b=some o->h'.get? b=some o)->h'.get? s.heap.objs.size=some {cls:= .type "list",dict:=none,data:= .seq vs' c',slots:= (List.toArray [])}->
   ζ (model prog w) A (do
    let o <- load s.heap.objs.size
    match o.data with
    | .seq xs _=>pure xs.toList
    |_=>unsupported "internal:collect") Q E {s with heap:=h',toks:=tk,drawn:=d}:=by
  intro vs' h' tk c' c1 c2 c3;refine Ja (wpAny_load c3 (Jd (h _ h' tk d c2 (Fo (Ji c3)) ?_)))
  rw[c1];exact b6
 refine wpAny_ite_split (fun _=>?_) (fun _=>Jd #[plainId_quiet PySem.F.plain_extend_loop _,key h1 0 (fun _ _ _ e=>e) hL1 _ fin])
 refine Ja (Eu (Ja ?_))
 show ζ _ _ (updateSeq s.heap.objs.size (·.push .none) >>= fun _=>updateSeq s.heap.objs.size (·.pop)) _ _ _
 refine Ja (wpAny_updateSeq hL1 rfl ?_)
 have hL2:=EY (Obj.mapSeq (·.push Γ.none)) hL1 rfl
 refine wpAny_updateSeq (hz:=by seq_fits) hL2 rfl ?_
 have hL3:=EY (Obj.mapSeq (·.pop)) hL2 rfl
 refine Jd #[plainId_quiet PySem.F.plain_extend_loop _,key _ _ (fun b o hb e=>?_) hL3 _ fin]
 exact(Fi _ _ (Ne.symm hb)).trans ((Fi _ _ (Ne.symm hb)).trans e)
end
end S0
namespace L3
open PySem PySem.Spec PyProof.Rows L2 S0
def bo(prog:Ξ)(w:Ω)(a:Δ)(ks:List Int):HO:= .ext fun h=>SetK (PySem.intKind prog w) numOf h a ks
theorem uk(prog:Ξ)(w:Ω):∀k v,(PySem.intKind prog w).is k v=true->numOf v=k:=fun k v h=>by
 obtain⟨t,rfl⟩:=Γ.isInt_shape h;rfl
theorem _root_.L2.F8.drw{X:Cx}{MT:F4}{σ:List (Option V)}{H:Hp}{s:Θ}(I:F8 X MT σ H s)(d:Drawn):F8 X MT σ H {s with drawn:=d}:=
 #[I.ok,I.os,I.bare,I.base,I.loc,I.cell,I.free,I.freeC,I.pin,I.hok,I.len]
section
variable{X:Cx}
theorem gY(hc:X.calm=true):zi X (.type "set") (fun xs H Q=>∃(p:Δ) (ns:List Int),xs=[.ref p]/\Gd X.K H p (ns.map V.int)/\ns.length+1<scanBound/\∀l,H l=none->Q (.ref l) (F9 H l (bo X.prog X.w l (ddL ns)))):=by
 intro MT s σ H xs us Q I r h;obtain⟨p,ns,rfl,hp,hb,q⟩:=h;obtain⟨u,rfl,ru⟩:=zU r;cases ru;obtain⟨its,rv,pt,_⟩:=I.list hp;have hl:=rv.length;rw[Je]at hl;have hI:IntsAre its ns:=pX rv
 refine sL (knd:=PySem.intKind X.prog X.w) (kf:=numOf) (val:=fun i=>ns.getD i default) (uk _ _) (I.ok.hd hc) pt.isList (fun i v hv=>?_) (by rw[Jp];omega) fun h' tk hS kp=>?_
 ·obtain⟨t,rfl⟩:=IntsAre.int_at hI i v (by rw[List.getElem?_toArray]at hv;exact hv)
  exact#[intKind_is _ _ _ _,rfl]
 ·have e:its.toArray.size=ns.length:=by rw[Jp];exact hl.symm
  rw[e,uY]at hS;refine#[.ref s.heap.objs.size,_,I.laid (t':=tk) (o:=bo X.prog X.w s.heap.objs.size (ddL ns)) kp (Jf _) #[hS,?_,fun h1 h2 z1 z2=>z1.at z2],rfl,q _ (I.hok.fresh (Jf _))]
  obtain⟨o,_,_,_,e,_⟩:=hS
  exact#[o,e]
end
end L3
namespace S0
open PySem PySem.Spec PyProof.Rows
theorem sk(a:Δ):setWalk a=(do
 let(es,epoch,t) <- setState a
 if <- setsByText then return pickOrder ((<- ask).params.setOrder a epoch) es
 if !t.plain&&es.size>1 then return (<- drawOrder es.size es.toList).toArray
 (do if !t.led&&es.size>1 then unsupported "set:maker-not-led":Sem Unit)
 return es):=rfl
section
variable{prog:Ξ}{w:Ω}{K:Type} [DecidableEq K]{knd:PySem.KeyKind prog w K}{kf:Γ->K}
variable{A:Around}{E:F2}{s:Θ}
theorem yN{Q:Bool->Θ->Prop}{bs:List Δ}(hS:∀b∈bs,∃ks,SetK knd kf s.heap b ks)(h:Q true s):ζ (model prog w) A (setsQuiet bs) Q E s:=by
 unfold setsQuiet;refine Ja (wpAny_forIn_list _ (fun rest b s'=>b.1=none/\s'=s/\∀x∈rest,∃ks,SetK knd kf s.heap x ks) _ ?_ ?_ bs _ #[rfl,rfl,hS])
 ·rintro x rest b s' ⟨hb,rfl,hr⟩
  obtain⟨ks,o,es,ep,t,ho,hex,hd,hf,_,hel,_,_⟩:=hr x Jv;unfold setEntries;refine Ja (Ja (wpAny_setState_of ho hd hf (Jd ?_)))
  refine Ja (PySem.MeetsSeq2.wpAny_forIn_array _ (fun rest2 b2 s2=>b2.1=none/\s2=s'/\∀e∈rest2,e.2.scannable=true) _ ?_ ?_ es _ #[rfl,rfl,fun e he=>(hel e he).2])
  ·rintro⟨h1,y⟩ r2 b2 s2 ⟨hb2,rfl,hr2⟩
   have hy:=hr2 _ Jv;have hrest:∀e∈r2,e.2.scannable=true:=fun e he=>hr2 e (JE _ he)
   cases y<;>first|(cases hy;done)|exact Jd #[rfl,rfl,hrest]
  ·rintro⟨b21,b22⟩ s2 ⟨hb2,rfl,_⟩
   simp only at hb2
   subst hb2;exact Jd #[rfl,rfl,fun y hy=>hr y (JE _ hy)]
 ·rintro⟨b1,b2⟩ s' ⟨hb,rfl,_⟩
  simp only at hb
  subst hb;exact Jd h
theorem ZQ{a:Δ}{Q:Bool->Θ->Prop}(hT:s.TypeIs (.ref a) "set")(h:Q true s):ζ (model prog w) A (δ.Frozenset.isAnySet (.ref a)) Q E s:=by
 unfold δ.Frozenset.isAnySet;refine Ja (E6 hT sub_set_self ?_)
 exact Jd h
theorem SetK.type{h:Ψ}{a:Δ}{ks:List K}{s:Θ}(x:SetK knd kf s.heap a ks):s.TypeIs (.ref a) "set":=by
 obtain⟨o,es,ep,t,h1,h2,_⟩:=x
 exact#[o,h1,h2.1]
theorem k6{K:Type} [DecidableEq K]:∀(l acc:List K),acc.Nodup->(l.foldl Zj acc).Nodup
 | [],acc,h=>h
 |k::l,acc,h=>by
  refine k6 l _ ?_
  unfold Zj;split
  ·exact h
  ·rw[EU]
   exact#[h,by simp,fun x hx y hy=>by rw[Jl.mp hy];rintro rfl;contradiction]
theorem uV{K:Type} [DecidableEq K]:∀(l acc:List K) (k:K),k∈l.foldl Zj acc↔k∈acc\/k∈l
 | [],acc,k=>by simp
 |x::l,acc,k=>by
  rw[List.foldl_cons,uV l _ k];unfold Zj;split
  ·rename_i hx
   constructor
   ·rintro(h|h)
    ·exact .inl h
    ·exact .inr (JE _ h)
   ·rintro(h|h)
    ·exact .inl h
    ·rcases Jr.mp h with rfl|h
     ·exact .inl hx
     ·exact .inr h
  ·rw[JB,Jl,Jr]
   constructor
   ·rintro((h|h)|h)
    ·exact .inl h
    ·exact .inr (.inl h)
    ·exact .inr (.inr h)
   ·rintro(h|h|h)
    ·exact .inl (.inl h)
    ·exact .inl (.inr h)
    ·exact .inr h
theorem uF{K:Type} [DecidableEq K]:∀(l acc:List K),(l.foldl Zj acc).length<=acc.length+l.length
 | [],acc=>by simp
 |x::l,acc=>by
  have:=uF l (Zj acc x)
  rw[List.foldl_cons,JP];have h2:(Zj acc x).length<=acc.length+1:=by
   unfold Zj;split
   ·lia
   ·rw[Jt,EM];lia
  lia
theorem lf{Q:F2}(h:Q (.ref s.heap.objs.size) {s with heap:=s.heap.push (Qj (!zw w))}):ζ (model prog w) A (newSet (.type "set")) Q E s:=by
 unfold newSet;obtain⟨hp,g,d,tk,os⟩:=s
 wp_walk
 refine wpAny_askSetting (Jd ?_)
 dsimp only
 simp only[newObj];exact Ja (wpAny_alloc (Jd h))
end
end S0
namespace L3
open PySem PySem.Spec PyProof.Rows L2 S0
def cM:Γ->Str
 | .str x _=>x
 |_=>Str.empty
def aQ(prog:Ξ)(w:Ω)(a:Δ)(ks:List Str):HO:= .ext fun h=>SetK (PySem.strKind prog w) cM h a ks
theorem uJ(prog:Ξ)(w:Ω):∀k v,(PySem.strKind prog w).is k v=true->cM v=k:=fun k v h=>by
 obtain⟨t,rfl⟩:=Γ.isStrOf_shape h;rfl
section
variable{prog:Ξ}{w:Ω}{A:Around}{E:F2}{s:Θ}
theorem uE{a:Δ}{ks:List Str}{Q:F2}(hh:A.handled=none)(hS:SetK (PySem.strKind prog w) cM s.heap a ks)(h64:ks.length<64)
  (h:∀(h':Ψ) (tk:Nat) (d:Drawn) (l:Δ) (its:List Γ) (n:Nat) (ss:List Str),s.heap.objs.size<=l->(∀b o,s.heap.get? b=some o->h'.get? b=some o)->h'.get? l=some (seqObj "list" its.toArray n)->
   StrsAre its ss->ss.Perm ks->sortedS ss=true->Q (.ref l) {s with heap:=h',toks:=tk,drawn:=d}):
  ζ (model prog w) A (call (.builtin "sorted") [.ref a]) Q E s:=by
 obtain⟨o,es,ep,t,ho,hex,hd,hf,hb,hel,hpm,htw⟩:=hS;refine Calls.call_function_entry kind_sorted plain_sorted entry_sorted (args_sorted1 _) ?_
 unfold δ.«sorted»
 refine Ja (m:=checkCount "sorted" 1 1 _) (Jd ?_)
 refine Ja (jZ hh ho hex hd hf hb htw fun vs h' tk d hk hz hp=>?_)
 have hI:StrsAre vs (vs.map cM):=by
  refine iF (by rw[Je]) fun j v e=>?_
  obtain⟨e1,he,rfl⟩:=Jq.mp (hp.mem_iff.mp (J9 e))
  obtain⟨⟨k,h1,_⟩,_⟩:=hel e1 he;obtain⟨tt,h2⟩:=Γ.isStrOf_shape h1;refine#[k,tt,by rw[Jn,e,h2];rfl,h2]
 have hvk:(vs.map cM).Perm ks:=by
  refine(hp.map cM).trans ?_
  rw[Es];exact hpm
 have hvl:vs.length<=η:=by
  rw[hp.length_eq,Je,Jo];exact fits_of_scanBound hb
 have hl64:vs.length<64:=by
  have:=hvk.length_eq
  rw[Je]at this;lia
 refine Ja (wpAny_newList ?_ hvl)
 have hoL:(h'.push (seqObj "list" vs.toArray 0)).get? h'.objs.size=some (seqObj "list" vs.toArray 0):=Js _ rfl
 show ζ _ _ _ _ _ {s with heap:=h'.push (seqObj "list" vs.toArray 0),toks:=tk,drawn:=d}
 refine Ja (JD (J1 slot_list_sort #[_,hoL,rfl] entry_list_sort (list_sort_treeK (κ:=PyProof.Rows.strKind) strKind_oneLt hoL hI.keysOf (fun v₁ v₂ rest e=>keyKind_strs (by rw[<- e];exact hI)) hl64 fun st' a1 a2=>#[_,rfl,?_]) (args_list_sort _)))
 obtain⟨ss',b1,b2,b3⟩:=sorted_out_str hI a1 a2;obtain⟨n',hn'⟩:∃n',(sortedHeap (h'.push (seqObj "list" vs.toArray 0)) h'.objs.size vs ((arrOf st').map (·.2))).get? h'.objs.size=some (seqObj "list" ((arrOf st').map (·.2)) n'):=sortedHeap_at hoL
 refine Jd #[_,rfl,h _ tk d h'.objs.size ((arrOf st').map (·.2)).toList n' ss' hz (fun b o e=>?_) (by rw[hn']) b1 (b2.trans hvk) b3]
 have e':=hk b o e;have hb':b<h'.objs.size:=Ji e'
 rw[sortedHeap_old (Jk hb') (by rw[JX];exact Eo hb')]
 exact Jj _ e'
end
theorem mH:∀{us:List Γ} {ss:List Str},StrsAre us ss->∀(i:Nat) (v:Γ),us[i]? =some v->∃t,v= .str (ss.getD i default) t
 |_,_,.nil,i,v,e=>by simp at e
 |_,_,.cons x t r,0,v,e=>by
  simp at e;subst e;exact#[t,rfl]
 |_,_,.cons x t r,i+1,v,e=>by
  have e':=mH r i v (by simpa using e)
  simpa [JA]using e'
section
variable{X:Cx}
theorem ik(hc:X.calm=true):zi X (.type "set") (fun xs H Q=>∃(p:Δ) (ss:List Str),xs=[.ref p]/\Gd X.K H p (ss.map V.str)/\ss.length+1<scanBound/\∀l,H l=none->Q (.ref l) (F9 H l (aQ X.prog X.w l (ddL ss)))):=by
 intro MT s σ H xs us Q I r h;obtain⟨p,ss,rfl,hp,hb,q⟩:=h;obtain⟨u,rfl,ru⟩:=zU r;cases ru;obtain⟨its,rv,pt,_⟩:=I.list hp;have hl:=rv.length;rw[Je]at hl;refine sL (knd:=PySem.strKind X.prog X.w) (kf:=cM) (val:=fun i=>ss.getD i default) (uJ _ _) (I.ok.hd hc) pt.isList (fun i v hv=>?_) (by rw[Jp];lia) fun h' tk hS kp=>?_
 ·have hv':its[i]? =some v:=by rw[List.getElem?_toArray]at hv;exact hv
  have hi:i<ss.length:=by rw[hl];exact(Jy.mp hv').1
  obtain⟨t,rfl⟩:=mH (ou rv) i v hv'
  exact#[strKind_is _ _ _ _,rfl]
 ·have e:its.toArray.size=ss.length:=by rw[Jp];exact hl.symm
  rw[e,uY]at hS;refine#[.ref s.heap.objs.size,_,I.laid (t':=tk) (o:=aQ X.prog X.w s.heap.objs.size (ddL ss)) kp (Jf _) #[hS,?_,fun h1 h2 z1 z2=>z1.at z2],rfl,q _ (I.hok.fresh (Jf _))]
  obtain⟨o,_,_,_,e,_⟩:=hS
  exact#[o,e]
theorem kE(hc:X.calm=true):zi X (.builtin "sorted") (fun xs H Q=>∃(p:Δ) (ks:List Str),xs=[.ref p]/\H p=some (aQ X.prog X.w p ks)/\ks.length<64/\
  ∀l (ss:List Str),H l=none->ss.Perm ks->sortedS ss=true->Q (.ref l) (F9 H l (.lst (ss.map V.str)))):=by
 intro MT s σ H xs us Q I r h;obtain⟨p,ks,rfl,hp,h64,q⟩:=h;obtain⟨u,rfl,ru⟩:=zU r;cases ru;obtain⟨hS,_⟩:=I.hok p _ hp;refine uE (I.ok.hd hc) hS h64 fun h' tk d l its n ss hl hk hL b1 b2 b3=>?_
 refine#[.ref l,_,(I.laid (a:=l) (o:= .lst (ss.map V.str)) (t':=tk) hk hl ?_).drw d,rfl,q l ss (I.hok.fresh hl) b2 b3]
 refine#[?_,its,n,eZ b1,hL]
 have:=b2.length_eq
 rw[Je,JF];lia
end
theorem bu{K:Type} [DecidableEq K](l:List K):(ddL l).Nodup:=k6 l [] FH
theorem Zx{K:Type} [DecidableEq K](l:List K)(k:K):k∈ddL l↔k∈l:=by unfold ddL;rw[uV];simp
theorem fF{K:Type} [DecidableEq K](l:List K):(ddL l).length<=l.length:=by have:=uF l ([]:List K);simpa [ddL]using this
end L3
namespace L3
open PySem PySem.Spec PyProof.Rows L2
def Bm(k:Nat)(js:List Nat)(g:TG)(wi2:TI)(g2:TG)(te:TE)(σ:L2.St)(Q:VK)(J:It)(H1:Hp):Prop:=∃W:Nat->Nat->List V->L2.St->Hp->Prop,(∃m,W 0 m [] (σ0 k js σ) H1)/\∀i m ys τ H,W i m ys τ H->
 (J.stop i H/\∀p,H p=none->Q (.ref p) (F9 H p (.lst ys)))\/(J.go i H/\∀x H',J.yld i H x H'->g x τ H' fun τ2 H2=>wi2 τ2 H2 fun J2 H3=>∃W2:Nat->Nat->List V->L2.St->Hp->Prop,(∃m2,W2 0 m2 ys τ2 H3)/\∀i2 m2 zs τ3 H4,W2 i2 m2 zs τ3 H4->
  (J2.stop i2 H4/\∃m',m'<m/\W (i+1) m' zs τ3 H4)\/(J2.go i2 H4/\zs.length<η/\∀x2 H5,J2.yld i2 H4 x2 H5->g2 x2 τ3 H5 fun τ4 H6=>∃N:V->Hp->Prop,(∀v H7,N v H7->∃m2',m2'<m2/\W2 (i2+1) m2' (zs++[v]) τ4 H7)/\te τ4 H6 N))
def sU(k:Nat)(js:List Nat)(wi:TI)(g:TG)(wi2:TI)(g2:TG)(te:TE):TE:=fun σ H Q=>wi σ H (Bm k js g wi2 g2 te σ Q)
section
variable{prog:Ξ}{w:Ω}{A:Around}{R:Result->Θ->Prop}{s:Θ}
theorem lY(elt tg iter tg2 iter2:Φ)(scope:Scope)(pos:Pos)(it acc:Γ)(env:Env):
  compTurn (.ListComp elt [#[tg,iter,[],0],#[tg2,iter2,[],0]] scope pos) 0 it acc env=(standAt iter.pos >>= fun _=>pyNext it >>= fun r=>match r with
   |none=>pure (.done .next)
   |some v=>letOwnedTupleGo tg it v >>= fun _=>assign tg env v >>= fun _=>
    eval iter2 env >>= fun x=>standAt iter2.pos >>= fun _=>foldedSetIterable iter2 env x >>= fun x=>holding [x] (pyIter x) >>= fun i2=>runOwn (.compStart (.ListComp elt [#[tg,iter,[],0],#[tg2,iter2,[],0]] scope pos) 1 i2 acc env) env >>= fun _=>
     again (.compLoop (.ListComp elt [#[tg,iter,[],0],#[tg2,iter2,[],0]] scope pos) 0 it acc env)):=by rfl
theorem nP(elt tg iter tg2 iter2:Φ)(scope:Scope)(pos:Pos)(it acc:Γ)(env:Env):
  compTurn (.ListComp elt [#[tg,iter,[],0],#[tg2,iter2,[],0]] scope pos) 1 it acc env=(standAt iter2.pos >>= fun _=>pyNext it >>= fun r=>match r with
   |none=>pure (.done .next)
   |some v=>letOwnedTupleGo tg2 it v >>= fun _=>assign tg2 env v >>= fun _=>
    (eval elt env >>= fun x=>call (.builtin "list.append") [acc,x] >>= fun _=>pure ()) >>= fun _=>
     again (.compLoop (.ListComp elt [#[tg,iter,[],0],#[tg2,iter2,[],0]] scope pos) 1 it acc env)):=by rfl
theorem nG{elt tg iter tg2 iter2:Φ}{scope:Scope}{pos:Pos}{it acc:Γ}{env:Env}(I:Nat->Θ->Prop)
  (turn:∀n s,I n s->ζ (model prog w) A (pyNext it) (fun r s₁=>match r with
   |none=>R (.ok .next) s₁
   | some v=>ζ (model prog w) A (letOwnedTupleGo tg2 it v) (fun _ s₁'=>ζ (model prog w) A (assign tg2 env v) (fun _ s₂=>ζ (model prog w) A (eval elt env) (fun x s₃=>
     ζ (model prog w) A (call (.builtin "list.append") [acc,x]) (fun _ s₄=>∃m,m<n/\I m s₄) (fun _ _=>False) s₃)
     (fun _ _=>False) s₂) (fun _ _=>False) s₁') (fun _ _=>False) s₁) (fun _ _=>False) s)
  (n:Nat)(h:I n s):
  codeAny (model prog w) A (.compLoop (.ListComp elt [#[tg,iter,[],0],#[tg2,iter2,[],0]] scope pos) 1 it acc env) R s:=by
 refine codeAny_loop rfl I (fun n s hI=>?_) n h
 show ζ _ _ ((compTurn (.ListComp elt [#[tg,iter,[],0],#[tg2,iter2,[],0]] scope pos) 1 it acc env).onRaise (fun x=>do noteFrame x env;theTreesLotGoes x)) _ _ s
 refine wpAny_noted ?_
 rw[nP];refine Ja (Eh (Ja (Jw (turn n s hI) (fun r s₁ h₁=>?_) fun _ _ h'=>h'.elim)))
 cases r with
 |none=>exact Jd h₁
 |some v=>
  refine Ja (Jw h₁ (fun _ s₁' h₁'=>?_) fun _ _ h'=>h'.elim)
  exact Ja (Jw h₁' (fun _ s₂ h₂=>Ja (Ja (Jw h₂ (fun x s₃ h₃=>Ja (Jw h₃
   (fun _ s₄ h₄=>Jd (Jd #[rfl,h₄])) fun _ _ h'=>h'.elim)) fun _ _ h'=>h'.elim))) fun _ _ h'=>h'.elim)
theorem kN{elt tg iter tg2 iter2:Φ}{scope:Scope}{pos:Pos}{it acc:Γ}{env:Env}(hs2:∀x,foldedSetIterable iter2 env x=pure x)(I:Nat->Θ->Prop)
  (turn:∀n s,I n s->ζ (model prog w) A (pyNext it) (fun r s₁=>match r with
   |none=>R (.ok .next) s₁
   | some v=>ζ (model prog w) A (letOwnedTupleGo tg it v) (fun _ s₁'=>ζ (model prog w) A (assign tg env v) (fun _ s₂=>ζ (model prog w) A (eval iter2 env) (fun x s₃=>
     ζ (model prog w) A (pyIter x) (fun i2 s₄=>codeAny (model prog w) A (.compStart (.ListComp elt [#[tg,iter,[],0],#[tg2,iter2,[],0]] scope pos) 1 i2 acc env) (fun r s₅=>match r with| .ok _=>∃m,m<n/\I m s₅| .error _=>False) s₄) (fun _ _=>False) s₃)
     (fun _ _=>False) s₂) (fun _ _=>False) s₁') (fun _ _=>False) s₁) (fun _ _=>False) s)
  (n:Nat)(h:I n s):
  codeAny (model prog w) A (.compLoop (.ListComp elt [#[tg,iter,[],0],#[tg2,iter2,[],0]] scope pos) 0 it acc env) R s:=by
 refine codeAny_loop rfl I (fun n s hI=>?_) n h
 show ζ _ _ ((compTurn (.ListComp elt [#[tg,iter,[],0],#[tg2,iter2,[],0]] scope pos) 0 it acc env).onRaise (fun x=>do noteFrame x env;theTreesLotGoes x)) _ _ s
 refine wpAny_noted ?_
 rw[lY];refine Ja (Eh (Ja (Jw (turn n s hI) (fun r s₁ h₁=>?_) fun _ _ h'=>h'.elim)))
 cases r with
 |none=>exact Jd h₁
 |some v=>
  refine Ja (Jw h₁ (fun _ s₁' h₁'=>?_) fun _ _ h'=>h'.elim)
  refine Ja (Jw h₁' (fun _ s₂ h₂=>Ja (Jw h₂ (fun x s₃ h₃=>?_) fun _ _ h'=>h'.elim)) fun _ _ h'=>h'.elim)
  refine Ja (Eh (Ja ?_))
  rw[hs2];refine Jd (Ja (JD (Jw h₃ (fun i2 s₄ h₄=>?_) fun _ _ h'=>h'.elim)))
  refine Ja (wpAny_runOwn (E3 h₄ fun r s₅ h₅=>?_))
  cases r with
  |ok f=>exact Jd #[rfl,h₅]
  |error x=>exact h₅.elim
theorem md{elt tg iter tg2 iter2 scope pos it acc env}
  (h0:codeAny (model prog w) A (.compLoop (.ListComp elt [#[tg,iter,[],0],#[tg2,iter2,[],0]] scope pos) 1 it acc env) R s)
  (h:ζ (model prog w) A (pyIter it) (fun it' s'=>codeAny (model prog w) A (.compLoop (.ListComp elt [#[tg,iter,[],0],#[tg2,iter2,[],0]] scope pos) 1 it' acc env) R s')
   (notedBy (model prog w) A env fun x s'=>R (.error x) s') s):
  codeAny (model prog w) A (.compStart (.ListComp elt [#[tg,iter,[],0],#[tg2,iter2,[],0]] scope pos) 1 it acc env) R s:=by
 refine codeAny_of_tree ?_
 show ζ _ _ ((compStart (.ListComp elt [#[tg,iter,[],0],#[tg2,iter2,[],0]] scope pos) 1 it acc env).onRaise (fun x=>do noteFrame x env;standAt theWindowsPlace)) _ _ s
 refine wpAny_notedAt ?_
 unfold compStart
 show ζ _ _ (ask >>= _) _ _ s
 refine Ja (wpAny_askSetting (wpAny_ite ?_))
 split
 ·first
   |exact Ja (Jd (Jd (And.intro rfl h0)))
   |exact Jd (And.intro rfl h0)
 ·first
   |exact Ja (Eu (Ja (Eh (Ja (Jw h (fun it' s' h'=>Jd (And.intro rfl h')) fun _ _ x=>x)))))
   |(refine Ja (Eu ?_);show ζ _ _ (standAt iter2.pos >>= _) _ _ s;exact Ja (Eh (Ja (Jw h (fun it' s' h'=>Jd (And.intro rfl h')) fun _ _ x=>x))))
end
variable{X:Cx}
theorem sZ{elt tg iter tg2 iter2:Φ}{scope:Scope}{cl:List (Str×Δ)}{pos fpos:Pos}{fr own:List Str}{js:List Nat}{wi wi2:TI}{g g2:TG}{te:TE}{use:Option (Γ->Sem Unit)}{Post:F2}
  {MT:F4}{s:Θ}{σ:L2.St}{H:Hp}{Q:VK}
  (hc:X.calm=true)(hi:PI X tg iter wi)(hclos:closureFor scope X.env=pure cl)(hcl:∀y c,cl.lookup y=some c->X.env.cells.lookup y=some c)(hfr:cl.map (·.1)=fr)
  (S:GI X scope fr js)
  (hg:∀C s H fp,PG (qX X (own++fr) scope cl C s H fp) tg g)(hi2:∀C s H fp,PI (qX X (own++fr) scope cl C s H fp) tg2 iter2 wi2)(hg2:∀C s H fp,PG (qX X (own++fr) scope cl C s H fp) tg2 g2)(he:∀C s H fp,PE (qX X (own++fr) scope cl C s H fp) elt te)
  (hs:∀x,foldedSetIterable iter X.env x=pure x)(hs2:∀C x,foldedSetIterable iter2 (compEnvC scope cl C X.env) x=pure x)
  (I:L2.F8 X MT σ H s)(h:sU own.length js wi g wi2 g2 te σ H Q)
  (hfin:∀(acc C:Δ) (s5:Θ) (H':Hp) (m:F3),L2.F8 X MT σ H' s5->s5.heap.Ns C m->LM X MT H' C->Q (.ref acc) H'->compPost (model X.prog X.w) X.A X.xe use Post (.ref acc) C (.ok .next) s5):
  ζ (model X.prog X.w) X.A (comprehension (.ListComp elt [⟨tg,iter,[],0⟩,⟨tg2,iter2,[],0⟩] scope pos) scope X.env fpos (newList []) false (eval iter X.env) use) Post X.xe s:=by
 refine wpAny_comprehension_free (use:=use) rfl hs hclos S.kind S.names (qu (hi MT s σ H _ I h) fun v s1 h1=>qu h1 fun itv s2 h2=>?_)
 obtain⟨it,fp,tn,J,H2,e,I2,T,st2,f2,W,⟨m0,w0⟩,turn⟩:=h2;subst e;refine J5 (wpAny_newFunctionEnv S.nocell (by intro y hy;simp at hy) (fun h₁ hns₁ hsb₁=>?_) S.kind)
 dsimp only at hns₁ hsb₁⊢
 generalize hH2:s2.heap.push {cls:= .type "list",dict:=none,data:= .seq ([]:List Γ).toArray}=G at hns₁ hsb₁⊢
 have hC:G.objs.size=s2.heap.objs.size+1:=by rw[<- hH2,JX]
 have hDC:s2.heap.objs.size≠G.objs.size:=by rw[hC];exact Jk (Ew _)
 have below:∀b,b<s2.heap.objs.size->b≠G.objs.size/\b≠s2.heap.objs.size:=fun b hb=>#[by rw[hC];exact Jk (Eo hb),Jk hb]
 have old:∀b o,s2.heap.get? b=some o->h₁.get? b=some o:=fun b o e=>hsb₁.extBut b o (below b (Ji e)).1 (Jj _ (hH2▸Jj _ e))
 have hacc:h₁.get? s2.heap.objs.size=some {cls:= .type "list",data:= .seq ([]:List Γ).toArray 0}:=hsb₁.extBut _ _ hDC (Jj _ (hH2▸Js _ rfl))
 let Y:Cx:=qX X (own++fr) scope cl G.objs.size s2 H2 fp
 obtain⟨fplt,IY,accfs,acccell,fpY⟩:=gE (own:=own) (js:=js) hcl hfr S I2 T st2 f2 hC old hns₁
 have loop:∀s₃:Θ,F8 Y [] (σ0 own.length js σ) H2 s₃->tn 0 s₃.heap->s₃.heap.get? s2.heap.objs.size=some {cls:= .type "list",data:= .seq ([]:List Γ).toArray 0}->
   codeAny (model X.prog X.w) X.A (.compLoop (.ListComp elt [#[tg,iter,[],0],#[tg2,iter2,[],0]] scope pos) 0 (.ref it) (.ref s2.heap.objs.size) (compEnvC scope cl G.objs.size X.env))
    (compPost (model X.prog X.w) X.A X.xe use Post (.ref s2.heap.objs.size) G.objs.size) s₃:=by
  intro s₃ I3 st3 ha3;refine kN (hs2 _) (fun n s'=>∃i ys τ H' its k,F8 Y [(s2.heap.objs.size,{cls:= .type "list",data:= .seq its.toArray k})] τ H' s'/\tn i s'.heap/\(∀b∈fp,H' b=none)/\Ga ys its/\ys.length<=η/\W i n ys τ H') ?_ m0 ?_
  ·rintro n s4 ⟨i,ys,τ,H4,its,k,I4,st4,fr4,vl,hz,w4⟩
   have pin4:=I4.pin (s2.heap.objs.size,{cls:= .type "list",data:= .seq its.toArray k}) (by simp [Y,qX])
   rcases turn i n ys τ H4 w4 with⟨stop,qn⟩|⟨go,step⟩
   ·refine qu (T.done Y rfl rfl rfl hc i _ s4 τ H4 _ I4 (fpY fr4 (by simp)) st4 stop) fun r s5 zq=>?_
    obtain⟨hr,I5⟩:=zq;subst hr
    show compPost _ _ _ _ _ _ _ _ _
    obtain⟨m5,hn5,_⟩:=I5.loc;have pin5:=I5.pin (s2.heap.objs.size,{cls:= .type "list",data:= .seq its.toArray k}) (by simp [Y,qX])
    have nacc:H4 s2.heap.objs.size=none:=pin5.2.1
    have B:=I5.base;have nC:H4 G.objs.size=none:=I5.free
    obtain⟨z1,z2⟩:=gj (ob:= .lst ys) I2 f2 hC I5 nacc #[hz,its,k,vl,pin5.1]
    exact hfin s2.heap.objs.size G.objs.size s5 (F9 H4 s2.heap.objs.size (.lst ys)) m5 z1 hn5 z2 (qn _ nacc)
   ·refine qu (T.item Y rfl rfl rfl hc i _ s4 τ H4 _ I4 (fpY fr4 (by simp)) st4 go) fun r s5 zq=>?_
    obtain⟨u,hr,h5⟩:=zq;subst hr;refine qu h5 fun _ s6 zq=>?_
    obtain⟨x,H6,I6,r6,y6,st6,fr6⟩:=zq;have I6':=I6.pinned (fpY fr6 (by simp)) (T.obj _ _ st6)
    refine qu (hg _ _ _ _ _ s6 τ H6 x u _ I6' r6 (step x H6 y6)) fun _ s7 zq=>?_
    obtain⟨τ7,H7,I7,q7⟩:=zq;refine qu (hi2 _ _ _ _ _ s7 τ7 H7 _ I7 q7) fun v7 s8 h8=>qu h8 fun itv2 s9 h9=>?_
    obtain⟨it2,fp2,tn2,J2,H9,e9,I9,T2,st9,f9,W2,⟨m2,w2⟩,turn2⟩:=h9;subst e9;have fpI:∀{H':Hp} {its':List Γ} {k':Nat},(∀b∈fp2,H' b=none)->∀b∈fp2,Zp Y ((s2.heap.objs.size,{cls:= .type "list",data:= .seq its'.toArray k'})::ae fp s6.heap) H' b:=fun{H' its' k'} hn b hb=>
     #[hn b hb,(f9 b hb).2.1,(f9 b hb).2.2.1,(f9 b hb).2.2.2.1,(f9 b hb).2.2.2.2.1,fun p hp=>by
      have hp':p∈(s2.heap.objs.size,{cls:= .type "list",data:= .seq its'.toArray k'})::ae fp s6.heap:=by simpa [Y,qX]using hp
      rcases Jr.mp hp' with z|z
      ·rw[z]
       exact(f9 b hb).2.2.2.2.2 (s2.heap.objs.size,{cls:= .type "list",data:= .seq its.toArray k}) (by simp [qX])
      ·exact(f9 b hb).2.2.2.2.2 p (by simp [qX,z])]
    have L2:codeAny (model X.prog X.w) X.A (.compLoop (.ListComp elt [#[tg,iter,[],0],#[tg2,iter2,[],0]] scope pos) 1 (.ref it2) (.ref s2.heap.objs.size) (compEnvC scope cl G.objs.size X.env)) (fun r s₅=>match r with
      | .ok _=>∃m,m<n/\∃i ys τ H' its k,F8 Y [(s2.heap.objs.size,{cls:= .type "list",data:= .seq its.toArray k})] τ H' s₅/\tn i s₅.heap/\(∀b∈fp,H' b=none)/\Ga ys its/\ys.length<=η/\W i m ys τ H'
      | .error _=>False) s9:=by
     refine nG (fun n2 s'=>∃(i2:Nat) (zs:List V) (τ':L2.St) (H':Hp) (its':List Γ) (k':Nat),F8 Y ((s2.heap.objs.size,{cls:= .type "list",data:= .seq its'.toArray k'})::ae fp s6.heap) τ' H' s'/\tn2 i2 s'.heap/\(∀b∈fp2,H' b=none)/\Ga zs its'/\zs.length<=η/\W2 i2 n2 zs τ' H') ?_ m2 #[0,ys,τ7,H9,its,k,I9,st9,fun b hb=>(f9 b hb).1,vl,hz,w2]
     rintro n2 sA ⟨i2,zs,τA,HA,itsA,kA,IA,stA,frA,vlA,hzA,wA⟩
     have pinA:=IA.pin (s2.heap.objs.size,{cls:= .type "list",data:= .seq itsA.toArray kA}) (by simp [Y,qX])
     rcases turn2 i2 n2 zs τA HA wA with⟨stop2,m',hm',w'⟩|⟨go2,hlt2,step2⟩
     ·refine qu (T2.done Y rfl rfl rfl hc i2 _ sA τA HA _ IA (fpI frA) stA stop2) fun r sB zq=>?_
      obtain⟨hr2,IB⟩:=zq;subst hr2;have pinB:=IB.pin (s2.heap.objs.size,{cls:= .type "list",data:= .seq itsA.toArray kA}) (by simp [Y,qX])
      have pinO:∀b∈fp,∀o,s6.heap.get? b=some o->sB.heap.get? b=some o/\HA b=none:=fun b hb o e=>by
       have:=IB.pin (b,o) (JH _ (JE _ (Q1 hb e)))
       exact#[this.1,this.2.1]
      refine#[m',hm',i+1,zs,τA,HA,itsA,kA,IB.pins_of ?_,T.keep _ _ _ st6 fun b hb o e=>(pinO b hb o e).1,fun b hb=>?_,vlA,hzA,w']
      ·intro p hp
       rw[Jl.mp hp]
       exact#[pinB.1,pinB.2.1,hDC,accfs,fun v z=>by cases z]
      ·obtain⟨o,e,_⟩:=T.obj _ _ st6 b hb
       exact(pinO b hb o e).2
     ·refine qu (T2.item Y rfl rfl rfl hc i2 _ sA τA HA _ IA (fpI frA) stA go2) fun r sB zq=>?_
      obtain⟨u2,hr2,hB⟩:=zq;subst hr2;refine qu hB fun _ sC zq=>?_
      obtain⟨x2,HC,IC,rC,yC,stC,frC⟩:=zq;have IC':=IC.pinned (fpI frC) (T2.obj _ _ stC);refine qu (hg2 _ _ _ _ _ sC τA HC x2 u2 _ IC' rC (step2 x2 HC yC)) fun _ sD zq=>?_
      obtain⟨τD,HD,ID,N,hN,qD⟩:=zq;refine qu (he _ _ _ _ _ sD τD HD _ ID qD) fun v' sE zq=>?_
      obtain⟨y,HE,IE,rE,nE⟩:=zq;obtain⟨m2',hm2',wE⟩:=hN _ _ nE;have pinE:=IE.pin (s2.heap.objs.size,{cls:= .type "list",data:= .seq itsA.toArray kA}) (by simp [qX])
      have pinO:∀p∈ae fp s6.heap,sE.heap.get? p.1=some p.2/\HE p.1=none/\p.1≠Y.env.locals/\p.1∉Y.fs/\∀v,p.2.data≠ .cell v:=fun p hp=>
       IE.pin p (JH _ (Eg _ (JE _ hp)))
      have pin2:∀b∈fp2,∀o,sC.heap.get? b=some o->sE.heap.get? b=some o/\HE b=none:=fun b hb o e=>by
       have:=IE.pin (b,o) (JH _ (JH _ (Q1 hb e)))
       exact#[this.1,this.2.1]
      refine wpAny_list_append_plain (items:=itsA.toArray) #[kA,pinE.1] (fun h' ha' hs'=>?_) (by have:=vlA.length;simp;lia)
      obtain⟨k',ha'⟩:=ha';have IF:F8 Y [] τD HE {sE with heap:=h'}:=by
       refine(IE.pins_of (pins':=[]) (by simp)).turned (t':=sE.toks) (it:=s2.heap.objs.size) (fun b o hb e=>(hs'.2 b hb).trans e) pinE.2.1 ?_ (.inr (Jf _)) (fun x c e=>acccell x c e) (fun p hp=>absurd (show p∈([]:F4)from by simpa [Y,qX]using hp) (by simp))
       exact hDC
      have ea:(itsA.toArray.push v')=(itsA++[v']).toArray:=by simp
      rw[ea]at ha';refine#[m2',hm2',i2+1,zs++[y],τD,HE,itsA++[v'],k',IF.pins_of ?_,T2.keep _ _ _ stC fun b hb o e=>?_,fun b hb=>?_,vlA.append (.cons rE .nil),?_,wE]
      ·intro p hp
       rcases Jr.mp hp with z|z
       ·rw[z]
        exact#[ha',pinE.2.1,hDC,accfs,fun v z=>by cases z]
       ·obtain⟨p1,p2⟩:=pinO p z
        exact#[(hs'.2 p.1 (below p.1 (fplt p.1 (jk z).1)).2).trans p1,p2]
      ·refine(hs'.2 b fun z=>?_).trans (pin2 b hb o e).1
       exact(f9 b hb).2.2.2.2.2 (s2.heap.objs.size,{cls:= .type "list",data:= .seq its.toArray k}) (by simp [qX]) z.symm
      ·obtain⟨o,e,_⟩:=T2.obj _ _ stC b hb
       exact(pin2 b hb o e).2
      ·rw[Jt,EM];lia
    exact md L2 (T2.self _ 0 _ _ _ st9 L2)
  ·refine#[0,[],σ0 own.length js σ,H2,[],0,I3.pins_of ?_,st3,fun b hb=>(f2 b hb).1,.nil,JC _,w0]
   intro p hp;rw[Jl.mp hp]
   exact#[ha3,I2.hok.fresh (Jf _),hDC,accfs,fun v z=>by cases z]
 have st1:tn 0 h₁:=T.keep _ _ _ st2 fun b _ o e=>old b o e
 exact codeAny_compStart_list (loop _ IY st1 hacc) (T.self _ 0 _ _ _ st1 (loop _ IY st1 hacc))
theorem vk{elt tg iter tg2 iter2:Φ}{scope:Scope}{cl:List (Str×Δ)}{pos:Pos}{fr own:List Str}{js:List Nat}{wi wi2:TI}{g g2:TG}{te:TE}
  (hc:X.calm=true)(hi:QI X tg iter wi)(hclos:closureFor scope X.env=pure cl)(hcl:∀y c,cl.lookup y=some c->X.env.cells.lookup y=some c)(hfr:cl.map (·.1)=fr)
  (S:GI X scope fr js)
  (hg:∀C s H fp,QG (qX X (own++fr) scope cl C s H fp) tg g)(hi2:∀C s H fp,QI (qX X (own++fr) scope cl C s H fp) tg2 iter2 wi2)(hg2:∀C s H fp,QG (qX X (own++fr) scope cl C s H fp) tg2 g2)(he:∀C s H fp,QE (qX X (own++fr) scope cl C s H fp) elt te)
  (hs:∀x,foldedSetIterable iter X.env x=pure x:=by intro _;rfl)(hs2:∀C x,foldedSetIterable iter2 (compEnvC scope cl C X.env) x=pure x:=by intro _ _;rfl):
  QE X (.ListComp elt [#[tg,iter,[],0],#[tg2,iter2,[],0]] scope pos) (sU own.length js wi g wi2 g2 te):=by
 refine#[fun MT s σ H Q I h=>?_]
 rw[eval_ListComp];refine sZ (use:=none) hc hi.h hclos hcl hfr S (fun C s H fp=>(hg C s H fp).h) (fun C s H fp=>(hi2 C s H fp).h) (fun C s H fp=>(hg2 C s H fp).h) (fun C s H fp=>(he C s H fp).h) hs hs2 I h fun acc C s5 H' m I5 hn aw q=>?_
 exact#[m,hn,fun h' hs'=>#[.ref acc,H',I5.turned (t':=s5.toks) (fun b o hb e=>(hs'.2 b hb).trans e) aw.free aw.loc (.inr aw.new) aw.cell aw.pin,rfl,q]]
end L3
namespace S0
open PySem PySem.Spec PyProof.Rows
def pf(M x:Nat):Nat:=(x*5+1)%M
def bQ(M:Nat):Nat->Nat->Nat
 |0,x=>x
 |n+1,x=>bQ M n (pf M x)
theorem cU(M:Nat):∀(a b x:Nat),bQ M (a+b) x=bQ M b (bQ M a x)
 |0,b,x=>by rw[Nat.zero_add];rfl
 |a+1,b,x=>by rw[Nat.add_right_comm];exact cU M a b (pf M x)
def Cv(M:Nat):Nat->Nat->List Nat
 |0,_=>[]
 |n+1,x=>x::Cv M n (pf M x)
theorem tf(M:Nat):∀(n x j:Nat),j∈Cv M n x->∃m,m<n/\bQ M m x=j
 |0,x,j,h=>nomatch h
 |n+1,x,j,h=>by
  rcases Jr.mp h with rfl|h
  ·exact#[0,Nat.succ_pos _,rfl]
  ·obtain⟨m,hm,e⟩:=tf M n _ j h
   exact#[m+1,by lia,e]
def yr(M:Nat):Bool:=(bQ M M 0==0)&&(List.range M).all fun j=>(Cv M M 0).contains j
def Qe(M:Nat):Prop:=yr M=true
theorem ug:Qe 8:=by unfold Qe;decide +kernel
theorem Ay:Qe 16:=by unfold Qe;decide +kernel
theorem AH:Qe 32:=by unfold Qe;decide +kernel
theorem AB:Qe 64:=by unfold Qe;decide +kernel
theorem vz:Qe 128:=by unfold Qe;decide +kernel
theorem xf:Qe 256:=by unfold Qe;decide +kernel
theorem wv{n:Nat}(h:n<256):Qe (SetTable.sizeAbove n)/\n<SetTable.sizeAbove n/\SetTable.sizeAbove n<=256:=by
 have key:∀n<256,(SetTable.sizeAbove n=8\/SetTable.sizeAbove n=16\/SetTable.sizeAbove n=32\/SetTable.sizeAbove n=64\/SetTable.sizeAbove n=128\/SetTable.sizeAbove n=256)/\n<SetTable.sizeAbove n:=by decide +kernel
 obtain⟨h1,h2⟩:=key n h;rcases h1 with e|e|e|e|e|e<;>(rw[e]at h2⊢;refine#[?_,h2,by decide])
 ·exact ug
 ·exact Ay
 ·exact AH
 ·exact AB
 ·exact vz
 ·exact xf
theorem reach{M i j:Nat}(h:Qe M)(hi:i<M)(hj:j<M):∃m,m<M/\bQ M m i=j:=by
 unfold Qe yr at h;rw[Ju,JT,EG]at h;obtain⟨h0,h1⟩:=h;have get:∀x,x<M->∃m,m<M/\bQ M m 0=x:=fun x hx=>tf M M 0 x (by have:=h1 x (JN.mpr hx);simpa using this)
 obtain⟨a,ha,ea⟩:=get i hi;obtain⟨b,hb,eb⟩:=get j hj
 by_cases hab:a<=b
 ·refine#[b-a,by lia,?_]
  rw[<- ea,<- cU,show a+(b-a)=b by lia,eb]
 ·refine#[M-a+b,by lia,?_]
  rw[<- ea,<- cU,show a+(M-a+b)=M+b by lia,cU,h0,eb]
def ZW(mask:Nat):Nat->Nat×Nat->Nat×Nat
 |0,p=>p
 |n+1,p=>ZW mask n (SetTable.leap mask p.1 p.2)
theorem gH(mask:Nat):∀(a b:Nat) (p:Nat×Nat),ZW mask (a+b) p=ZW mask b (ZW mask a p)
 |0,b,p=>by rw[Nat.zero_add];rfl
 |a+1,b,p=>by rw[Nat.add_right_comm];exact gH mask a b _
theorem kX(mask:Nat):∀(n:Nat) (p:Nat×Nat),(ZW mask n p).2=p.2/32 ^ n
 |0,p=>by show p.2=_;rw[Nat.pow_zero,Nat.div_one]
 |n+1,p=>by
  show(ZW mask n (SetTable.leap mask p.1 p.2)).2=_
  rw[kX mask n]
  show p.2/32/32 ^ n=_
  rw[Nat.div_div_eq_div_mul,Nat.pow_succ,Nat.mul_comm]
theorem j9(mask:Nat):∀(n i p:Nat),p/32=0->(ZW mask n (i,p)).1=bQ (mask+1) n i
 |0,i,p,h=>rfl
 |n+1,i,p,h=>by
  have e:SetTable.leap mask i p=(pf (mask+1) i,0):=by
   unfold SetTable.leap pf;rw[h,Nat.add_zero]
  show(ZW mask n (SetTable.leap mask i p)).1=bQ (mask+1) n (pf (mask+1) i)
  rw[e];exact j9 mask n _ 0 rfl
theorem Aa(h:Int):SetTable.bits h<2 ^ 64:=by
 unfold SetTable.bits;have h1:=ET h (show(0:Int)<2 ^ 64 by decide)
 have h2:=ES h (show(2 ^ 64:Int)≠0 by decide)
 lia
theorem CC{mask j:Nat}(hm:Qe (mask+1))(hj:j<=mask)(h:Int)(i:Nat):∃n,n<SetTable.turns mask/\(ZW mask n (i,SetTable.bits h)).1=j:=by
 have hb:=Aa h;have e12:(ZW mask 12 (i,SetTable.bits h)).2/32=0:=by
  rw[kX]
  show SetTable.bits h/32 ^ 12/32=0
  rw[Nat.div_div_eq_div_mul];exact Nat.div_eq_of_lt (JM hb (by decide))
 have l12:(ZW mask 12 (i,SetTable.bits h)).1<mask+1:=by
  rw[show(12:Nat)=11+1 from rfl,gH mask 11 1]
  exact Nat.mod_lt _ (Nat.succ_pos _)
 obtain⟨m,hm1,hm2⟩:=reach hm l12 (Nat.lt_succ_of_le hj)
 refine#[12+m,by unfold SetTable.turns;lia,?_]
 rw[gH];generalize ZW mask 12 (i,SetTable.bits h)=p at *
 obtain⟨a,b⟩:=p;rw[j9 mask m a b e12];exact hm2
theorem jI{mask:Nat}{ow:Array (Option Nat)}:∀(fuel i p:Nat),SetTable.layClean.free mask ow fuel i p=none->∀n,n<fuel->(ow.getD (ZW mask n (i,p)).1 (some 0)).isNone=false
 |0,i,p,h,n,hn=>absurd hn (Nat.not_lt_zero _)
 |fuel+1,i,p,h,n,hn=>by
  unfold SetTable.layClean.free at h;split at h
  ·cases h
  ·rename_i hf
   cases n with
   |zero=>
    have:=List.find?_eq_none.mp hf 0 (JN.mpr (by unfold SetTable.runEnd;split<;>lia))
    exact EE.mpr this
   |succ n=>exact jI fuel _ _ h n (by lia)
theorem jm{mask:Nat}{ow:Array (Option Nat)}{j:Nat}:∀(fuel i p:Nat),SetTable.layClean.free mask ow fuel i p=some j->(ow.getD j (some 0)).isNone=true
 |0,i,p,h=>nomatch h
 |fuel+1,i,p,h=>by
  unfold SetTable.layClean.free at h;split at h
  ·rename_i k hf
   cases h
   have:=List.find?_some hf
   exact this
  ·exact jm fuel _ _ h
def OwOk(mask:Nat)(ow:Array (Option Nat))(k:Nat):Prop:=ow.size=mask+1/\(ow.toList.filterMap id).Perm (List.range k)
theorem my:∀l:List (Option Nat),(∀x∈l,x.isNone=false)->(l.filterMap id).length=l.length
 | [],_=>rfl
 |x::l,h=>by
  have hx:=h x Jv;cases x with
  |none=>cases hx
  |some y=>
   rw[JR]
   show(y::l.filterMap id).length=_
   rw[JP,JP,my l fun z hz=>h z (JE _ hz)]
theorem OwOk.step{mask k:Nat}{ow:Array (Option Nat)}(hm:Qe (mask+1))(o:OwOk mask ow k)(hk:k<=mask)(h:Int):
  ∃j,SetTable.layClean.free mask ow (SetTable.turns mask) (SetTable.bits h%(mask+1)) (SetTable.bits h)=some j/\OwOk mask (ow.setIfInBounds j (some k)) (k+1):=by
 obtain⟨hs,hp⟩:=o;cases e:SetTable.layClean.free mask ow (SetTable.turns mask) (SetTable.bits h%(mask+1)) (SetTable.bits h)with
 |none=>
  exfalso
  have all:∀x∈ow.toList,x.isNone=false:=fun x hx=>by
   obtain⟨j,hj,rfl⟩:=List.mem_iff_getElem.mp hx;have hj':j<ow.size:=by rw[<- Jo];exact hj
   obtain⟨n,hn,en⟩:=CC hm (show j<=mask by lia) h (SetTable.bits h%(mask+1))
   have:=jI _ _ _ e n hn
   rw[en]at this
   simpa [Array.getD,hj']using this
  have h1:(ow.toList.filterMap id).length=ow.toList.length:=my _ all
  have h2:(ow.toList.filterMap id).length=(List.range k).length:=hp.length_eq
  rw[List.length_range]at h2;rw[h2,Jo]at h1;lia
 |some j=>
  refine#[j,rfl,by rw[Array.size_setIfInBounds];exact hs,?_]
  have hf:=jm _ _ _ e;have hj:j<ow.size:=by
   refine Nat.lt_of_not_le fun z=>?_
   rw[Array.getD,dif_neg (by lia)]at hf
   cases hf
  have hn:ow[j]=none:=by
   rw[Array.getD,dif_pos hj]at hf;exact Option.isNone_iff_eq_none.mp hf
  have hl:j<ow.toList.length:=by rw[Jo];exact hj
  have hn':ow.toList[j]=none:=by rw[Array.getElem_toList];exact hn
  rw[Array.toList_setIfInBounds];have e1:ow.toList=ow.toList.take j++none::ow.toList.drop (j+1):=by
   rw[<- hn',List.getElem_cons_drop,List.take_append_drop]
  have e2:ow.toList.set j (some k)=ow.toList.take j++some k::ow.toList.drop (j+1):=by rw[List.set_eq_take_append_cons_drop,Jb hl]
  rw[e2,List.filterMap_append,JR]
  show((ow.toList.take j).filterMap id++k::(ow.toList.drop (j+1)).filterMap id).Perm _
  rw[e1,List.filterMap_append,JR]at hp;have hp:((ow.toList.take j).filterMap id++(ow.toList.drop (j+1)).filterMap id).Perm (List.range k):=hp
  rw[List.range_succ];refine List.perm_middle.trans ?_
  exact(List.Perm.cons k hp).trans (List.perm_append_singleton k _).symm
theorem pe{mask:Nat}(hm:Qe (mask+1)):∀(hs:List Int) (ow:Array (Option Nat)) (k:Nat),OwOk mask ow k->k+hs.length<=mask+1->
  ∃ow',hs.foldl (fun(acc:Option (Array (Option Nat)×Nat)) (h:Int)=>do
   let(owner,k) <- acc
   let j <- SetTable.layClean.free mask owner (SetTable.turns mask) (SetTable.bits h%(mask+1)) (SetTable.bits h)
   pure (owner.setIfInBounds j (some k),k+1)) (some (ow,k))=some (ow',k+hs.length)/\OwOk mask ow' (k+hs.length)
 | [],ow,k,o,_=>#[ow,rfl,o]
 |h::hs,ow,k,o,hl=>by
  rw[JP]at hl;obtain⟨j,ej,oj⟩:=o.step hm (by lia) h
  obtain⟨ow',e',o'⟩:=pe hm hs _ _ oj (by lia)
  refine#[ow',?_,by rw[JP,show k+(hs.length+1)=k+1+hs.length by lia];exact o']
  rw[List.foldl_cons,JP,show k+(hs.length+1)=k+1+hs.length by lia,<- e']
  congr 1
  show(do
   let j <- SetTable.layClean.free mask ow (SetTable.turns mask) (SetTable.bits h%(mask+1)) (SetTable.bits h)
   pure (ow.setIfInBounds j (some k),k+1))=some (ow.setIfInBounds j (some k),k+1)
  rw[ej];rfl
theorem nM(n:Nat):((List.replicate n (none:Option Nat)).filterMap id)=[]:=by
 induction n with
 |zero=>rfl
 |succ n ih=>rw[Fj,JR];exact ih
theorem nK{mask:Nat}(hm:Qe (mask+1)){hs:Array Int}(hn:hs.size<=mask+1):∃ow,SetTable.layClean mask hs=some ow/\OwOk mask ow hs.size:=by
 have o0:OwOk mask (Array.replicate (mask+1) none) 0:=#[Array.size_replicate,by rw[Array.toList_replicate,nM];exact List.Perm.refl _]
 obtain⟨ow,e,o⟩:=pe hm hs.toList _ 0 o0 (by rw[Jo];lia)
 rw[Nat.zero_add,Jo]at e o;refine#[ow,?_,o]
 unfold SetTable.layClean;rw[<- Array.foldl_toList];exact JO (Option.map (·.1)) e
theorem gF(f:Nat->Option Nat):∀l:List Nat,(l.filterMap fun j=>(f j).map (j,·)).map (·.2)=l.filterMap f
 | []=>rfl
 |j::l=>by
  rw[JR,JR];cases e:f j with
  |none=>simpa using gF f l
  |some k=>simpa using gF f l
theorem rO(ow:Array (Option Nat)):(List.range ow.size).filterMap (fun j=>ow.getD j none)=ow.toList.filterMap id:=by
 have e:(List.range ow.size).map (fun j=>ow.getD j none)=ow.toList:=by
  refine List.ext_getElem (by rw[Je,List.length_range,Jo]) fun i h1 h2=>?_
  have hi:i<ow.size:=by rw[Jo]at h2;exact h2
  simp [Array.getD,hi]
 rw[<- e,List.filterMap_map];rfl
theorem je{mask fg mv:Nat}{led plain:Bool}{hs:Array Int}(hm:Qe (mask+1))(hn:hs.size<=mask):
  ∃t o,SetTable.laid mask fg mv led plain hs=some (t,o)/\t.fits hs.size=true/\o.toList.Perm (List.range hs.size)/\Rs t.place/\t.dummies= (List.toArray [])/\t.led=led/\t.plain=plain/\t.mask=mask:=by
 obtain⟨ow,e,hs1,hp⟩:=nK (hs:=hs) hm (by lia)
 have el:SetTable.laid mask fg mv led plain hs=some ({mask,place:=(((List.range (mask+1)).filterMap fun j=>(ow.getD j none).map (j,·)).map (·.1)).toArray,dummies:= (List.toArray []),finger:=fg,led,moves:=mv,plain},(((List.range (mask+1)).filterMap fun j=>(ow.getD j none).map (j,·)).map (·.2)).toArray):=by
  unfold SetTable.laid;rw[e];rfl
 obtain⟨h1,h2,h3⟩:=oZ el;have e2:((List.range (mask+1)).filterMap fun j=>(ow.getD j none).map (j,·)).map (·.2)=ow.toList.filterMap id:=by
  rw[gF,<- hs1];exact rO ow
 have len:((List.range (mask+1)).filterMap fun j=>(ow.getD j none).map (j,·)).length=hs.size:=by
  have:=JO List.length e2
  rw[Je,hp.length_eq,List.length_range]at this;exact this
 refine#[_,_,el,?_,?_,h1,h2,h3,rfl,rfl]
 ·unfold SetTable.fits SetTable.fill
  dsimp only
  rw[Jp,Je,len];simp [hn]
 ·dsimp only
  rw[e2];exact hp
theorem nU(a:Δ)(wanted:Nat):setRelay a wanted=(do
 let(es,_,t) <- setState a
 if SetTable.sizeAbove wanted>η then unsupported "set:memory"
 let(es,t) <- (do
  let some (t,order):=t.relaid (es.map (·.1)) wanted|unsupported "internal:set-table-without-room"
  let es':=order.filterMap (es[·]?)
  if es'.size != es.size then unsupported "internal:set-table-lost-an-element"
  pure (es',t):Sem (Array (Int×Γ)×SetTable))
 storeSet a es t):=rfl
theorem fV(s o:Δ)(each:Sem Unit):setMerge s o each=(do
 if s==o then return
 let(eo,epoch,to) <- setState o
 if eo.isEmpty then return
 setRoomFor s eo.size
 let(_,_,ts) <- setState s
 match ts.road to with
 | .slotForSlot=>storeSet s eo {to with finger:=ts.finger,led:=ts.led&&to.led,moves:=ts.moves,plain:=ts.plain&&to.plain}
 | .clean=>
  let(es,t) <- (do
   let some (t,order):=SetTable.laid ts.mask ts.finger ts.moves (led:=ts.led&&to.led) (plain:=ts.plain&&to.plain) (eo.map (·.1))|unsupported "internal:set-table-without-room"
   let es':=order.filterMap (eo[·]?)
   if es'.size != eo.size then unsupported "internal:set-table-lost-an-element"
   pure (es',t):Sem (Array (Int×Γ)×SetTable))
  storeSet s es t
 | .oneByOne=>
  for (h,x)in <- setWalkUnseen o [s] (some s) do
   let _ <- holding [x] (setAddHashed s x h)
   each
   if(<- setState o).2.1 != epoch then unsupported "set.changed-during-merge"):=rfl
theorem gU{α:Type}{es:Array α}{o:Array Nat}(h:o.toList.Perm (List.range es.size)):(o.filterMap (es[·]?)).toList.Perm es.toList:=by
 rw[Array.toList_filterMap];refine(h.filterMap _).trans ?_
 have e:(List.range es.size).filterMap (es[·]?)=es.toList:=by
  have e1:(List.range es.size).map (es[·]?)=es.toList.map some:=by
   refine List.ext_getElem (by simp) fun i h1 h2=>?_
   have hi:i<es.size:=by simpa using h2
   simp [hi]
  have:(List.range es.size).filterMap (es[·]?)=((List.range es.size).map (es[·]?)).filterMap id:=by rw[List.filterMap_map];rfl
  rw[this,e1,List.filterMap_map];exact List.filterMap_some
 rw[e]
section
variable{prog:Ξ}{w:Ω}{K:Type} [DecidableEq K]{knd:PySem.KeyKind prog w K}{kf:Γ->K}
variable{A:Around}{E:F2}{s:Θ}
theorem oF{a:Δ}{o:Obj}{es:Array (Int×Γ)}{ep:Nat}{t:SetTable}{wn:Nat}{Q:Unit->Θ->Prop}(ho:s.heap.get? a=some o)(hd:o.data= .set es ep t)(hf:t.fits es.size=true)(hw:wn<256)(hn:es.size<=wn)
  (h:∀es' t',es'.toList.Perm es.toList->t'.fits es'.size=true->Rs t'.place->t'.dummies= (List.toArray [])->t'.led=t.led->t'.plain=t.plain->Qe (t'.mask+1)->wn<=t'.mask->Q () {s with heap:=s.heap.update a (Obj.putSet es' t')}):
  ζ (model prog w) A (setRelay a wn) Q E s:=by
 obtain⟨p1,p2,p3⟩:=wv hw;rw[nU];refine Ja (wpAny_setState_of ho hd hf ?_)
 dsimp only
 have hsl:¬SetTable.sizeAbove wn>η:=by rw[JF];lia
 rw[Jc hsl];have hm:SetTable.sizeAbove wn-1+1=SetTable.sizeAbove wn:=by lia
 obtain⟨t',or,el,q1,q2,q3,q4,q5,q6,q7⟩:=je (mask:=SetTable.sizeAbove wn-1) (fg:=t.finger) (mv:=t.movedTo (SetTable.sizeAbove wn-1)) (led:=t.led) (plain:=t.plain) (hs:=es.map (·.1)) (by rw[hm];exact p1) (by rw[Array.size_map];lia)
 have el:t.relaid (es.map (·.1)) wn=some (t',or):=el
 rw[Array.size_map]at q1 q2;have hp:=gU (es:=es) q2
 have hsz:(or.filterMap (es[·]?)).size=es.size:=by rw[<- Jo,hp.length_eq,Jo]
 have hbn:es.size<=η:=by rw[JF];lia
 refine Ja ?_
 rw[el]
 dsimp only
 rw[hsz];simp only[bne_self_eq_false,Bool.false_eq_true,Jz];exact Jd (wpAny_storeSet_of ho hd (h _ _ hp (by rw[hsz];exact q1) q3 q4 q5 q6 (by rw[q7,hm];exact p1) (by rw[q7];lia)) (by rw[hsz];exact hbn))
def FrK(w:Ω)(h:Ψ)(a:Δ)(n:Nat):Prop:=∃o ep t,h.get? a=some o/\o.ExactSet/\o.data= .set (List.toArray []) ep t/\t.fits 0=true/\t.dummies= (List.toArray [])/\Qe (t.mask+1)/\n<=t.mask/\TW w t
theorem FrK.k{h:Ψ}{a:Δ}{n:Nat}(x:FrK w h a n):SetK knd kf h a []:=by
 obtain⟨o,ep,t,h1,h2,h3,h4,h5,h6,h7,h8⟩:=x
 exact#[o,(List.toArray []),ep,t,h1,h2,h3,h4,by decide,(fun e he=>nomatch he),List.Perm.refl _,h8]
theorem y7{a:Δ}{n:Nat}{Q:Unit->Θ->Prop}(hF:FrK w s.heap a 0)(hn:n<=100)(h:∀h',Ψ.SameBut a s.heap h'->FrK w h' a n->Q () {s with heap:=h'}):ζ (model prog w) A (setRoomFor a n) Q E s:=by
 obtain⟨o,ep,t,h1,h2,h3,h4,h5,h6,h7,h8⟩:=hF;unfold setRoomFor;refine Ja (wpAny_setState_of h1 h3 h4 ?_)
 dsimp only
 have hp0:t.place.size=0:=by
  unfold SetTable.fits at h4;rw[Ju,JT]at h4;exact h4.1
 have hfill:t.fill=0:=by unfold SetTable.fill;rw[hp0,h5];rfl
 unfold SetTable.roomFor;rw[hfill,hp0]
 by_cases c:(0+n)*5 ≥ t.mask*3
 ·rw[Jb c]
  dsimp only
  refine oF h1 h3 h4 (by lia) (JC _) fun es' t' e1 e2 e3 e4 e5 e6 e7 e8=>?_
  have e0:es'= (List.toArray []):=by
   have:=e1.length_eq
   rw[Jo]at this;exact Array.eq_empty_of_size_eq_zero this
  subst e0;refine h _ (J6 s.heap a _) #[_,_,t',Zu h1 h3 (List.toArray []) t',h2,rfl,e2,e4,e7,by lia,?_]
  rcases h8 with z|⟨z1,z2⟩
  ·exact .inl z
  ·exact .inr #[e5.trans z1,fun _=>e3]
 ·rw[Jc c]
  exact Jd (h s.heap (Ψ.SameBut.refl a s.heap) #[o,ep,t,h1,h2,h3,h4,h5,h6,by lia,h8])
theorem TW.both{t u:SetTable}{fg mv:Nat}(a:TW w t)(b:TW w u)(hp:u.dummies= (List.toArray [])):TW w {u with finger:=fg,led:=t.led&&u.led,moves:=mv,plain:=t.plain&&u.plain}:=by
 rcases a with z|⟨z1,z2⟩
 ·exact .inl z
 ·rcases b with y|⟨y1,y2⟩
  ·exact .inl y
  ·refine .inr #[by show(t.led&&u.led)=true;rw[z1,y1];rfl,fun h=>?_]
   have h:(t.plain&&u.plain)=true:=h
   rw[Ju]at h;exact y2 h.2
theorem gr{a b:Δ}{kb:List K}{each:Sem Unit}{Q:Unit->Θ->Prop}(nab:a≠b)(hF:FrK w s.heap a 0)(hB:SetK knd kf s.heap b kb)(lb:kb.length<=100)
  (h:∀h',Ψ.SameBut a s.heap h'->SetK knd kf h' a kb->(kb=[]->FrK w h' a 0)->Q () {s with heap:=h'}):ζ (model prog w) A (setMerge a b each) Q E s:=by
 obtain⟨ob,eb,epb,tb,b1,b2,b3,b4,b5,b6,b7,b8⟩:=id hB;have esz:eb.size=kb.length:=by rw[<- b7.length_eq,Je,Jo]
 rw[fV];have hne:(a==b)=false:=by rw[EK];exact nab
 rw[hne];simp only[Bool.false_eq_true,Jz];refine Ja (wpAny_setState_of b1 b3 b4 ?_)
 dsimp only
 by_cases c:eb.isEmpty=true
 ·rw[Jb c]
  have e0:kb=[]:=by
   rw[Array.isEmpty_iff_size_eq_zero,esz]at c;exact List.eq_nil_of_length_eq_zero c
  subst e0;exact Jd (h s.heap (Ψ.SameBut.refl a s.heap) hF.k fun _=>hF)
 ·rw[Jc c]
  refine Ja (y7 hF (by lia) fun h1 sb1 hF1=>?_)
  obtain⟨o,ep,t,q1,q2,q3,q4,q5,q6,q7,q8⟩:=id hF1;refine Ja (wpAny_setState_of (s:={s with heap:=h1}) q1 q3 q4 ?_)
  dsimp only
  have hp0:t.place.size=0:=by
   unfold SetTable.fits at q4;rw[Ju,JT]at q4;exact q4.1
  have hfill:t.fill=0:=by unfold SetTable.fill;rw[hp0,q5];rfl
  have kne:kb≠[]:=fun z=>c (by rw[Array.isEmpty_iff_size_eq_zero,esz,z];rfl)
  have hbs:eb.size<=η:=fits_of_scanBound b5
  have er:t.road tb=if t.mask==tb.mask&&tb.dummies.isEmpty then .slotForSlot else .clean:=by
   unfold SetTable.road;rw[hfill];rfl
  rw[er]
  by_cases c2:(t.mask==tb.mask&&tb.dummies.isEmpty)=true
  ·rw[Jb c2]
   rw[Ju,Array.isEmpty_iff]at c2;refine wpAny_storeSet_of (s:={s with heap:=h1}) q1 q3 ?_ hbs
   refine h _ (sb1.trans (J6 h1 a _)) #[_,eb,_,_,Zu q1 q3 eb _,q2,rfl,?_,b5,b6,b7,TW.both q8 b8 c2.2] fun z=>absurd z kne
   exact b4
  ·rw[Jc c2]
   obtain⟨t',or,el,r1,r2,r3,r4,r5,r6,r7⟩:=je (mask:=t.mask) (fg:=t.finger) (mv:=t.moves) (led:=t.led&&tb.led) (plain:=t.plain&&tb.plain) (hs:=eb.map (·.1)) q6 (by rw[Array.size_map];exact q7)
   rw[Array.size_map]at r1 r2;have hp:=gU (es:=eb) r2
   have hsz:(or.filterMap (eb[·]?)).size=eb.size:=by rw[<- Jo,hp.length_eq,Jo]
   dsimp only
   refine Ja ?_
   rw[el]
   dsimp only
   rw[hsz];simp only[bne_self_eq_false,Bool.false_eq_true,Jz];refine Jd (wpAny_storeSet_of (s:={s with heap:=h1}) q1 q3 ?_ (by rw[hsz];exact hbs))
   refine h _ (sb1.trans (J6 h1 a _)) #[_,_,_,t',Zu q1 q3 _ t',q2,rfl,by rw[hsz];exact r1,by rw[hsz];exact b5,b6.perm hp,(hp.map _).trans b7,?_] fun z=>absurd z kne
   rcases q8 with z|⟨z1,z2⟩
   ·exact .inl z
   ·rcases b8 with y|⟨y1,y2⟩
    ·exact .inl y
    ·exact .inr #[by rw[r5,z1,y1];rfl,fun _=>r3]
end
section
variable{prog:Ξ}{w:Ω}{K:Type} [DecidableEq K]{knd:PySem.KeyKind prog w K}{kf:Γ->K}
variable{A:Around}{E:F2}{s:Θ}
theorem Be{a:Δ}{n:Nat}{ks:List K}{Q:Unit->Θ->Prop}(hS:SetK knd kf s.heap a ks)(hn:ks.length+n<=100)(h:∀h',Ψ.SameBut a s.heap h'->SetK knd kf h' a ks->Q () {s with heap:=h'}):ζ (model prog w) A (setRoomFor a n) Q E s:=by
 obtain⟨o,es,ep,t,h1,h2,h3,h4,h5,h6,h7,h8⟩:=id hS;have esz:es.size=ks.length:=by rw[<- h7.length_eq,Je,Jo]
 unfold setRoomFor;refine Ja (wpAny_setState_of h1 h3 h4 ?_)
 dsimp only
 have hp0:t.place.size=es.size:=by
  unfold SetTable.fits at h4;rw[Ju,JT]at h4;exact h4.1
 unfold SetTable.roomFor;rw[hp0]
 by_cases c:(t.fill+n)*5 ≥ t.mask*3
 ·rw[Jb c]
  dsimp only
  refine oF h1 h3 h4 (by lia) (by lia) fun es' t' e1 e2 e3 e4 e5 e6 e7 e8=>?_
  have sz:es'.size=es.size:=by rw[<- Jo,e1.length_eq,Jo]
  refine h _ (J6 s.heap a _) #[_,es',_,t',Zu h1 h3 es' t',h2,rfl,e2,by rw[sz];exact h5,h6.perm e1,(e1.map _).trans h7,?_]
  rcases h8 with z|⟨z1,z2⟩
  ·exact .inl z
  ·exact .inr #[e5.trans z1,fun _=>e3]
 ·rw[Jc c]
  exact Jd (h s.heap (Ψ.SameBut.refl a s.heap) hS)
theorem oY{a r:Δ}{o:Obj}{es:Array (Int×Γ)}{ep:Nat}{t:SetTable}{kr:List K}{Q:Array (Int×Γ)->Θ->Prop}(ho:s.heap.get? a=some o)(hex:o.ExactSet)(hd:o.data= .set es ep t)(hf:t.fits es.size=true)(hb:es.size<scanBound)(hel:ElemsOf knd es.toList)(tw:TW w t)
  (hR:SetK knd kf s.heap r kr)
  (h:∀arr h',arr.toList.Perm es.toList->Ψ.SameBut r s.heap h'->SetK knd kf h' r kr->Q arr {s with heap:=h'}):ζ (model prog w) A (setWalkUnseen a [r] (some r)) Q E s:=by
 have same:∀arr,arr.toList.Perm es.toList->Q arr s:=fun arr p=>h arr s.heap p (Ψ.SameBut.refl r s.heap) hR
 have vH:(zw w||(t.led&&t.plain)||decide (es.size<=1))=true->ζ (model prog w) A (setWalk a) Q E s:=fun c=>by
  rw[sk];refine Ja (wpAny_setState_of ho hd hf ?_)
  dsimp only
  refine Ja (QN ?_)
  cases hbt:zw w with
  |true=>
   rw[Jb rfl];exact Ja (wpAny_askSetting (Jd (same _ (jT _ es))))
  |false=>
   rw[Jc (by decide)]
   rw[hbt]at c;have hl:t.led=true:=by
    rcases tw with z|⟨z1,_⟩
    ·rw[hbt]at z;cases z
    ·exact z1
   have hdr:(!t.plain&&decide (es.size>1))=false:=by
    rw[hl]at c;cases hp:t.plain with
    |true=>rfl
    |false=>rw[hp]at c;simp at c;simp;lia
   rw[hdr];simp only[Bool.false_eq_true,Jz,hl,Bool.not_true,Ei];exact Ja (Jd (Jd (same _ (List.Perm.refl _))))
 unfold setWalkUnseen;refine Ja (wpAny_setState_of ho hd hf ?_)
 dsimp only
 refine Ja (QN ?_)
 by_cases c:(zw w||(t.led&&t.plain)||decide (es.size<=1))=true
 ·rw[Jb c]
  exact vH c
 ·rw[Jc c]
  have hbt:zw w=false:=by
   cases e:zw w with
   |true=>rw[e]at c;simp at c
   |false=>rfl
  have hl:t.led=true:=by
   rcases tw with z|⟨z1,_⟩
   ·rw[hbt]at z;cases z
   ·exact z1
  refine Ja (yN (knd:=knd) (kf:=kf) (fun x hx=>?_) ?_)
  ·simp only[Jr,Ex,Ey]at hx
   rcases hx with rfl|rfl
   ·exact#[_,o,es,ep,t,ho,hex,hd,hf,hb,hel,List.Perm.refl _,tw]
   ·exact#[_,hR]
  ·simp only[Bool.not_true,Bool.false_eq_true,Jz]
   refine Ja (Eu ?_)
   obtain⟨o2,es2,ep2,t2,ho2,hex2,hd2,hf2,hb2,hel2,hpm2,tw2⟩:=hR;refine Ja (wpAny_setState_of ho2 hd2 hf2 ?_)
   dsimp only
   by_cases c2:((t2.led&& !t.led)||(t2.plain&& !t.plain))=true
   ·rw[Jb c2]
    refine Ja (wpAny_storeSet_of ho2 hd2 (Jd ?_) (fits_of_scanBound hb2))
    refine h _ _ (List.Perm.refl _) (J6 s.heap r _) #[_,es2,_,_,Zu ho2 hd2 es2 _,hex2,rfl,hf2,hb2,hel2,hpm2,?_]
    rcases tw2 with z|⟨z1,z2⟩
    ·exact .inl z
    ·refine .inr #[by show(t2.led&&t.led)=true;rw[z1,hl];rfl,fun z=>?_]
     have z:(t2.plain&&t.plain)=true:=z
     rw[Ju]at z;exact z2 z.1
   ·rw[Jc c2]
    exact Jd (same _ (List.Perm.refl _))
theorem vy(hkf:∀k v,knd.is k v=true->kf v=k){a b:Δ}(nab:b≠a){o:Obj}{es:Array (Int×Γ)}{ep:Nat}{t:SetTable}{ka:List K}{each:Sem Unit}{Q:PUnit->Θ->Prop}(hd:o.data= .set es ep t)(hf:t.fits es.size=true)(arr:Array (Int×Γ))(harr:ElemsOf knd arr.toList)(hn:ka.length+arr.size+1<scanBound)
  (heach:∀(s':Θ) (Q':Unit->Θ->Prop),s'.heap.get? b=some o->Q' () s'->ζ (model prog w) A each Q' E s')
  (ho:s.heap.get? b=some o)(hS:SetK knd kf s.heap a ka)(nd:ka.Nodup)
  (h:∀h' ks,Ψ.SameBut a s.heap h'->SetK knd kf h' a ks->ks.Nodup->(∀k,k∈ks↔k∈ka\/k∈(arr.toList.map fun e=>kf e.2))->Q #[] {s with heap:=h'}):
  ζ (model prog w) A (forIn arr PUnit.unit fun x _=>do
   let _ <- holding [x.2] (setAddHashed a x.2 x.1)
   each
   if(<- setState b).2.1 != ep then do
    unsupported "set.changed-during-merge"
    pure (ForInStep.yield PUnit.unit)
   else pure (ForInStep.yield PUnit.unit)) Q E s:=by
 obtain⟨hp,g,dr,tk,os⟩:=s;refine PySem.MeetsSeq2.wpAny_forIn_array _ (fun rest _ s'=>∃h' done ks,s'=#[h',g,dr,tk,os]/\arr.toList=done++rest/\Ψ.SameBut a hp h'/\SetK knd kf h' a ks/\ks.Nodup/\(∀k,k∈ks↔k∈ka\/k∈(done.map fun e=>kf e.2))/\ks.length<=ka.length+done.length) _ ?_ ?_ arr _ #[hp,[],ka,rfl,rfl,Ψ.SameBut.refl a hp,hS,nd,fun k=>by simp,Jf _]
 ·rintro⟨hh,x⟩ rest _ s' ⟨h',done,ks,rfl,e,sb,hR',nd,mem,len⟩
  have hx:(hh,x)∈arr.toList:=by rw[e];exact JH _ Jv
  obtain⟨⟨k,hk,hhash⟩,hsc⟩:=harr _ hx
  dsimp only at hk hhash hsc⊢
  subst hhash;have hdl:done.length+1<=arr.size:=by
   have:=JO List.length e
   rw[Jo,Jt,JP]at this;lia
  have kx:kf x=k:=hkf k x hk
  refine Ja (JD (pZ (s:=#[h',g,dr,tk,os]) hkf hk hsc hR' (by lia) fun h2 sb2 hR2=>?_))
  have ho2:h2.get? b=some o:=by rw[sb2.2 b nab,sb.2 b nab];exact ho
  refine Ja (heach _ _ ho2 (Ja (wpAny_setState_of (s:=#[h2,g,dr,tk,os]) ho2 hd hf ?_)))
  simp only[bne_self_eq_false,Bool.false_eq_true,Jz];refine Jd #[h2,done++[(knd.hash k,x)],_,rfl,by rw[e,EL];rfl,sb.trans sb2,hR2,?_,fun k'=>?_,?_]
  ·split
   ·exact nd
   ·rename_i hnk
    rw[EU]
    exact#[nd,by simp,fun x1 hx1 y1 hy1 e1=>hnk (by rw[Jl.mp hy1]at e1;rw[<- e1];exact hx1)]
  ·rw[JJ,JB]
   show _↔_\/_\/k'∈[kf x]
   rw[kx,Jl];split
   ·rename_i hik
    rw[mem];constructor
    ·rintro(h1|h1)
     ·exact .inl h1
     ·exact .inr (.inl h1)
    ·rintro(h1|h1|rfl)
     ·exact .inl h1
     ·exact .inr h1
     ·exact(mem k').mp hik
   ·rw[JB,mem,Jl,or_assoc]
  ·rw[Jt,EM]
   split
   ·lia
   ·rw[Jt,EM];lia
 ·rintro _ s' ⟨h',done,ks,rfl,e,sb,hR',nd,mem,len⟩
  rw[JV]at e;refine h h' ks sb hR' nd (by rw[e];exact mem)
theorem yW(hkf:∀k v,knd.is k v=true->kf v=k){a b:Δ}{ka kb:List K}{each:Sem Unit}{Q:Unit->Θ->Prop}(nab:a≠b)(hA:SetK knd kf s.heap a ka)(hB:SetK knd kf s.heap b kb)(ne:ka≠[])(nd:ka.Nodup)(la:ka.length+kb.length<=100)
  (heach:∀(s':Θ) (Q':Unit->Θ->Prop),(∀o,s.heap.get? b=some o->s'.heap.get? b=some o)->Q' () s'->ζ (model prog w) A each Q' E s')
  (h:∀h' ks,Ψ.SameBut a s.heap h'->SetK knd kf h' a ks->ks.Nodup->(∀k,k∈ks↔k∈ka\/k∈kb)->Q () {s with heap:=h'}):ζ (model prog w) A (setMerge a b each) Q E s:=by
 obtain⟨ob,eb,epb,tb,b1,b2,b3,b4,b5,b6,b7,b8⟩:=id hB;have esz:eb.size=kb.length:=by rw[<- b7.length_eq,Je,Jo]
 rw[fV];have hne:(a==b)=false:=by rw[EK];exact nab
 rw[hne];simp only[Bool.false_eq_true,Jz];refine Ja (wpAny_setState_of b1 b3 b4 ?_)
 dsimp only
 by_cases c:eb.isEmpty=true
 ·rw[Jb c]
  have e0:kb=[]:=by
   rw[Array.isEmpty_iff_size_eq_zero,esz]at c;exact List.eq_nil_of_length_eq_zero c
  subst e0;exact Jd (h s.heap ka (Ψ.SameBut.refl a s.heap) hA nd fun k=>by simp)
 ·rw[Jc c]
  refine Ja (Be hA (by lia) fun h1 sb1 hA1=>?_)
  obtain⟨o,ea,ep,t,q1,q2,q3,q4,q5,q6,q7,q8⟩:=id hA1;refine Ja (wpAny_setState_of (s:={s with heap:=h1}) q1 q3 q4 ?_)
  dsimp only
  have hp0:t.place.size=ea.size:=by
   unfold SetTable.fits at q4;rw[Ju,JT]at q4;exact q4.1
  have hea:ea.size=ka.length:=by rw[<- q7.length_eq,Je,Jo]
  have hka:ka.length≠0:=fun z=>ne (List.eq_nil_of_length_eq_zero z)
  have er:t.road tb= .oneByOne:=by
   unfold SetTable.road SetTable.fill;rw[Jb];rw[bne_iff_ne];lia
  rw[er]
  dsimp only
  have ho1:h1.get? b=some ob:=by rw[sb1.2 b nab.symm];exact b1
  refine Ja (oY (s:={s with heap:=h1}) (a:=b) (r:=a) ho1 b2 b3 b4 b5 b6 b8 hA1 fun arr h2 hp sb2 hA2=>?_)
  have asz:arr.size=eb.size:=by rw[<- Jo,hp.length_eq,Jo]
  have ho2:h2.get? b=some ob:=by rw[sb2.2 b nab.symm];exact ho1
  have e4:scanBound=4096:=rfl
  refine Ja (vy (s:={s with heap:=h2}) hkf nab.symm b3 b4 arr (b6.perm hp) (by lia) (fun s' Q' z hq=>heach s' Q' (fun o z2=>?_) hq) ho2 hA2 nd fun h3 ks sb3 hA3 nd3 mem3=>Jd ?_)
  ·rw[b1]at z2;cases z2;exact z
  ·refine h h3 ks ((sb1.trans sb2).trans sb3) hA3 nd3 fun k=>?_
   rw[mem3,(hp.map fun e=>kf e.2).mem_iff,b7.mem_iff]
theorem kP:entryFor table "set.__or__"=some δ.«frozenset.__or__»:=
 entryFor_alias (id':="frozenset.__or__") (by kernel_rfl) rfl (by decide +kernel) (by kernel_rfl)
theorem C8(x y:Γ):δ.«frozenset.__or__» #[[x,y],[]]=(do
 if !(<- δ.Frozenset.isAnySet x <&&> δ.Frozenset.isAnySet y)then
  rule s!"frozenset.{"__or__"}.declined"
  return <- ret .notImplemented
 ret (<- (fun(id:String) (l:Δ) (r:Γ)=>(do
  let result <- δ.Frozenset.copyOf l
  if r != .ref l then holding [result] (δ.Frozenset.updateFrom id (<- δ.Frozenset.addrOf result) r)
  return result:Sem Γ)) s!"frozenset.{"__or__"}" (<- δ.Frozenset.addrOf x) y)):=rfl
theorem uK{h:Ψ}{a:Δ}(ha:h.get? a=some (Qj (!zw w))):FrK w h a 0:=by
 refine#[_,0,_,ha,#[rfl,rfl,rfl],rfl,rfl,rfl,ug,JC _,?_]
 cases hb:zw w with
 |true=>exact .inl hb
 |false=>exact .inr #[rfl,fun _=>List.Pairwise.nil]
theorem DN(hkf:∀k v,knd.is k v=true->kf v=k){a b:Δ}{ka kb:List K}{Q:F2}(nab:a≠b)(hA:SetK knd kf s.heap a ka)(hB:SetK knd kf s.heap b kb)(na:ka.Nodup)(nb:kb.Nodup)(la:ka.length+kb.length<=100)
  (h:∀h' ks,(∀c o,s.heap.get? c=some o->h'.get? c=some o)->SetK knd kf h' s.heap.objs.size ks->ks.Nodup->(∀k,k∈ks↔k∈ka\/k∈kb)->Q (.ref s.heap.objs.size) {s with heap:=h'}):
  ζ (model prog w) A (binaryOp .BitOr (.ref a) (.ref b)) Q E s:=by
 have hTa:=hA.type (h:=s.heap)
 have hTb:=hB.type (h:=s.heap)
 refine wpAny_binaryOp_same (op:= .BitOr) (T:="set") hTa hTb PySem.F.fills_set_or PySem.F.slot_set_or (J1 PySem.F.slot_set_or hTa kP ?_ (PySem.F.args_set_or_2 _ _))
 rw[C8];refine Ja (Ja (ZQ hTa ?_))
 show ζ _ _ (δ.Frozenset.isAnySet (Γ.ref b)) _ _ _
 refine ZQ hTb ?_
 simp only[Bool.not_true,Bool.false_eq_true,Jz];refine Ja (Jd (Ja ?_))
 unfold δ.Frozenset.copyOf δ.Frozenset.baseOf;refine Ja (Ja (Ja (E6 hTa sub_set_self (Jd ?_))))
 rw[Jb rfl];refine Ja (lf ?_)
 refine Ja (Jd ?_)
 have hr:(s.heap.push (Qj (!zw w))).get? s.heap.objs.size=some (Qj (!zw w)):=Js _ rfl
 have old:∀c o,s.heap.get? c=some o->(s.heap.push (Qj (!zw w))).get? c=some o:=fun c o e=>Jj _ e
 have hA1:SetK knd kf (s.heap.push (Qj (!zw w))) a ka:=hA.at (old a)
 have hB1:SetK knd kf (s.heap.push (Qj (!zw w))) b kb:=hB.at (old b)
 have lta:=hA.lt;have ltb:=hB.lt;have na':s.heap.objs.size≠a:=(Jk lta).symm
 have nb':s.heap.objs.size≠b:=(Jk ltb).symm
 refine Ja (gr (s:={s with heap:=s.heap.push (Qj (!zw w))}) na' (uK hr) hA1 (by lia) fun h1 sb1 hR1 hfr=>Jd ?_)
 have hne:((Γ.ref b:Γ) != Γ.ref a)=true:=by
  rw[bne_iff_ne];intro e;cases e;exact nab rfl
 rw[Jb hne];have hB2:SetK knd kf h1 b kb:=hB1.at fun o1 e1=>by rw[sb1.2 b nb'.symm];exact e1
 have hTb2:Θ.TypeIs {s with heap:=h1} (.ref b) "set":=hB2.type (s:={s with heap:=h1}) (h:=s.heap)
 refine Ja (Jd (Ja (JD ?_)))
 unfold δ.Frozenset.updateFrom;refine Ja (ZQ hTb2 ?_)
 rw[Jb rfl];refine Ja (Ja (Jd (Jd ?_)))
 unfold δ.Frozenset.merge;obtain⟨ob,eb,epb,tb,b1,b2,b3,b4,_⟩:=id hB2;refine Ja (wpAny_setEpoch_of (s:={s with heap:=h1}) b1 b3 b4 ?_)
 have fin:∀h2 ks,Ψ.SameBut s.heap.objs.size h1 h2->SetK knd kf h2 s.heap.objs.size ks->ks.Nodup->(∀k,k∈ks↔k∈ka\/k∈kb)->Q (.ref s.heap.objs.size) {s with heap:=h2}:=fun h2 ks sb2 hk nd mem=>by
  refine h h2 ks (fun c o e=>?_) hk nd mem
  have nc:c≠s.heap.objs.size:=Jk (Ji e)
  rw[sb2.2 c nc,sb1.2 c nc];exact old c o e
 by_cases ce:ka=[]
 ·subst ce
  refine gr (s:={s with heap:=h1}) nb' (hfr rfl) hB2 (by lia) fun h2 sb2 hR2 _=>?_
  exact Jd (Jd #[_,rfl,(fun e=>nomatch e),fin h2 kb sb2 hR2 nb fun k=>by simp])
 ·refine yW (s:={s with heap:=h1}) hkf nb' hR1 hB2 ce na la (fun s' Q' z hq=>?_) fun h2 ks sb2 hR2 nd mem=>?_
  ·unfold δ.Frozenset.unchanged
   refine Ja (wpAny_setEpoch_of (s:=s') (z _ b1) b3 b4 ?_)
   simp only[bne_self_eq_false,Bool.false_eq_true,Jz];exact Jd hq
  ·exact Jd (Jd #[_,rfl,(fun e=>nomatch e),fin h2 ks sb2 hR2 nd mem])
end
theorem cD{α:Type}(xs:Array α)(i:Nat):(SetTable.eraseAt xs i).toList=xs.toList.eraseIdx i:=by
 unfold SetTable.eraseAt;rw[Array.toList_append,Array.toList_extract,Array.toList_extract,List.eraseIdx_eq_take_drop_succ];congr 1
 simp
 exact List.take_of_length_le (by simp)
theorem nk{α:Type}{l:List α}{j:Nat}(hj:j<l.length):(l[j]::l.eraseIdx j).Perm l:=by
 rw[List.eraseIdx_eq_take_drop_succ];refine List.perm_middle.symm.trans ?_
 rw[List.getElem_cons_drop,List.take_append_drop]
theorem Rs.erase{xs:Array Nat}(h:Rs xs)(i:Nat):Rs (SetTable.eraseAt xs i):=by
 unfold Rs;rw[cD];exact List.Pairwise.sublist (List.eraseIdx_sublist _ _) h
theorem AR{t:SetTable}{n i:Nat}(hf:t.fits n=true)(hi:i<n):(t.drop i).fits (n-1)=true/\(TOk t->TOk (t.drop i))/\(t.drop i).led=t.led:=by
 unfold SetTable.fits at hf;rw[Ju,JT,decide_eq_true_eq]at hf;have hp:i<t.place.size:=by lia
 have e:t.place[i]? =some t.place[i]:=getElem?_pos t.place i hp
 unfold SetTable.drop;rw[e]
 dsimp only
 have s1:(SetTable.eraseAt t.place i).size=n-1:=by rw[<- Jo,cD,List.length_eraseIdx_of_lt (by rw[Jo];exact hp),Jo];lia
 have s2:(SetTable.insertAt t.dummies (SetTable.below t.dummies t.place[i]) t.place[i]).size=t.dummies.size+1:=by
  rw[<- Jo,SetTable.toList_insertAt,Jt,JP,J8,FA,Jo];lia
 refine#[?_,fun h hpl=>(h hpl).erase i,rfl]
 unfold SetTable.fits SetTable.fill
 dsimp only
 rw[s1,s2];unfold SetTable.fill at hf;rw[Ju,JT,decide_eq_true_eq]
 exact#[rfl,by lia]
section
variable{prog:Ξ}{w:Ω}{K:Type} [DecidableEq K]{knd:PySem.KeyKind prog w K}{kf:Γ->K}
variable{A:Around}{E:F2}{s:Θ}
theorem uj(hkf:∀k v,knd.is k v=true->kf v=k){a:Δ}{ks:List K}{k:K}{x:Γ}{Q:Bool->Θ->Prop}(hkey:knd.is k x=true)(hsc:x.scannable=true)
  (hS:SetK knd kf s.heap a ks)
  (h:∀h',Ψ.SameBut a s.heap h'->SetK knd kf h' a (ks.erase k)->Q (decide (k∈ks)) {s with heap:=h'}):
  ζ (model prog w) A (setDiscardHashed a x (knd.hash k)) Q E s:=by
 obtain⟨o,es,ep,t,ho,hex,hd,hf,hb,hel,hpm,htw⟩:=id hS;have hmem:k∈ks↔∃e∈es.toList,knd.is k e.2=true:=by rw[<- hpm.mem_iff];exact lj hkf hel k
 unfold setDiscardHashed setFind setFindIn;refine Ja (Ja (wpAny_setState_of ho hd hf ?_))
 dsimp only
 rw[byScan_of hsc hb hel];simp only[↓reduceIte];refine Ja (Eu (Ja (wpAny_setScan_of hkey ho hd hf hel ?_)))
 cases hr:List.findIdx? (fun e=>knd.is k e.2) es.toList with
 |none=>
  have hk:k∉ks:=fun z=>by
   obtain⟨e,he,hp⟩:=hmem.mp z
   have:=List.findIdx?_eq_none_iff.mp hr e he
   rw[hp]at this;cases this
  dsimp only
  refine Jd (Jd ?_)
  have:=h s.heap (Ψ.SameBut.refl a s.heap) (by rw[List.erase_of_not_mem hk];exact hS)
  rw[Jm hk]at this;exact this
 |some j=>
  obtain⟨hj,hpj,_⟩:=List.findIdx?_eq_some_iff_getElem.mp hr
  have hk:k∈ks:=hmem.mpr #[es.toList[j],EZ hj,hpj]
  have hj':j<es.size:=by rw[<- Jo];exact hj
  dsimp only
  refine Jd ?_
  dsimp only
  rw[Nat.zero_add];refine Ja (wpAny_setState_of ho hd hf ?_)
  dsimp only
  obtain⟨d1,d2,d3⟩:=AR hf hj';have el:=cD es j;have sz:(SetTable.eraseAt es j).size=es.size-1:=by rw[<- Jo,el,List.length_eraseIdx_of_lt hj,Jo]
  have hb':(SetTable.eraseAt es j).size<scanBound:=by lia
  refine Ja (wpAny_storeSet_of ho hd (Ja (wpAny_point (Jd ?_))) (fits_of_scanBound hb'))
  have hp:(es.toList[j]::es.toList.eraseIdx j).Perm es.toList:=nk hj
  have hkj:kf es.toList[j].2=k:=hkf k _ hpj
  have:=h _ (J6 s.heap a (Obj.putSet (SetTable.eraseAt es j) (t.drop j))) #[_,_,_,_,Zu ho hd _ _,hex,rfl,by rw[sz];exact d1,hb',?_,?_,?_]
  ·rw[Jh hk]at this;exact this
  ·intro e he
   rw[el]at he;exact hel e ((List.eraseIdx_sublist _ _).subset he)
  ·rw[el]
   have hq:=(hp.map fun e=>kf e.2).trans hpm
   rw[JU,hkj]at hq
   exact(List.cons_perm_iff_perm_erase.mp hq).2
  ·rcases htw with z|⟨z1,z2⟩
   ·exact .inl z
   ·exact .inr #[d3.trans z1,d2 z2]
theorem sQ(hkf:∀k v,knd.is k v=true->kf v=k){a b:Δ}(id:String)(nab:b≠a){o:Obj}{es:Array (Int×Γ)}{ep:Nat}{t:SetTable}{ka:List K}{Q:PUnit->Θ->Prop}(hd:o.data= .set es ep t)(hf:t.fits es.size=true)(arr:Array (Int×Γ))(harr:ElemsOf knd arr.toList)(ndr:(arr.toList.map fun e=>kf e.2).Nodup)(hn:ka.length+arr.size+1<scanBound)
  (ho:s.heap.get? b=some o)(hS:SetK knd kf s.heap a ka)(nd:ka.Nodup)
  (h:∀h' ks,Ψ.SameBut a s.heap h'->SetK knd kf h' a ks->ks.Nodup->ks.length<=ka.length+arr.size->(∀k,k∈ks↔¬(k∈ka↔k∈(arr.toList.map fun e=>kf e.2)))->Q #[] {s with heap:=h'}):
  ζ (model prog w) A (forIn arr PUnit.unit fun x _=>do
   holding [x.2] (do
    let d <- setDiscardHashed a x.2 x.1
    if(!d)=true then do
     let _ <- setAddHashed a x.2 x.1
     pure PUnit.unit
    else pure PUnit.unit)
   δ.Frozenset.unchanged id b ep
   pure (ForInStep.yield PUnit.unit)) Q E s:=by
 obtain⟨hp,g,dr,tk,os⟩:=s;refine PySem.MeetsSeq2.wpAny_forIn_array _ (fun rest _ s'=>∃h' done ks,s'=#[h',g,dr,tk,os]/\arr.toList=done++rest/\Ψ.SameBut a hp h'/\SetK knd kf h' a ks/\ks.Nodup/\(∀k,k∈ks↔¬(k∈ka↔k∈(done.map fun e=>kf e.2)))/\ks.length<=ka.length+done.length) _ ?_ ?_ arr _ #[hp,[],ka,rfl,rfl,Ψ.SameBut.refl a hp,hS,nd,fun k=>by simp,Jf _]
 ·rintro⟨hh,x⟩ rest _ s' ⟨h',done,ks,rfl,e,sb,hR',nd,mem,len⟩
  have hx:(hh,x)∈arr.toList:=by rw[e];exact JH _ Jv
  obtain⟨⟨k,hk,hhash⟩,hsc⟩:=harr _ hx
  dsimp only at hk hhash hsc⊢
  subst hhash;have kx:kf x=k:=hkf k x hk
  have hdl:done.length+1<=arr.size:=by
   have:=JO List.length e
   rw[Jo,Jt,JP]at this;lia
  have knew:k∉(done.map fun e=>kf e.2):=fun z=>by
   rw[e,JJ,EU]at ndr;exact ndr.2.2 k z k (by rw[JU];show k∈kf x::_;rw[kx];exact Jv) rfl
  have mk:k∈ks↔k∈ka:=by
   rw[mem k];constructor
   ·intro z
    refine Decidable.byContradiction fun y=>z #[fun u=>absurd u y,fun u=>absurd u knew]
   ·intro z y
    exact knew (y.mp z)
  have fin:∀h2 ks2,Ψ.SameBut a h' h2->SetK knd kf h2 a ks2->ks2.Nodup->(∀k',k'∈ks2↔(if k'=k then k∉ks else k'∈ks))->ks2.length<=ks.length+1->∀(Z:Θ->Prop),(∀s',(∃h' done ks,s'=(#[h',g,dr,tk,os]:Θ)/\arr.toList=done++rest/\Ψ.SameBut a hp h'/\SetK knd kf h' a ks/\ks.Nodup/\(∀k,k∈ks↔¬(k∈ka↔k∈(done.map fun e=>kf e.2)))/\ks.length<=ka.length+done.length)->Z s')->ζ (model prog w) A (do
    δ.Frozenset.unchanged id b ep
    pure (ForInStep.yield PUnit.unit)) (fun rr s'=>match rr with| .yield _=>Z s'| .done b'=>Q b' s') E #[h2,g,dr,tk,os]:=by
   intro h2 ks2 sb2 hR2 nd2 mem2 len2 Z hZ;unfold δ.Frozenset.unchanged;have ho2:h2.get? b=some o:=by rw[sb2.2 b nab,sb.2 b nab];exact ho
   refine Ja (Ja (wpAny_setEpoch_of (s:=#[h2,g,dr,tk,os]) ho2 hd hf ?_))
   simp only[bne_self_eq_false,Bool.false_eq_true,Jz];refine Jd (Jd (hZ _ #[h2,done++[(knd.hash k,x)],ks2,rfl,by rw[e,EL];rfl,sb.trans sb2,hR2,nd2,fun k'=>?_,by rw[Jt,EM];lia]))
   rw[mem2,JJ,JB]
   show _↔¬(_↔_\/k'∈[kf x])
   rw[kx,Jl]
   by_cases c:k'=k
   ·subst c
    rw[Jb rfl,mk];constructor
    ·intro z y;exact z (y.mpr (.inr rfl))
    ·intro z y;exact z #[fun _=> .inr rfl,fun _=>y]
   ·rw[Jc c,mem k']
    simp only[c,Ey]
  refine Ja (JD (Ja (uj (s:=#[h',g,dr,tk,os]) hkf hk hsc hR' fun h2 sb2 hR2=>?_)))
  by_cases hm:k∈ks
  ·rw[Jh hm,Jc (by decide)]
   refine Jd ?_
   refine Jw (fin h2 _ sb2 hR2 (nd.erase k) (fun k'=>?_) (JQ (List.length_erase_le ..) (EW _)) _ fun s' z=>z) (fun rr s' z=>by cases rr<;>exact z) fun _ _ z=>z
   by_cases c:k'=k
   ·subst c
    rw[Jb rfl]
    exact#[fun z=>absurd z (List.Nodup.not_mem_erase nd),fun z=>absurd hm z]
   ·rw[Jc c];exact List.mem_erase_of_ne c
  ·rw[Jm hm,Jb (show(!false)=true from rfl)]
   rw[List.erase_of_not_mem hm]at hR2;refine Ja (pZ (s:=#[h2,g,dr,tk,os]) hkf hk hsc hR2 (by lia) fun h3 sb3 hR3=>Jd ?_)
   rw[Jc hm]at hR3;refine Jw (fin h3 _ (sb2.trans sb3) hR3 ?_ (fun k'=>?_) (by rw[Jt];exact Jf _) _ fun s' z=>z) (fun rr s' z=>by cases rr<;>exact z) fun _ _ z=>z
   ·rw[EU]
    exact#[nd,by simp,fun x1 hx1 y1 hy1 e1=>hm (by rw[Jl.mp hy1]at e1;rw[<- e1];exact hx1)]
   ·rw[JB,Jl]
    by_cases c:k'=k
    ·rw[Jb c];exact#[fun _=>hm,fun _=> .inr c]
    ·rw[Jc c];exact#[fun z=>z.resolve_right c,.inl]
 ·rintro _ s' ⟨h',done,ks,rfl,e,sb,hR',nd,mem,len⟩
  rw[JV]at e;refine h h' ks sb hR' nd (by rw[<- Jo,e];exact len) (by rw[e];exact mem)
theorem kj:entryFor table "set.__xor__"=some δ.«frozenset.__xor__»:=
 entryFor_alias (id':="frozenset.__xor__") (by kernel_rfl) rfl (by decide +kernel) (by kernel_rfl)
theorem CA(x y:Γ):δ.«frozenset.__xor__» #[[x,y],[]]=(do
 if !(<- δ.Frozenset.isAnySet x <&&> δ.Frozenset.isAnySet y)then
  rule s!"frozenset.{"__xor__"}.declined"
  return <- ret .notImplemented
 ret (<- (fun(id:String) (l:Δ) (r:Γ)=>(do
  let result <- δ.Frozenset.newFrom id (<- δ.Frozenset.baseOf l) r
  holding [result] (δ.Frozenset.symmetricDifferenceUpdate id (<- δ.Frozenset.addrOf result) (.ref l))
  return result:Sem Γ)) s!"frozenset.{"__xor__"}" (<- δ.Frozenset.addrOf x) y)):=rfl
theorem Dg(hkf:∀k v,knd.is k v=true->kf v=k){a b:Δ}{ka kb:List K}{Q:F2}(nab:a≠b)(hA:SetK knd kf s.heap a ka)(hB:SetK knd kf s.heap b kb)(na:ka.Nodup)(nb:kb.Nodup)(la:ka.length+kb.length<=1000)(lb:kb.length<=100)
  (h:∀h' ks,(∀c o,s.heap.get? c=some o->h'.get? c=some o)->SetK knd kf h' s.heap.objs.size ks->ks.Nodup->ks.length<=ka.length+kb.length->(∀k,k∈ks↔¬(k∈ka↔k∈kb))->Q (.ref s.heap.objs.size) {s with heap:=h'}):
  ζ (model prog w) A (binaryOp .BitXor (.ref a) (.ref b)) Q E s:=by
 have hTa:=hA.type (h:=s.heap)
 have hTb:=hB.type (h:=s.heap)
 refine wpAny_binaryOp_same (op:= .BitXor) (T:="set") hTa hTb PySem.F.fills_set_xor PySem.F.slot_set_xor (J1 PySem.F.slot_set_xor hTa kj ?_ (PySem.F.args_set_xor_2 _ _))
 rw[CA];refine Ja (Ja (ZQ hTa ?_))
 show ζ _ _ (δ.Frozenset.isAnySet (Γ.ref b)) _ _ _
 refine ZQ hTb ?_
 simp only[Bool.not_true,Bool.false_eq_true,Jz];refine Ja (Jd (Ja ?_))
 unfold δ.Frozenset.newFrom δ.Frozenset.baseOf;refine Ja (Ja (E6 hTa sub_set_self (Jd ?_)))
 rw[Jb rfl];refine Ja (Ja (lf ?_))
 have hr:(s.heap.push (Qj (!zw w))).get? s.heap.objs.size=some (Qj (!zw w)):=Js _ rfl
 have old:∀c o,s.heap.get? c=some o->(s.heap.push (Qj (!zw w))).get? c=some o:=fun c o e=>Jj _ e
 have hA1:SetK knd kf (s.heap.push (Qj (!zw w))) a ka:=hA.at (old a)
 have hB1:SetK knd kf (s.heap.push (Qj (!zw w))) b kb:=hB.at (old b)
 have lta:=hA.lt;have ltb:=hB.lt;have na':s.heap.objs.size≠a:=(Jk lta).symm
 have nb':s.heap.objs.size≠b:=(Jk ltb).symm
 refine Ja (Jd (Ja (JD ?_)))
 unfold δ.Frozenset.updateFrom;have hTb1:Θ.TypeIs {s with heap:=s.heap.push (Qj (!zw w))} (.ref b) "set":=hB1.type (s:={s with heap:=s.heap.push (Qj (!zw w))}) (h:=s.heap)
 refine Ja (ZQ hTb1 ?_)
 rw[Jb rfl];refine Ja (Ja (Jd (Jd ?_)))
 unfold δ.Frozenset.merge;obtain⟨ob,eb,epb,tb,b1,b2,b3,b4,_⟩:=id hB1;refine Ja (wpAny_setEpoch_of (s:={s with heap:=s.heap.push (Qj (!zw w))}) b1 b3 b4 ?_)
 refine gr (s:={s with heap:=s.heap.push (Qj (!zw w))}) nb' (uK hr) hB1 lb fun h1 sb1 hR1 _=>Jd ?_
 have hA2:SetK knd kf h1 a ka:=hA1.at fun o1 e1=>by rw[sb1.2 a na'.symm];exact e1
 have hTa2:Θ.TypeIs {s with heap:=h1} (.ref a) "set":=hA2.type (s:={s with heap:=h1}) (h:=s.heap)
 refine Ja (Jd (Ja (JD ?_)))
 unfold δ.Frozenset.symmetricDifferenceUpdate;have hne:((Γ.ref a:Γ)==Γ.ref s.heap.objs.size)=false:=by
  rw[EK];intro e;cases e;exact na' rfl
 rw[hne];simp only[Bool.false_eq_true,Jz];refine Ja (Fg hTa2 ?_)
 have hnd:((Γ.type "set":Γ)==Γ.type "dict")=false:=by decide
 rw[hnd];simp only[Bool.false_eq_true,Jz];refine Ja (ZQ hTa2 ?_)
 rw[Jb rfl];refine Ja (Jd (Ja (Jd ?_)))
 obtain⟨oa,ea,epa,ta,a1,a2,a3,a4,a5,a6,a7,a8⟩:=id hA2;refine Ja (wpAny_setEpoch_of (s:={s with heap:=h1}) a1 a3 a4 ?_)
 refine JD (Ja (oY (s:={s with heap:=h1}) a1 a2 a3 a4 a5 a6 a8 hR1 fun arr h2 hp sb2 hR2=>?_))
 have asz:arr.size=ka.length:=by rw[<- Jo,hp.length_eq,Jo,<- a7.length_eq,Je,Jo]
 have ho2:h2.get? a=some oa:=by rw[sb2.2 a na'.symm];exact a1
 have e4:scanBound=4096:=rfl
 have hmm:(arr.toList.map fun e=>kf e.2).Perm ka:=(hp.map fun e=>kf e.2).trans a7
 refine Ja (sQ (s:={s with heap:=h2}) hkf (toString "frozenset."++toString "__xor__") na'.symm a3 a4 arr (a6.perm hp) (hmm.nodup_iff.mpr na) (by lia) ho2 hR2 nb fun h3 ks sb3 hR3 nd3 len3 mem3=>Jd (Jd (Jd #[_,rfl,(fun e=>nomatch e),?_])))
 refine h h3 ks (fun c o e=>?_) hR3 nd3 (by lia) fun k=>?_
 ·have nc:c≠s.heap.objs.size:=Jk (Ji e)
  rw[sb3.2 c nc,sb2.2 c nc,sb1.2 c nc];exact old c o e
 ·rw[mem3,hmm.mem_iff]
  exact not_congr #[Iff.symm,Iff.symm]
end
end S0
namespace L3
open PySem PySem.Spec PyProof.Rows L2 S0
section
variable{prog:Ξ}{w:Ω}{A:Around}{E:F2}{s:Θ}
theorem rX{a:Δ}{ks:List Int}{Q:F2}(hh:A.handled=none)(hS:SetK (PySem.intKind prog w) numOf s.heap a ks)(h64:ks.length<64)
  (h:∀(h':Ψ) (tk:Nat) (d:Drawn) (l:Δ) (its:List Γ) (n:Nat) (ns:List Int),s.heap.objs.size<=l->(∀b o,s.heap.get? b=some o->h'.get? b=some o)->h'.get? l=some (seqObj "list" its.toArray n)->
   IntsAre its ns->ns.Perm ks->ns.Pairwise (· <= ·)->Q (.ref l) {s with heap:=h',toks:=tk,drawn:=d}):
  ζ (model prog w) A (call (.builtin "sorted") [.ref a]) Q E s:=by
 obtain⟨o,es,ep,t,ho,hex,hd,hf,hb,hel,hpm,htw⟩:=hS;refine Calls.call_function_entry kind_sorted plain_sorted entry_sorted (args_sorted1 _) ?_
 unfold δ.«sorted»
 refine Ja (m:=checkCount "sorted" 1 1 _) (Jd ?_)
 refine Ja (jZ hh ho hex hd hf hb htw fun vs h' tk d hk hz hp=>?_)
 have hI:IntsAre vs (vs.map numOf):=by
  refine intsAre_map vs fun v hv=>?_
  obtain⟨e,he,rfl⟩:=Jq.mp (hp.mem_iff.mp hv)
  obtain⟨⟨k,h1,_⟩,_⟩:=hel e he;obtain⟨tt,h2⟩:=Γ.isInt_shape h1
  exact#[k,tt,h2]
 have hvk:(vs.map numOf).Perm ks:=by
  refine(hp.map numOf).trans ?_
  rw[Es];exact hpm
 have hvl:vs.length<=η:=by
  rw[hp.length_eq,Je,Jo];exact fits_of_scanBound hb
 have hl64:vs.length<64:=by
  have:=hvk.length_eq
  rw[Je]at this;omega
 refine Ja (wpAny_newList ?_ hvl)
 have hoL:(h'.push (seqObj "list" vs.toArray 0)).get? h'.objs.size=some (seqObj "list" vs.toArray 0):=Js _ rfl
 show ζ _ _ _ _ _ {s with heap:=h'.push (seqObj "list" vs.toArray 0),toks:=tk,drawn:=d}
 refine Ja (JD (J1 slot_list_sort #[_,hoL,rfl] entry_list_sort (list_sort_tree hoL hI hl64 fun out ns d1 d2 d3=>#[_,rfl,?_]) (args_list_sort _)))
 obtain⟨n',hn'⟩:∃n',(sortedHeap (h'.push (seqObj "list" vs.toArray 0)) h'.objs.size vs out).get? h'.objs.size=some (seqObj "list" out n'):=sortedHeap_at hoL
 refine Jd #[_,rfl,h _ tk d h'.objs.size out.toList n' ns hz (fun b o e=>?_) (by rw[hn']) d1 (d2.trans hvk) d3]
 have e':=hk b o e;have hb':b<h'.objs.size:=Ji e'
 rw[sortedHeap_old (Jk hb') (by rw[JX];exact Eo hb')]
 exact Jj _ e'
end
section
variable{X:Cx}
theorem kD(hc:X.calm=true):zi X (.builtin "sorted") (fun xs H Q=>∃(p:Δ) (ks:List Int),xs=[.ref p]/\H p=some (bo X.prog X.w p ks)/\ks.length<64/\
  ∀l (ms:List Int),H l=none->ms.Perm ks->ms.Pairwise (· <= ·)->Q (.ref l) (F9 H l (.lst (ms.map V.int)))):=by
 intro MT s σ H xs us Q I r h;obtain⟨p,ks,rfl,hp,h64,q⟩:=h;obtain⟨u,rfl,ru⟩:=zU r;cases ru;obtain⟨hS,_⟩:=I.hok p _ hp;have hkl:=SetK.len hS;refine rX (I.ok.hd hc) hS h64 fun h' tk d l its n ns hl hk hL b1 b2 b3=>?_
 refine#[.ref l,_,(I.laid (a:=l) (o:= .lst (ns.map V.int)) (t':=tk) hk hl ?_).drw d,rfl,q l ns (I.hok.fresh hl) b2 b3]
 refine#[?_,its,n,fo b1,hL]
 rw[Je,b2.length_eq];exact fits_of_scanBound hkl
inductive MJ (X:Cx) (x:V) (y:V) (H:Hp) (Q:VK):Prop
 |mk (a b:Δ) (ka kb:List Str) (h1:x= .ref a) (h2:y= .ref b) (h3:a≠b) (h4:H a=some (aQ X.prog X.w a ka)) (h5:H b=some (aQ X.prog X.w b kb)) (h6:ka.Nodup) (h7:kb.Nodup) (h8:ka.length+kb.length<=100) (h9:∀l ks,H l=none->ks.Nodup->(∀k,k∈ks↔k∈ka\/k∈kb)->Q (.ref l) (F9 H l (aQ X.prog X.w l ks)))
def D2(X:Cx):R2:=fun x y H Q=>MJ X x y H Q
theorem BP:zt X (binaryOp .BitOr) (D2 X):=by
 intro MT s σ H x y v u Q I rx ry h;obtain⟨a,b,ka,kb,rfl,rfl,nab,ha,hb,na,nb,la,q⟩:=h;cases rx;cases ry;obtain⟨hA,_⟩:=I.hok a _ ha;obtain⟨hB,_⟩:=I.hok b _ hb;refine DN (uJ _ _) nab hA hB na nb la fun h' ks kp hS nd mem=>?_
 refine#[.ref s.heap.objs.size,_,I.laid (t':=s.toks) (o:=aQ X.prog X.w s.heap.objs.size ks) kp (Jf _) #[hS,?_,fun h1 h2 z1 z2=>z1.at z2],rfl,q _ _ (I.hok.fresh (Jf _)) nd mem]
 obtain⟨o,_,_,_,e,_⟩:=hS
 exact#[o,e]
inductive Mc (X:Cx) (x:V) (y:V) (H:Hp) (Q:VK):Prop
 |mk (a b:Δ) (ka kb:List Int) (h1:x= .ref a) (h2:y= .ref b) (h3:a≠b) (h4:H a=some (bo X.prog X.w a ka)) (h5:H b=some (bo X.prog X.w b kb)) (h6:ka.Nodup) (h7:kb.Nodup) (h8:ka.length+kb.length<=1000) (h9:kb.length<=100) (h10:∀l ks,H l=none->ks.Nodup->ks.length<=ka.length+kb.length->(∀k,k∈ks↔¬(k∈ka↔k∈kb))->Q (.ref l) (F9 H l (bo X.prog X.w l ks)))
def Ds(X:Cx):R2:=fun x y H Q=>Mc X x y H Q
theorem yZ:zt X (binaryOp .BitXor) (Ds X):=by
 intro MT s σ H x y v u Q I rx ry h;obtain⟨a,b,ka,kb,rfl,rfl,nab,ha,hb,na,nb,la,lb,q⟩:=h;cases rx;cases ry;obtain⟨hA,_⟩:=I.hok a _ ha;obtain⟨hB,_⟩:=I.hok b _ hb;refine Dg (uk _ _) nab hA hB na nb la lb fun h' ks kp hS nd len mem=>?_
 refine#[.ref s.heap.objs.size,_,I.laid (t':=s.toks) (o:=bo X.prog X.w s.heap.objs.size ks) kp (Jf _) #[hS,?_,fun h1 h2 z1 z2=>z1.at z2],rfl,q _ _ (I.hok.fresh (Jf _)) nd len mem]
 obtain⟨o,_,_,_,e,_⟩:=hS
 exact#[o,e]
end
end L3
namespace L3
open PySem PySem.Spec PyProof.Rows L2 SeqAt
section
variable{X:Cx}
theorem AQ{MT:F4}{σ:L2.St}{H:Hp}{s:Θ}{A:Around}(I:L2.F8 X MT σ H s){a b:Δ}{z z':Int×Int}(h1:H a=some (.tup [.int z.1,.int z.2]))(h2:H b=some (.tup [.int z'.1,.int z'.2]))(hu:A.units<cLine):EqAt A s (.ref a) (.ref b) (decide (z=z')):=by
 by_cases hab:a=b
 ·subst hab
  rw[h1]at h2;injection h2 with h2
  injection h2 with h2
  have e:z=z':=by
   simp only[List.cons.injEq,V.int.injEq,and_true]at h2;exact Prod.ext h2.1 h2.2
  rw[Jh e];exact EqAt.same _
 ·obtain⟨its,q1,p1,_⟩:=I.tuple (Gh.of (K:=X.K) h1)
  obtain⟨its2,q2,p2,_⟩:=I.tuple (Gh.of (K:=X.K) h2)
  have l1:=q1.length;have l2:=q2.length;have e:=RcAt.tuples (A:=A) (e:=fun j=>[z.1,z.2].getD j 0==[z'.1,z'.2].getD j 0) (show s.heap.IsTuple a its.toArray from p1) (show s.heap.IsTuple b its2.toArray from p2) hu (fun j h1 h2=>by
   have h1':j<its.length:=by simpa using h1
   have h2':j<its2.length:=by simpa using h2
   obtain⟨t,e⟩:=fL (ns:=[z.1,z.2]) q1 j h1' (by rw[<- l1]at h1';exact h1')
   obtain⟨t',e'⟩:=fL (ns:=[z'.1,z'.2]) q2 j h2' (by rw[<- l2]at h2';exact h2')
   simp only[List.getElem_toArray,e,e',JA,Jg (show j<[z.1,z.2].length by rw[<- l1]at h1';exact h1'),Jg (show j<[z'.1,z'.2].length by rw[<- l2]at h2';exact h2'),EN]
   exact EqAt.int_int _ _ _ _)
  have es:its.toArray.size=2:=by rw[Jp];exact l1.symm
  have es2:its2.toArray.size=2:=by rw[Jp];exact l2.symm
  rw[es,es2]at e;have e:RcAt A s (.ref a) (.ref b) ((z.1==z'.1&&(z.2==z'.2&&true))&&true):=e
  have ed:((z.1==z'.1&&(z.2==z'.2&&true))&&true)=decide (z=z'):=by
   rw[Ej];simp [Prod.ext_iff]
  rw[ed]at e;exact EqAt.of_refs hab e
inductive MK (x:V) (y:V) (H:Hp) (Q:VK):Prop
 |mk (a b:Δ) (zs ws:List (Int×Int)) (h1:x= .ref a) (h2:y= .ref b) (h3:Ig H a zs) (h4:Ig H b ws) (h5:Q (.bl (decide (zs≠ws))) H)
def DK:R2:=fun x y H Q=>MK x y H Q
theorem BG{k:Nat}(hr:Gq k X.A):zt X (compareOp .NotEq) DK:=by
 intro MT s σ H x y v u Q I rx ry h;obtain⟨a,b,zs,ws,rfl,rfl,⟨as,e1,l1,r1⟩,⟨bs,e2,l2,r2⟩,q⟩:=h;cases rx;cases ry;obtain⟨its,q1,p1,_⟩:=I.tuple (Gh.of (K:=X.K) e1)
 obtain⟨its2,q2,p2,_⟩:=I.tuple (Gh.of (K:=X.K) e2)
 have k1:=q1.length;have k2:=q2.length;rw[Je]at k1 k2;have hu:X.A.units+2<cLine:=by have:=hr.un;lia
 have e:=RcNeAt.tuples (A:=X.A) (e:=fun j=>decide (zs.getD j (0,0)=ws.getD j (0,0))) (show s.heap.IsTuple a its.toArray from p1) (show s.heap.IsTuple b its2.toArray from p2) (by lia) (fun j h1 h2=>by
  have h1':j<its.length:=by simpa using h1
  have h2':j<its2.length:=by simpa using h2
  obtain⟨x,ex,rx⟩:=zr q1 h1';obtain⟨y,ey,ry⟩:=zr q2 h2';rw[Jn]at ex ey;obtain⟨x',hx',rfl⟩:=JW.mp ex;obtain⟨y',hy',rfl⟩:=JW.mp ey;have hz:j<zs.length:=by lia
  have hw:j<ws.length:=by lia
  simp only[List.getElem_toArray];rw[show its[j]=Γ.ref x' from rx,show its2[j]=Γ.ref y' from ry,JA,JA,Jg hz,Jg hw,EN,EN]
  exact AQ I (r1 j x' _ hx' (Jg hz)) (r2 j y' _ hy' (Jg hw)) (by rw[Ee];lia))
 have ed:(!((List.range (min its.toArray.size its2.toArray.size)).all (fun j=>decide (zs.getD j (0,0)=ws.getD j (0,0)))&&its.toArray.size==its2.toArray.size))=decide (zs≠ws):=by
  rw[Jp,Jp,<- k1,<- k2,l1,l2];rw[Ej,Bool.not_eq_true',decide_eq_true_eq,<- Bool.not_eq_true,Ju,EG,JT];refine not_congr #[fun⟨h1,h2⟩=>?_,fun h=>?_]
  ·refine List.ext_getElem h2 fun j j1 j2=>?_
   have:=Jx (h1 j (JN.mpr (by lia)))
   rw[JA,JA,Jg j1,Jg j2]at this;exact this
  ·subst h
   exact#[fun j _=>Jh rfl,rfl]
 rw[ed]at e;exact e _ _ _ _ #[.bl _,H,I,rfl,q]
end
end L3
namespace Lw
open PySem L2 L3
theorem FV:0<=η:=by decide
theorem FW:1<=η:=by decide
theorem FX:2<=η:=by decide
theorem FY:3<=η:=by decide
theorem FZ:4<=η:=by decide
theorem F0:5<=η:=by decide
theorem F1:16<=η:=by decide
def zd(i:Nat):ε:=PySem.Challenge.pw_rollcode_k65_whole_rows_that_tell.main.body.getD i (.Pass #[0,0,0,0])
abbrev bO:ε:=zd 3
abbrev cE:ε:=zd 4
abbrev bm:ε:=zd 5
abbrev bq:ε:=zd 6
abbrev iO:ε:=zd 7
abbrev eQ:ε:=zd 8
abbrev fe:ε:=zd 14
abbrev eT:ε:=zd 15
abbrev cZ:ε:=zd 16
abbrev ZO:ε:=zd 17
abbrev gl:ε:=zd 18
abbrev ZX:ε:=zd 19
abbrev cS:ε:=zd 20
abbrev aS:ε:=zd 21
abbrev fk:ε:=zd 40
abbrev eI:ε:=zd 41
abbrev Zh:ε:=zN (zd 43) 0
abbrev ZS:ε:=zN (zd 43) 2
abbrev Zm:ε:=zN (zd 43) 8
abbrev Zs:ε:=zN (zd 43) 11
abbrev Za:ε:=zN (zd 43) 10
abbrev Qo:ε:=zN (zd 43) 9
abbrev Zr:ε:=zN (zd 43) 7
abbrev bJ:ε:=zN (zd 43) 6
abbrev Q7:ε:=zN (zd 43) 12
abbrev aT:ε:=zN (zd 43) 1
abbrev Zl:ε:=zN (zd 43) 13
abbrev ZM:ε:=zN (zd 43) 14
abbrev Q8:ε:=zN (zd 43) 15
abbrev QM:ε:=zN (zd 43) 16
abbrev Zn:ε:=zN (zd 43) 19
abbrev Z2:ε:=zd 23
abbrev au:ε:=zd 25
abbrev bf:ε:=zd 30
abbrev bT:ε:=zd 28
abbrev av:ε:=zd 27
abbrev ay:ε:=zd 26
abbrev aU:ε:=zd 29
abbrev dv:ε:=zd 24
abbrev iZ:ε:=zd 31
abbrev cF:ε:=zd 33
abbrev ZF:ε:=zd 32
abbrev fj:ε:=zd 45
abbrev cG:ε:=zd 46
abbrev bU:ε:=zd 47
abbrev fi:ε:=zd 48
abbrev c6:ε:=zd 49
abbrev a9:ε:=zd 50
abbrev bY:ε:=zd 51
abbrev bR:ε:=zd 52
abbrev gN:ε:=zd 53
abbrev aD:ε:=zd 54
theorem ze{N P:List Str}{c:Scope}(h1:c.kind= .function:=by rfl)(h2:c.isCoroutine=false:=by rfl)(h3:c.isGenerator=false:=by rfl)(h4:N.Nodup:=by decide +kernel)(h5:N.take P.length=P:=by rfl)(h6:∀x∈P,c.names.lookup x=some .local\/c.names.lookup x=some .cell:=by decide +kernel)(h7:∀y∈c.names,y.2≠ .free:=by decide +kernel):F6 N P c:=#[h1,h2,h3,h4,h5,h6,h7]
theorem l7:F6 (["thing"]:List Str) (["thing"]:List Str) (qi bO):=ze
theorem nR:F6 (["thing"]:List Str) (["thing"]:List Str) (qi cE):=ze
theorem ku:F6 (["things"]:List Str) (["things"]:List Str) (qi bm):=ze
theorem GR:F6 (["table","back","place","digit"]:List Str) (["table"]:List Str) (qi bq):=ze
theorem Hm:F6 (["table","key","digits","row","shift","place","ahead"]:List Str) (["table","key","digits"]:List Str) (qi iO):=ze
theorem GL:F6 (["table","key","digits","back","row","shift","place","ahead"]:List Str) (["table","key","digits"]:List Str) (qi eQ):=ze
theorem sf:F6 (["thing"]:List Str) (["thing"]:List Str) (qi fe):=ze
theorem pY:F6 (["thing"]:List Str) (["thing"]:List Str) (qi eT):=ze
theorem GY:F6 (["thing","name","age","code"]:List Str) (["thing"]:List Str) (qi cZ):=ze
theorem GD:F6 (["name","digits","letter","place"]:List Str) (["name"]:List Str) (qi ZO):=ze
theorem Ho:F6 (["table","key","name","sums","place","digit"]:List Str) (["table","key","name"]:List Str) (qi gl):=ze
theorem ii:F6 (["count"]:List Str) (["count"]:List Str) (qi ZX):=ze
theorem Hn:F6 (["table","key","name","age","count","deed","four","five"]:List Str) (["table","key","name","age","count","deed"]:List Str) (qi cS):=ze
theorem Gk:F6 (["table","key","press","name","age","code","low","middle","high","deed","check"]:List Str) (["table","key","press"]:List Str) (qi aS):=ze
theorem rP:F6 (["count","last","near","far"]:List Str) (["count","last","near","far"]:List Str) (qi fk):=ze
theorem GM:F6 (["button","age","count","near","far","own_age","last","waiting","word"]:List Str) (["button","age","count","near","far"]:List Str) (qi eI):=ze
theorem cf:F6 (["self","table","keys","near","far","most"]:List Str) (["self","table","keys","near","far","most"]:List Str) (qi Zh):=ze
theorem gR:F6 (["self"]:List Str) (["self"]:List Str) (qi ZS):=ze
theorem fM:F6 (["self","name"]:List Str) (["self","name"]:List Str) (qi Zm):=ze
theorem fP:F6 (["self","age"]:List Str) (["self","age"]:List Str) (qi Zs):=ze
theorem eE:F6 (["self","button","age"]:List Str) (["self","button","age"]:List Str) (qi Za):=ze
theorem Z8:F6 (["self","button","age","count"]:List Str) (["self","button","age","count"]:List Str) (qi Qo):=ze
theorem Gf:F6 (["self","press","name","age","code","button","pair","count","deed","word","behind"]:List Str) (["self","press"]:List Str) (qi Zr):=ze
theorem HM:F6 (["self","thing","answer"]:List Str) (["self","thing"]:List Str) (qi bJ):=ze
theorem fh:F6 (["self","thing"]:List Str) (["self","thing"]:List Str) (qi Q7):=ze
theorem Gy:F6 (["self","one","other","first","second","name","age","code"]:List Str) (["self","one","other"]:List Str) (qi aT):=ze
theorem fQ:F6 (["self"]:List Str) (["self"]:List Str) (qi Zl):=ze
theorem gC:F6 (["self"]:List Str) (["self"]:List Str) (qi ZM):=ze
theorem dy:F6 (["self"]:List Str) (["self"]:List Str) (qi Q8):=ze
theorem da:F6 (["self"]:List Str) (["self"]:List Str) (qi QM):=ze
theorem GZ:F6 (["self","twin"]:List Str) (["self"]:List Str) (qi Zn):=ze
theorem Gi:F6 (["door","button","age","near","far","most","own_age","last","waiting","stretches","after"]:List Str) (["door","button","age"]:List Str) (qi Z2):=ze
theorem jb:F6 (["door"]:List Str) (["door"]:List Str) (qi au):=ze
theorem ke:F6 (["one","first","other","second"]:List Str) (["one","first","other","second"]:List Str) (qi bf):=ze
theorem lV:F6 (["stretches"]:List Str) (["stretches"]:List Str) (qi bT):=ze
theorem i6:F6 (["these","those"]:List Str) (["these","those"]:List Str) (qi av):=ze
theorem GJ:F6 (["one","first","other","second","age","these","those"]:List Str) (["one","first","other","second"]:List Str) (qi ay):=ze
theorem Gm:F6 (["one","first","other","second","age","end","count","word","here","there","press"]:List Str) (["one","first","other","second"]:List Str) (qi aU):=ze
theorem GN:F6 (["one","other","names","name","press","pair"]:List Str) (["one","other"]:List Str) (qi dv):=ze
theorem vS:F6 (["one","other"]:List Str) (["one","other"]:List Str) (qi iZ):=ze
theorem Gp:F6 (["door","row","buttons","told","name","age","count","word","behind"]:List Str) (["door","row"]:List Str) (qi cF):=ze
theorem GO:F6 (["one","other","row","these","those"]:List Str) (["one","other","row"]:List Str) (qi ZF):=ze
theorem GP:F6 (["_law_script","_law_k","_law_cell","_law_fold","_law_one"]:List Str) (["_law_script","_law_k"]:List Str) (qi fj):=ze
theorem GS:F6 (["_law_box_here","_law_many","_law_digit","_law_m","_law_turn"]:List Str) (["_law_box_here","_law_many"]:List Str) (qi cG):=ze
theorem HN:F6 (["_law_box_here","_law_rest"]:List Str) (["_law_box_here"]:List Str) (qi bU):=ze
theorem pR:F6 (["_law_box_here"]:List Str) (["_law_box_here"]:List Str) (qi fi):=ze
theorem Gg:F6 (["_law_box_here","_law_names","_law_many","_law_base","_law_code","_law_doors","_law_near","_law_last","_law_place","_law_own","_law_door","_law_name","_law_at","_law_two","_law_plain"]:List Str) (["_law_box_here"]:List Str) (qi c6):=ze
theorem GF:F6 (["_law_code","_law_names","_law_base","_law_found","_law_name","_law_age","_law_count"]:List Str) (["_law_code","_law_names","_law_base"]:List Str) (qi a9):=ze
theorem kO:F6 (["_law_doors","_law_press"]:List Str) (["_law_doors","_law_press"]:List Str) (qi bY):=ze
theorem Gj:F6 (["_law_doors","_law_plains_here","_law_alike","_law_plain","_law_press","_law_twins","_law_known","_law_opened","_law_other"]:List Str) (["_law_doors","_law_plains_here"]:List Str) (qi bR):=ze
theorem ua:F6 (["_law_found","_law_due"]:List Str) (["_law_found","_law_due"]:List Str) (qi gN):=ze
theorem GK:F6 (["_law_script","_law_k","_law_box_here","_law_doors","_law_code","_law_names","_law_base","_law_plains_here","_law_due","_law_turn","_law_row","_law_twins","_law_opened"]:List Str) (["_law_script"]:List Str) (qi aD):=ze
structure GQ(K:μ)(mg:F3)(tk:Nat->Tok):Prop where
 g_DIGITS:mg "DIGITS"=some (.int 16 (tk 0))
 g_KEY_PLACES:mg "KEY_PLACES"=some (.int 4 (tk 1))
 g_LONGEST_NAME:mg "LONGEST_NAME"=some (.int 8 (tk 2))
 g_CODE_DIGITS:mg "CODE_DIGITS"=some (.int 5 (tk 3))
 g_COUNTS:mg "COUNTS"=some (.int 4096 (tk 4))
 b_isinstance:mg "isinstance"=none
 b_bool:mg "bool"=none
 b_int:mg "int"=none
 b_tuple:mg "tuple"=none
 b_all:mg "all"=none
 b_any:mg "any"=none
 b_len:mg "len"=none
 b_abs:mg "abs"=none
 b_list:mg "list"=none
 b_enumerate:mg "enumerate"=none
 b_range:mg "range"=none
 b_max:mg "max"=none
 b_min:mg "min"=none
 b_str:mg "str"=none
 b_zip:mg "zip"=none
 b_ord:mg "ord"=none
 b_sum:mg "sum"=none
 b_reversed:mg "reversed"=none
 b_sorted:mg "sorted"=none
 b_dict:mg "dict"=none
 b_set:mg "set"=none
section
variable{P:Ξ}{w:Ω}{K:μ}{mg:F3}{base:Ψ}{tk:Nat->Tok}
theorem mI(a:At K mg "is_number" bO ["thing"])(T:GQ K mg tk):Df P w K mg base "is_number" ["thing"] 1 gM:=by
 refine a.dq l7 fun f _ A _ s H vs Q E hr h=>?_
 ·obtain⟨x,t,rfl,hk,q⟩:=h
  obtain⟨ty,ht⟩:=De (K:=K) hk
  refine#[_,(qg (ql (af (qz gK T.b_isinstance Fn (qc (qv 0) (qc (aK (v:= .ty "int") rfl T.b_int FI rfl) qb))) (bg (Bf (qz gK T.b_isinstance Fn (qc (qv 0) (qc (aK (v:= .ty "bool") rfl T.b_bool PyProof.Rows.boot_bool rfl) qb)))))))),?_]
  rw[AO hk]at q;refine#[_,rfl,x,"int",t,rfl,ty,ht,by simp,_,rfl,?_]
  cases hi:aX t "int" with
  |false=>
   refine zJ ?_
   rw[hi,Ei]at q;exact q
  |true=>
   refine zZ ?_
   rw[hi,EH]at q
   exact#[_,rfl,x,"bool",t,rfl,ty,ht,by simp,_,rfl,q]
theorem nv(a:At K mg "is_digit" cE ["thing"])(T:GQ K mg tk)(dU:Df P w K mg base "is_number" ["thing"] 1 gM):Df P w K mg base "is_digit" ["thing"] 2 oe:=by
 refine a.dq nR fun f _ A _ s H vs Q E hr h=>?_
 ·obtain⟨x,t,rfl,hk,q⟩:=h
  refine#[_,(qg (ql (af (qr dU hr.mo (qc (qv 0) qb)) (bg (ge bt kL qf (qv 0) (zg (v:= .int 16) rfl T.g_DIGITS #[_,rfl])))))),?_]
  refine#[_,rfl,x,t,rfl,hk,_,rfl,?_]
  cases hn:gt x with
  |false=>
   refine zJ ?_
   rw[tE hn]at q;exact q
  |true=>
   refine zZ ?_
   obtain⟨i,rfl⟩:=wB hn;refine#[_,rfl,_,_,rfl,rfl,_,rfl,?_]
   have q':Q (.bl (decide (0<=i)&&decide (i<16))) H:=q
   refine qY (fun h0=>?_) (fun h0=>?_)
   ·refine#[_,_,rfl,rfl,?_]
    rw[h0,EH]at q';exact q'
   ·rw[EE.mpr h0,Ei]at q'
    exact q'
theorem kq(a:At K mg "are_digits" bm ["things"])(T:GQ K mg tk)(xS:Df P w K mg base "is_digit" ["thing"] 2 oe):Df P w K mg base "are_digits" ["things"] 3 k7:=by
 refine a.dq ku fun f _ A _ s H vs Q E hr h=>?_
 ·obtain⟨p,xs,rfl,hp,hz,hk,q⟩:=h
  refine#[_,(qg (ql (qz (jp rfl) T.b_all PyProof.Rows.boot_all (qc (zL (own:=["thing"]) (fr:=[]) (js:=[]) rfl (aV (qv 0)) rfl (fun _ _ h=>nomatch h) rfl (az rfl (by decide +kernel) (by decide +kernel) (by decide +kernel)) (fun _ _ _ _=>qh (i:=0) (show List.Nodup (["thing"]:List Str)from by decide +kernel) rfl (Or.inl rfl) (.inr rfl)) (fun _ _ _ _=>(qr xS hr.mo (qc (qv 0) qb)))) qb)))),?_]
  refine#[_,rfl,p,rfl,#[xs,Gh.of hp],aY (xs:=xs) hz (fun i ys H2=>ys=(xs.take i).map (fun x=>V.bl (cL x))/\F5 H H2) #[by simp,F5.refl H] (fun i ys H2 ⟨_,s2⟩=>Gh.of (s2 _ _ hp)) ?_ ?_]
  ·rintro i ys H2 x hx _ ⟨rfl,s2⟩
   obtain⟨t,ht⟩:=hk x (J9 hx)
   refine#[_,rfl,x,t,rfl,fD s2 ht,?_,s2]
   rw[Ed,hx];simp
  ·rintro ys H2 _ ⟨rfl,s2⟩ l hl
   rw[Ep];refine#[l,xs.map cL,rfl,Gd.of (by rw[Es];exact qa),?_]
   rw[List.all_map];exact q _ (s2.trans (F5.upd hl))
theorem pP(a:At K mg "is_name" fe ["thing"])(T:GQ K mg tk):Df P w K mg base "is_name" ["thing"] 1 jL:=by
 refine a.dq sf fun f _ A _ s H vs Q E hr h=>?_
 ·obtain⟨x,b,rfl,hx,q⟩:=h
  refine#[_,(qe (qN (QW.pt (Z6 (Qx (Qy (qz eF T.b_isinstance Fn (qc (qv 0) (qc (aK (v:= .ty "str") rfl T.b_str PyProof.Rows.boot_str rfl) qb))))) (ZI (Qx (wX bt bt qf (qz lH T.b_len J3 (qc (qv 0) qb)) (zg (v:= .int 8) rfl T.g_LONGEST_NAME #[_,rfl])))))) (qg (ql ZD)) qB)
   (qg (ql (qz (jp rfl) T.b_all PyProof.Rows.boot_all (qc (zL (own:=["letter"]) (fr:=[]) (js:=[]) rfl (tR (qv 0)) rfl (fun _ _ h=>nomatch h) rfl (az rfl (by decide +kernel) (by decide +kernel) (by decide +kernel)) (fun _ _ _ _=>qh (i:=0) (show List.Nodup (["letter"]:List Str)from by decide +kernel) rfl (Or.inl rfl) (.inr rfl)) (fun _ _ _ _=>(ge jf jf qR (qv 0) qR))) qb))))),?_]
  rcases hx with⟨z,rfl,hz,hl,rfl⟩|⟨t,hk,hs,rfl⟩
  case inr=>
   refine#[_,rfl,x,"str",t,rfl,k9 hk,by simp,_,rfl,?_]
   rw[hs];exact zZ (q _ (F5.refl _))
  have zl:z.length=z.cps.toList.length:=rfl
  refine#[_,rfl,_,"str","str",rfl,.str z,by simp,_,rfl,?_]
  refine zJ ?_
  refine#[_,rfl,z,rfl,by rw[JF];omega,_,_,rfl,rfl,_,rfl,?_]
  unfold xo at q
  by_cases h1:1<=z.length
  case neg=>
   refine ZH (Jm (by omega)) #[_,rfl,zZ ?_]
   rw[Jm h1,Ei,Ei]at q;exact q _ (F5.refl _)
  refine ZE (Jh (by omega)) ?_
  refine#[_,_,rfl,rfl,_,rfl,?_]
  rw[Jh h1,EH]at q
  by_cases h8:z.length<=8
  case neg=>
   refine ZE (by rw[Jm (by omega:¬((z.length:Nat):Int)<=8)];rfl) ?_
   rw[Jm h8,Ei]at q;exact q _ (F5.refl _)
  refine ZH (by rw[Jh (by omega:((z.length:Nat):Int)<=8)];rfl) ?_
  rw[Jh h8,EH]at q;refine#[_,rfl,z,rfl,hz,wJ (by show z.cps.toList.length<=_;rw[JF];omega) (fun i ys H2=>H2=H/\ys=((z.cps.toList.take i).map l9).map V.bl) #[rfl,rfl] ?_ ?_]
  ·rintro i ys H2 c hc _ ⟨rfl,rfl⟩
   have hc':=oE hc;obtain⟨l1,l2⟩:=rV c;refine#[_,rfl,_,_,rfl,rfl,_,rfl,?_]
   rw[Ed,hc',JJ,JJ]
   by_cases h97:97<=c
   ·refine ZE (by rw[l1,Jh h97]) #[_,_,rfl,rfl,rfl,?_]
    rw[l2]
    show _=_++[V.bl (decide (97<=c)&&decide (c<=122))]
    rw[Jh h97,EH]
   ·refine ZH (by rw[l1,Jm h97]) #[rfl,?_]
    show _=_++[V.bl (decide (97<=c)&&decide (c<=122))]
    rw[Jm h97,Ei]
  ·rintro ys H2 hl ⟨rfl,rfl⟩ l hl'
   refine#[l,z.cps.toList.map l9,rfl,Gd.of (by rw[show z.cps.size=z.cps.toList.length from rfl,Ep];exact qa),?_]
   rw[List.all_map];exact q _ (F5.upd hl')
theorem rQ(a:At K mg "is_code" eT ["thing"])(T:GQ K mg tk)(xP:Df P w K mg base "are_digits" ["things"] 3 k7):Df P w K mg base "is_code" ["thing"] 4 jC:=by
 refine a.dq pY fun f _ A _ s H vs Q E hr h=>?_
 ·obtain⟨x,b,rfl,hx,q⟩:=h
  refine#[_,(qe (qN (Qx (Qy (qz eF T.b_isinstance Fn (qc (qv 0) (qc (aK (v:= .ty "tuple") rfl T.b_tuple J4 rfl) qb))))) (qg (ql ZD)) qB)
   (qg (ql (af (zX ZK (qz qW T.b_len J3 (qc (qv 0) qb)) (zg (v:= .int 5) rfl T.g_CODE_DIGITS #[_,rfl]) (qy _)) (bg (qr xP hr.mo (qc (qv 0) qb))))))),?_]
  rcases hx with⟨pc,ds,rfl,hp,hl,hk,rfl⟩|⟨t,hk,hs,rfl⟩
  case inr=>
   refine#[_,rfl,x,"tuple",t,rfl,k9 hk,by simp,_,rfl,?_]
   rw[hs];exact zZ (q _ (F5.refl _))
  refine#[_,rfl,_,"tuple","tuple",rfl,.tup (.inl hp),by simp,_,rfl,?_]
  refine zJ ?_
  refine#[_,rfl,pc,_,rfl,.inr (Gh.of hp),rfl,_,rfl,?_]
  by_cases h5:ds.length=5
  ·refine ZE (Jh (by rw[h5];rfl)) ?_
   refine#[_,rfl,pc,_,rfl,hp,by rw[JF];omega,hk,fun H' s'=>?_]
   rw[Jh h5,EH]at q;exact q _ s'
  ·rw[Jm h5,Ei]at q
   refine ZH (Jm (by intro z;injection z with z;omega)) ?_
   exact q _ (F5.refl _)
theorem nO(a:At K mg "is_press" cZ ["thing"])(T:GQ K mg tk)(xU:Df P w K mg base "is_name" ["thing"] 1 jL)(dU:Df P w K mg base "is_number" ["thing"] 1 gM)(xZ:Df P w K mg base "is_code" ["thing"] 4 jC):Df P w K mg base "is_press" ["thing"] 5 cC:=by
 refine a.dq GY fun f _ A _ s H vs Q E hr h=>?_
 ·obtain⟨x,b,rfl,hx,q⟩:=h
  refine#[_,(qe (qN (QW.pt (Z6 (Qx (Qy (qz eF T.b_isinstance Fn (qc (qv 0) (qc (aK (v:= .ty "tuple") rfl T.b_tuple J4 rfl) qb))))) (ZI (qE cI (qz qW T.b_len J3 (qc (qv 0) qb)) qf (qy _))))) (qg (ql ZD)) qB)
   (qe (zz (qv 0) (zR rfl (qm (qh (i:=1) GY.nd rfl (Or.inl rfl)) (qm (qh (i:=2) GY.nd rfl (Or.inl rfl)) (qm (qh (i:=3) GY.nd rfl (Or.inl rfl)) q9)))))
   (qg (ql (af (qr xU hr.mo (qc (qv 1) qb)) (af (qr dU hr.mo (qc (qv 2) qb)) (bg (qr xZ hr.mo (qc (qv 3) qb))))))))),?_]
  cases hx with
  | @kd t hk hs=>
   refine#[_,rfl,x,"tuple",t,rfl,k9 hk,by simp,_,rfl,?_]
   rw[hs];exact zZ (q _ (F5.refl _))
  | @len a xs e h l n=>
   subst e;refine#[_,rfl,_,"tuple","tuple",rfl,.tup (.inl h),by simp,_,rfl,?_]
   refine zJ ?_
   refine#[_,rfl,a,_,rfl,.inr (Gh.of h),rfl,_,rfl,?_]
   refine ZE (by rw[Jm (by intro z;injection z with z;omega)];rfl) ?_
   exact q _ (F5.refl _)
  | @tup a n y c bn bc ty e h hn hy hc=>
   subst e;refine#[_,rfl,_,"tuple","tuple",rfl,.tup (.inl h),by simp,_,rfl,?_]
   refine zJ ?_
   refine#[_,rfl,a,_,rfl,.inr (Gh.of h),rfl,_,rfl,?_]
   refine rH rfl ?_
   refine#[_,rfl,a,_,rfl,.tup h,rfl,_,_,rfl,_,_,rfl,_,_,rfl,rfl,?_]
   refine#[_,rfl,n,bn,rfl,hn,fun H1 s1=>#[_,rfl,?_]]
   cases bn with
   |false=>exact zJ (q _ s1)
   |true=>
    refine zZ ?_
    refine#[_,rfl,y,ty,rfl,fD s1 hy,_,rfl,?_]
    cases hnum:gt y with
    |false=>
     rw[hnum]at q;exact zJ (q _ s1)
    |true=>
     rw[hnum]at q;refine zZ ?_
     exact#[_,rfl,c,bc,rfl,hc.same s1,fun H2 s2=>q _ (s1.trans s2)]
theorem rF(a:At K mg "word_of" fk ["count","last","near","far"])(T:GQ K mg tk):Df P w K mg base "word_of" ["count","last","near","far"] 1 nX:=by
 refine a.dq rP fun f _ A _ s H vs Q E hr h=>?_
 ·obtain⟨c,l,n,f,rfl,q⟩:=h
  unfold rh at q;refine#[_,(qe (qN (qE bt (qv 0) (qv 1) (qy _)) (qg (ql qR)) qB)
   (qe (qN (qE bt (qv 0) (qp qJ (qv 1) (qv 2)) (qy _)) (qg (ql qR)) qB)
   (qe (qN (qE bt (qv 0) (qp qJ (qv 1) (qv 3)) (qy _)) (qg (ql qR)) qB)
   (qg (ql qR))))),?_]
  refine#[_,rfl,_,rfl,_,_,rfl,rfl,_,rfl,?_]
  refine qY (fun z=>?_) (fun z=>?_)
  ·rw[Jb (Jx z)]at q;exact q
  ·rw[Jc (fun y=>z (Jh y))]at q
   refine#[_,rfl,_,rfl,_,rfl,_,_,rfl,rfl,_,_,rfl,rfl,_,rfl,?_]
   refine qY (fun z=>?_) (fun z=>?_)
   ·rw[Jb (Jx z)]at q;exact q
   ·rw[Jc (fun y=>z (Jh y))]at q
    refine#[_,rfl,_,rfl,_,rfl,_,_,rfl,rfl,_,_,rfl,rfl,_,rfl,?_]
    refine qY (fun z=>?_) (fun z=>?_)
    ·rw[Jb (Jx z)]at q;exact q
    ·rw[Jc (fun y=>z (Jh y))]at q;exact q
theorem rA(a:At K mg "step_by" eI ["button","age","count","near","far"])(T:GQ K mg tk)(xY:Df P w K mg base "word_of" ["count","last","near","far"] 1 nX):Df P w K mg base "step_by" ["button","age","count","near","far"] 2 ja:=by
 refine a.dq GM fun f _ A _ s H vs Q E hr h=>?_
 ·obtain⟨a,e,age,c,near,far,rfl,⟨v,hb,hw⟩,q⟩:=h
  refine#[_,(qe (zz (qv 0) (zR rfl (qm (qh (i:=5) GM.nd rfl (Or.inl rfl)) (qm (qh (i:=6) GM.nd rfl (Or.inl rfl)) (qm (qh (i:=7) GM.nd rfl (Or.inl rfl)) q9)))))
   (qe (qw (i:=8) GM.nd rfl (Or.inl rfl) (qr xY hr.mo (qc (qv 2) (qc (qv 6) (qc (qv 3) (qc (qv 4) qb))))))
   (qe (qN (QW.pt (lX (qE ZK (qv 8) qR (qy _)) (iU (qE (Bi hr) (qv 7) (qF (qc (qv 1) (qc (qp Zf (qv 2) qf) qb))) (qy _))))) (qg (qw (i:=8) GM.nd rfl (Or.inl rfl) qR)) qB)
   (qe (qN (qE ZK (qv 8) qR (qy _)) (qg (ql (qF (qc (qv 8) (qc (qF (qc (qv 1) (qc (qv 2) (qc zf qb)))) qb))))) qB)
   (qe (qN (qE ZK (qv 8) qR (qy _)) (qg (ql (qF (qc (qv 8) (qc (qF (qc (qv 5) (qc (qv 6) (qc (qF (qc (qv 1) (qc (qv 2) qb))) qb)))) qb))))) qB)
   (qg (ql (qF (qc (qv 8) (qc (qv 0) qb)))))))))),?_]
  refine#[_,rfl,a,_,rfl,.tup hb,rfl,_,_,rfl,_,_,rfl,_,_,rfl,rfl,?_]
  refine#[_,rfl,_,rfl,_,rfl,_,rfl,c,e.last,near,far,rfl,?_]
  unfold zx at q;unfold rh
  by_cases h1:c<=e.last
  ·rw[Jb h1]
   rw[Jb h1]at q;refine#[_,rfl,rfl,_,rfl,?_]
   refine qY (fun y=>absurd (Jx y) (by decide +kernel)) (fun _=>?_)
   refine#[_,rfl,rfl,_,rfl,?_]
   refine qY (fun y=>absurd (Jx y) (by decide +kernel)) (fun _=>?_)
   refine#[_,rfl,rfl,_,rfl,?_]
   refine qY (fun y=>absurd (Jx y) (by decide +kernel)) (fun _=>?_)
   refine#[_,rfl,_,rfl,FX,fun q1 hq1=>?_]
   exact q q1 a _ (F5.upd hq1) qa (GH.same (F5.upd hq1) #[v,hb,hw])
  ·rw[Jc h1]
   rw[Jc h1]at q
   by_cases h2:c<=e.last+near
   ·rw[Jb h2]
    rw[Jb h2]at q;refine#[_,rfl,rfl,_,rfl,?_]
    refine qY (fun y=>absurd (Jx y) (by decide +kernel)) (fun _=>?_)
    refine#[_,rfl,rfl,_,rfl,?_]
    refine qY (fun _=>?_) (fun y=>absurd (Jh rfl) y)
    refine#[_,rfl,_,rfl,_,rfl,FY,fun t ht=>#[FX,fun q1 hq1=>?_]]
    have u1:=F5.upd (o:= .tup [.int age,.int c,.non]) ht
    have u2:=F5.upd (o:= .tup [.str "near",.ref t]) hq1
    exact q q1 t _ (u1.trans u2) qa #[.non,u2 _ _ qa,rfl]
   ·rw[Jc h2]
    rw[Jc h2]at q
    by_cases h3:c<=e.last+far
    ·rw[Jb h3]
     rw[Jb h3]at q;refine#[_,rfl,rfl,_,rfl,?_]
     refine qY (fun _=>?_) (fun y=>absurd (Jh rfl) y)
     refine#[_,rfl,_,rfl,_,rfl,_,_,rfl,rfl,FX,fun t0 ht0=>?_]
     have u0:=F5.upd (o:= .tup [.int age,.int (c-1)]) ht0
     have hw0:=hw.mv (S:=[]) u0.mv (fun c h=>nomatch h)
     refine#[e.wt,t0,age,c-1,hw0,rfl,.inl qa,_,rfl,?_]
     by_cases h4:e.wt=some (age,c-1)
     ·rw[Jb h4]at q
      refine ZE (Jh h4) ?_
      refine#[_,rfl,rfl,_,rfl,?_]
      refine qY (fun _=>?_) (fun y=>absurd (Jh rfl) y)
      refine#[_,rfl,_,rfl,_,rfl,FY,fun t ht=>#[FX,fun q1 hq1=>?_]]
      have u1:=F5.upd (o:= .tup [.int age,.int c,.non]) ht
      have u2:=F5.upd (o:= .tup [.str "near",.ref t]) hq1
      exact q q1 t _ ((u0.trans u1).trans u2) qa #[.non,u2 _ _ qa,rfl]
     ·rw[Jc h4]at q
      refine ZH (Jm h4) ?_
      refine#[_,rfl,rfl,_,rfl,?_]
      refine qY (fun y=>absurd (Jx y) (by decide +kernel)) (fun _=>?_)
      refine#[_,rfl,rfl,_,rfl,?_]
      refine qY (fun _=>?_) (fun y=>absurd (Jh rfl) y)
      refine#[_,rfl,_,rfl,_,rfl,_,rfl,_,rfl,FX,fun t1 ht1=>#[FY,fun t ht=>#[FX,fun q1 hq1=>?_]]]
      have u1:=F5.upd (o:= .tup [.int age,.int c]) ht1
      have u2:=F5.upd (o:= .tup [.int e.age,.int e.last,.ref t1]) ht
      have u3:=F5.upd (o:= .tup [.str "far",.ref t]) hq1
      exact q q1 t _ (((u0.trans u1).trans u2).trans u3) qa #[.ref t1,u3 _ _ qa,t1,rfl,u3 _ _ (u2 _ _ qa)]
    ·rw[Jc h3]
     rw[Jc h3]at q;refine#[_,rfl,rfl,_,rfl,?_]
     refine qY (fun y=>absurd (Jx y) (by decide +kernel)) (fun _=>?_)
     refine#[_,rfl,rfl,_,rfl,?_]
     refine qY (fun y=>absurd (Jx y) (by decide +kernel)) (fun _=>?_)
     refine#[_,rfl,rfl,_,rfl,?_]
     refine qY (fun y=>absurd (Jx y) (by decide +kernel)) (fun _=>?_)
     refine#[_,rfl,_,rfl,FX,fun q1 hq1=>?_]
     exact q q1 a _ (F5.upd hq1) qa (GH.same (F5.upd hq1) #[v,hb,hw])
end
section
variable{P:Ξ}{w:Ω}{K:μ}{mg:F3}{base:Ψ}{tk:Nat->Tok}{C:Δ}
theorem iK(a:Ia K C "__init__" "Door.__init__" Zh ["self","table","keys","near","far","most"])(T:GQ K mg tk)(U:Hf K C):Mf P w K mg base C "__init__" ["self","table","keys","near","far","most"] 1 (n9 K C):=by
 refine a.mq cf fun f _ A _ s H vs Q E hr h=>?_
 ·obtain⟨p,a,b,dx,near,far,most,t,kss,rfl,hp,ha,hb,hl,q⟩:=h
  refine#[_,(qe (zH (qv 0) (qH bX T.b_tuple J4 (qc (qv 1) qb)))
   (qe (zH (qv 0) (zL (own:=["key"]) (fr:=[]) (js:=[]) rfl (zo (qv 2)) rfl (fun _ _ h=>nomatch h) rfl (az rfl (by decide +kernel) (by decide +kernel) (by decide +kernel)) (fun _ _ _ _=>qh (i:=0) (show List.Nodup (["key"]:List Str)from by decide +kernel) rfl (Or.inl rfl) (.inr rfl)) (fun _ _ _ _=>(qH gd T.b_tuple J4 (qc (qv 0) qb)))))
   (qe (zH (qv 0) (qv 3))
   (qe (zH (qv 0) (qv 4))
   (qe (zH (qv 0) (qv 5))
   (qe (zH (qv 0) qf)
   (qe (zH (qv 0) lw)
   (qg (zH (qv 0) (zC qb)))))))))),?_]
  refine#[_,rfl,a,_,rfl,ha,fun ta H2 s2 ht=>#[_,rfl,p,_,rfl,zu U.cl (s2 _ _ hp) U.n_table 0,?_]]
  have e2:=s2 _ _ hp;have hb2:=(hb.same s2).upd (o:= .ins C dx [("table",.ref ta)]) e2
  obtain⟨as,eb,la,hks⟩:=hb2;have ht2:=fI (o:= .ins C dx [("table",.ref ta)]) e2 ht
  refine#[_,rfl,b,rfl,#[_,Gd.of eb],ai (K:=K) (xs:=as.map V.ref) (by rw[Je,la,JF];omega) (fun i ys H3=>F5 (F9 H2 p (.ins C dx [("table",.ref ta)])) H3/\∃bs:List Δ,ys=bs.map V.ref/\bs.length=i/\∀(j:Nat) (x:Δ) (ks:List Int),bs[j]? =some x->kss[j]? =some ks->Gh [] H3 x (ks.map V.int)) #[F5.refl _,[],rfl,rfl,fun j x ks e=>by(cases e)] (fun i ys H3 ⟨s3,_⟩=>s3.seq (Gd.of eb)) ?_ ?_]
  ·rintro i ys H3 x hx hyl ⟨s3,bs,rfl,hbl,hbs⟩
   rw[Jn]at hx;cases ea:as[i]? with
   |none=>rw[ea]at hx;cases hx
   |some x0=>
    rw[ea]at hx
    obtain rfl:V.ref x0=x:=JG hx
    have hi:i<kss.length:=by rw[<- la];exact(Jy.mp ea).1
    have hk0:=hks i x0 kss[i] ea (Jg hi);refine#[_,rfl,x0,_,rfl,.inr (F5.sqt s3 hk0).rd,fun l H4 s4 hl4=>#[s3.trans s4,bs++[l],by simp,by simp [hbl],fun j y ks e1 e2'=>?_]]
    rw[FU]at e1;split at e1
    ·exact F5.sqt s4 (hbs j y ks e1 e2')
    ·have hj:j-bs.length=0:=by
      cases hj:j-bs.length with
      |zero=>rfl
      |succ k=>rw[hj]at e1;cases e1
     rw[hj]at e1;cases e1
     have:j=i:=by omega
     subst this;rw[Jg hi]at e2';cases e2';exact .inl hl4
  ·rintro ys H3 hyl ⟨s3,bs,rfl,hbl,hbs⟩ hk hhk
   have u3:=F5.upd (o:= .lst (bs.map V.ref)) hhk
   have e3:=u3 _ _ (s3 _ _ qa);refine#[_,rfl,p,_,rfl,zu U.cl e3 U.n_house_keys 1,?_]
   refine#[_,rfl,_,rfl,p,_,rfl,zu U.cl qa U.n_near 2,?_]
   refine#[_,rfl,_,rfl,p,_,rfl,zu U.cl qa U.n_far 3,?_]
   refine#[_,rfl,_,rfl,p,_,rfl,zu U.cl qa U.n_most 4,?_]
   refine#[_,rfl,p,_,rfl,zu U.cl qa U.n_least_age 5,?_]
   refine fun bd hbd=>#[_,rfl,p,_,rfl,zu U.cl (by rw[qj (qk qa hbd)];exact qa) U.n_buttons 6,?_]
   have nbd:=qk qa hbd;refine#[FV,fun lg hlg=>#[_,rfl,p,_,rfl,zu U.cl (by rw[qj (qk qa hlg)];exact qa) U.n_log 7,?_]]
   have nlg:=qk qa hlg;have m3:Mv [p] H H3:=((s2.mv (S:=[p])).trans Mv.upd1).trans s3.mv
   have nhk:hk≠p:=(qk (s3 _ _ qa) hhk).symm
   have m4:Mv [p] H (F9 H3 hk (.lst (bs.map V.ref))):=m3.trans u3.mv
   have M:∀o1 o2 o3 o4 o5,Mv [p] (F9 H3 hk (.lst (bs.map V.ref))) (F9 (F9 (F9 (F9 (F9 (F9 H3 hk (.lst (bs.map V.ref))) p o1) p o2) p o3) p o4) p o5):=fun o1 o2 o3 o4 o5=>(((Mv.upd1.trans Mv.upd1).trans Mv.upd1).trans Mv.upd1).trans Mv.upd1
   have M6:Mv [p] (F9 H3 hk (.lst (bs.map V.ref))) _:=(((M _ _ _ _ _).trans (F5.upd hbd).mv).trans Mv.upd1).trans (F5.upd (o:= .lst []) hlg).mv
   have M7:=M6.trans (Mv.upd1 (o:= .ins C dx (dF #[t,kss,near,far,most,0,[]] ta hk bd lg)))
   have nt:NT [p] (F9 H3 hk (.lst (bs.map V.ref))):=NT.one e3 trivial
   have hbdlg:bd≠lg:=qk (by rw[qj nbd.symm];exact qa) hlg
   have KR:=GA.mv M7 nt (qM nhk) (show GA [] _ hk kss from#[bs,qa,by rw[hbl,Je,la],fun j x ks e1 e2'=>F5.sqt u3 (hbs j x ks e1 e2')])
   refine q ta hk bd lg _ (m3.nfree (qM nhk) hhk) ((m4.trans (M _ _ _ _ _)).nfree (qM nbd.symm) hbd) ((m4.trans ((((M _ _ _ _ _).trans (F5.upd hbd).mv).trans Mv.upd1))).nfree (qM nlg.symm) hlg) (m4.trans M7) #[#[dx,qa],?_,GA.up KR,?_,?_,?_] KR
   ·exact M7.sqt nt (F5.sqt u3 (F5.sqt s3 ht2))
   ·exact#[([],fun _=>0),by rw[qj nbd.symm,qj hbdlg,qj nbd.symm];exact qa,fun e he=>by(cases he),.refl _,FH]
   ·exact#[[],by rw[qj nlg.symm];exact qa,Jf _]
   ·refine(qk (o:= .lst (bs.map V.ref)) ?_ hlg).symm
    rw[qj nhk];rw[qj (qk (o:= .lst (bs.map V.ref)) (by rw[qj nhk,qj nhk,qj nhk,qj nhk,qj nhk];exact qa) hbd)]
    rw[qj nhk,qj nhk,qj nhk,qj nhk,qj nhk];exact qa
theorem hU(a:Ia K C "is_full" "Door.is_full" ZS ["self"])(T:GQ K mg tk)(U:Hf K C):Mf P w K mg base C "is_full" ["self"] 1 (pE K C):=by
 refine a.mq gR fun f _ A _ s H vs Q E hr h=>?_
 ·obtain⟨p,ta,hk,bd,lg,n,D,rfl,b,q⟩:=h
  obtain⟨fn,hd,_,hpm,_⟩:=b.kb;refine#[_,(qg (ql (zX rK (qz tQ T.b_len J3 (qc (qP (qv 0)) qb)) (qP (qv 0)) (qy _)))),?_]
  refine#[_,rfl,p,_,rfl,b.h_buttons U,bd,_,rfl,hd,_,rfl,p,_,rfl,b.h_most U,_,_,rfl,rfl,?_]
  rw[show(bz fn.1 fn.2).length=D.kn.length from(Je _).trans hpm.length_eq]
  exact q
theorem fO(a:Ia K C "button_of" "Door.button_of" Zm ["self","name"])(T:GQ K mg tk)(U:Hf K C):Mf P w K mg base C "button_of" ["self","name"] 1 (ig K C):=by
 refine a.mq fM fun f _ A _ s H vs Q E hr h=>?_
 ·obtain⟨p,ta,hk,bd,lg,n,D,nm,rfl,b,q1,q2⟩:=h
  refine#[_,(qg (ql (wk hr (qP (qv 0)) (qv 1)))),?_]
  obtain⟨fn,hd,_⟩:=id b.kb;refine#[_,rfl,p,_,rfl,b.h_buttons U,bd,rfl,.inl #[_,.inl hd],_,rfl,?_]
  rcases b.kb.get nm with⟨e1,g⟩|⟨e,x,e1,g,hx⟩
  ·exact#[_,g,q1 e1]
  ·exact#[_,g,q2 e x e1 hx]
theorem fR(a:Ia K C "takes_age" "Door.takes_age" Zs ["self","age"])(T:GQ K mg tk)(U:Hf K C):Mf P w K mg base C "takes_age" ["self","age"] 1 (gI K C):=by
 refine a.mq fP fun f _ A _ s H vs Q E hr h=>?_
 ·obtain⟨p,ta,hk,bd,lg,n,D,age,rfl,b,q⟩:=h
  obtain⟨as,eh,la,_⟩:=b.ks;refine#[_,(qg (ql (ge bt kL (qP (qv 0)) (qv 1) (qz qW T.b_len J3 (qc (qP (qv 0)) qb))))),?_]
  unfold Ze at q;refine#[_,rfl,p,_,rfl,b.h_least_age U,_,rfl,_,_,rfl,rfl,_,rfl,?_]
  refine qY (fun z=>?_) (fun z=>?_)
  ·rw[z,EH]at q
   refine#[_,rfl,p,_,rfl,b.h_house_keys U,hk,_,rfl,.inl (Gd.of eh),_,_,rfl,rfl,?_]
   rw[Je,la];exact q
  ·rw[EE.mpr z,Ei]at q
   exact q
theorem di(a:Ia K C "takes_from" "Door.takes_from" Za ["self","button","age"])(T:GQ K mg tk)(U:Hf K C)(dI:Mf P w K mg base C "takes_age" ["self","age"] 1 (gI K C)):Mf P w K mg base C "takes_from" ["self","button","age"] 2 (bZ K C):=by
 refine a.mq eE fun f _ A _ s H vs Q E hr h=>?_
 ·obtain⟨p,ta,hk,bd,lg,x,n,D,e,age,rfl,b,⟨v,hx,hw⟩,q⟩:=h
  refine#[_,(qg (ql (af (za dI U.cl hr.mo (qv 0) (qc (qv 2) qb)) (bg (zX rK (qv 2) (qt qT (qv 1) qf) (qy _)))))),?_]
  unfold qG at q;refine#[_,rfl,p,rfl,b.no,_,rfl,p,ta,hk,bd,lg,n,D,age,rfl,b,_,rfl,?_]
  refine qY (fun z=>?_) (fun z=>?_)
  ·rw[z,EH]at q
   exact#[_,rfl,_,rfl,x,_,_,_,rfl,rfl,Gh.of hx,rfl,_,_,rfl,rfl,q]
  ·rw[EE.mpr z,Ei]at q
   exact q
theorem eY(a:Ia K C "plain_step" "Door.plain_step" Qo ["self","button","age","count"])(T:GQ K mg tk)(U:Hf K C)(dB:Mf P w K mg base C "takes_from" ["self","button","age"] 2 (bZ K C))(d9:Df P w K mg base "step_by" ["button","age","count","near","far"] 2 ja):Mf P w K mg base C "plain_step" ["self","button","age","count"] 3 (oS K C):=by
 refine a.mq Z8 fun f _ A _ s H vs Q E hr h=>?_
 ·obtain⟨p,ta,hk,bd,lg,x,n,D,e,age,c,rfl,b,hx,ht,q⟩:=h
  refine#[_,(qe (qN (Qx (Qy (za dB U.cl hr.mo (qv 0) (qc (qv 1) (qc (qv 2) qb))))) (qg (ql (qF (qc qR (qc (qv 1) qb))))) qB)
   (qg (ql (qr d9 hr.mo (qc (qv 1) (qc (qv 2) (qc (qv 3) (qc (qP (qv 0)) (qc (qP (qv 0)) qb))))))))),?_]
  refine#[_,rfl,p,rfl,b.no,_,rfl,_,rfl,p,ta,hk,bd,lg,x,n,D,e,age,rfl,b,hx,_,rfl,?_]
  rw[ht];refine zJ ?_
  exact#[_,rfl,_,rfl,_,rfl,_,rfl,p,_,rfl,b.h_near U,_,rfl,p,_,rfl,b.h_far U,x,e,age,c,D.near,D.far,rfl,hx,q]
theorem fS(a:Ia K C "answer_to" "Door.answer_to" Zr ["self","press"])(T:GQ K mg tk)(U:Hf K C)(dC:Mf P w K mg base C "button_of" ["self","name"] 1 (ig K C))(dB:Mf P w K mg base C "takes_from" ["self","button","age"] 2 (bZ K C))(dD:Mf P w K mg base C "plain_step" ["self","button","age","count"] 3 (oS K C))
  (dP:Df P w K mg base "read_press" ["table","key","press"] 3 (mP K)):Mf P w K mg base C "answer_to" ["self","press"] 4 (jh K C):=by
 refine a.mq Gf fun f _ A _ s H vs Q E hr h=>?_
 ·obtain⟨p,ta,hk,bd,lg,pr,n,D,nm,age,ds,rfl,b,ok,⟨pc,hp,hpc⟩,hn,l5,hdd,q⟩:=h
  refine#[_,(qe (zz (qv 1) (zR rfl (qm (qh (i:=2) Gf.nd rfl (Or.inl rfl)) (qm (qh (i:=3) Gf.nd rfl (Or.inl rfl)) (qm (qh (i:=4) Gf.nd rfl (Or.inl rfl)) q9)))))
   (qe (qw (i:=5) Gf.nd rfl (Or.inl rfl) (za dC U.cl hr.mo (qv 0) (qc (qv 2) qb)))
   (qe (qN (qE QP (qv 5) zf (qy _)) (qg (ql (qF (qc qR (qc qR qb))))) qB)
   (qe (qN (Qx (Qy (za dB U.cl hr.mo (qv 0) (qc (qv 5) (qc (qv 3) qb))))) (qg (ql (qF (qc qR (qc qR qb))))) qB)
   (qe (qw (i:=6) Gf.nd rfl (Or.inl rfl) (qr dP hr.mo (qc (qP (qv 0)) (qc (qt qA (qP (qv 0)) (qv 3)) (qc (qv 1) qb)))))
   (qe (qN (qE QP (qv 6) zf (qy _)) (qg (ql (qF (qc qR (qc qR qb))))) qB)
   (qe (zz (qv 6) (zR rfl (qm (qh (i:=7) Gf.nd rfl (Or.inl rfl)) (qm (qh (i:=8) Gf.nd rfl (Or.inl rfl)) q9))))
   (qe (zz (za dD U.cl hr.mo (qv 0) (qc (qv 5) (qc (qv 3) (qc (qv 7) qb)))) (zR rfl (qm (qh (i:=9) Gf.nd rfl (Or.inl rfl)) (qm (qh (i:=10) Gf.nd rfl (Or.inl rfl)) q9))))
   (qe (gi hr (qP (qv 0)) (qv 2) (qv 10))
   (qe (qN (qE ZK (qv 9) qR (qy _)) (qg (ql (qF (qc qR (qc (qv 2) (qc (qv 8) qb)))))) qB)
   (qg (ql (qF (qc qR (qc (qv 9) qb))))))))))))))),?_]
  refine#[_,rfl,pr,_,rfl,.tup hp,rfl,_,_,rfl,_,_,rfl,_,_,rfl,rfl,?_]
  refine#[_,rfl,p,rfl,b.no,_,rfl,p,ta,hk,bd,lg,n,D,nm,rfl,b,fun e1=>?_,fun e x e1 hx=>?_]
  ·have eJ:zb D nm age (ZB D.t (QJ D age) nm ds)=([.str "held",.str "unknown"],D.kn):=by unfold zb;rw[e1]
   rw[eJ]at q;refine#[_,rfl,rfl,_,rfl,?_]
   refine qY (fun _=>?_) (fun y=>absurd (Jh rfl) y)
   refine#[FX,fun q1 hq1=>?_]
   exact q q1 _ (F5.upd hq1).mv qa (b.same (F5.upd hq1))
  ·refine#[_,rfl,rfl,_,rfl,?_]
   refine qY (fun y=>nomatch (Jx y)) (fun _=>?_)
   refine#[_,rfl,p,rfl,b.no,_,rfl,_,rfl,p,ta,hk,bd,lg,x,n,D,e,age,rfl,b,hx,_,rfl,?_]
   cases ht:qG D e age with
   |false=>
    have eJ:zb D nm age (ZB D.t (QJ D age) nm ds)=([.str "held",.str "age"],D.kn):=by unfold zb;rw[e1];simp only;rw[ht];rfl
    rw[eJ]at q;refine zZ ?_
    refine#[FX,fun q1 hq1=>?_]
    exact q q1 _ (F5.upd hq1).mv qa (b.same (F5.upd hq1))
   |true=>
    refine zJ ?_
    obtain⟨a0,a1⟩:=Z9 ht ok.l0;obtain⟨xs,ak,eh,hat,hak⟩:=b.ks.at a0 a1;refine#[_,rfl,p,_,rfl,b.h_table U,_,rfl,p,_,rfl,b.h_house_keys U,_,rfl,hk,_,_,_,rfl,rfl,Gd.of eh,hat,_,rfl,ta,ak,pr,pc,nm,age,D.t,QJ D age,ds,rfl,.inr b.tb,.inr hak,.tup hp,.tup hpc,hn,ok.tp,l5,hdd,fun y H1 s1 told=>?_]
    have b1:=b.same s1;have hx1:=hx.same s1;have told':fm H1 y (ZB D.t (QJ D age) nm ds):=told
    cases er:ZB D.t (QJ D age) nm ds with
    |none=>
     rw[er]at told' q;have ey:y= .non:=told'
     subst ey;have eJ:zb D nm age none=([.str "held",.str "false"],D.kn):=by unfold zb;rw[e1];simp only;rw[ht];rfl
     rw[eJ]at q;refine#[_,rfl,rfl,_,rfl,?_]
     refine qY (fun _=>?_) (fun y=>absurd (Jh rfl) y)
     refine#[FX,fun q1 hq1=>?_]
     exact q q1 _ (s1.trans (F5.upd hq1)).mv qa (b1.same (F5.upd hq1))
    |some cd=>
     obtain⟨c,d⟩:=cd;rw[er]at told' q;obtain⟨pp,ey,hpp⟩:=told';subst ey;refine#[_,rfl,rfl,_,rfl,?_]
     refine qY (fun y=>nomatch (Jx y)) (fun _=>?_)
     refine#[_,rfl,pp,_,rfl,.tup hpp,rfl,_,_,rfl,_,_,rfl,rfl,?_]
     refine#[_,rfl,p,rfl,b1.no,_,rfl,_,rfl,_,rfl,p,ta,hk,bd,lg,x,n,D,e,age,c,rfl,b1,hx1,ht,fun q1 a' H2 s2 hq1 hb'=>#[q1,_,rfl,.tup hq1,rfl,_,_,rfl,_,_,rfl,rfl,?_]]
     have b2:=b1.same s2;obtain⟨H3,dp,m3,kb3⟩:=b2.kb.put nm (by have:=ok.nl;omega) hb'
     refine#[_,rfl,_,rfl,p,_,rfl,b2.h_buttons U,_,rfl,bd,H3,rfl,dp,?_]
     have b3:=b2.putK m3 kb3;have mm:Mv [bd] H H3:=(s1.trans s2).mv.trans m3
     refine#[_,rfl,rfl,_,rfl,?_]
     by_cases hw:(zx D.near D.far e age c).1="near"
     ·have eJ:zb D nm age (some (c,d))=([.str "open",.str nm,.int d],zk D.kn nm (zx D.near D.far e age c).2):=by unfold zb;rw[e1];simp only;rw[Jb ht,Jb hw]
      rw[eJ]at q;refine qY (fun _=>?_) (fun y=>absurd (Jh (by rw[hw])) y)
      refine#[_,rfl,_,rfl,FY,fun q2 hq2=>?_]
      exact q q2 _ (mm.trans (F5.upd hq2).mv) qa (b3.same (F5.upd hq2))
     ·have eJ:zb D nm age (some (c,d))=([.str "held",.str (zx D.near D.far e age c).1],zk D.kn nm (zx D.near D.far e age c).2):=by unfold zb;rw[e1];simp only;rw[Jb ht,Jc hw]
      rw[eJ]at q;refine qY (fun y=>absurd (Jx y) (by intro z;injection z with z;exact hw z)) (fun _=>?_)
      refine#[_,rfl,FX,fun q2 hq2=>?_]
      exact q q2 _ (mm.trans (F5.upd hq2).mv) qa (b3.same (F5.upd hq2))
theorem eV(a:Ia K C "read_right" "Door.read_right" Q7 ["self","thing"])(T:GQ K mg tk)(U:Hf K C)(dX:Df P w K mg base "is_press" ["thing"] 5 cC)(dI:Mf P w K mg base C "takes_age" ["self","age"] 1 (gI K C))(dP:Df P w K mg base "read_press" ["table","key","press"] 3 (mP K)):Mf P w K mg base C "read_right" ["self","thing"] 6 (jY K C):=by
 refine a.mq fh fun f _ A _ s H vs Q E hr h=>?_
 ·obtain⟨p,ta,hk,bd,lg,n,D,x,o,rfl,b,ok,tg,q⟩:=h
  refine#[_,(qe (qN (QW.pt (Z6 (Qx (Qy (qr dX hr.mo (qc (qv 1) qb)))) (ZI (Qx (Qy (za dI U.cl hr.mo (qv 0) (qc (qt qT (qv 1) qf) qb))))))) (qg (ql zf)) qB)
   (qg (ql (qr dP hr.mo (qc (qP (qv 0)) (qc (qt qA (qP (qv 0)) (qt qT (qv 1) qf)) (qc (qv 1) qb))))))),?_]
  refine#[_,rfl,x,_,rfl,tg.b,fun H1 s1=>#[_,rfl,?_]]
  cases o with
  |none=>exact zZ (zZ (q .non _ s1 rfl))
  |some PP=>
  obtain⟨pr,rfl,hp,hn,l5,hdd⟩:=tg;have q:∀y H',F5 H H'->fm H' y (fZ D PP)->Q y H':=q
  obtain⟨nm,age,ds⟩:=PP;simp only at hn l5 hdd
  refine zJ ?_
  have b1:=b.same s1;obtain⟨pc,hp1,hpc1⟩:=Gz.same s1 hp;refine#[_,rfl,p,rfl,b1.no,_,rfl,pr,_,_,_,rfl,rfl,Gh.of hp1,rfl,p,ta,hk,bd,lg,n,D,age,rfl,b1,_,rfl,?_]
  unfold fZ at q;cases ht:Ze D age with
  |false=>
   rw[Jc (by rw[ht];intro z;cases z)]at q
   exact zZ (q _ _ s1 rfl)
  |true=>
  rw[Jb ht]at q;refine zJ ?_
  have ht':qG D #[age,0,none] age=true:=by unfold qG;rw[ht,Jh (JK _)];rfl
  obtain⟨a0,a1⟩:=Z9 ht' ok.l0;obtain⟨xs,ak,eh,hat,hak⟩:=b1.ks.at a0 a1
  exact#[_,rfl,p,_,rfl,b1.h_table U,_,rfl,p,_,rfl,b1.h_house_keys U,_,rfl,pr,_,_,_,rfl,rfl,Gh.of hp1,rfl,hk,_,_,_,rfl,rfl,Gd.of eh,hat,_,rfl,ta,ak,pr,pc,nm,age,D.t,QJ D age,ds,rfl,.inr b1.tb,.inr hak,.tup hp1,.tup hpc1,hn,ok.tp,l5,hdd,fun y H2 s2 told=>q y H2 (s1.trans s2) told]
theorem fT(a:Ia K C "known_now" "Door.known_now" Zl ["self"])(T:GQ K mg tk)(U:Hf K C):Mf P w K mg base C "known_now" ["self"] 1 (gJ K C):=by
 refine a.mq fQ fun f _ A _ s H vs Q E hr h=>?_
 ·obtain⟨p,ta,hk,bd,lg,n,D,rfl,b,ok,q⟩:=h
  obtain⟨fn,hd,hbu,hpm,_⟩:=id b.kb;refine#[_,(qg (ql (qH qV T.b_tuple J4 (qc (zL (own:=["name"]) (fr:=["self"]) (js:=[0]) rfl (zo (qz (lp rfl) T.b_sorted PyProof.Rows.boot_sorted (qc (qP (qv 0)) qb))) rfl (i5 rfl) rfl (iM rfl (by decide +kernel) (by decide +kernel) (by decide +kernel) rfl rfl rfl) (fun _ _ _ _=>qh (i:=0) (show List.Nodup (["name","self"]:List Str)from by decide +kernel) rfl (Or.inl rfl) (.inr rfl)) (fun _ _ _ _=>(qp cm (qF (qc (qv 0) qb)) (oG hr (AJ (K:=K) rfl (qv 1)) (qv 0))))) qb)))),?_]
  refine#[_,rfl,p,_,rfl,b.h_buttons U,bd,_,fn.1.map (·.1),rfl,hd,y9 _ _,by rw[Je,hpm.length_eq];have:=ok.nl;omega,fun l ss hl pm0 so=>#[l,rfl,#[_,Gd.of qa],?_]]
  have pm:=pm0.trans (hpm.map (·.1))
  have u1:=F5.upd (o:= .lst (ss.map V.str)) hl
  have ls:ss.length<=60:=by rw[pm.length_eq,Je];exact ok.nl
  refine ai (K:=K) (xs:=ss.map V.str) (by rw[Je,JF];omega) (fun i ys H3=>F5 (F9 H l (.lst (ss.map V.str))) H3/\∃as:List Δ,ys=as.map V.ref/\as.length=i/\∀(j:Nat) (x:Δ) (nm:Str) (e:Kb),as[j]? =some x->ss[j]? =some nm->D.kn.lookup nm=some e->∃v,H3 x=some (.tup [.str nm,.int e.age,.int e.last,v])/\Wt H3 v e.wt) #[F5.refl _,[],rfl,rfl,fun j x nm e h=>by(cases h)] (fun i ys H3 ⟨s3,_⟩=>s3.seq (Gd.of qa)) ?_ ?_
  ·rintro i ys H3 x hx hyl ⟨s3,as,rfl,hal,has⟩
   rw[Jn]at hx;cases es:ss[i]? with
   |none=>rw[es]at hx;cases hx
   |some nm=>
    rw[es]at hx
    obtain rfl:V.str nm=x:=JG hx
    have hmem:nm∈D.kn.map (·.1):=pm.mem_iff.mp (J9 es)
    obtain⟨e,he⟩:=Zg hmem;have b3:=b.same (u1.trans s3);obtain⟨e',x0,he',g,v0,hx0,hw0⟩:=(b3.kb.get nm).resolve_left (fun z=>by rw[he]at z;cases z.1)
    rw[he]at he';cases he';refine#[_,rfl,FW,fun t ht=>?_]
    have u4:=F5.upd (o:= .tup [.str nm]) ht
    have b4:=b3.same u4;obtain⟨e',x0,he',g,v0,hx0,hw0⟩:=(b4.kb.get nm).resolve_left (fun z=>by rw[he]at z;cases z.1)
    rw[he]at he';cases he';refine#[_,rfl,p,_,rfl,b4.h_buttons U,_,rfl,bd,_,rfl,g,t,x0,_,_,rfl,rfl,qa,hx0,FZ,fun q1 H5 s5 hq1=>?_]
    refine#[(s3.trans u4).trans s5,as++[q1],by simp,by simp [hal],fun j y m2 e2 h1 h2 h3=>?_]
    rw[FU]at h1;split at h1
    ·obtain⟨v,a1,a2⟩:=has j y m2 e2 h1 h2 h3
     exact#[v,s5 _ _ (u4 _ _ a1),a2.mv (S:=[]) (u4.trans s5).mv (fun c h=>nomatch h)]
    ·have hj:j-as.length=0:=by
      cases hj:j-as.length with
      |zero=>rfl
      |succ k=>rw[hj]at h1;cases h1
     rw[hj]at h1;cases h1
     obtain rfl:j=i:=by omega
     rw[es]at h2;cases h2;rw[he]at h3;cases h3
     exact#[v0,hq1,hw0.mv (S:=[]) s5.mv (fun c h=>nomatch h)]
  ·rintro ys H3 hyl ⟨s3,as,rfl,hal,has⟩ l2 hl2
   have u4:=F5.upd (o:= .lst (as.map V.ref)) hl2
   refine#[l2,_,rfl,.inl #[Gd.of qa,fun q1 hq1=>?_]]
   have u5:=F5.upd (o:= .tup (as.map V.ref)) hq1
   have S:=u4.trans u5;refine q q1 ss _ ((u1.trans s3).trans S) pm so #[as,qa,by rw[hal,Je],fun j x nm e h1 h2 h3=>?_]
   obtain⟨v,a1,a2⟩:=has j x nm e h1 h2 h3
   exact#[v,S _ _ a1,a2.mv (S:=[]) S.mv (fun c h=>nomatch h)]
end
section
variable{P:Ξ}{w:Ω}{K:μ}{mg:F3}{base:Ψ}{tk:Nat->Tok}{C:Δ}
theorem mS(a:Ia K C "hear" "Door.hear" bJ ["self","thing"])(T:GQ K mg tk)(U:Hf K C)(dX:Df P w K mg base "is_press" ["thing"] 5 cC)(d7:Mf P w K mg base C "answer_to" ["self","press"] 4 (jh K C)):Mf P w K mg base C "hear" ["self","thing"] 6 (i7 K C):=by
 refine a.mq HM fun f _ A _ s H vs Q E hr h=>?_
 ·obtain⟨⟨p,ta,hk,bd,lg⟩,D,L,x,o,rfl,⟨b,⟨rs,el,ro⟩,kr⟩,n1,ok,tg,qn,qs⟩:=h
  simp only at b el kr qs
  refine#[_,(qe (qN (Qx (Qy (qr dX hr.mo (qc (qv 1) qb)))) (qg (ql (qF (qc qR (qc qR qb))))) qB)
   (qe (qw (i:=2) HM.nd rfl (Or.inl rfl) (za d7 U.cl hr.mo (qv 0) (qc (qv 1) qb)))
   (qe (Qg (ZA EF EI EJ zW (qP (qv 0)) (qc (qF (qc qR (qc (qv 1) (qc (qv 2) qb)))) qb)))
   (qg (ql (qv 2)))))),?_]
  refine#[_,rfl,x,_,rfl,tg.b,fun H1 s1=>#[_,rfl,?_]]
  cases o with
  |none=>exact zZ #[FX,fun q hq=>qn rfl q _ (s1.trans (F5.upd hq)) qa]
  |some PP=>
  obtain⟨pr,rfl,hp,okP⟩:=tg;have q:=qs PP rfl;refine zJ ?_
  have b1:=b.same s1;obtain⟨f0,hd,_⟩:=id b1.kb;have ntb:NT [bd] H1:=NT.one hd trivial
  refine#[_,rfl,p,rfl,b1.no,_,rfl,p,ta,hk,bd,lg,pr,L.length,D,PP.nm,PP.age,PP.ds,rfl,b1,ok,Gz.same s1 hp,okP.nm,okP.l,okP.dg,fun q1 H2 m2 hq1 b2=>?_]
  have el2:=m2 _ _ (qM (Qu (s1 _ _ el) hd (by intro z;cases z))) (s1 _ _ el)
  have ro2:=(ro.same s1).mv m2 ntb;refine#[_,rfl,p,_,rfl,b2.h_log U,.inl #[rfl,_,Gd.of el2],_,rfl,_,rfl,FY,fun r hr'=>?_]
  have u3:=F5.upd (o:= .tup [.str "hear",.ref pr,.ref q1]) hr'
  have b3:=b2.same u3;have pr3:=Gz.same u3 (Gz.mv m2 ntb (Gz.same s1 hp));have ntl:NT [lg] _:=NT.one (u3 _ _ el2) trivial
  refine#[lg,_,_,rfl,rfl,u3 _ _ el2,by rw[Je,ro.1,JF];omega,#[_,rfl,?_]]
  exact q pr q1 _ rfl (((s1.mv.trans (m2.mono (fun c h z=>h (by rw[Jl.mp z];exact Jv ..)))).trans u3.mv).trans (Mv.upd1.mono (fun c h z=>h (by rw[Jl.mp z];exact JE _ (Jv ..))))) (Gz.mv Mv.upd1 ntl pr3) (Mv.upd1.tup ntl (u3 _ _ hq1)) (Gv.push (a:=#[p,ta,hk,bd,lg]) b3 (u3 _ _ el2) (ro2.same u3) ((GA.mv m2 ntb (qM (xy hd b1)) (GA.same s1 kr)).same u3) #[pr,q1,.inl qa,pr3,okP,u3 _ _ hq1,tO D PP,vL D PP])
theorem ko(a:Ia K C "learn" "Door.learn" aT ["self","one","other"])(T:GQ K mg tk)(U:Hf K C)(dO:Mf P w K mg base C "read_right" ["self","thing"] 6 (jY K C))(xE:Mf P w K mg base C "is_full" ["self"] 1 (pE K C)):Mf P w K mg base C "learn" ["self","one","other"] 7 (jU K C):=by
 refine a.mq Gy fun f _ A _ s H vs Q E hr h=>?_
 ·obtain⟨⟨p,ta,hk,bd,lg⟩,D,L,p1,p2,⟨nm,age,ds1⟩,⟨nm2,age2,ds2⟩,c,d1,d2,rfl,⟨b,⟨rs,el,ro⟩,kr⟩,n1,ok,hp1,hp2,ok1,ok2,r1,r2,en,ea,hno,hmo,q⟩:=h
  simp only at b el kr q en ea hno
  subst en;subst ea
  refine#[_,(qe (qw (i:=3) Gy.nd rfl (Or.inl rfl) (za dO U.cl hr.mo (qv 0) (qc (qv 1) qb)))
   (qe (qN (qE QP (qv 3) zf (qy _)) bD qB)
   (qe (qw (i:=4) Gy.nd rfl (Or.inl rfl) (za dO U.cl hr.mo (qv 0) (qc (qv 2) qb)))
   (qe (qN (QW.pt (Z6 (qE QP (qv 4) zf (qy _)) (Z6 (qE (CJ hr) (QY jc (qv 2) Zt (Zv qf)) (QY jc (qv 1) Zt (Zv qf)) (qy _)) (ZI (qE cI (qt qT (qv 4) qf) (qp qJ (qt qT (qv 3) qf) qf) (qy _)))))) bD qB)
   (qe (zz (qv 1) (zR rfl (qm (qh (i:=5) Gy.nd rfl (Or.inl rfl)) (qm (qh (i:=6) Gy.nd rfl (Or.inl rfl)) (qm (qh (i:=7) Gy.nd rfl (Or.inl rfl)) q9)))))
   (qe (qN (uH hr (qv 5) (qP (qv 0))) bD qB)
   (qe (qN (Qy (zS xE U.cl hr.mo (qv 0))) bD qB)
   (qe (gi hr (qP (qv 0)) (qv 5) (qF (qc (qv 6) (qc (qt qT (qv 4) qf) (qc zf qb)))))
   (qg (Qg (ZA EF EI EJ zW (qP (qv 0)) (qc (qF (qc qR (qc (qv 1) (qc (qv 2) qb)))) qb)))))))))))),?_]
  refine#[_,rfl,p,rfl,b.no,_,rfl,p,ta,hk,bd,lg,L.length,D,.ref p1,some _,rfl,b,ok,#[p1,rfl,hp1,ok1],fun y1 H1 s1 t1=>?_]
  have t1:fm H1 y1 (fZ D _):=t1
  rw[r1]at t1;obtain⟨f1,rfl,hf1⟩:=t1;refine#[_,rfl,rfl,_,rfl,qY (fun y=>nomatch (Jx y)) (fun _=>?_)]
  have b1:=b.same s1;refine#[_,rfl,p,rfl,b1.no,_,rfl,p,ta,hk,bd,lg,L.length,D,.ref p2,some _,rfl,b1,ok,#[p2,rfl,Gz.same s1 hp2,ok2],fun y2 H2 s2 t2=>?_]
  have t2:fm H2 y2 (fZ D _):=t2
  rw[r2]at t2;obtain⟨f2,rfl,hf2⟩:=t2;have b2:=b1.same s2;have hp1':=Gz.same (s1.trans s2) hp1;have hp2':=Gz.same (s1.trans s2) hp2;obtain⟨c1,e1,_⟩:=id hp1';obtain⟨c2,e2,_⟩:=id hp2';simp only at e1 e2
  refine#[_,rfl,rfl,_,rfl,?_]
  refine qY (fun y=>nomatch (Jx y)) (fun _=>?_)
  refine#[_,rfl,_,rfl,p2,_,rfl,e2,fun t3 H3 s3 h3 _=>#[_,rfl,_,rfl,p1,_,rfl,s3 _ _ e1,fun t4 H4 s4 h4 _=>?_]]
  have h3':H4 t3=some (.tup [.str nm2,.int age2]):=s4 _ _ h3
  have h4':H4 t4=some (.tup [.str nm2,.int age2]):=h4
  have S4:=(s3.trans s4);have SS:=(s1.trans s2).trans S4;refine#[1,by decide,IL.pair h3' h4',_,rfl,zJ ?_]
  refine#[_,rfl,f2,_,_,_,rfl,rfl,Gh.of (S4 _ _ hf2),rfl,_,rfl,f1,_,_,_,rfl,rfl,Gh.of (S4 _ _ (s2 _ _ hf1)),rfl,_,_,rfl,rfl,rfl,_,rfl,?_]
  refine rH rfl ?_
  have b4:=b2.same S4;refine#[_,rfl,p1,_,rfl,.tup (S4 _ _ e1),rfl,_,_,rfl,_,_,rfl,_,_,rfl,rfl,?_]
  have g4:HP H4 bd (.str nm2) none:=by
   rcases b4.kb.get nm2 with⟨_,g⟩|⟨e,x,e5,_⟩
   ·exact g
   ·rw[hno]at e5;cases e5
  refine#[_,rfl,_,rfl,p,_,rfl,b4.h_buttons U,bd,_,rfl,g4,_,rfl,?_]
  refine zJ ?_
  refine#[_,rfl,p,rfl,b4.no,p,ta,hk,bd,lg,L.length,D,rfl,b4,_,rfl,?_]
  refine qY (fun y=>absurd (Jx y) (by omega)) (fun _=>?_)
  refine#[_,rfl,_,rfl,f2,_,_,_,rfl,rfl,Gh.of (S4 _ _ hf2),rfl,FY,fun t5 ht5=>?_]
  have u5:=F5.upd (o:= .tup [.int age2,.int (c+1),.non]) ht5
  have b5:=b4.same u5;obtain⟨f0,hd,_⟩:=id b5.kb;have SQ:=SS.trans u5;obtain⟨H6,dp,m6,kb6⟩:=b5.kb.put nm2 (a:=t5) (e:=#[age2,c+1,none]) (by have:=ok.nl;omega) #[.non,qa,rfl]
  refine#[_,rfl,p,_,rfl,b5.h_buttons U,_,rfl,bd,H6,rfl,dp,?_]
  have b6:=b5.putK m6 kb6;have el6:=m6 _ _ (qM (Qu (SQ _ _ el) hd (by intro z;cases z))) (SQ _ _ el)
  have nt5:NT [bd] _:=NT.one hd trivial
  have ro6:=(ro.same SQ).mv m6 nt5;refine#[_,rfl,p,_,rfl,b6.h_log U,.inl #[rfl,_,Gd.of el6],_,rfl,_,rfl,FY,fun r hr'=>?_]
  have u7:=F5.upd (o:= .tup [.str "learn",.ref p1,.ref p2]) hr'
  have b7:=b6.same u7;refine#[lg,_,_,rfl,rfl,u7 _ _ el6,by rw[Je,ro.1,JF];omega,?_]
  exact q _ (((SQ.mv.trans (m6.mono (fun c h z=>h (by rw[Jl.mp z];exact Jv ..)))).trans u7.mv).trans (Mv.upd1.mono (fun c h z=>h (by rw[Jl.mp z];exact JE _ (Jv ..))))) (Gv.push (a:=#[p,ta,hk,bd,lg]) b7 (u7 _ _ el6) (ro6.same u7) ((GA.mv m6 nt5 (qM (xy hd b5)) (GA.same SQ kr)).same u7) #[p1,p2,.inl qa,Gz.same u7 (Gz.mv m6 nt5 (Gz.same SQ hp1)),Gz.same u7 (Gz.mv m6 nt5 (Gz.same SQ hp2)),ok1,ok2])
theorem fN(a:Ia K C "twin_door" "Door.twin_door" Zn ["self"])(T:GQ K mg tk)(U:Hf K C)(xN:Mi P w K mg base C "Door" ["self","table","keys","near","far","most"] 1 (n9 K C)):Mf P w K mg base C "twin_door" ["self"] 3 (iH K C):=by
 refine a.mq GZ fun f _ A _ s H vs Q E hr h=>?_
 ·obtain⟨⟨p,ta,hk,bd,lg⟩,D,L,rfl,⟨b,⟨rs,el,ro⟩,kr⟩,k8,q⟩:=h
  simp only at b el kr q
  refine#[_,(qe (qw (i:=1) GZ.nd rfl (Or.inl rfl) (pI xN hr.mo (qc (qP (qv 0)) (qc (qP (qv 0)) (qc (qP (qv 0)) (qc (qP (qv 0)) (qc (qP (qv 0)) qb)))))))
   (qe (zH (qv 1) (qP (qv 0)))
   (qe (zH (qv 1) (qH rg T.b_dict PyProof.Rows.boot_dict (qc (qP (qv 0)) qb)))
   (qe (zH (qv 1) (qH aR T.b_list FJ (qc (qP (qv 0)) qb)))
   (qg (ql (qv 1))))))),?_]
  refine#[_,rfl,p,_,rfl,b.h_table U,_,rfl,p,_,rfl,b.h_house_keys U,_,rfl,p,_,rfl,b.h_near U,_,rfl,p,_,rfl,b.h_far U,_,rfl,p,_,rfl,b.h_most U,fun x dx nx ndx nex=>?_]
  have sJ:F5 H (F9 (F9 H dx (.own x)) x (.ins C dx [])):=(F5.upd ndx).trans (F5.upd (by rw[qj nex.symm];exact nx))
  refine#[x,ta,hk,dx,D.near,D.far,D.most,D.t,D.kss,rfl,qa,.inr (F5.sqt sJ b.tb),GA.same sJ kr,k8,fun ta' hk' bd0 lg0 H1 h1 h2 h3 mv dr krn=>#[rfl,?_]]
  have S1:F5 H H1:=fun c o e=>mv c o (qM (qk e nx)) (sJ c o e)
  obtain⟨dx',e1⟩:=id dr.ob;obtain⟨as,eh1,_⟩:=id dr.ks;have nhx:hk'≠x:=Qu eh1 e1 (by intro z;cases z)
  obtain⟨f0,hd,hbu,hpm,nd⟩:=id b.kb;have b1:=b.same S1;refine#[_,rfl,p,_,rfl,b1.h_least_age U,_,rfl,x,_,rfl,uT U e1 D.least,?_]
  have S2:=S1.put (o:= .ins C dx' (dF #[D.t,D.kss,D.near,D.far,D.most,D.least,[]] ta' hk' bd0 lg0)) nx
  have b2:=b.same S2;refine#[_,rfl,p,_,rfl,b2.h_buttons U,bd,_,rfl,S2 _ _ hd,fun bd' hbd'=>?_]
  have nbx:bd'≠x:=(qk qa hbd').symm
  have fbd:H bd'=none:=QR hbd' S2
  have S3:=S2.put (o:= .dK (bz f0.1 f0.2)) fbd
  refine#[_,rfl,x,_,rfl,nV U (by rw[qj nbx.symm];exact qa) bd',?_]
  have S4:=S3.put (o:= .ins C dx' (dF #[D.t,D.kss,D.near,D.far,D.most,D.least,[]] ta' hk' bd' lg0)) nx
  have b4:=b.same S4;refine#[_,rfl,p,_,rfl,b4.h_log U,lg,_,rfl,.inl (Gd.of (S4 _ _ el)),fun lg' hlg'=>?_]
  have nlx:lg'≠x:=(qk qa hlg').symm
  have flg:H lg'=none:=QR hlg' S4
  have S5:=S4.put (o:= .lst (rs.map V.ref)) flg
  refine#[_,rfl,x,_,rfl,AN U (by rw[qj nlx.symm];exact qa) lg',?_]
  have S6:=S5.put (o:= .ins C dx' (dF #[D.t,D.kss,D.near,D.far,D.most,D.least,[]] ta' hk' bd' lg')) nx
  have e4b:_=some (HO.dK (bz f0.1 f0.2)):=(qj (o:= .ins C dx' (dF #[D.t,D.kss,D.near,D.far,D.most,D.least,[]] ta' hk' bd' lg0)) nbx).trans (qa (H:=F9 H1 x (.ins C dx' (dF #[D.t,D.kss,D.near,D.far,D.most,D.least,[]] ta' hk' bd0 lg0))) (a:=bd') (o:= .dK (bz f0.1 f0.2)))
  have nlb:lg'≠bd':=(qk e4b hlg').symm
  have nhb:hk'≠bd':=qk (by rw[qj nhx];exact eh1) hbd'
  have nhl:hk'≠lg':=qk (by rw[qj nhx,qj nhb,qj nhx];exact eh1) hlg'
  have M:Mv [x] H1 _:=(((Mv.upd1 (a:=x) (H:=H1) (o:= .ins C dx' (dF #[D.t,D.kss,D.near,D.far,D.most,D.least,[]] ta' hk' bd0 lg0))).trans (F5.upd (o:= .dK (bz f0.1 f0.2)) hbd').mv).trans (Mv.upd1 (o:= .ins C dx' (dF #[D.t,D.kss,D.near,D.far,D.most,D.least,[]] ta' hk' bd' lg0)))).trans (F5.upd (o:= .lst (rs.map V.ref)) hlg').mv
  have M6:=M.trans (Mv.upd1 (o:= .ins C dx' (dF #[D.t,D.kss,D.near,D.far,D.most,D.least,[]] ta' hk' bd' lg')))
  have nt:NT [x] H1:=NT.one e1 trivial
  have eL6:∀(G:Hp) (o:HO),F9 (F9 G lg' (.lst (rs.map V.ref))) x o lg'=some (HO.lst (rs.map V.ref)):=fun G o=>by rw[qj nlx];exact qa
  refine#[_,rfl,q #[x,ta',hk',bd',lg'] _ S6 nx (QR h1 sJ) fbd flg #[#[#[dx',qa],M6.sqt nt dr.tb,dr.ks.mv M6 nt (qM nhx),#[f0,?_,fun e he=>(hbu e he).same S6,hpm,nd],#[rs,eL6 _ _,Fx ro.1],nhl.symm],#[rs,eL6 _ _,ro.same S6],GA.mv M6 nt (qM nhx) krn]]
  rw[qj nbx,qj nlb.symm];exact e4b
theorem gW(a:Ia K C "__init__" "Door.__init__" Zh ["self","table","keys","near","far","most"])(T:GQ K mg tk)(U:Hf K C):Mf P w K mg base C "__init__" ["self","table","keys","near","far","most"] 1 (mT K C):=by
 refine a.mq cf fun f _ A _ s H vs Q E hr h=>?_
 ·obtain⟨p,a,b,dx,near,far,most,t,kss,rfl,hp,ha,hb,hl,q⟩:=h
  refine#[_,(qe (zH (qv 0) (qH bX T.b_tuple J4 (qc (qv 1) qb)))
   (qe (zH (qv 0) (zL (own:=["key"]) (fr:=[]) (js:=[]) rfl (aV (qv 2)) rfl (fun _ _ h=>nomatch h) rfl (az rfl (by decide +kernel) (by decide +kernel) (by decide +kernel)) (fun _ _ _ _=>qh (i:=0) (show List.Nodup (["key"]:List Str)from by decide +kernel) rfl (Or.inl rfl) (.inr rfl)) (fun _ _ _ _=>(qH gd T.b_tuple J4 (qc (qv 0) qb)))))
   (qe (zH (qv 0) (qv 3))
   (qe (zH (qv 0) (qv 4))
   (qe (zH (qv 0) (qv 5))
   (qe (zH (qv 0) qf)
   (qe (zH (qv 0) lw)
   (qg (zH (qv 0) (zC qb)))))))))),?_]
  refine#[_,rfl,a,_,rfl,ha,fun ta H2 s2 ht=>#[_,rfl,p,_,rfl,zu U.cl (s2 _ _ hp) U.n_table 0,?_]]
  have e2:=s2 _ _ hp;have hb2:=(hb.same s2).upd (o:= .ins C dx [("table",.ref ta)]) e2
  obtain⟨as,eb,la,hks⟩:=hb2;have ht2:=fI (o:= .ins C dx [("table",.ref ta)]) e2 ht
  refine#[_,rfl,b,rfl,#[_,eb.up],aY (K:=K) (xs:=as.map V.ref) (by rw[Je,la,JF];omega) (fun i ys H3=>F5 (F9 H2 p (.ins C dx [("table",.ref ta)])) H3/\∃bs:List Δ,ys=bs.map V.ref/\bs.length=i/\∀(j:Nat) (x:Δ) (ks:List Int),bs[j]? =some x->kss[j]? =some ks->Gh [] H3 x (ks.map V.int)) #[F5.refl _,[],rfl,rfl,fun j x ks e=>by(cases e)] (fun i ys H3 ⟨s3,_⟩=>(F5.sqt s3 eb).up) ?_ ?_]
  ·rintro i ys H3 x hx hyl ⟨s3,bs,rfl,hbl,hbs⟩
   rw[Jn]at hx;cases ea:as[i]? with
   |none=>rw[ea]at hx;cases hx
   |some x0=>
    rw[ea]at hx
    obtain rfl:V.ref x0=x:=JG hx
    have hi:i<kss.length:=by rw[<- la];exact(Jy.mp ea).1
    have hk0:=hks i x0 kss[i] ea (Jg hi);refine#[_,rfl,x0,_,rfl,.inr (F5.sqt s3 hk0).rd,fun l H4 s4 hl4=>#[s3.trans s4,bs++[l],by simp,by simp [hbl],fun j y ks e1 e2'=>?_]]
    rw[FU]at e1;split at e1
    ·exact F5.sqt s4 (hbs j y ks e1 e2')
    ·have hj:j-bs.length=0:=by
      cases hj:j-bs.length with
      |zero=>rfl
      |succ k=>rw[hj]at e1;cases e1
     rw[hj]at e1;cases e1
     have:j=i:=by omega
     subst this;rw[Jg hi]at e2';cases e2';exact .inl hl4
  ·rintro ys H3 hyl ⟨s3,bs,rfl,hbl,hbs⟩ hk hhk
   have u3:=F5.upd (o:= .lst (bs.map V.ref)) hhk
   have e3:=u3 _ _ (s3 _ _ qa);refine#[_,rfl,p,_,rfl,zu U.cl e3 U.n_house_keys 1,?_]
   refine#[_,rfl,_,rfl,p,_,rfl,zu U.cl qa U.n_near 2,?_]
   refine#[_,rfl,_,rfl,p,_,rfl,zu U.cl qa U.n_far 3,?_]
   refine#[_,rfl,_,rfl,p,_,rfl,zu U.cl qa U.n_most 4,?_]
   refine#[_,rfl,p,_,rfl,zu U.cl qa U.n_least_age 5,?_]
   refine fun bd hbd=>#[_,rfl,p,_,rfl,zu U.cl (by rw[qj (qk qa hbd)];exact qa) U.n_buttons 6,?_]
   have nbd:=qk qa hbd;refine#[FV,fun lg hlg=>#[_,rfl,p,_,rfl,zu U.cl (by rw[qj (qk qa hlg)];exact qa) U.n_log 7,?_]]
   have nlg:=qk qa hlg;have m3:Mv [p] H H3:=((s2.mv (S:=[p])).trans Mv.upd1).trans s3.mv
   have nhk:hk≠p:=(qk (s3 _ _ qa) hhk).symm
   have m4:Mv [p] H (F9 H3 hk (.lst (bs.map V.ref))):=m3.trans u3.mv
   have M:∀o1 o2 o3 o4 o5,Mv [p] (F9 H3 hk (.lst (bs.map V.ref))) (F9 (F9 (F9 (F9 (F9 (F9 H3 hk (.lst (bs.map V.ref))) p o1) p o2) p o3) p o4) p o5):=fun o1 o2 o3 o4 o5=>(((Mv.upd1.trans Mv.upd1).trans Mv.upd1).trans Mv.upd1).trans Mv.upd1
   have M6:Mv [p] (F9 H3 hk (.lst (bs.map V.ref))) _:=(((M _ _ _ _ _).trans (F5.upd hbd).mv).trans Mv.upd1).trans (F5.upd (o:= .lst []) hlg).mv
   have M7:=M6.trans (Mv.upd1 (o:= .ins C dx (dF #[t,kss,near,far,most,0,[]] ta hk bd lg)))
   have nt:NT [p] (F9 H3 hk (.lst (bs.map V.ref))):=NT.one e3 trivial
   have hbdlg:bd≠lg:=qk (by rw[qj nbd.symm];exact qa) hlg
   have KR:=GA.mv M7 nt (qM nhk) (show GA [] _ hk kss from#[bs,qa,by rw[hbl,Je,la],fun j x ks e1 e2'=>F5.sqt u3 (hbs j x ks e1 e2')])
   refine q ta hk bd lg _ (m3.nfree (qM nhk) hhk) ((m4.trans (M _ _ _ _ _)).nfree (qM nbd.symm) hbd) ((m4.trans ((((M _ _ _ _ _).trans (F5.upd hbd).mv).trans Mv.upd1))).nfree (qM nlg.symm) hlg) (m4.trans M7) #[#[dx,qa],?_,GA.up KR,?_,?_,?_] KR
   ·exact M7.sqt nt (F5.sqt u3 (F5.sqt s3 ht2))
   ·exact#[([],fun _=>0),by rw[qj nbd.symm,qj hbdlg,qj nbd.symm];exact qa,fun e he=>by(cases he),.refl _,FH]
   ·exact#[[],by rw[qj nlg.symm];exact qa,Jf _]
   ·refine(qk (o:= .lst (bs.map V.ref)) ?_ hlg).symm
    rw[qj nhk];rw[qj (qk (o:= .lst (bs.map V.ref)) (by rw[qj nhk,qj nhk,qj nhk,qj nhk,qj nhk];exact qa) hbd)]
    rw[qj nhk,qj nhk,qj nhk,qj nhk,qj nhk];exact qa
theorem db(a:Ia K C "bounds_told" "Door.bounds_told" QM ["self"])(T:GQ K mg tk)(U:Hf K C):Mf P w K mg base C "bounds_told" ["self"] 1 (eM K C):=by
 refine a.mq da fun f _ A _ s H vs Q E hr h=>?_
 ·obtain⟨p,ta,hk,bd,lg,n,D,rfl,b,q⟩:=h
  refine#[_,(qg (ql (qF (qc (qP (qv 0)) (qc (qP (qv 0)) (qc (qP (qv 0)) qb)))))),?_]
  exact#[_,rfl,p,_,rfl,b.h_near U,_,rfl,p,_,rfl,b.h_far U,_,rfl,p,_,rfl,b.h_most U,FY,fun t ht=>q t _ (F5.upd ht) qa]
theorem gO(a:Ia K C "keys_now" "Door.keys_now" ZM ["self"])(T:GQ K mg tk)(U:Hf K C):Mf P w K mg base C "keys_now" ["self"] 1 (oX K C):=by
 refine a.mq gC fun f _ A _ s H vs Q E hr h=>?_
 ·obtain⟨p,ta,hk,bd,lg,n,D,rfl,b,q⟩:=h
  refine#[_,(qg (ql (qH bX T.b_tuple J4 (qc (qP (qv 0)) qb)))),?_]
  obtain⟨as,eh,la,hks⟩:=id b.ks;refine#[_,rfl,p,_,rfl,b.h_house_keys U,hk,_,rfl,.inl (Gd.of eh),fun t H2 s2 ht=>?_]
  exact q t as H2 s2 ht la fun i a ks e1 e2=>F5.sqt s2 (hks i a ks e1 e2)
end
section
variable{P:Ξ}{w:Ω}{K:μ}{mg:F3}{base:Ψ}{tk:Nat->Tok}{C:Δ}
theorem dw(a:Ia K C "closed_now" "Door.closed_now" Q8 ["self"])(T:GQ K mg tk)(U:Hf K C):Mf P w K mg base C "closed_now" ["self"] 1 (jQ K C):=by
 refine a.mq dy fun f _ A _ s H vs Q E hr h=>?_
 ·obtain⟨p,ta,hk,bd,lg,n,D,rfl,b,q⟩:=h
  refine#[_,(qg (ql (qP (qv 0)))),?_]
  exact#[_,rfl,p,_,rfl,b.h_least_age U,q]
end
section
variable{P:Ξ}{w:Ω}{K:μ}{mg:F3}{base:Ψ}{tk:Nat->Tok}
theorem ng(a:At K mg "_law_take" cG ["_law_box_here","_law_many"])(T:GQ K mg tk):Df P w K mg base "_law_take" ["_law_box_here","_law_many"] 1 cn:=by
 refine a.dq GS fun f _ A _ s H vs Q E hr h=>?_
 ·obtain⟨b,many,c,rfl,⟨n,m,k,hb,m0,m1,k0,k1⟩,hc,h0,h1,q⟩:=h
  refine#[_,(qe (qN (qE Dk (qt qA (qv 0) qf) qf (qy _)) (qe (qw (i:=2) GS.nd rfl (Or.inl rfl) (qp Qk (qt qA (qv 0) qf) (qv 1)))
   (qe (zz (qp cu (qt qA (qv 0) qf) (qv 1)) (eD (qv 0) qf ZV))
   (qg (ql (qv 2))))) qB)
   (qe (zz (qp qJ (qt qA (qv 0) qf) qf) (eD (qv 0) qf ZV))
   (qe (qw (i:=3) GS.nd rfl (Or.inl rfl) (qp qJ (qt qA (qv 0) qf) (qp Zb qf (qt qA (qv 0) qf))))
   (qe (qZ JL rfl (zI rfl T.b_range (qc qf qb)) (qh (i:=4) GS.nd rfl (Or.inl rfl))
   (qg (qw (i:=3) GS.nd rfl (Or.inl rfl) (qp Qk (qp qJ (qp qJ (qp Zb (qv 3) (qv 3)) (qp Zb qf (qt qA (qv 0) qf))) qf) qf))))
   (qg (ql (qp Qk (qp cu (qv 3) qf) (qv 1)))))))),?_]
  refine#[_,rfl,b,_,_,_,rfl,rfl,Gd.of hb,rfl,_,_,rfl,rfl,_,rfl,?_]
  refine qY (fun _=>?_) (fun _=>?_)
  ·refine#[_,rfl,b,_,_,_,rfl,rfl,Gd.of hb,rfl,_,rfl,_,_,rfl,rfl,h0,?_]
   refine#[_,rfl,b,_,_,_,rfl,rfl,Gd.of hb,rfl,_,rfl,_,_,rfl,rfl,#[h0,h1],_,rfl,b,_,_,0,rfl,rfl,hb,rfl,?_]
   refine#[_,rfl,?_]
   refine q _ _ (ES _ (by omega)) (ET _ h0) #[fun c o hc e=>?_,_,_,_,qa,m0,m1,k0,by omega]
   rw[qj hc];exact e
  ·refine#[_,rfl,b,_,_,_,rfl,rfl,Gd.of hb,rfl,_,_,rfl,rfl,_,rfl,b,_,_,2,rfl,rfl,hb,rfl,?_]
   have hb2:(F9 H b (rS n m (k+1))) b=some (rS n m (k+1)):=qa
   refine#[_,rfl,b,_,_,_,rfl,rfl,Gd.of hb2,rfl,_,rfl,b,_,_,_,rfl,rfl,Gd.of hb2,rfl,_,_,rfl,rfl,.inl #[by decide,by decide],_,_,rfl,rfl,?_]
   refine#[3,rfl,by decide,by decide,zV (n:=3) (Pv:=fun i σ H2=>H2=F9 H b (rS n m (k+1))/\∃(z:Int) (o:Option V),σ=[some (.ref b),some (.int many),none,some (.int z),o]/\0<=z/\z<2 ^ 64) #[rfl,_,_,rfl,by omega,by omega] ?_ ?_]
   ·rintro i σ H2 hi ⟨rfl,z,o,rfl,z0,z1⟩
    refine#[_,rfl,_,rfl,_,_,rfl,rfl,.inl #[by omega,by omega],_,rfl,b,_,_,_,rfl,rfl,Gd.of hb2,rfl,_,_,rfl,rfl,.inl #[by decide,by decide],_,_,rfl,rfl,_,_,rfl,rfl,_,_,rfl,rfl,(by decide:(0:Int)<2305843009213693951),rfl,_,_,rfl,?_,?_]
    ·exact ES _ (by decide)
    ·exact Int.lt_trans (ET _ (by decide)) (by decide)
   ·rintro σ H2 ⟨rfl,z,o,rfl,z0,z1⟩
    refine#[_,rfl,_,_,rfl,rfl,#[by decide,by decide],_,rfl,_,_,rfl,rfl,h0,?_]
    refine q _ _ (ES _ (by omega)) (ET _ h0) #[fun c o hc e=>?_,_,_,_,qa,m0,m1,by omega,by omega]
    rw[qj hc];exact e
theorem rY(a:At K mg "_law_box" fj ["_law_script","_law_k"])(T:GQ K mg tk):Df P w K mg base "_law_box" ["_law_script","_law_k"] 1 (uM K):=by
 refine a.dq GP fun f _ A _ s H vs Q E hr h=>?_
 ·obtain⟨b,ns,k,rfl,hS,q⟩:=h
  refine#[_,(qe (zz (qF (qc qf (qc qf qb))) (gV rfl (qm (qh (i:=2) GP.nd rfl (Or.inl rfl)) (qm (qh (i:=3) GP.nd rfl (Or.inl rfl)) q9))))
   (qe (qN (qE kL (qv 1) (qz qW T.b_len J3 (qc (qv 0) qb)) (qy _)) (qg (qw (i:=2) GP.nd rfl (Or.inl rfl) (qt qA (qv 0) (qv 1)))) qB)
   (qe (qZ JL rfl (zo (QY cx (qv 0) Zt (Zv qf))) (qh (i:=4) GP.nd rfl (Or.inl rfl))
   (qg (qw (i:=3) GP.nd rfl (Or.inl rfl) (qp Qk (qp qJ (qp Zb (qv 3) qf) (qv 4)) qf))))
   (qg (ql (zC (qc (qp Zb (qz lq T.b_abs PyProof.Rows.boot_abs (qc (qv 2) qb)) (qH eB T.b_int FI (qc (zX rK (qz lq T.b_abs PyProof.Rows.boot_abs (qc (qv 2) qb)) (qp Cw qf qf) (qy _)) qb))) (qc (qp Qk (qp qJ (qp qJ (qp Zb (qv 3) qf) (qv 2)) (qp Zb qf (qv 1))) qf) (qc qf qb))))))))),?_]
  refine#[FX,fun tp htp=>#[tp,_,rfl,Gh.of qa,rfl,_,_,rfl,_,_,rfl,rfl,?_]]
  have s1:=F5.upd (o:= .tup [.int 0,.int 7]) htp
  refine#[_,rfl,_,rfl,b,_,rfl,.inl (s1.seq hS),_,_,rfl,rfl,_,rfl,?_]
  refine qY (fun hk=>?_) (fun _=>?_)
  ·have hk':k<ns.length:=by have:=Jx hk;rw[Je]at this;omega
   refine#[_,rfl,_,rfl,b,_,_,.int ns[k],rfl,rfl,s1.seq hS,QD (by rw[Jn,Jg hk'];rfl),?_]
   refine#[_,rfl,_,rfl,b,_,rfl,s1.seq hS,fun l hl=>#[l,rfl,#[_,Gd.of qa],?_]]
   rw[cX];have s2:=s1.trans (F5.upd (o:= .lst ((br ns none (some 63)).map V.int)) hl)
   refine zY (K:=K) (a:=l) (xs:=(br ns none (some 63)).map V.int) (fun i σ H2=>H2=F9 (F9 H tp (.tup [.int 0,.int 7])) l (.lst ((br ns none (some 63)).map V.int))/\∃(z:Int) (o:Option V),σ=[some (.ref b),some (.int (k:Int)),some (.int ns[k]),some (.int z),o]/\0<=z/\z<2147483647) #[rfl,_,_,rfl,by decide,by decide] (fun i σ H2 _ ⟨e,_⟩=>by subst e;exact Gd.of qa) ?_ ?_
   ·rintro i x σ H2 hx ⟨rfl,z,o,rfl,z0,z1⟩
    obtain⟨y,rfl,hy⟩:=QV hx;refine#[_,rfl,_,_,rfl,rfl,.inr #[by decide,by decide],_,rfl,_,_,rfl,rfl,_,_,rfl,rfl,(by decide:(0:Int)<2147483647),rfl,_,_,rfl,ES _ (by decide),ET _ (by decide)]
   ·rintro σ H2 ⟨rfl,z,o,rfl,z0,z1⟩
    refine#[_,rfl,_,rfl,_,rfl,_,rfl,_,_,rfl,rfl,#[by decide,by decide,by decide],_,_,rfl,rfl,.inr #[_,rfl,?_]]
    refine#[_,_,rfl,rfl,.inr #[tm _,sW _],_,rfl,_,_,rfl,rfl,.inr #[by decide,by decide],_,rfl,_,_,rfl,rfl,_,rfl,_,_,rfl,rfl,.inl #[by decide,by decide],_,_,rfl,rfl,_,_,rfl,rfl,(by decide:(0:Int)<2305843009213693951),?_]
    exact#[FY,fun p hp=>q _ _ (QR hp s2) (s2.trans (F5.upd hp)) #[_,_,_,qa,ES _ (by decide),Int.lt_trans (ET _ (by decide)) (by decide),by decide,by decide]]
  ·refine#[_,rfl,_,rfl,b,_,rfl,s1.seq hS,fun l hl=>#[l,rfl,#[_,Gd.of qa],?_]]
   rw[cX];have s2:=s1.trans (F5.upd (o:= .lst ((br ns none (some 63)).map V.int)) hl)
   refine zY (K:=K) (a:=l) (xs:=(br ns none (some 63)).map V.int) (fun i σ H2=>H2=F9 (F9 H tp (.tup [.int 0,.int 7])) l (.lst ((br ns none (some 63)).map V.int))/\∃(z:Int) (o:Option V),σ=[some (.ref b),some (.int (k:Int)),some (.int 0),some (.int z),o]/\0<=z/\z<2147483647) #[rfl,_,_,rfl,by decide,by decide] (fun i σ H2 _ ⟨e,_⟩=>by subst e;exact Gd.of qa) ?_ ?_
   ·rintro i x σ H2 hx ⟨rfl,z,o,rfl,z0,z1⟩
    obtain⟨y,rfl,hy⟩:=QV hx;refine#[_,rfl,_,_,rfl,rfl,.inr #[by decide,by decide],_,rfl,_,_,rfl,rfl,_,_,rfl,rfl,(by decide:(0:Int)<2147483647),rfl,_,_,rfl,ES _ (by decide),ET _ (by decide)]
   ·rintro σ H2 ⟨rfl,z,o,rfl,z0,z1⟩
    refine#[_,rfl,_,rfl,_,rfl,_,rfl,_,_,rfl,rfl,#[by decide,by decide,by decide],_,_,rfl,rfl,.inr #[_,rfl,?_]]
    refine#[_,_,rfl,rfl,.inr #[tm _,sW _],_,rfl,_,_,rfl,rfl,.inr #[by decide,by decide],_,rfl,_,_,rfl,rfl,_,rfl,_,_,rfl,rfl,.inl #[by decide,by decide],_,_,rfl,rfl,_,_,rfl,rfl,(by decide:(0:Int)<2305843009213693951),?_]
    exact#[FY,fun p hp=>q _ _ (QR hp s2) (s2.trans (F5.upd hp)) #[_,_,_,qa,ES _ (by decide),Int.lt_trans (ET _ (by decide)) (by decide),by decide,by decide]]
theorem mG(a:At K mg "_law_table" bU ["_law_box_here"])(T:GQ K mg tk)(dA:Df P w K mg base "_law_take" ["_law_box_here","_law_many"] 1 cn):Df P w K mg base "_law_table" ["_law_box_here"] 2 lm:=by
 refine a.dq HN fun f _ A _ s H vs Q E hr h=>?_
 ·obtain⟨b,c,rfl,hb,hc,q⟩:=h
  refine#[_,(qe (qw (i:=1) HN.nd rfl (Or.inr rfl) (qH (p6 rfl) T.b_list FJ (qc (qH jH T.b_range PyProof.Rows.boot_range (qc qf qb)) qb)))
   (qg (ql (qH qV T.b_tuple J4 (qc (zL (own:=["_law_k"]) (fr:=["_law_rest","_law_box_here"]) (js:=[1,0]) rfl (zI rfl T.b_range (qc qf qb)) rfl (vZ rfl rfl) rfl (vK rfl (by decide +kernel) (by decide +kernel) (by decide +kernel) rfl rfl rfl rfl rfl rfl) (fun _ _ _ _=>qh (i:=0) (show List.Nodup (["_law_k","_law_rest","_law_box_here"]:List Str)from by decide +kernel) rfl (Or.inl rfl) (.inr rfl)) (fun _ _ _ _=>(CD (K:=K) rfl EF PySem.F.slot_list_pop PySem.F.type_list_pop xl (qv 1) (qc (qr dA hr.mo (qc (qv 2) (qc (qz (aq (K:=K) rfl) T.b_len J3 (qc (qv 1) qb)) qb))) qb)))) qb))))),?_]
  refine#[_,rfl,fun r hr0=>#[r,16,rfl,qa,by decide,fun l hl=>?_]]
  rw[Cb];have s1:=(F5.upd (o:= .rng 0 16) hr0).trans (F5.upd (o:= .lst (GG.map V.int)) hl)
  have nlb:l≠b:=qU ((F5.upd hr0).grc hb).bx hl
  refine#[_,rfl,by decide,by decide,aI (n:=16) (by decide) (fun i ys H2=>HB b (c+i) H H2/\∃ms zs:List Int,H2 l=some (.lst (ms.map V.int))/\ys=zs.map V.int/\ms.length+i=16/\(zs++ms).Perm GG) #[s1.grc hb,GG,[],qa,rfl,by rw[kW],.refl _] ?_ ?_]
  ·rintro i ys H2 hi hl2 ⟨G2,ms,zs,hm,rfl,hml,pm⟩
   refine#[_,rfl,.inl #[rfl,_,Gd.of hm],?_]
   refine#[_,rfl,_,rfl,l,_,rfl,.inl (Gd.of hm),b,_,_,rfl,G2.bx,by omega,by rw[Je];omega,by rw[Je];omega,fun x H3 x0 x1 g3=>?_]
   rw[Je]at x1;obtain⟨k,rfl⟩:∃k:Nat,x=(k:Int):=#[x.toNat,by omega]
   have hk:k<ms.length:=by omega
   have hm3:=g3.kp _ _ nlb hm;refine#[l,_,_,k,.int ms[k],rfl,rfl,hm3,by omega,by omega,?_,?_,?_]
   ·rw[Je];exact kQ hk
   ·rw[Jn,Jg hk];rfl
   ·refine#[#[fun c o hcb e=>?_,?_],ms.eraseIdx k,zs++[ms[k]],?_,by simp,?_,?_]
    ·by_cases z:c=l
     ·subst z
      rw[F5.upd hr0 _ _ e]at hl;cases hl
     ·rw[qj z];exact g3.kp _ _ hcb (G2.kp _ _ hcb e)
    ·obtain⟨n,m,k',e,r⟩:=g3.bx
     exact#[n,m,k',by rw[qj nlb.symm];exact e,r]
    ·rw[qa,rD]
    ·rw[List.length_eraseIdx_of_lt hk];omega
    ·exact(vX hk).trans pm
  ·rintro ys H2 hyl ⟨G2,ms,zs,hm,rfl,hml,pm⟩ p hp
   have e0:ms=[]:=List.eq_nil_of_length_eq_zero (by omega)
   subst e0;rw[JV]at pm;refine#[p,_,rfl,.inl #[Gd.of qa,fun t ht=>?_]]
   have G3:=G2.same (F5.upd (o:= .lst (zs.map V.int)) hp)
   exact q t zs _ (G3.same (F5.upd ht)) (G3.fresh (hb.mono (by omega)) ht) qa pm
theorem rB(a:At K mg "_law_key" fi ["_law_box_here"])(T:GQ K mg tk)(dA:Df P w K mg base "_law_take" ["_law_box_here","_law_many"] 1 cn):Df P w K mg base "_law_key" ["_law_box_here"] 2 nZ:=by
 refine a.dq pR fun f _ A _ s H vs Q E hr h=>?_
 ·obtain⟨b,c,rfl,hb,hc,q⟩:=h
  refine#[_,(qg (ql (qH qV T.b_tuple J4 (qc (zL (own:=["_law_k"]) (fr:=["_law_box_here"]) (js:=[0]) rfl (zI rfl T.b_range (qc (qp qJ qf (qr dA hr.mo (qc (qv 0) (qc qf qb)))) qb)) rfl (i5 rfl) rfl (iM rfl (by decide +kernel) (by decide +kernel) (by decide +kernel) rfl rfl rfl) (fun _ _ _ _=>qh (i:=0) (show List.Nodup (["_law_k","_law_box_here"]:List Str)from by decide +kernel) rfl (Or.inl rfl) (.inr rfl)) (fun _ _ _ _=>(qr dA hr.mo (qc (qv 1) (qc qf qb))))) qb)))),?_]
  refine#[_,rfl,b,_,_,rfl,hb,by omega,by decide,by decide,fun r H1 r0 r1 g1=>#[_,_,rfl,rfl,_,rfl,by omega,by omega,?_]]
  obtain⟨n,rfl,n8⟩:∃n:Nat,r=(n:Int)/\n<8:=#[r.toNat,by omega,by omega]
  have en:(1+(n:Int)).toNat=n+1:=by omega
  rw[en];refine aI (n:=n+1) (JQ (by omega:n+1<=8) (by decide)) (fun i ys H2=>HB b (c+1+i) H H2/\∃ks:List Int,ys=ks.map V.int/\zB ks) #[g1,[],rfl,fun _ h=>nomatch h] ?_ ?_
  ·rintro i ys H2 hi hl2 ⟨G2,ks,rfl,hk⟩
   refine#[_,rfl,b,_,_,rfl,G2.bx,by omega,by decide,by decide,fun x H3 x0 x1 g3=>#[G2.trans g3,ks++[x],by simp,fun z hz=>?_]]
   rcases JB.mp hz with y|y
   ·exact hk z y
   ·rw[Jl.mp y];exact#[x0,x1]
  ·rintro ys H2 hyl ⟨G2,ks,rfl,hk⟩ p hp
   rw[Je]at hyl;refine#[p,_,rfl,.inl #[Gd.of qa,fun t ht=>?_]]
   have G3:=G2.same (F5.upd (o:= .lst (ks.map V.int)) hp)
   exact q t ks _ ((G3.same (F5.upd ht)).mono (by omega)) (G3.fresh (hb.mono (by omega)) ht) qa hk (by omega) (by omega)
end
section
variable{P:Ξ}{w:Ω}{K:μ}{mg:F3}{base:Ψ}{tk:Nat->Tok}
theorem kg(a:At K mg "back_table" bq ["table"])(T:GQ K mg tk):Df P w K mg base "back_table" ["table"] 1 (tK K):=by
 refine a.dq GR fun f _ A _ s H vs Q E hr h=>?_
 ·obtain⟨c,t,rfl,hS,pm,q⟩:=h
  refine#[_,(qe (qw (i:=1) GR.nd rfl (Or.inl rfl) (qp tj (zC (qc qf qb)) (zg (v:= .int 16) rfl T.g_DIGITS #[_,rfl])))
   (qe (qZ JL rfl (wu rfl T.b_enumerate (qc (qv 0) qb)) (gV rfl (qm (qh (i:=2) GR.nd rfl (Or.inl rfl)) (qm (qh (i:=3) GR.nd rfl (Or.inl rfl)) q9)))
   (qg (zz (qv 2) (eD (qv 1) (qv 3) ZV))))
   (qg (ql (qH qV T.b_tuple J4 (qc (qv 1) qb)))))),?_]
  refine#[FW,fun p hp=>#[p,16,_,rfl,rfl,qa,by decide,by decide,F1,fun l hl=>?_]]
  have e0:(List.replicate (16:Int).toNat [V.int 0]).flatten=(Q6 t 0).map V.int:=by rw[wg];rfl
  rw[e0];have s1:=(F5.upd (o:= .lst [V.int 0]) hp)
  have s2:=s1.trans (F5.upd (o:= .lst ((Q6 t 0).map V.int)) hl)
  have step:∀(i:Nat) (x:V) (H2:Hp) (pp:Δ),(t.map V.int)[i]? =some x->H2 l=some (.lst ((Q6 t i).map V.int))->F5 H H2->H2 pp=none->
    ∃j:Nat,∃z:Int,x= .int z/\cv ((Q6 t i).map V.int).length z=some j/\(F9 H2 pp (.tup [.int i,x])) l=some (.lst ((Q6 t i).map V.int))/\
     (F9 (F9 H2 pp (.tup [.int i,x])) l (.lst (((Q6 t i).map V.int).set j (.int i)))) l=some (.lst ((Q6 t (i+1)).map V.int))/\F5 H (F9 (F9 H2 pp (.tup [.int i,x])) l (.lst (((Q6 t i).map V.int).set j (.int i)))):=by
   intro i x H2 pp hx hm sm hpp;obtain⟨z,rfl,hz⟩:=QV hx;have hi:i<t.length:=(Jy.mp hz).1
   have ez:t[i]=z:=(Jy.mp hz).2
   have bd:=mY pm hi;have sp:=F5.upd (o:= .tup [.int i,.int z]) hpp
   refine#[z.toNat,z,rfl,iP (by lia) (by rw[Je,cj];lia),sp _ _ hm,?_,fun d o e=>?_]
   ·rw[qa,cJ,<- ez,wZ pm hi]
   ·have ndl:d≠l:=fun y=>by
     rw[y]at e;rw[s1 _ _ e]at hl;cases hl
    rw[qj ndl];exact sp _ _ (sm _ _ e)
  have fin:∀(o:Option V) (o':Option V) (H2:Hp),H2 l=some (.lst ((Q6 t t.length).map V.int))->F5 H H2->∀p',H2 p'=none->Q (.ref p') (F9 H2 p' (.tup ((Q6 t t.length).map V.int))):=fun _ _ H2 hm sm p' hp'=>
   q _ _ (sm.trans (F5.upd hp')) (by rw[qa,yU pm])
  rcases hS with hS|hS
  ·refine#[_,rfl,c,rfl,.inl #[#[_,s2.seq hS],?_]]
   refine me (K:=K) (a:=c) (xs:=t.map V.int) (fun i σ H2=>∃(o2 o3:Option V),σ=[some (.ref c),some (.ref l),o2,o3]/\H2 l=some (.lst ((Q6 t i).map V.int))/\F5 H H2) #[none,none,rfl,qa,s2] (fun i σ H2 _ ⟨_,_,_,_,sm⟩=>sm.seq hS) ?_ ?_
   ·rintro i x σ H2 pp hx ⟨o2,o3,rfl,hm,sm⟩ hpp
    obtain⟨j,z,rfl,hj,e1,e2,s3⟩:=step i x H2 pp hx hm sm hpp;refine#[pp,_,rfl,Gh.of qa,rfl,_,_,rfl,_,_,rfl,rfl,?_]
    exact#[_,rfl,_,rfl,_,rfl,l,_,_,j,rfl,rfl,e1,hj,_,_,rfl,e2,s3]
   ·rintro σ H2 ⟨o2,o3,rfl,hm,sm⟩
    rw[Je]at hm
    exact#[_,rfl,l,_,rfl,.inl #[Gd.of hm,fin o2 o3 H2 hm sm]]
  ·refine#[_,rfl,c,rfl,.inr #[#[_,F5.sqt s2 hS],?_]]
   refine tP (K:=K) (a:=c) (xs:=t.map V.int) (fun i σ H2=>∃(o2 o3:Option V),σ=[some (.ref c),some (.ref l),o2,o3]/\H2 l=some (.lst ((Q6 t i).map V.int))/\F5 H H2) #[none,none,rfl,qa,s2] (fun i σ H2 _ ⟨_,_,_,_,sm⟩=>F5.sqt sm hS) ?_ ?_
   ·rintro i x σ H2 pp hx ⟨o2,o3,rfl,hm,sm⟩ hpp
    obtain⟨j,z,rfl,hj,e1,e2,s3⟩:=step i x H2 pp hx hm sm hpp;refine#[pp,_,rfl,Gh.of qa,rfl,_,_,rfl,_,_,rfl,rfl,?_]
    exact#[_,rfl,_,rfl,_,rfl,l,_,_,j,rfl,rfl,e1,hj,_,_,rfl,e2,s3]
   ·rintro σ H2 ⟨o2,o3,rfl,hm,sm⟩
    rw[Je]at hm
    exact#[_,rfl,l,_,rfl,.inl #[Gd.of hm,fin o2 o3 H2 hm sm]]
theorem xj(a:At K mg "coded" iO ["table","key","digits"])(T:GQ K mg tk):Df P w K mg base "coded" ["table","key","digits"] 1 (i9 K):=by
 refine a.dq Hm fun f _ A _ s H vs Q E hr h=>?_
 ·obtain⟨a,b,c,t,ks,ds,rfl,ha,hb,hc,lt,l1,l64,q⟩:=h
  refine#[_,(qe (qw (i:=3) Hm.nd rfl (Or.inl rfl) (qH aR T.b_list FJ (qc (qv 2) qb)))
   (qe (qZ JL rfl (Ci (qv 1)) (qh (i:=4) Hm.nd rfl (Or.inl rfl))
   (qg (qZ JL rfl (zI rfl T.b_range (qc (qz qW T.b_len J3 (qc (qv 2) qb)) qb)) (qh (i:=5) Hm.nd rfl (Or.inl rfl))
   (qe (qw (i:=6) Hm.nd rfl (Or.inl rfl) (qt qA (qv 3) (qp Zf (qv 5) qf)))
   (qg (zz (qt (Lg.or qA qT) (qv 0) (qp Qk (qp qJ (qp qJ (qp qJ (qt qA (qv 3) (qv 5)) (qv 4)) (qv 5)) (qv 6)) (zg (v:= .int 16) rfl T.g_DIGITS #[_,rfl]))) (eD (qv 3) (qv 5) ZV)))))))
   (qg (ql (qH qV T.b_tuple J4 (qc (qv 3) qb)))))),?_]
  refine#[_,rfl,c,_,rfl,hc,fun l hl=>?_]
  have s1:F5 H _:=F5.upd (o:= .lst (ds.map V.int)) hl
  refine#[_,rfl,b,rfl,AX (K:=K) (H0:=H) hb (fun j σ H2=>F5 H H2/\∃o4 o5 o6,σ=[some (.ref a),some (.ref b),some (.ref c),some (.ref l),o4,o5,o6]/\H2 l=some (.lst ((QQ t (ks.take j) ds).map V.int))) #[s1,_,_,_,rfl,qa] (fun j σ' H' h=>h.1) ?_ ?_]
  ·rintro j x σ H2 hx ⟨s2,o4,o5,o6,rfl,hm⟩
   obtain⟨shift,rfl,hks⟩:=QV hx;rw[iR hks,mZ];have hrl:(QQ t (ks.take j) ds).length=ds.length:=cy
   generalize QQ t (ks.take j) ds=r at hm hrl
   refine#[_,rfl,c,_,rfl,hc.same s2,_,rfl,?_,?_,?_]
   ·lia
   ·rw[Je];lia
   rw[show((((ds.map V.int).length:Nat):Int)).toNat=ds.length by rw[Je];rfl]
   refine zV (n:=ds.length) (Pv:=fun i σ H3=>F5 H H3/\∃o5 o6,σ=[some (.ref a),some (.ref b),some (.ref c),some (.ref l),some (.int shift),o5,o6]/\H3 l=some (.lst ((ar t shift r i).map V.int))) #[s2,_,_,rfl,hm] ?_ ?_
   ·rintro i σ H3 hi ⟨s3,o5,o6,rfl,hm3⟩
    have hrl3:(ar t shift r i).length=ds.length:=by rw[QU,hrl]
    generalize hr':ar t shift r i=r' at hm3 hrl3
    have hi':i<r'.length:=by lia
    refine#[_,rfl,_,rfl,_,_,rfl,rfl,l,_,_,_,rfl,rfl,Gd.of hm3,uB (i:=i) (by lia) hi',?_]
    refine#[_,rfl,_,rfl,_,rfl,l,_,_,_,rfl,rfl,Gd.of hm3,be (i:=i) (by lia) hi',_,rfl,_,_,rfl,rfl,_,rfl,_,_,rfl,rfl,_,rfl,_,_,rfl,rfl,_,_,rfl,rfl,(by decide:(0:Int)<16),?_]
    have dm:=aM (r'.getD i 0+shift+(0+(i:Int))+ah r' i)
    refine(ha.same s3).ix (be (i:=((r'.getD i 0+shift+(0+(i:Int))+ah r' i)%16).toNat) (by have:=dm.1;lia) (by rw[lt];have:=dm.1;have:=dm.2;lia)) ?_
    refine#[_,rfl,_,rfl,l,_,_,i,rfl,rfl,hm3,iP (by lia) (by rw[Je];exact hi'),ZG s3 hl,_,_,rfl,?_]
    rw[qa,cJ,ar,hr',iI,Int.zero_add]
   ·rintro σ H3 ⟨s3,o5,o6,rfl,hm3⟩
    exact#[s3,_,_,_,rfl,hm3]
  ·rintro σ H2 ⟨s2,o4,o5,o6,rfl,hm⟩
   rw[Je,Ep]at hm
   exact#[_,rfl,l,_,rfl,.inl #[Gd.of hm,fun p hp=>q p _ (s2.trans (F5.upd hp)) (QR hp s2) qa]]
theorem pO(a:At K mg "decoded" eQ ["table","key","digits"])(T:GQ K mg tk)(xM:Df P w K mg base "back_table" ["table"] 1 (tK K)):Df P w K mg base "decoded" ["table","key","digits"] 2 (jB K):=by
 refine a.dq GL fun f _ A _ s H vs Q E hr h=>?_
 ·obtain⟨a,b,c,t,ks,ds,rfl,ha,hb,hc,pm,hdd,l1,l64,q⟩:=h
  refine#[_,(qe (qw (i:=3) GL.nd rfl (Or.inl rfl) (qr xM hr.mo (qc (qv 0) qb)))
   (qe (qw (i:=4) GL.nd rfl (Or.inl rfl) (qH aR T.b_list FJ (qc (qv 2) qb)))
   (qe (qZ JL rfl (uC rfl T.b_reversed (qc (qv 1) qb)) (qh (i:=5) GL.nd rfl (Or.inl rfl))
   (qg (qZ JL rfl (uC rfl T.b_reversed (qc (qH jH T.b_range PyProof.Rows.boot_range (qc (qz qW T.b_len J3 (qc (qv 2) qb)) qb)) qb)) (qh (i:=6) GL.nd rfl (Or.inl rfl))
   (qe (qw (i:=7) GL.nd rfl (Or.inl rfl) (qt qA (qv 4) (qp Zf (qv 6) qf)))
   (qg (zz (qp Qk (qp Zf (qp Zf (qp Zf (qt qT (qv 3) (qt qA (qv 4) (qv 6))) (qv 5)) (qv 6)) (qv 7)) (zg (v:= .int 16) rfl T.g_DIGITS #[_,rfl])) (eD (qv 4) (qv 6) ZV)))))))
   (qg (ql (qH qV T.b_tuple J4 (qc (qv 4) qb))))))),?_]
  refine#[_,rfl,a,t,rfl,ha,pm,fun pb H1 s1 hpb=>?_]
  refine#[_,rfl,c,_,rfl,hc.same s1,fun l hl=>?_]
  have s2:F5 H1 _:=F5.upd (o:= .lst (ds.map V.int)) hl
  refine#[_,rfl,b,rfl,wC (K:=K) (H0:=H1) (hb.same s1) (fun j σ H2=>F5 H1 H2/\∃o4 o5 o6,σ=[some (.ref a),some (.ref b),some (.ref c),some (.ref pb),some (.ref l),o4,o5,o6]/\H2 l=some (.lst ((Zq (zE t) (ks.drop (ks.length-j)) ds).map V.int))) #[s2,_,_,_,rfl,by rw[Nat.sub_zero,List.drop_length];exact qa] (fun j σ' H' h=>h.1) ?_ ?_]
  ·rintro j x σ H2 hj hx ⟨s2,o4,o5,o6,rfl,hm⟩
   obtain⟨shift,rfl,hks⟩:=QV hx;rw[Je]at hj hks;have ed:ks.drop (ks.length-(j+1))=shift::ks.drop (ks.length-j):=by
    have:=tT hks
    rw[show ks.length-1-j+1=ks.length-j by lia]at this
    rw[show ks.length-(j+1)=ks.length-1-j by lia]
    exact this
   rw[ed,Zq];have hrl:(Zq (zE t) (ks.drop (ks.length-j)) ds).length=ds.length:=gL
   have hrd:zB (Zq (zE t) (ks.drop (ks.length-j)) ds):=lE hdd
   generalize Zq (zE t) (ks.drop (ks.length-j)) ds=r at hm hrl hrd
   refine#[_,rfl,c,_,rfl,(hc.same s1).same s2,_,rfl,fun pr hpr=>#[pr,rfl,.inr (.inr #[ds.length,?_,by lia,?_])]]
   ·rw[qa,Je]
   have s2':=s2.trans (F5.upd (o:= .rng 0 ((ds.map V.int).length:Nat)) hpr)
   have hm':=F5.upd (o:= .rng 0 ((ds.map V.int).length:Nat)) hpr _ _ hm
   refine wN (n:=ds.length) (Pv:=fun i σ H3=>F5 H1 H3/\∃o5 o6 r',σ=[some (.ref a),some (.ref b),some (.ref c),some (.ref pb),some (.ref l),some (.int shift),o5,o6]/\H3 l=some (.lst (r'.map V.int))/\r'.length=ds.length/\zB r'/\aW (zE t) shift r' (ds.length-i)=aW (zE t) shift r ds.length) #[s2',_,_,r,rfl,hm',hrl,hrd,rfl] ?_ ?_
   ·rintro i σ H3 hi ⟨s3,o5,o6,r',rfl,hm3,hrl3,hrd3,er⟩
    have hi':ds.length-1-i<r'.length:=by lia
    have ep:(ds.length:Int)-1-i=((ds.length-1-i:Nat):Int):=by lia
    rw[ep];generalize hpl:ds.length-1-i=pl at hi'
    rw[show ds.length-i=pl+1 by lia,aW]at er
    refine#[_,rfl,_,rfl,_,_,rfl,rfl,l,_,_,_,rfl,rfl,Gd.of hm3,uB (i:=pl) rfl hi',?_]
    have dr:=iY hrd3 pl;refine#[_,rfl,_,rfl,_,rfl,l,_,_,_,rfl,rfl,Gd.of hm3,be (i:=pl) rfl hi',pb,_,_,_,rfl,rfl,Gh.of (s3 _ _ hpb),be (i:=(r'.getD pl 0).toNat) (by have:=dr.1;lia) (by rw[bG];have:=dr.1;have:=dr.2;lia),?_]
    refine#[_,rfl,_,_,rfl,rfl,_,rfl,_,_,rfl,rfl,_,rfl,_,_,rfl,rfl,_,_,rfl,rfl,(by decide:(0:Int)<16),?_]
    refine#[_,rfl,_,rfl,l,_,_,pl,rfl,rfl,hm3,oR (by rw[Je];exact hi'),ZG s3 hl,_,_,gA (zE t) shift r' pl,rfl,?_,by rw[mn];exact hrl3,lv hrd3,?_]
    ·rw[qa,cJ,gA]
    ·rw[show ds.length-(i+1)=pl by lia];exact er
   ·rintro σ H3 ⟨s3,o5,o6,r',rfl,hm3,hrl3,hrd3,er⟩
    rw[Nat.sub_self,aW]at er;rw[er]at hm3
    exact#[s3,_,_,_,rfl,hm3]
  ·rintro σ H2 ⟨s2,o4,o5,o6,rfl,hm⟩
   rw[Je,Nat.sub_self,List.drop_zero]at hm
   exact#[_,rfl,l,_,rfl,.inl #[Gd.of hm,fun p hp=>q p _ ((s1.trans s2).trans (F5.upd hp)) (QR hp (s1.trans s2)) qa]]
theorem gB(a:At K mg "letter_digits" ZO ["name"])(T:GQ K mg tk):Df P w K mg base "letter_digits" ["name"] 1 jW:=by
 refine a.dq GD fun f _ A _ s H vs Q E hr h=>?_
 ·obtain⟨z,rfl,hz,q⟩:=h
  refine#[_,(qe (qw (i:=1) GD.nd rfl (Or.inl rfl) (zC qb))
   (qe (qZ JL rfl (tR (qv 0)) (qh (i:=2) GD.nd rfl (Or.inl rfl))
   (qe (qw (i:=3) GD.nd rfl (Or.inl rfl) (qp Zf (qz kS T.b_ord PyProof.Rows.boot_ord (qc (qv 2) qb)) (qz kS T.b_ord PyProof.Rows.boot_ord (qc qR qb))))
   (qe (Qg (ZA EF EI EJ zW (qv 1) (qc (qp Qk (qv 3) (zg (v:= .int 16) rfl T.g_DIGITS #[_,rfl])) qb)))
   (qg (Qg (ZA EF EI EJ zW (qv 1) (qc (qp cu (qv 3) (zg (v:= .int 16) rfl T.g_DIGITS #[_,rfl])) qb)))))))
   (qg (ql (qv 1))))),?_]
  refine#[FV,fun l hl=>?_]
  refine#[_,rfl,z,rfl,mO hz,An (fun i σ H2=>F5 H H2/\∃o2 o3,σ=[some (.str z),some (.ref l),o2,o3]/\H2 l=some (.lst ((Zk (z.cps.toList.take i)).map V.int))) #[F5.upd hl,_,_,rfl,qa] ?_ ?_]
  ·rintro i c σ H2 hc ⟨s2,o2,o3,rfl,hm⟩
   have hc':=oE hc;rw[Ar hc',sI];have hln:(Zk (z.cps.toList.take i)).length<=16:=by rw[jV,J8];have:=hz.2.2;lia
   generalize Zk (z.cps.toList.take i)=ds at hm hln
   have eX:((((#[(List.toArray [c])]:Str).cps.getD 0 0:Nat):Int)-((("a":Str).cps.getD 0 0:Nat):Int))=(c:Int)-97:=rfl
   have big:(100:Nat)<η:=by decide
   refine#[_,rfl,_,rfl,rfl,_,rfl,rfl,_,_,rfl,rfl,?_]
   show iX _ _ _ [some (V.str z),some (V.ref l),some (V.str #[(List.toArray [c])]),some (V.int ((c:Int)-97))] H2
   refine#[_,rfl,.inl #[rfl,_,Gd.of hm],_,rfl,_,_,rfl,rfl,(by decide:(0:Int)<16),l,_,_,rfl,rfl,hm,by rw[Je];lia,?_]
   have w1:F5 H (F9 H2 l (.lst (ds.map V.int++[V.int (((c:Int)-97)%16)]))):=ZG s2 hl
   refine#[_,rfl,.inl #[rfl,_,Gd.of qa],_,rfl,_,_,rfl,rfl,#[by decide,by decide],l,_,_,rfl,rfl,qa,by rw[Jt,Je,EM];lia,ZG w1 hl,_,_,rfl,?_]
   rw[qa,JJ,EL];rfl
  ·rintro σ H2 ⟨s2,o2,o3,rfl,hm⟩
   rw[show z.cps.size=z.cps.toList.length from rfl,Ep]at hm
   exact#[_,rfl,q l H2 s2 hl hm]
theorem uo(a:At K mg "key_of" gl ["table","key","name"])(T:GQ K mg tk)(xB:Df P w K mg base "letter_digits" ["name"] 1 jW)(xI:Df P w K mg base "coded" ["table","key","digits"] 1 (i9 K)):Df P w K mg base "key_of" ["table","key","name"] 2 (iD K):=by
 refine a.dq Ho fun f _ A _ s H vs Q E hr h=>?_
 ·obtain⟨a,b,z,t,ks,rfl,ha,hb,hz,lt,q⟩:=h
  refine#[_,(qe (qw (i:=3) Ho.nd rfl (Or.inl rfl) (qp tj (zC (qc qf qb)) (zg (v:= .int 4) rfl T.g_KEY_PLACES #[_,rfl])))
   (qe (qZ JL rfl (AZ rfl T.b_enumerate (qc (qr xB hr.mo (qc (qv 2) qb)) qb)) (gV rfl (qm (qh (i:=4) Ho.nd rfl (Or.inl rfl)) (qm (qh (i:=5) Ho.nd rfl (Or.inl rfl)) q9)))
   (qg (Ah (qv 3) (qp Qk (qv 4) (zg (v:= .int 4) rfl T.g_KEY_PLACES #[_,rfl])) ve (qv 5) Bb ZV)))
   (qg (ql (qr xI hr.mo (qc (qv 0) (qc (qv 1) (qc (zL (own:=["total"]) (fr:=[]) (js:=[]) rfl (zo (qv 3)) rfl (fun _ _ h=>nomatch h) rfl (az rfl (by decide +kernel) (by decide +kernel) (by decide +kernel)) (fun _ _ _ _=>qh (i:=0) (show List.Nodup (["total"]:List Str)from by decide +kernel) rfl (Or.inl rfl) (.inr rfl)) (fun _ _ _ _=>(qp Qk (qv 0) (zg (v:= .int 16) rfl T.g_DIGITS #[_,rfl])))) qb)))))))),?_]
  refine#[FW,fun p0 hp0=>#[p0,4,_,rfl,rfl,qa,by decide,by decide,FZ,fun l hl=>?_]]
  have s1:=(F5.upd (o:= .lst [V.int 0]) hp0)
  have s2:=s1.trans (F5.upd (o:= .lst (List.replicate (4:Int).toNat [V.int 0]).flatten) hl)
  have hlH:H l=none:=QR hl s1
  refine#[_,rfl,z,rfl,hz,fun ld H1 s3 hldn hld=>?_]
  have hm1:=s3 _ _ (qa (H:=F9 H p0 (.lst [V.int 0])) (a:=l) (o:= .lst (List.replicate (4:Int).toNat [V.int 0]).flatten))
  have ndl:ld≠l:=fun y=>by rw[y,qa]at hldn;cases hldn
  generalize hds:Zk z.cps.toList=ds at hld q
  have hdl:ds.length<=16:=by rw[<- hds,jV];have:=hz.2.2;lia
  refine#[ld,rfl,#[_,Gd.of hld],me (K:=K) (a:=ld) (xs:=ds.map V.int) (fun i σ H2=>∃(o4 o5:Option V),σ=[some (.ref a),some (.ref b),some (.str z),some (.ref l),o4,o5]/\H2 l=some (.lst ((Z7 ds i).map V.int))/\H2 ld=some (.lst (ds.map V.int))/\F5 H H2)
   #[none,none,rfl,hm1,hld,s2.trans s3] (fun i σ H2 _ ⟨_,_,_,_,hd,_⟩=>Gd.of hd) ?_ ?_]
  ·rintro i x σ H2 pp hx ⟨o4,o5,rfl,hm,hd2,sm⟩ hpp
   obtain⟨dg,rfl,hz'⟩:=QV hx;have hi:i<ds.length:=(Jy.mp hz').1
   have eg:ds.getD i 0=dg:=by rw[JA,hz'];rfl
   have sp2:=F5.upd (o:= .tup [.int i,.int dg]) hpp
   have hm':=sp2 _ _ hm;have h4:i%4<(Z7 ds i).length:=Nat.mod_lt i (by decide)
   have e4:(i:Int)%4=((i%4:Nat):Int):=by lia
   refine#[pp,_,rfl,Gh.of qa,rfl,_,_,rfl,_,_,rfl,rfl,?_]
   refine#[_,rfl,_,rfl,_,_,rfl,rfl,(by decide:(0:Int)<4),l,_,i%4,.int ((Z7 ds i).getD (i%4) 0),rfl,(by show V.int ((i:Int)%4)=_;rw[e4]),hm',?_,_,rfl,_,_,rfl,rfl,l,_,_,i%4,rfl,rfl,hm',iP e4 (by rw[Je];exact h4),_,_,rfl,?_,?_,?_]
   ·rw[i3 h4,JA,Jg h4];rfl
   ·rw[qa,cJ,<- eg,uW]
   ·rw[qj ndl];exact sp2 _ _ hd2
   ·exact ZG (sm.trans sp2) hlH
  ·rintro σ H2 ⟨o4,o5,rfl,hm,hd2,sm⟩
   rw[Je]at hm;refine#[_,rfl,_,rfl,_,rfl,l,rfl,#[_,Gd.of hm],ai (xs:=(Z7 ds ds.length).map V.int) (FZ) (fun i ys H3=>ys=((bW ds).take i).map V.int/\H3=H2) #[by simp,rfl] (fun i ys H3 ⟨_,e⟩=>by rw[e];exact Gd.of hm) ?_ ?_]
   ·rintro i ys H3 x hx _ ⟨rfl,rfl⟩
    obtain⟨y,rfl,hy⟩:=QV hx;refine#[_,rfl,_,_,rfl,rfl,(by decide:(0:Int)<16),?_,rfl]
    have:(bW ds)[i]? =some (y%16):=by unfold bW;rw[Jn,hy];rfl
    rw[Ed,this];simp
   ·rintro ys H3 hyl ⟨rfl,rfl⟩ p hp
    rw[show(bW ds).take ((Z7 ds ds.length).map V.int).length=bW ds from rfl]
    have su:=F5.upd (o:= .lst ((bW ds).map V.int)) hp
    exact#[a,b,p,t,ks,bW ds,rfl,(ha.same sm).same su,(hb.same sm).same su,.lst qa,lt,by rw[lJ];decide,by rw[lJ];decide,fun p' H' s' hn' hp'=>q p' H' ((sm.trans su).trans s') (QR hn' (sm.trans su)) hp']
theorem il(a:At K mg "count_digits" ZX ["count"])(T:GQ K mg tk):Df P w K mg base "count_digits" ["count"] 1 Bt:=by
 refine a.dq ii fun f _ A _ s H vs Q E hr h=>?_
 ·obtain⟨c,rfl,q⟩:=h
  refine#[_,(qg (ql (qF (qc (qp Qk (qv 0) (zg (v:= .int 16) rfl T.g_DIGITS #[_,rfl])) (qc (qp Qk (qp cu (qv 0) (zg (v:= .int 16) rfl T.g_DIGITS #[_,rfl])) (zg (v:= .int 16) rfl T.g_DIGITS #[_,rfl])) (qc (qp cu (qv 0) qf) qb)))))),?_]
  exact#[_,rfl,_,_,rfl,rfl,(by decide:(0:Int)<16),_,rfl,_,_,rfl,rfl,#[by decide,by decide],_,_,rfl,rfl,(by decide:(0:Int)<16),_,rfl,_,_,rfl,rfl,#[by decide,by decide],FY,fun p hp=>q p _ (F5.upd hp) qa]
theorem Ax{c d:Int}(h0:0<=c)(h1:c<4096)(hd:b9 d):∀z∈aC c d,0<=z/\z<=1000000:=fun z hz=>by
 have:=gG h0 h1 hd z (Eg _ hz)
 exact#[this.1,Int.le_trans (Int.le_of_lt this.2) (by decide)]
theorem nB(a:At K mg "press_of" cS ["table","key","name","age","count","deed"])(T:GQ K mg tk)(xC:Df P w K mg base "count_digits" ["count"] 1 Bt)(xD:Df P w K mg base "key_of" ["table","key","name"] 2 (iD K))(xI:Df P w K mg base "coded" ["table","key","digits"] 1 (i9 K)):Df P w K mg base "press_of" ["table","key","name","age","count","deed"] 3 (i0 K):=by
 refine a.dq Hn fun f _ A _ s H vs Q E hr h=>?_
 ·obtain⟨a,b,z,age,c,d,t,ks,rfl,ha,hb,hz,lt,c0,c1,hd,q⟩:=h
  refine#[_,(qe (qw (i:=6) Hn.nd rfl (Or.inl rfl) (qp cm (qr xC hr.mo (qc (qv 4) qb)) (qF (qc (qv 5) qb))))
   (qe (qw (i:=7) Hn.nd rfl (Or.inl rfl) (qp cm (qv 6) (qF (qc (qp Qk (qz (tF rfl) T.b_sum PyProof.Rows.boot_sum (qc (qv 6) qb)) (zg (v:= .int 16) rfl T.g_DIGITS #[_,rfl])) qb))))
   (qg (ql (qF (qc (qv 2) (qc (qv 3) (qc (qr xI hr.mo (qc (qv 0) (qc (qr xD hr.mo (qc (qv 0) (qc (qv 1) (qc (qv 2) qb)))) (qc (qv 7) qb)))) qb)))))))),?_]
  refine#[_,rfl,c,rfl,fun p1 H1 s1 hp1=>?_]
  refine#[_,rfl,FW,fun p2 hp2=>?_]
  have u2:=F5.upd (o:= .tup [V.int d]) hp2
  refine#[p1,p2,_,_,rfl,rfl,u2 _ _ hp1,qa,FZ,fun p3 H3 s3 hp3=>?_]
  have hp3':H3 p3=some (.tup ((aC c d).map V.int)):=hp3
  have S3:=(s1.trans u2).trans s3;refine#[_,rfl,_,rfl,p3,aC c d,rfl,.tup hp3',by show 4<=1000;decide,Ax c0 c1 hd,_,_,rfl,rfl,(by decide:(0:Int)<16),FW,fun p4 hp4=>?_]
  have u4:=F5.upd (o:= .tup [V.int ((aC c d).sum%16)]) hp4
  refine#[p3,p4,_,_,rfl,rfl,u4 _ _ hp3',qa,F0,fun p5 H5 s5 hp5=>?_]
  have hp5':H5 p5=some (.tup ((aH c d).map V.int)):=hp5
  have S5:=(S3.trans u4).trans s5;refine#[_,rfl,_,rfl,_,rfl,_,rfl,_,rfl,_,rfl,a,b,z,t,ks,rfl,ha.same S5,hb.same S5,hz,lt,fun pk H6 s6 _ hpk=>?_]
  refine#[_,rfl,a,pk,p5,t,jd t ks z,aH c d,rfl,(ha.same S5).same s6,.tup hpk,.tup (s6 _ _ hp5'),lt,by rw[cW];decide,by rw[cW];decide,fun pc H7 s7 _ hpc=>?_]
  refine#[FY,fun p hp=>?_]
  have u8:=F5.upd (o:= .tup [V.str z,.int age,.ref pc]) hp
  exact q p pc _ (((S5.trans s6).trans s7).trans u8) qa (u8 _ _ hpc)
theorem ky(a:At K mg "read_press" aS ["table","key","press"])(T:GQ K mg tk)(xD:Df P w K mg base "key_of" ["table","key","name"] 2 (iD K))(xV:Df P w K mg base "decoded" ["table","key","digits"] 2 (jB K)):Df P w K mg base "read_press" ["table","key","press"] 3 (mP K):=by
 refine a.dq Gk fun f _ A _ s H vs Q E hr h=>?_
 ·obtain⟨a,b,pr,pc,z,age,t,ks,ds,rfl,ha,hb,hpr,hpc,hz,pm,l5,hdd,q⟩:=h
  refine#[_,(qe (zz (qv 2) (zR rfl (qm (qh (i:=3) Gk.nd rfl (Or.inl rfl)) (qm (qh (i:=4) Gk.nd rfl (Or.inl rfl)) (qm (qh (i:=5) Gk.nd rfl (Or.inl rfl)) q9)))))
   (qe (zz (qr xV hr.mo (qc (qv 0) (qc (qr xD hr.mo (qc (qv 0) (qc (qv 1) (qc (qv 3) qb)))) (qc (qv 5) qb)))) (gV rfl (qm (qh (i:=6) Gk.nd rfl (Or.inl rfl)) (qm (qh (i:=7) Gk.nd rfl (Or.inl rfl)) (qm (qh (i:=8) Gk.nd rfl (Or.inl rfl)) (qm (qh (i:=9) Gk.nd rfl (Or.inl rfl)) (qm (qh (i:=10) Gk.nd rfl (Or.inl rfl)) q9)))))))
   (qe (qN (qE cI (qv 10) (qp Qk (qp qJ (qp qJ (qp qJ (qv 6) (qv 7)) (qv 8)) (qv 9)) (zg (v:= .int 16) rfl T.g_DIGITS #[_,rfl])) (qy _)) (qg (ql zf)) qB)
   (qg (ql (qF (qc (qp qJ (qp qJ (qv 6) (qp Zb (qv 7) (zg (v:= .int 16) rfl T.g_DIGITS #[_,rfl]))) (qp Zb (qv 8) qf)) (qc (qv 9) qb)))))))),?_]
  refine#[_,rfl,pr,_,rfl,hpr,rfl,_,_,rfl,_,_,rfl,_,_,rfl,rfl,?_]
  refine#[_,rfl,_,rfl,_,rfl,_,rfl,a,b,z,t,ks,rfl,ha,hb,hz,oN pm,fun pk H1 s1 _ hpk=>?_]
  refine#[_,rfl,a,pk,pc,t,jd t ks z,ds,rfl,ha.same s1,.tup hpk,hpc.same s1,pm,hdd,by lia,by lia,fun pd H2 s2 _ hpd=>?_]
  have q':∀x H',F5 H2 H'->fm H' x (kJ (Zq (zE t) (jd t ks z) ds))->Q x H':=fun x H' s' ht=>q x H' ((s1.trans s2).trans s') ht
  have hl:(Zq (zE t) (jd t ks z) ds).length=5:=by rw[gL,l5]
  obtain⟨lo,mi,hi,de,ck,er⟩:=Ak hl;rw[er]at hpd q';refine#[pd,_,rfl,Gh.of hpd,rfl,_,_,rfl,_,_,rfl,_,_,rfl,_,_,rfl,_,_,rfl,rfl,?_]
  refine#[_,rfl,_,rfl,_,rfl,_,_,rfl,rfl,_,rfl,_,_,rfl,rfl,_,rfl,_,_,rfl,rfl,_,_,rfl,rfl,(by decide:(0:Int)<16),rfl,_,rfl,?_]
  have q2:∀x H',F5 H2 H'->fm H' x (if ck=(lo+mi+hi+de)%16 then some (lo+mi*16+hi*256,de)else none)->Q x H':=q'
  by_cases e:ck=(lo+mi+hi+de)%16
  ·rw[Jb e]at q2
   refine rH (c:=V.int ck=V.int ((lo+mi+hi+de)%16)) (by rw[e]) ?_
   refine#[_,rfl,_,rfl,_,_,rfl,rfl,.inr #[by decide,by decide],_,_,rfl,rfl,_,rfl,_,_,rfl,rfl,.inr #[by decide,by decide],_,_,rfl,rfl,_,rfl,FX,fun p hp=>?_]
   exact q2 _ _ (F5.upd hp) #[p,rfl,qa]
  ·rw[Jc e]at q2
   refine qY (fun _=>q2 _ _ (F5.refl _) rfl) (fun y=>absurd ?_ y)
   have:¬V.int ck=V.int ((lo+mi+hi+de)%16):=fun w'=>e (by injection w')
   show(!decide (V.int ck=V.int ((lo+mi+hi+de)%16)))=true
   rw[Jm this];rfl
end
end Lw
namespace L3
open PySem PySem.Spec PyProof.Rows L2
section
variable{t:List Int}{kss:List (List Int)}{D:Dr}{nm:Str}{age c:Int}
theorem Q0{D:Dr}{nm:Str}{age c:Int}:Gc D nm age c=D.kn\/∃e,D.kn.lookup nm=some e/\qG D e age=true/\Gc D nm age c=zk D.kn nm (zx D.near D.far e age c).2:=by
 unfold Gc zb;cases e1:D.kn.lookup nm with
 |none=>exact .inl rfl
 |some e=>
  simp only
  by_cases ht:qG D e age=true
  ·rw[Jb ht]
   exact .inr #[e,rfl,ht,by split<;>rfl]
  ·rw[Jc ht];exact .inl rfl
theorem bE{d:Int}(tp:t.Perm GG)(hn:Zo nm)(c0:0<=c)(c1:c<4096)(hd:b9 d):Iy (zK t kss nm age c d):=#[hn,uA ..,vQ tp c0 c1 hd]
end
def Eb(H:Hp)(v:V):Option (Int×Int)->Prop
 |none=>v= .non
 |some (a,l)=>∃t,v= .ref t/\H t=some (.tup [.int a,.int l])
def qx(a b:Int):Int:=if a<b then b else a
def Qf(a b:Int):Int:=if b<a then b else a
def zv(D:Dr)(e:Kb)(D':Dr)(e':Kb):Int:=Qf (e.last+D.far) (e'.last+D'.far)
def Ql(lo hi:Int)(p:Int->Bool):Option Int:=((List.range (hi-lo).toNat).map fun i:Nat=>lo+(i:Int)).find? p
theorem zD{D:Dr}{e:Kb}{age c:Int}(h:c<=e.last):(qI D e age c).2=e:=by
 unfold qI zx;rw[Jb h];split<;>rfl
theorem aF{lo hi:Int}{p:Int->Bool}{c:Int}(h:Ql lo hi p=some c):lo<=c/\c<hi/\p c=true/\∀x,lo<=x->x<c->p x=false:=by
 unfold Ql at h;obtain⟨h1,as,bs,e,h2⟩:=List.find?_eq_some_iff_append.mp h
 have len:=JO List.length e;rw[Je,List.length_range,Jt,JP]at len;have ec:c=lo+(as.length:Int):=by
  have z:((List.range (hi-lo).toNat).map fun i:Nat=>lo+(i:Int))[as.length]? =some c:=by rw[e];simp
  rw[Jn,FK (by lia)]at z
  exact(JG z).symm
 refine#[by lia,by lia,h1,fun x hx1 hx2=>?_]
 have hm:x∈as:=by
  have hj:(x-lo).toNat<as.length:=by lia
  have z:((List.range (hi-lo).toNat).map fun i:Nat=>lo+(i:Int))[(x-lo).toNat]? =some x:=by
   rw[Jn,FK (by lia)]
   show some (lo+((x-lo).toNat:Int))=some x
   congr 1;lia
  rw[e,J0 hj]at z;exact J9 z
 have:=h2 x hm
 simpa using this
theorem iy{lo hi:Int}{p:Int->Bool}(h:Ql lo hi p=none):∀x,lo<=x->x<hi->p x=false:=by
 intro x h1 h2
 have:=List.find?_eq_none.mp h x (Jq.mpr #[(x-lo).toNat,JN.mpr (by lia),by lia])
 simpa using this
theorem wM{lo hi:Int}{p:Int->Bool}{c:Int}(h1:lo<=c)(h2:c<hi)(h3:p c=true)(h4:∀x,lo<=x->x<c->p x=false):Ql lo hi p=some c:=by
 cases e:Ql lo hi p with
 |none=>rw[iy e c h1 h2]at h3;cases h3
 |some d=>
  obtain⟨d1,d2,d3,d4⟩:=aF e;rcases Int.lt_trichotomy c d with z|z|z
  ·rw[d4 c h1 z]at h3;cases h3
  ·rw[z]
  ·rw[h4 d d1 z]at d3;cases d3
theorem sT{lo hi:Int}{p:Int->Bool}(h:∀x,lo<=x->x<hi->p x=false):Ql lo hi p=none:=by
 cases e:Ql lo hi p with
 |none=>rfl
 |some d=>
  obtain⟨d1,d2,d3,d4⟩:=aF e;rw[h d d1 d2]at d3;cases d3
section
variable(K:μ)(C:Δ)
inductive La (vs:List V) (H:Hp) (Q:VK):Prop
 |mk (p ta hk bd lg:Δ) (n:Nat) (D:Dr) (h1:vs=[.ref p]) (h2:F7 K C H p ta hk bd lg n D) (h3:Hg D) (h4:∀l (ss:List Str) H',F5 H H'->ss.Perm (D.kn.map (·.1))->H' l=some (.lst (ss.map V.str))->Q (.ref l) H')
def gh:Sp:=fun vs H Q _=>La K C vs H Q
inductive LC (vs:List V) (H:Hp) (Q:VK):Prop
 |mk (p ta hk bd lg a:Δ) (n:Nat) (D:Dr) (e:Kb) (p' ta' hk' bd' lg' a':Δ) (n':Nat) (D':Dr) (e':Kb) (h1:vs=[.ref p,.ref a,.ref p',.ref a']) (h2:F7 K C H p ta hk bd lg n D) (h3:GH H a e) (h4:F7 K C H p' ta' hk' bd' lg' n' D') (h5:GH H a' e') (h6:∀H',F5 H H'->Q (.int (zv D e D' e')) H')
def oo:Sp:=fun vs H Q _=>LC K C vs H Q
end
theorem mR{α:Type} [DecidableEq α]:∀{l m:List α},l.Nodup->(∀x∈l,x∈m)->l.length<=m.length
 | [],m,_,_=>JC _
 |x::l,m,hn,hs=>by
  obtain⟨n1,n2⟩:=EX.mp hn;have hx:=hs x (Jv ..);have ih:=mR (l:=l) (m:=m.erase x) n2 (fun y hy=>(List.mem_erase_of_ne (fun e:y=x=>n1 (by rw[<- e];exact hy))).mpr (hs y (JE _ hy)))
  have h1:=List.length_erase_of_mem hx;have h2:=List.length_pos_of_mem hx;rw[JP];omega
structure ML(t:List Int)(kss:List (List Int))(D:Dr):Prop where
 ok:Hg D
 t:D.t=t
 ks:D.kss=kss
 rm:(D.kn.length:Int)<D.most
theorem pN{t:List Int}{kss:List (List Int)}{D:Dr}{nm:Str}{age c d:Int}(h:ML t kss D)(l0:D.least<=age)(a1:age<kss.length)(c0:0<=c)(c1:c<4096)(hd:b9 d):fZ D (zK t kss nm age c d)=some (c,d):=by
 unfold fZ Ze zK;simp only
 rw[Jh l0,h.ks,Jh a1,Jb (show(true&&true)=true from rfl),h.t,show QJ D age=kss.getD age.toNat [] by unfold QJ;rw[h.ks]]
 exact jz (h.t▸h.ok.tp) c0 c1 hd
def ZT(n:Int)(S:List (Int×Int)):List (Int×Int):=S.filterMap fun p=>if p.1<n then some (p.1,if p.2<n-1 then p.2 else n-1)else none
def Qz(n:Int)(S:List (Int×Int)):Bool:=S.any fun p=>decide (p.1<=n)&&decide (n<=p.2)
inductive MM:List (Int×Int)->Prop where
 |nil:MM []
 |one (f l:Int) (h:f<=l):MM [(f,l)]
 |two (f l g:Int) (h:f<=l) (h2:l+1<g):MM [(f,l),(g,g)]
def vE(F:List (Int×Int))(n:Int):List (Int×Int):=match F.getLast? with
 |some (f,l)=>if l=n-1 then F.dropLast++[(f,n)]else F++[(n,n)]
 |none=>[(n,n)]
theorem jy{S:List (Int×Int)}(h:MM S)(n:Int):ZT (n+1) S=if Qz n S=true then vE (ZT n S) n else ZT n S:=by
 cases h with
 |nil=>rfl
 |one f l h=>
  unfold ZT Qz vE
  by_cases h1:f<n
  ·by_cases h2:n<=l
   ·have e1:(if f<n+1 then some (f,if l<n+1-1 then l else n+1-1)else none)=some (f,n):=by rw[Jb (by lia),Jc (by lia)];congr 2;lia
    have e2:(if f<n then some (f,if l<n-1 then l else n-1)else none)=some (f,n-1):=by rw[Jb h1,Jc (by lia)]
    simp only[JR,List.filterMap_nil,e1,e2,Ef,List.any_nil];rw[Jh (by lia:f<=n),Jh h2]
    simp
   ·have e1:(if f<n+1 then some (f,if l<n+1-1 then l else n+1-1)else none)=some (f,l):=by rw[Jb (by lia),Jb (by lia)]
    have e2:(if f<n then some (f,if l<n-1 then l else n-1)else none)=some (f,l):=by rw[Jb h1];congr 2;split<;>lia
    simp only[JR,List.filterMap_nil,e1,e2,Ef,List.any_nil];rw[Jm h2];simp
  ·by_cases h2:f=n
   ·subst h2
    have e1:(if f<f+1 then some (f,if l<f+1-1 then l else f+1-1)else none)=some (f,f):=by rw[Jb (by lia),Jc (by lia)];congr 2;lia
    have e2:(if f<f then some (f,if l<f-1 then l else f-1)else none)=none:=by rw[Jc (by lia)]
    simp only[JR,List.filterMap_nil,e1,e2,Ef,List.any_nil];rw[Jh (JK f),Jh h];simp
   ·have e1:(if f<n+1 then some (f,if l<n+1-1 then l else n+1-1)else none)=none:=by rw[Jc (by lia)]
    have e2:(if f<n then some (f,if l<n-1 then l else n-1)else none)=none:=by rw[Jc h1]
    simp only[JR,List.filterMap_nil,e1,e2,Ef,List.any_nil];rw[Jm (by lia:¬f<=n)]
    simp
 |two f l g h hg=>
  unfold ZT Qz vE
  by_cases h1:f<n
  ·by_cases h2:n<=l
   ·have e1:(if f<n+1 then some (f,if l<n+1-1 then l else n+1-1)else none)=some (f,n):=by rw[Jb (by lia),Jc (by lia)];congr 2;lia
    have e2:(if f<n then some (f,if l<n-1 then l else n-1)else none)=some (f,n-1):=by rw[Jb h1,Jc (by lia)]
    have e3:(if g<n+1 then some (g,if g<n+1-1 then g else n+1-1)else none)=none:=by rw[Jc (by lia)]
    have e4:(if g<n then some (g,if g<n-1 then g else n-1)else none)=none:=by rw[Jc (by lia)]
    simp only[JR,List.filterMap_nil,e1,e2,e3,e4,Ef,List.any_nil];rw[Jh (by lia:f<=n),Jh h2]
    simp
   ·have e1:(if f<n+1 then some (f,if l<n+1-1 then l else n+1-1)else none)=some (f,l):=by rw[Jb (by lia),Jb (by lia)]
    have e2:(if f<n then some (f,if l<n-1 then l else n-1)else none)=some (f,l):=by rw[Jb h1];congr 2;split<;>lia
    by_cases h3:g<n
    ·have e3:(if g<n+1 then some (g,if g<n+1-1 then g else n+1-1)else none)=some (g,g):=by rw[Jb (by lia),Jb (by lia)]
     have e4:(if g<n then some (g,if g<n-1 then g else n-1)else none)=some (g,g):=by rw[Jb h3];congr 2;split<;>lia
     simp only[JR,List.filterMap_nil,e1,e2,e3,e4,Ef,List.any_nil];rw[Jm h2,Jm (by lia:¬n<=g)]
     simp
    ·by_cases h4:g=n
     ·subst h4
      have e3:(if g<g+1 then some (g,if g<g+1-1 then g else g+1-1)else none)=some (g,g):=by rw[Jb (by lia),Jc (by lia)];congr 2;lia
      have e4:(if g<g then some (g,if g<g-1 then g else g-1)else none)=none:=by rw[Jc (by lia)]
      simp only[JR,List.filterMap_nil,e1,e2,e3,e4,Ef,List.any_nil];rw[Jh (JK g)];simp
      lia
     ·have e3:(if g<n+1 then some (g,if g<n+1-1 then g else n+1-1)else none)=none:=by rw[Jc (by lia)]
      have e4:(if g<n then some (g,if g<n-1 then g else n-1)else none)=none:=by rw[Jc h3]
      simp only[JR,List.filterMap_nil,e1,e2,e3,e4,Ef,List.any_nil];rw[Jm h2,Jm (by lia:¬g<=n)]
      simp
  ·have e3:(if g<n+1 then some (g,if g<n+1-1 then g else n+1-1)else none)=none:=by rw[Jc (by lia)]
   have e4:(if g<n then some (g,if g<n-1 then g else n-1)else none)=none:=by rw[Jc (by lia)]
   by_cases h2:f=n
   ·subst h2
    have e1:(if f<f+1 then some (f,if l<f+1-1 then l else f+1-1)else none)=some (f,f):=by rw[Jb (by lia),Jc (by lia)];congr 2;lia
    have e2:(if f<f then some (f,if l<f-1 then l else f-1)else none)=none:=by rw[Jc (by lia)]
    simp only[JR,List.filterMap_nil,e1,e2,e3,e4,Ef,List.any_nil];rw[Jh (JK f),Jh h];simp
   ·have e1:(if f<n+1 then some (f,if l<n+1-1 then l else n+1-1)else none)=none:=by rw[Jc (by lia)]
    have e2:(if f<n then some (f,if l<n-1 then l else n-1)else none)=none:=by rw[Jc h1]
    simp only[JR,List.filterMap_nil,e1,e2,e3,e4,Ef,List.any_nil];rw[Jm (by lia:¬f<=n),Jm (by lia:¬g<=n)]
    simp
theorem j7{S:List (Int×Int)}{n:Int}(h:∀p∈S,n<=p.1):ZT n S=[]:=by
 unfold ZT;rw[List.filterMap_eq_nil_iff];intro p hp;rw[Jc (by have:=h p hp;lia)]
theorem mM{S:List (Int×Int)}{n:Int}(h:∀p∈S,p.1<=p.2/\p.2<n):ZT n S=S:=by
 unfold ZT
 induction S with
 |nil=>rfl
 |cons p r ih=>
  have:=h p (Jv ..)
  rw[JR,Jb (by lia)]
  simp only
  rw[ih (fun q hq=>h q (JE _ hq))]
  congr 1
  obtain⟨a,b⟩:=p;simp only at this⊢
  congr 1
  split<;>lia
theorem ZN(D:Dr)(nm:Str)(age c:Int):(Gc D nm age c).map (·.1)=D.kn.map (·.1):=by
 rcases Q0 (D:=D) (nm:=nm) (age:=age) (c:=c)with e|⟨e,he,ht,ek⟩
 ·rw[e]
 ·rw[ek];exact pQ he
theorem sd{D:Dr}{nm:Str}{age c:Int}{e:Kb}(nd:(D.kn.map (·.1)).Nodup)(he:D.kn.lookup nm=some e):(Gc D nm age c).lookup nm=some (qI D e age c).2:=by
 unfold Gc zb qI;rw[he];simp only
 by_cases ht:qG D e age=true
 ·rw[Jb ht,Jb ht]
  split
  ·exact gs nd
  ·exact gs nd
 ·rw[Jc ht,Jc ht];exact he
theorem Hg.hearK{D:Dr}(h:Hg D)(nm:Str)(age c:Int):Hg {D with kn:=L3.Gc D nm age c}:=by
 have k:=ZN D nm age c;have l:(L3.Gc D nm age c).length=D.kn.length:=by have:=JO List.length k;simpa using this
 exact#[h.tp,h.l0,h.kl,by show(L3.Gc D nm age c).length<=60;rw[l];exact h.nl,by show((L3.Gc D nm age c).map (·.1)).Nodup;rw[k];exact h.nd]
section
variable{D:Dr}{nm:Str}{age:Int}
theorem jN(D:Dr)(nm:Str)(age c d:Int)(nf:D.near<=D.far):(Qn D nm age c="open"->(zb D nm age (some (c,d))).1[0]? =some (.str "open"))/\(¬Qn D nm age c="open"->(zb D nm age (some (c,d))).1[0]? =some (.str "held")):=by
 have no1:¬(("":Str)="open"):=by decide
 have no3:¬(("wait":Str)="open"):=by decide
 cases e1:D.kn.lookup nm with
 |none=>
  have:Qn D nm age c="":=by unfold Qn;rw[e1]
  rw[this]
  exact#[fun z=>absurd z no1,fun _=>by unfold zb;rw[e1];rfl]
 |some e=>
  by_cases ht:qG D e age=true
  case neg=>
   have:Qn D nm age c="":=by unfold Qn;rw[e1];simp only;rw[Jc ht]
   rw[this]
   exact#[fun z=>absurd z no1,fun _=>by unfold zb;rw[e1];simp only;rw[Jc ht];rfl]
  have ew:Qn D nm age c=(if c-e.last<1\/c-e.last>D.far then("":Str)else if c-e.last<=D.near\/e.wt=some (age,c-1)then("open":Str)else("wait":Str)):=by unfold Qn;rw[e1];simp only;rw[Jb ht]
  have eh:(zb D nm age (some (c,d))).1[0]? =if(zx D.near D.far e age c).1="near" then some (.str "open")else some (.str "held"):=by
   unfold zb;rw[e1];simp only;rw[Jb ht];split<;>rfl
  rw[eh,ew];unfold zx
  by_cases h1:c<=e.last
  ·rw[Jb h1,Jb (show c-e.last<1\/c-e.last>D.far from .inl (by omega))]
   exact#[fun z=>absurd z no1,fun _=>Jc (show¬(("old":Str)="near") by decide)]
  rw[Jc h1]
  by_cases h2:c<=e.last+D.near
  ·rw[Jb h2,Jc (show¬(c-e.last<1\/c-e.last>D.far) by omega),Jb (show c-e.last<=D.near\/_ from .inl (by omega))]
   exact#[fun _=>Jb rfl,fun z=>absurd rfl z]
  rw[Jc h2]
  by_cases h3:c<=e.last+D.far
  ·rw[Jb h3,Jc (show¬(c-e.last<1\/c-e.last>D.far) by omega)]
   by_cases h4:e.wt=some (age,c-1)
   ·rw[Jb h4,Jb (show c-e.last<=D.near\/_ from .inr h4)]
    exact#[fun _=>Jb rfl,fun z=>absurd rfl z]
   ·rw[Jc h4,Jc (show¬(c-e.last<=D.near\/e.wt=some (age,c-1))from fun z=>z.elim (fun z=>by omega) h4)]
    exact#[fun z=>absurd z no3,fun _=>Jc (show¬(("far":Str)="near") by decide)]
  ·rw[Jc h3,Jb (show c-e.last<1\/c-e.last>D.far from .inr (by omega))]
   exact#[fun z=>absurd z no1,fun _=>Jc (show¬(("beyond":Str)="near") by decide)]
end
def zG{α:Type}(lo:Int)(n:Nat)(f:Int->Option α):Option α:=((List.range n).map fun i:Nat=>lo+(i:Int)).findSome? f
theorem QC{α β:Type}{l:List α}{f:α->Option β}(h:∀x∈l,f x=none):l.findSome? f=none:=by
 induction l with
 |nil=>rfl
 |cons x r ih=>rw[List.findSome?_cons,h x Jv];exact ih fun y hy=>h y (JE _ hy)
theorem aL{α β:Type}{l:List α}{f:α->Option β}{i:Nat}{x:α}{y:β}(hx:l[i]? =some x)(hy:f x=some y)(h:∀j z,j<i->l[j]? =some z->f z=none):l.findSome? f=some y:=by
 induction l generalizing i with
 |nil=>cases hx
 |cons a r ih=>
  rw[List.findSome?_cons];cases i with
  |zero=>cases hx;rw[hy]
  |succ i=>
   rw[h 0 a (Nat.succ_pos _) rfl];exact ih hx fun j z hj hz=>h (j+1) z (by lia) hz
theorem Z4{α β:Type}{l:List α}{f g:α->Option β}(h:∀x∈l,f x=g x):l.findSome? f=l.findSome? g:=by
 induction l with
 |nil=>rfl
 |cons x r ih=>rw[List.findSome?_cons,List.findSome?_cons,h x Jv,ih fun y hy=>h y (JE _ hy)]
theorem fH{lo x:Int}{n:Nat}(h:x∈(List.range n).map fun i:Nat=>lo+(i:Int)):lo<=x/\x<lo+n:=by
 obtain⟨i,hi,rfl⟩:=Jq.mp h
 have:=JN.mp hi
 lia
theorem zM{α:Type}{lo:Int}{n:Nat}{f:Int->Option α}(h:∀x,lo<=x->x<lo+n->f x=none):zG lo n f=none:=QC fun x hx=>h x (fH hx).1 (fH hx).2
theorem bp{α:Type}{lo:Int}{n i:Nat}{f:Int->Option α}{y:α}(hi:i<n)(hy:f (lo+(i:Int))=some y)(h:∀x,lo<=x->x<lo+i->f x=none):zG lo n f=some y:=by
 refine aL (i:=i) (x:=lo+(i:Int)) (by rw[Jn,FK hi];rfl) hy fun j z hj hz=>?_
 rw[Jn,FK (by lia)]at hz
 cases hz;exact h _ (show lo<=lo+(j:Int) by lia) (show lo+(j:Int)<lo+(i:Int) by lia)
theorem Qi{α:Type}{lo:Int}{n:Nat}{f g:Int->Option α}(h:∀x,lo<=x->x<lo+n->f x=g x):zG lo n f=zG lo n g:=Z4 fun x hx=>h x (fH hx).1 (fH hx).2
def qK(S:List (Int×Int)):List Int:=S.flatMap fun p=>(List.range (p.2+1-p.1).toNat).map fun i:Nat=>p.1+(i:Int)
theorem mX(S:List (Int×Int))(n:Int):n∈qK S↔Qz n S=true:=by
 unfold qK Qz;rw[List.mem_flatMap,List.any_eq_true];refine exists_congr fun p=>and_congr_right fun _=>?_
 rw[Ju,decide_eq_true_eq,decide_eq_true_eq,Jq];constructor
 ·rintro⟨i,hi,rfl⟩
  have:=JN.mp hi
  lia
 ·rintro⟨h1,h2⟩
  exact#[(n-p.1).toNat,JN.mpr (by lia),by lia]
structure Hh(S:List (Int×Int)):Prop where
 two:MM S
 bd:∀p∈S,0<=p.1/\p.1<=p.2/\p.2<=4095/\p.2-p.1<=63
 cnt:(qK S).length<=66
theorem Hh.nil:Hh []:=#[.nil,(fun p h=>nomatch h),JC _]
theorem lT{x y:Int}(h:y-x<=63):(qK [(x,y)]).length<=64:=by
 unfold qK;rw[List.flatMap_cons,List.flatMap_nil,JV,Je,List.length_range]
 show(y+1-x).toNat<=64
 lia
theorem wT{x y z:Int}(h:y-x<=63):(qK [(x,y),(z,z)]).length<=66:=by
 have e:qK [(x,y),(z,z)]=qK [(x,y)]++qK [(z,z)]:=by unfold qK;rw[<- List.flatMap_append];rfl
 have h1:=lT h;have h2:(qK [(z,z)]).length<=1:=by
  unfold qK;rw[List.flatMap_cons,List.flatMap_nil,JV,Je,List.length_range]
  show(z+1-z).toNat<=1
  lia
 rw[e,Jt];lia
theorem Hh.out{S:List (Int×Int)}(h:Hh S){n:Int}(hn:n<0\/4096<=n):Qz n S=false:=by
 unfold Qz;rw[List.any_eq_false];intro p hp z;rw[Ju,decide_eq_true_eq,decide_eq_true_eq]at z
 have:=h.bd p hp
 lia
def LD(S S':List (Int×Int)):Prop:=∀ks:List Int,ks.Nodup->(∀k,k∈ks↔¬(k∈qK S↔k∈qK S'))->ks.length<64
theorem LD.few{S S':List (Int×Int)}(h:(qK S).length+(qK S').length<64):LD S S':=fun ks nd mem=>by
 have:ks.length<=(qK S++qK S').length:=mR nd fun k hk=>by
  have hk:=(mem k).mp hk;rw[JB]
  by_cases z:k∈qK S
  ·exact .inl z
  ·exact .inr (Decidable.byContradiction fun y=>hk #[fun q=>absurd q z,fun q=>absurd q y])
 rw[Jt]at this;lia
theorem C0{S S':List (Int×Int)}(h:Hh S)(h':Hh S')(he:∀n,Qz n S=Qz n S'):S=S':=by
 have key:∀k:Nat,ZT (k:Int) S=ZT (k:Int) S':=fun k=>by
  induction k with
  |zero=>
   show ZT 0 S=ZT 0 S'
   rw[j7 fun p hp=>(h.bd p hp).1,j7 fun p hp=>(h'.bd p hp).1]
  |succ k ih=>
   have e:((k+1:Nat):Int)=(k:Int)+1:=by lia
   rw[e,jy h.two,jy h'.two,he,ih]
 have:=key 4096
 rw[mM fun p hp=>#[(h.bd p hp).2.1,by have:=(h.bd p hp).2.2.1;lia],mM fun p hp=>#[(h'.bd p hp).2.1,by have:=(h'.bd p hp).2.2.1;lia]]at this
 exact this
def QZ(S S':List (Int×Int))(n:Int):Bool:=decide (Qz n S≠Qz n S')
def zT(S S':List (Int×Int)):Int:=(Ql 0 4096 (QZ S S')).getD 0
theorem rp(S S':List (Int×Int)):QZ S S'=QZ S' S:=by
 funext n
 exact decide_eq_decide.mpr #[Ne.symm,Ne.symm]
theorem pV(S S':List (Int×Int)):zT S S'=zT S' S:=by unfold zT;rw[rp]
theorem io{S S':List (Int×Int)}(h:Hh S)(h':Hh S')(ne:S≠S'):Ql 0 4096 (QZ S S')=some (zT S S'):=by
 cases e:Ql 0 4096 (QZ S S')with
 |some c=>unfold zT;rw[e];rfl
 |none=>
  refine absurd (C0 h h' fun n=>?_) ne
  by_cases hn:n<0\/4096<=n
  ·rw[h.out hn,h'.out hn]
  ·have:=of_decide_eq_false (iy e n (by lia) (by lia))
   exact Decidable.not_not.mp this
theorem rZ{S S':List (Int×Int)}{ms:List Int}(h:Hh S)(h':Hh S')(hm:∀k,k∈ms↔¬(k∈qK S↔k∈qK S'))(hp:ms.Pairwise (· <= ·))(ne:S≠S'):ms[0]? =some (zT S S'):=by
 obtain⟨l1,l2,l3,l4⟩:=aF (io h h' ne)
 have mem:∀k,k∈ms↔QZ S S' k=true:=fun k=>by
  rw[hm,mX,mX];unfold QZ;rw[decide_eq_true_eq];exact not_congr Ej.symm
 cases ms with
 |nil=>exact absurd ((mem _).mpr l3) Ex
 |cons x r=>
  have hx:=(mem x).mp Jv;have hl:zT S S'∈x::r:=(mem _).mpr l3
  have le1:x<=zT S S':=by
   rcases Jr.mp hl with e|e
   ·rw[e];exact JK _
   ·exact(List.pairwise_cons.mp hp).1 _ e
  have le2:¬x<zT S S':=fun z=>by
   have x0:0<=x:=by
    refine Int.not_lt.mp fun y=>?_
    have:=Jx hx
    rw[h.out (.inl y),h'.out (.inl y)]at this;exact this rfl
   rw[l4 x x0 z]at hx;cases hx
  show some x=_
  congr 1
  lia
def zm(D:Dr)(age:Int)(o:Option Kb):List (Int×Int):=match o with
 |none=>[]
 |some e=>zp D e age
def Qr(D:Dr)(o:Option Kb)(D':Dr)(o':Option Kb):Option (Int×Int):=zG 0 D.kss.length fun a=>if zm D a o=zm D' a o' then none else some (a,zT (zm D a o) (zm D' a o'))
theorem oV{D D':Dr}(hk:D.kss.length=D'.kss.length)(o o':Option Kb):Qr D o D' o'=Qr D' o' D o:=by
 unfold Qr;rw[hk];refine Qi fun a _ _=>?_
 by_cases z:zm D a o=zm D' a o'
 ·rw[Jb z,Jb z.symm]
 ·rw[Jc z,Jc (Ne.symm z),pV]
theorem Qt{D D':Dr}{o o':Option Kb}(h:Qr D o D' o'=none){a:Int}(a0:0<=a)(a1:a<D.kss.length):zm D a o=zm D' a o':=by
 unfold Qr zG at h
 have:=List.findSome?_eq_none_iff.mp h a (Jq.mpr #[a.toNat,JN.mpr (by lia),by lia])
 by_cases z:zm D a o=zm D' a o'
 ·exact z
 ·rw[Jc z]at this;cases this
structure Gw(D:Dr):Prop where
 n0:1<=D.near
 n1:D.near<=64
 nf:D.near<=D.far
 f1:D.far<=1024
 l0:0<=D.least
 lk:D.least<D.kss.length
def ZL(D:Dr):Option Kb->Prop
 |none=>True
 |some e=>Gu D e
theorem pv{D:Dr}{e:Kb}(d:Gw D)(k:Gu D e)(age:Int):Hh (zp D e age):=by
 have n0:=d.n0;have n1:=d.n1;have l0:=k.l0;have l1:=k.l1;unfold zp
 by_cases ht:qG D e age=true
 case neg=>rw[Jc ht];exact Hh.nil
 rw[Jb ht]
 by_cases h1:e.last+1<4096
 ·rw[Jb h1]
  have wd:(if 4095<e.last+D.near then 4095 else e.last+D.near)-(e.last+1)<=63:=by split<;>lia
  have one:Hh [(e.last+1,if 4095<e.last+D.near then 4095 else e.last+D.near)]:=#[.one _ _ (by split<;>lia),fun p hp=>by rw[Jl.mp hp];simp only;split<;>lia,JQ (lT wd) (by decide)]
  cases ew:e.wt with
  |none=>exact one
  |some xw=>
   obtain⟨x,w⟩:=xw;have hw:=k.w x w ew;simp only
   by_cases h2:x=age/\w+1<=(if 4095<e.last+D.far then 4095 else e.last+D.far)
   ·rw[Jb h2]
    have h3:=h2.2;refine#[.two _ _ _ (by split<;>lia) (by split<;>lia),fun p hp=>?_,wT wd]
    rcases Jr.mp hp with rfl|hp
    ·exact one.bd _ Jv
    ·rw[Jl.mp hp];simp only;split at h3<;>lia
   ·rw[Jc h2,JV];exact one
 ·rw[Jc h1]
  cases ew:e.wt with
  |none=>exact Hh.nil
  |some xw=>
   obtain⟨x,w⟩:=xw;have hw:=k.w x w ew;simp only
   rw[Jc (fun z=>by have:=z.2;split at this<;>lia)]
   exact Hh.nil
theorem fw{D:Dr}{o:Option Kb}(d:Gw D)(k:ZL D o)(age:Int):Hh (zm D age o):=by
 cases o with
 |none=>exact Hh.nil
 |some e=>exact pv d k age
theorem Z1{D:Dr}{e:Kb}{age c:Int}(d:Gw D)(k:Gu D e)(c0:0<=c)(c1:c<4096):Gu D (qI D e age c).2:=by
 unfold qI
 by_cases ht:qG D e age=true
 ·rw[Jb ht];exact xc k (iw ht) (Z9 ht d.l0).2 c0 c1
 ·rw[Jc ht];exact k
theorem we{D:Dr}{e:Kb}(n1:D.near<=13)(age:Int):(qK (zp D e age)).length<=28:=by
 have one:∀{x y:Int},y-x<=13->((List.range (y+1-x).toNat).map fun i:Nat=>x+(i:Int)).length<=14:=fun{x y} h=>by
  rw[Je,List.length_range];lia
 have ap:∀A B:List (Int×Int),qK (A++B)=qK A++qK B:=fun A B=>by unfold qK;rw[List.flatMap_append]
 unfold zp;split
 ·rw[ap,Jt]
  have h1:(qK (if e.last+1<4096 then [(e.last+1,if 4095<e.last+D.near then 4095 else e.last+D.near)]else [])).length<=14:=by
   split
   ·unfold qK
    rw[List.flatMap_cons,List.flatMap_nil,JV];exact one (by split<;>lia)
   ·exact JC _
  have h2:∀(p:Prop) [Decidable p] (z:Int),(qK (if p then [(z,z)]else [])).length<=14:=fun p _ z=>by
   split
   ·unfold qK
    rw[List.flatMap_cons,List.flatMap_nil,JV];exact one (by lia)
   ·exact JC _
  cases e.wt with
  |none=>exact JQ h1 (by decide)
  |some xw=>exact JQ (Nat.add_le_add h1 (h2 _ _)) (by decide:14+14<=28)
 ·exact JC _
def Md(D:Dr)(o:Option Kb)(D':Dr)(o':Option Kb):Prop:=∀a,LD (zm D a o) (zm D' a o')
theorem Md.narrow{D D':Dr}{o o':Option Kb}(h:D.near<=13)(h':D'.near<=13):Md D o D' o':=fun a=>LD.few (by
 have key:∀{D:Dr} {o:Option Kb},D.near<=13->(qK (zm D a o)).length<=28:=fun{D o} h=>by
  cases o with
  |none=>exact JC _
  |some e=>exact we h a
 have:=key (o:=o) h
 have:=key (o:=o') h'
 lia)
def ZC(D:Dr)(o:Option Kb)(D':Dr)(o':Option Kb):Option ((Int×Int)×Int×Int):=match o,o' with
 |some e,some e'=>zG (zv D e D' e') (Qf (zv D e D' e'+2) 4096-zv D e D' e').toNat fun c=>(Qr D (some (qI D e (qx e.age D.least) c).2) D' (some (qI D' e' (qx e.age D.least) c).2)).map fun p=>((qx e.age D.least,c),p)
 |_,_=>none
theorem ZZ{D:Dr}{e:Kb}(d:Gw D)(k:Gu D e)(h1:e.last+1<4096){a:Int}:zp D e a≠[]↔qx e.age D.least<=a/\a<D.kss.length:=by
 unfold zp
 by_cases ht:qG D e a=true
 ·rw[Jb ht,Jb h1]
  refine#[fun _=>?_,fun _ z=>by cases z]
  have h2:=iw ht;have h3:=(Z9 ht d.l0).2;unfold qG Ze at ht;rw[Ju,Ju]at ht;have h4:=Jx ht.1.1;unfold qx;split<;>lia
 ·rw[Jc ht]
  refine#[fun z=>absurd rfl z,fun⟨z1,z2⟩=>absurd ?_ ht]
  unfold qG Ze
  have:e.age<=a/\D.least<=a:=by unfold qx at z1;split at z1<;>lia
  rw[Jh this.2,Jh z2,Jh this.1];rfl
theorem ZR{D:Dr}{e:Kb}(d:Gw D)(k:Gu D e)(h1:¬e.last+1<4096)(a:Int):zp D e a=[]:=by
 have n0:=d.n0;unfold zp
 by_cases ht:qG D e a=true
 ·rw[Jb ht,Jc h1]
  cases ew:e.wt with
  |none=>rfl
  |some xw=>
   obtain⟨x,w⟩:=xw;have hw:=k.w x w ew;simp only
   rw[Jc (fun z=>by have:=z.2;split at this<;>lia)];rfl
 ·rw[Jc ht]
def DI(D:Dr)(o:Option Kb)(D':Dr)(o':Option Kb):Prop:=Md D o D' o'/\∀e e',o=some e->o'=some e'->∀c,zv D e D' e'<=c->c<4096->Md D (some (qI D e (qx e.age D.least) c).2) D' (some (qI D' e' (qx e.age D.least) c).2)
def Me(D D':Dr):Prop:=∀nm,DI D (D.kn.lookup nm) D' (D'.kn.lookup nm)
theorem Me.narrow{D D':Dr}(h:D.near<=13)(h':D'.near<=13):Me D D':=fun nm=>#[Md.narrow h h',fun _ _ _ _ _ _ _=>Md.narrow h h']
abbrev qC:=List (Str×Int×Int)
def zj(D D':Dr)(nm:Str):Option qC:=(Qr D (D.kn.lookup nm) D' (D'.kn.lookup nm)).map fun p=>[(nm,p.1,p.2)]
def ZY(D D':Dr)(nm:Str):Option qC:=(ZC D (D.kn.lookup nm) D' (D'.kn.lookup nm)).map fun p=>[(nm,p.1.1,p.1.2),(nm,p.2.1,p.2.2)]
def Qp(D D':Dr)(ns:List Str):Option qC:=match ns.findSome? (zj D D')with
 |some r=>some r
 |none=>ns.findSome? (ZY D D')
def DY(D:Dr):Prop:=∀nm,ZL D (D.kn.lookup nm)
theorem ia{ns ms:List Str}(h1:ns.Nodup)(h2:ms.Nodup)(s1:sortedS ns=true)(s2:sortedS ms=true)(h:∀k,k∈ns↔k∈ms):ns=ms:=
 bM ((List.perm_ext_iff_of_nodup h1 h2).mpr h) s1 (List.Perm.refl _) s2
def HZ(D:Dr)(nm:Str)(a c:Int):Bool:=decide (Qn D nm a c="open")
def CV(D D':Dr)(lo:Int)(n:Nat)(nm:Str)(a:Int):Option qC:=zG lo n fun c=>if HZ D nm a c=HZ D' nm a c then none else some [(nm,a,c)]
def lN(D D':Dr)(many:Nat)(lo:Int)(n:Nat)(nm:Str):Option qC:=zG 0 many fun a=>CV D D' lo n nm a
theorem iL{α β:Type}(lo:Int)(n:Nat)(f:Int->Option α)(g:α->β):(zG lo n f).map g=zG lo n fun a=>(f a).map g:=by
 unfold zG
 induction ((List.range n).map fun i:Nat=>lo+(i:Int))with
 |nil=>rfl
 |cons x r ih=>
  rw[List.findSome?_cons,List.findSome?_cons];cases e:f x with
  |some y=>rfl
  |none=>exact ih
theorem tL{α:Type}(lo:Int)(n:Nat)(p:Int->Bool)(g:Int->α):(zG lo n fun c=>if p c=true then some (g c)else none)=(Ql lo (lo+n) p).map g:=by
 unfold zG Ql;rw[show(lo+(n:Int)-lo).toNat=n by lia]
 induction ((List.range n).map fun i:Nat=>lo+(i:Int))with
 |nil=>rfl
 |cons x r ih=>
  rw[List.findSome?_cons,Fb];cases e:p x with
  |true=>rfl
  |false=>exact ih
theorem LI.same{H H':Hp}{v:V}{o:Option Kb}(h:LI H v o)(s:F5 H H'):LI H' v o:=by
 cases o with
 |none=>exact h
 |some e=>obtain⟨a,e1,h1⟩:=h;exact#[a,e1,h1.same s]
theorem MQ{D:Dr}{nm:Str}{H:Hp}{Q:VK}(h:∀v,LI H v (D.kn.lookup nm)->Q v H):(D.kn.lookup nm=none->Q .non H)/\(∀e a,D.kn.lookup nm=some e->GH H a e->Q (.ref a) H):=
 #[fun e=>h _ (by rw[e];rfl),fun e a e1 h1=>h _ (by rw[e1];exact#[a,rfl,h1])]
theorem j5{S:List (Int×Int)}{i:Nat}{z:Int×Int}(h:S[i]? =some z):qK (S.take (i+1))=qK (S.take i)++(List.range (z.2+1-z.1).toNat).map fun k:Nat=>z.1+(k:Int):=by
 unfold qK;rw[Ed,h,List.flatMap_append]
 show _++List.flatMap _ [z]=_
 rw[List.flatMap_cons,List.flatMap_nil,JV]
def HF(H:Hp)(v:V):Option qC->Prop
 |none=>v= .non
 |some r=>∃(t:Δ) (as:List Δ),v= .ref t/\H t=some (.tup (as.map V.ref))/\as.length=r.length/\∀(i:Nat) (a:Δ) (z:Str×Int×Int),as[i]? =some a->r[i]? =some z->H a=some (.tup [.str z.1,.int z.2.1,.int z.2.2])
theorem HF.same{H H':Hp}{v:V}{o:Option qC}(h:HF H v o)(s:F5 H H'):HF H' v o:=by
 cases o with
 |none=>exact h
 |some r=>
  obtain⟨t,as,e,h1,h2,h3⟩:=h
  exact#[t,as,e,s _ _ h1,h2,fun i a z e1 e2=>s _ _ (h3 i a z e1 e2)]
theorem HF.eqk{K:μ}{H:Hp}{v u:V}{o:Option qC}(h:HF H v o)(g:HF H u o):LS K H 2 v u:=by
 cases o with
 |none=>
  have h:v= .non:=h
  have g:u= .non:=g
  rw[h,g];exact .non 2
 |some r=>
  obtain⟨t,as,rfl,h1,h2,h3⟩:=h;obtain⟨t',bs,rfl,g1,g2,g3⟩:=g;refine .tup (Gh.of h1) (Gh.of g1) (by rw[Je,Je,h2,g2]) fun i x y ex ey=>?_
  rw[Jn]at ex ey;obtain⟨a,ha,rfl⟩:=JW.mp ex;obtain⟨b,hb,rfl⟩:=JW.mp ey;have hi:i<r.length:=by rw[<- h2];exact(Jy.mp ha).1
  refine .tup (n:=0) (Gh.of (h3 i a _ ha (Jg hi))) (Gh.of (g3 i b _ hb (Jg hi))) rfl fun j x y ex ey=>?_
  match j,ex,ey with
  |0,ex,ey=>cases ex;cases ey;exact .str _ _
  |1,ex,ey=>cases ex;cases ey;exact .int _ _
  |2,ex,ey=>cases ex;cases ey;exact .int _ _
  |j+3,ex,ey=>cases ex
theorem HF.one{H:Hp}{t a:Δ}{z:Str×Int×Int}(h:H t=some (.tup [.ref a]))(h1:H a=some (.tup [.str z.1,.int z.2.1,.int z.2.2])):HF H (.ref t) (some [z]):=by
 refine#[t,[a],rfl,h,rfl,fun i b y e1 e2=>?_]
 cases i with
 |zero=>cases e1;cases e2;exact h1
 |succ i=>cases e1
def D5(H:Hp)(v:V):Option ((Int×Int)×Int×Int)->Prop
 |none=>v= .non
 |some p=>∃(t x y:Δ),v= .ref t/\H t=some (.tup [.ref x,.ref y])/\H x=some (.tup [.int p.1.1,.int p.1.2])/\H y=some (.tup [.int p.2.1,.int p.2.2])
section
variable(K:μ)(C:Δ)
inductive Lc (vs:List V) (H:Hp) (Q:VK):Prop
 |mk (t:Δ) (S:List (Int×Int)) (h1:vs=[.ref t]) (h2:Ig H t S) (h3:Hh S) (h4:∀l H',F5 H H'->H' l=some (.lst ((qK S).map V.int))->Q (.ref l) H')
def lO:Sp:=fun vs H Q _=>Lc vs H Q
inductive LF (vs:List V) (H:Hp) (Q:VK):Prop
 |mk (t t':Δ) (S S':List (Int×Int)) (h1:vs=[.ref t,.ref t']) (h2:Ig H t S) (h3:Ig H t' S') (h4:Hh S) (h5:Hh S') (h6:S≠S') (h7:LD S S') (h8:∀H',F5 H H'->Q (.int (zT S S')) H')
def oh:Sp:=fun vs H Q _=>LF vs H Q
inductive MN (vs:List V) (H:Hp) (Q:VK):Prop
 |mk (p ta hk bd lg:Δ) (n:Nat) (D:Dr) (v:V) (o:Option Kb) (p' ta' hk' bd' lg':Δ) (n':Nat) (D':Dr) (v':V) (o':Option Kb) (h1:vs=[.ref p,v,.ref p',v']) (h2:F7 K C H p ta hk bd lg n D) (h3:LI H v o) (h4:F7 K C H p' ta' hk' bd' lg' n' D') (h5:LI H v' o') (h6:Gw D) (h7:Gw D') (h8:ZL D o) (h9:ZL D' o') (h10:D.kss.length<=8) (h11:Md D o D' o') (h12:∀u H',F5 H H'->Eb H' u (Qr D o D' o')->Q u H')
def vc:Sp:=fun vs H Q _=>MN K C vs H Q
inductive LU (vs:List V) (H:Hp) (Q:VK):Prop
 |mk (p ta hk bd lg:Δ) (n:Nat) (D:Dr) (v:V) (o:Option Kb) (p' ta' hk' bd' lg':Δ) (n':Nat) (D':Dr) (v':V) (o':Option Kb) (h1:vs=[.ref p,v,.ref p',v']) (h2:F7 K C H p ta hk bd lg n D) (h3:LI H v o) (h4:F7 K C H p' ta' hk' bd' lg' n' D') (h5:LI H v' o') (h6:Gw D) (h7:Gw D') (h8:ZL D o) (h9:ZL D' o') (h10:D.kss.length<=8) (h11:DI D o D' o') (h12:∀u H',F5 H H'->D5 H' u (ZC D o D' o')->Q u H')
def uD:Sp:=fun vs H Q _=>LU K C vs H Q
structure GU(D:Dr):Prop where
 ok:Hg D
 dn:Gw D
 kn:DY D
 few:D.kn.length<=30
inductive LV (vs:List V) (H:Hp) (Q:VK):Prop
 |mk (p ta hk bd lg:Δ) (n:Nat) (D:Dr) (p' ta' hk' bd' lg':Δ) (n':Nat) (D':Dr) (h1:vs=[.ref p,.ref p']) (h2:F7 K C H p ta hk bd lg n D) (h3:F7 K C H p' ta' hk' bd' lg' n' D') (h4:GU D) (h5:GU D') (h6:Me D D') (h7:∀u ns H',F5 H H'->ns.Nodup->(∀k,k∈ns↔k∈D.kn.map (·.1)\/k∈D'.kn.map (·.1))->sortedS ns=true->HF H' u (Qp D D' ns)->Q u H')
def kR:Sp:=fun vs H Q _=>LV K C vs H Q
inductive LG (vs:List V) (H:Hp) (Q:VK):Prop
 |mk (p ta hk bd lg:Δ) (n:Nat) (D:Dr) (p' ta' hk' bd' lg':Δ) (n':Nat) (D':Dr) (h1:vs=[.ref p,.ref p']) (h2:F7 K C H p ta hk bd lg n D) (h3:F7 K C H p' ta' hk' bd' lg' n' D') (h4:GU D) (h5:GU D') (h6:Me D D') (h7:∀ns H',F5 H H'->ns.Nodup->(∀k,k∈ns↔k∈D.kn.map (·.1)\/k∈D'.kn.map (·.1))->sortedS ns=true->Q (.bl (Qp D D' ns).isNone) H')
def oJ:Sp:=fun vs H Q _=>LG K C vs H Q
end
inductive LW (K:μ) (C:Δ) (vs:List V) (H:Hp) (Q:VK):Prop
 |mk (p ta hk bd lg:Δ) (n:Nat) (D:Dr) (nm:Str) (h1:vs=[.ref p,.str nm]) (h2:F7 K C H p ta hk bd lg n D) (h3:∀v,LI H v (D.kn.lookup nm)->Q v H)
def CI(K:μ)(C:Δ):Sp:=fun vs H Q _=>LW K C vs H Q
theorem Mf.ofO{P:Ξ}{w:Ω}{K:μ}{mg:F3}{base:Ψ}{C:Δ}(a:Mf P w K mg base C "button_of" ["self","name"] 1 (ig K C)):Mf P w K mg base C "button_of" ["self","name"] 1 (CI K C):=
 a.weak fun vs H Q E ⟨p,ta,hk,bd,lg,n,D,nm,e,b,q⟩=>#[p,ta,hk,bd,lg,n,D,nm,e,b,(L3.MQ q).1,(L3.MQ q).2]
end L3
namespace Lw
open PySem L2 L3
section
variable{P:Ξ}{w:Ω}{K:μ}{mg:F3}{base:Ψ}{tk:Nat->Tok}{C:Δ}
theorem hV(a:At K mg "stretches_of" Z2 ["door","button","age"])(T:GQ K mg tk)(U:Hf K C)(dB:Mf P w K mg base C "takes_from" ["self","button","age"] 2 (bZ K C))(dE:Mf P w K mg base C "bounds_told" ["self"] 1 (eM K C)):Df P w K mg base "stretches_of" ["door","button","age"] 3 (xx K C):=by
 refine a.dq Gi fun f _ A _ s H vs Q E hr h=>?_
 ·obtain⟨p,ta,hk,bd,lg,n,D,v,o,age,rfl,b,hv,q⟩:=h
  refine#[_,(qe (qN (QW.pt (Z6 (qE QP (qv 1) zf (qy _)) (ZI (Qx (Qy (za dB U.cl hr.mo (qv 0) (qc (qv 1) (qc (qv 2) qb)))))))) (qg (ql (qF qb))) qB)
   (qe (zz (zS dE U.cl hr.mo (qv 0)) (zR rfl (qm (qh (i:=3) Gi.nd rfl (Or.inl rfl)) (qm (qh (i:=4) Gi.nd rfl (Or.inl rfl)) (qm (qh (i:=5) Gi.nd rfl (Or.inl rfl)) q9)))))
   (qe (zz (qv 1) (zR rfl (qm (qh (i:=6) Gi.nd rfl (Or.inl rfl)) (qm (qh (i:=7) Gi.nd rfl (Or.inl rfl)) (qm (qh (i:=8) Gi.nd rfl (Or.inl rfl)) q9)))))
   (qe (qw (i:=9) Gi.nd rfl (Or.inl rfl) (zC qb))
   (qe (qN (qE kL (qp qJ (qv 7) qf) (zg (v:= .int 4096) rfl T.g_COUNTS #[_,rfl]) (qy _)) (qg (Qg (ZA EF EI EJ zW (qv 9) (qc (qF (qc (qp qJ (qv 7) qf) (qc (qz (am rfl) T.b_min PyProof.Rows.boot_min (qc (qp qJ (qv 7) (qv 3)) (qc (qp Zf (zg (v:= .int 4096) rfl T.g_COUNTS #[_,rfl]) qf) qb))) qb))) qb)))) qB)
   (qe (qN (QW.pt (lX (qE cp (qv 8) zf (qy _)) (iU (qE ZK (qt qT (qv 8) qf) (qv 2) (qy _))))) (qe (qw (i:=10) Gi.nd rfl (Or.inl rfl) (qp qJ (qt qT (qv 8) qf) qf))
   (qg (qN (qE bt (qv 10) (qz (am rfl) T.b_min PyProof.Rows.boot_min (qc (qp qJ (qv 7) (qv 4)) (qc (qp Zf (zg (v:= .int 4096) rfl T.g_COUNTS #[_,rfl]) qf) qb))) (qy _)) (qg (Qg (ZA EF EI EJ zW (qv 9) (qc (qF (qc (qv 10) (qc (qv 10) qb))) qb)))) qB))) qB)
   (qg (ql (qH qV T.b_tuple J4 (qc (qv 9) qb)))))))))),?_]
  have none':(∀t H',F5 H H'->Ig H' t []->Q (.ref t) H')->∀t,H t=none->Q (.ref t) (F9 H t (.tup [])):=fun q t ht=>q t _ (F5.upd ht) #[[],qa,rfl,fun i a z h=>by cases h]
  cases o with
  |none=>
   have hv:v= .non:=hv
   subst hv
   exact#[_,rfl,rfl,_,rfl,ZE (Jh rfl) (zZ #[FV,none' q])]
  |some e=>
  obtain⟨x,rfl,v',hx,hw⟩:=hv;refine#[_,rfl,rfl,_,rfl,qY (fun y=>nomatch (Jx y)) (fun _=>?_)]
  refine#[_,rfl,p,rfl,b.no,_,rfl,_,rfl,p,ta,hk,bd,lg,x,n,D,e,age,rfl,b,#[v',hx,hw],_,rfl,?_]
  have q:∀t H',F5 H H'->Ig H' t (zp D e age)->Q (.ref t) H':=q
  unfold zp at q;cases ht:qG D e age with
  |false=>
   rw[Jc (by rw[ht];intro z;cases z)]at q
   exact zZ #[FV,none' q]
  |true=>
  rw[Jb ht]at q;obtain⟨AA,eA⟩:∃AA:List (Int×Int),(if e.last+1<4096 then [(e.last+1,if 4095<e.last+D.near then 4095 else e.last+D.near)]else [])=AA:=#[_,rfl]
  rw[eA]at q;have hA:AA.length<=1:=by rw[<- eA];split<;>simp
  refine zJ ?_
  refine#[_,rfl,p,rfl,b.no,p,ta,hk,bd,lg,n,D,rfl,b,fun t1 H1 s1 ht1=>#[t1,_,rfl,.tup ht1,rfl,_,_,rfl,_,_,rfl,_,_,rfl,rfl,?_]]
  refine#[_,rfl,x,_,rfl,.tup (s1 _ _ hx),rfl,_,_,rfl,_,_,rfl,_,_,rfl,rfl,?_]
  refine#[FV,fun sl hsl=>?_]
  have u2:=F5.upd (o:= .lst []) hsl
  have hsl0:=QR hsl s1;refine Qm (fun σ' H'=>F5 H H'/\Mo H' sl AA/\σ'=[some (.ref p),some (.ref x),some (.int age),some (.int D.near),some (.int D.far),some (.int D.most),some (.int e.age),some (.int e.last),some v',some (.ref sl),none]) (fun D' hrt hnx=>?_) ?_
  ·refine#[_,rfl,_,_,rfl,rfl,_,_,rfl,rfl,_,rfl,?_]
   by_cases h1:e.last+1<4096
   ·refine ZE (Jh h1) ?_
    refine#[_,rfl,.inl #[rfl,_,Gd.of qa],_,rfl,_,_,rfl,rfl,_,rfl,_,rfl,_,_,rfl,rfl,_,_,rfl,rfl,_,_,rfl,FX,fun y hy=>#[sl,_,_,rfl,rfl,(F5.upd hy) _ _ qa,by show 0<η;decide,hnx _ _ #[?_,?_,rfl]]]
    ·exact fun c o e=>by rw[qj (qk e hsl0)];exact F5.upd hy _ _ (u2 _ _ (s1 _ _ e))
    ·rw[<- eA,Jb h1]
     exact Mo.add (as:=[]) (zs:=[]) ((F5.upd hy) _ _ qa) rfl (fun i a z h=>by cases h) qa
   ·refine ZH (Jm h1) (hnx _ _ #[s1.trans u2,?_,rfl])
    rw[<- eA,Jc h1]
    exact#[[],qa,rfl,fun i a z h=>by cases h]
  rintro _ H3 ⟨s3,pr3,rfl⟩
  refine iW (fun σ' H'=>F5 H H'/\Mo H' sl (AA++(match e.wt with
   |none=>[]
   |some (x,w)=>if x=age/\w+1<=(if 4095<e.last+D.far then 4095 else e.last+D.far)then [(w+1,w+1)]else []))/\∃o,σ'=[some (.ref p),some (.ref x),some (.int age),some (.int D.near),some (.int D.far),some (.int D.most),some (.int e.age),some (.int e.last),some v',some (.ref sl),o]) (fun D' hrt hnx=>?_) ?_
  ·have hw3:=hw.same s3
   cases ew:e.wt with
   |none=>
    rw[ew]at hw3;have hv':v'= .non:=hw3
    subst hv';simp only
    exact#[_,rfl,rfl,_,rfl,ZH rfl (zJ (hnx _ _ #[s3,by rw[ew];simp only;rw[JV];exact pr3,_,rfl]))]
   |some xw=>
   obtain⟨x',w'⟩:=xw;rw[ew]at hw3;obtain⟨wa,rfl,hwa⟩:=hw3;simp only
   refine#[_,rfl,rfl,_,rfl,ZE rfl ?_]
   refine#[_,rfl,wa,_,_,_,rfl,rfl,Gh.of hwa,rfl,_,rfl,rfl,_,rfl,?_]
   by_cases h2:x'=age
   case neg=>
    refine ZH (Jm (by intro z;injection z with z;exact h2 z)) (hnx _ _ #[s3,?_,_,rfl])
    rw[ew];simp only
    rw[Jc (fun z=>h2 z.1),JV];exact pr3
   refine ZE (Jh (by rw[h2])) ?_
   refine#[_,rfl,wa,_,_,_,rfl,rfl,Gh.of hwa,rfl,_,_,rfl,rfl,?_]
   refine#[_,rfl,_,rfl,_,rfl,_,_,rfl,rfl,_,_,rfl,rfl,_,_,rfl,_,_,rfl,rfl,_,rfl,?_]
   by_cases h3:w'+1<=(if 4095<e.last+D.far then 4095 else e.last+D.far)
   ·refine ZE (Jh h3) ?_
    obtain⟨as,eas,las,has⟩:=pr3;refine#[_,rfl,.inl #[rfl,_,Gd.of eas],_,rfl,_,rfl,FX,fun y hy=>#[sl,_,_,rfl,rfl,(F5.upd hy) _ _ eas,by rw[Je,las,JF];omega,hnx _ _ #[?_,?_,_,rfl]]]
    ·exact fun c o e=>by rw[qj (qk e hsl0)];exact F5.upd hy _ _ (s3 _ _ e)
    ·rw[ew];simp only
     rw[Jb #[h2,h3]];exact Mo.add ((F5.upd hy) _ _ eas) las (fun i a z e1 e2=>F5.upd hy _ _ (has i a z e1 e2)) qa
   ·refine ZH (Jm h3) (hnx _ _ #[s3,?_,_,rfl])
    rw[ew];simp only
    rw[Jc (fun z=>h3 z.2),JV];exact pr3
  rintro _ H4 ⟨s4,⟨as,eas,las,has⟩,o,rfl⟩
  exact#[_,rfl,sl,_,rfl,.inl #[Gd.of eas,fun t ht=>q t _ (s4.trans (F5.upd ht)) #[as,qa,las,fun i a z e1 e2=>F5.upd ht _ _ (has i a z e1 e2)]]]
theorem dh(a:Ia K C "plain_step" "Door.plain_step" Qo ["self","button","age","count"])(T:GQ K mg tk)(U:Hf K C)(dB:Mf P w K mg base C "takes_from" ["self","button","age"] 2 (bZ K C))(d9:Df P w K mg base "step_by" ["button","age","count","near","far"] 2 ja):Mf P w K mg base C "plain_step" ["self","button","age","count"] 3 (gD K C):=by
 refine a.mq Z8 fun f _ A _ s H vs Q E hr h=>?_
 ·obtain⟨p,ta,hk,bd,lg,x,n,D,e,age,c,rfl,b,hx,q⟩:=h
  refine#[_,(qe (qN (Qx (Qy (za dB U.cl hr.mo (qv 0) (qc (qv 1) (qc (qv 2) qb))))) (qg (ql (qF (qc qR (qc (qv 1) qb))))) qB)
   (qg (ql (qr d9 hr.mo (qc (qv 1) (qc (qv 2) (qc (qv 3) (qc (qP (qv 0)) (qc (qP (qv 0)) qb))))))))),?_]
  refine#[_,rfl,p,rfl,b.no,_,rfl,_,rfl,p,ta,hk,bd,lg,x,n,D,e,age,rfl,b,hx,_,rfl,?_]
  unfold qI at q;cases ht:qG D e age with
  |false=>
   rw[ht,Jc (by intro z;cases z)]at q
   refine zZ #[_,rfl,FX,fun q1 hq1=>?_]
   exact q q1 x _ (F5.upd hq1) qa (hx.same (F5.upd hq1))
  |true=>
  rw[ht,Jb rfl]at q;refine zJ ?_
  exact#[_,rfl,_,rfl,_,rfl,_,rfl,p,_,rfl,b.h_near U,_,rfl,p,_,rfl,b.h_far U,x,e,age,c,D.near,D.far,rfl,hx,q]
theorem i4(a:At K mg "names_known" au ["door"])(T:GQ K mg tk)(U:Hf K C)(dG:Mf P w K mg base C "known_now" ["self"] 1 (gJ K C)):Df P w K mg base "names_known" ["door"] 2 (gh K C):=by
 refine a.dq jb fun f _ A _ s H vs Q E hr h=>?_
 ·obtain⟨p,ta,hk,bd,lg,n,D,rfl,b,ok,q⟩:=h
  refine#[_,(qg (ql (zL (own:=["row"]) (fr:=[]) (js:=[]) rfl (aV (zS dG U.cl hr.mo (qv 0))) rfl (fun _ _ h=>nomatch h) rfl (az rfl (by decide +kernel) (by decide +kernel) (by decide +kernel)) (fun _ _ _ _=>qh (i:=0) (show List.Nodup (["row"]:List Str)from by decide +kernel) rfl (Or.inl rfl) (.inr rfl)) (fun _ _ _ _=>(qt (aP (K:=K) rfl) (qv 0) qf))))),?_]
  refine#[_,rfl,p,rfl,b.no,p,ta,hk,bd,lg,n,D,rfl,b,ok,fun q1 ss H1 s1 pm so sh=>?_]
  obtain⟨as,e1,la,has⟩:=sh;have ls:ss.length<=60:=by rw[pm.length_eq,Je];exact ok.nl
  refine#[q1,rfl,#[_,Gh.of e1],aY (K:=K) (xs:=as.map V.ref) (by rw[Je,la,JF];omega) (fun i ys H2=>ys=(ss.take i).map V.str/\F5 H1 H2) #[by simp,F5.refl _] (fun i ys H2 ⟨_,s2⟩=>Gh.of (s2 _ _ e1)) ?_ ?_]
  ·rintro i ys H2 x hx hyl ⟨rfl,s2⟩
   rw[Jn]at hx;obtain⟨a1,ha1,rfl⟩:=JW.mp hx;have hi:i<ss.length:=by rw[<- la];exact(Jy.mp ha1).1
   have es:ss[i]? =some ss[i]:=Jg hi
   obtain⟨e,he⟩:=Zg (pm.mem_iff.mp (EZ hi))
   obtain⟨v,h1,_⟩:=has i a1 ss[i] e ha1 es he
   refine#[_,rfl,a1,_,_,_,rfl,rfl,Gh.of (s2 _ _ h1),rfl,?_,s2]
   rw[Ed,es,JJ];rfl
  ·rintro ys H2 hyl ⟨rfl,s2⟩ l hl
   refine q l ss _ ((s1.trans s2).trans (F5.upd hl)) pm ?_
   rw[qa,Je,la,Ep]
theorem kz(a:At K mg "lesser_end" bf ["one","first","other","second"])(T:GQ K mg tk)(U:Hf K C)(dE:Mf P w K mg base C "bounds_told" ["self"] 1 (eM K C)):Df P w K mg base "lesser_end" ["one","first","other","second"] 2 (oo K C):=by
 refine a.dq ke fun f _ A _ s H vs Q E hr h=>?_
 ·obtain⟨p,ta,hk,bd,lg,x,n,D,e,p',ta',hk',bd',lg',x',n',D',e',rfl,b,⟨v,hx,_⟩,b',⟨v',hx',_⟩,q⟩:=h
  refine#[_,(qg (ql (qz (am rfl) T.b_min PyProof.Rows.boot_min (qc (qp qJ (qt qT (qv 1) qf) (qt qT (zS dE U.cl hr.mo (qv 0)) qf)) (qc (qp qJ (qt qT (qv 3) qf) (qt qT (zS dE U.cl hr.mo (qv 2)) qf)) qb))))),?_]
  refine#[_,rfl,x,_,_,_,rfl,rfl,Gh.of hx,rfl,_,rfl,p,rfl,b.no,p,ta,hk,bd,lg,n,D,rfl,b,fun t1 H1 s1 ht1=>#[t1,_,_,_,rfl,rfl,Gh.of ht1,rfl,_,_,rfl,rfl,?_]]
  have b1:=b'.same s1
  exact#[_,rfl,x',_,_,_,rfl,rfl,Gh.of (s1 _ _ hx'),rfl,_,rfl,p',rfl,b1.no,p',ta',hk',bd',lg',n',D',rfl,b1,fun t2 H2 s2 ht2=>#[t2,_,_,_,rfl,rfl,Gh.of ht2,rfl,_,_,rfl,rfl,_,_,rfl,q _ (s1.trans s2)]]
end
section
variable{P:Ξ}{w:Ω}{K:μ}{mg:F3}{base:Ψ}{tk:Nat->Tok}{C:Δ}
theorem mB(a:At K mg "counts_in" bT ["stretches"])(T:GQ K mg tk):Df P w K mg base "counts_in" ["stretches"] 1 lO:=by
 refine a.dq lV fun f _ A _ s H vs Q E hr h=>?_
 ·obtain⟨t,S,rfl,pr,ok,q⟩:=h
  refine#[_,(qg (ql (vk (own:=["first","last","count"]) (fr:=[]) (js:=[]) rfl (aV (qv 0)) rfl (fun _ _ h=>nomatch h) rfl (az rfl (by decide +kernel) (by decide +kernel) (by decide +kernel)) (fun _ _ _ _=>Aq (K:=K) rfl 2 rfl (qm (qh (i:=0) (show List.Nodup (["first","last","count"]:List Str)from by decide +kernel) rfl (Or.inl rfl) (.inr rfl)) (qm (qh (i:=1) (show List.Nodup (["first","last","count"]:List Str)from by decide +kernel) rfl (Or.inl rfl) (.inr rfl)) q9))) (fun _ _ _ _=>(ff rfl T.b_range (qc (qv 0) (qc (qp qJ (qv 1) qf) qb)))) (fun _ _ _ _=>qh (i:=2) (show List.Nodup (["first","last","count"]:List Str)from by decide +kernel) rfl (Or.inl rfl) (.inr rfl)) (fun _ _ _ _=>(qv 2))))),?_]
  obtain⟨as,e1,la,has⟩:=id pr;have cl:∀i,(qK (S.take i)).length<=66:=fun i=>by
   refine JQ ?_ ok.cnt
   have e:qK S=qK (S.take i)++qK (S.drop i):=by unfold qK;rw[<- List.flatMap_append,List.take_append_drop]
   rw[e,Jt];exact Nat.le_add_right _ _
  refine#[_,rfl,t,rfl,#[_,Gh.of e1],?_]
  refine#[fun i m ys τ Hx=>m=S.length-i/\i<=S.length/\Hx=H/\ys=(qK (S.take i)).map V.int/\∃o0 o1 o2,τ=[o0,o1,o2],#[S.length,by simp,JC _,rfl,rfl,_,_,_,rfl],?_]
  rintro i m ys τ Hx ⟨rfl,hi,rfl,rfl,o0,o1,o2,rfl⟩
  by_cases hlt:i<S.length
  ·have hz:S[i]? =some S[i]:=Jg hlt
   obtain⟨z,ez⟩:∃z,z=S[i]:=#[_,rfl]
   rw[<- ez]at hz;have hia:i<as.length:=by rw[la];exact hlt
   have hA:(as.map V.ref)[i]? =some (.ref as[i]):=by rw[Jn,Jg hia];rfl
   refine .inr #[#[_,_,Gh.of e1,hA],fun x H' y=>?_]
   obtain⟨eH,hx⟩:H'=Hx/\(as.map V.ref)[i]? =some x:=#[y.1,y.2 _ (Gh.of e1)]
   subst eH;rw[hA]at hx;cases hx;have hb:=ok.bd z (J9 hz);refine#[_,_,rfl,Gh.of (has i _ z (Jg hia) hz),rfl,_,_,rfl,_,_,rfl,rfl,?_]
   refine#[_,rfl,_,rfl,_,_,rfl,rfl,_,_,rfl,#[by lia,by lia,by lia,by lia],?_]
   obtain⟨n,en⟩:∃n,n=(z.2+1-z.1).toNat:=#[_,rfl]
   have ln:=cl (i+1);rw[j5 hz,<- en,Jt,Je,List.length_range]at ln;refine#[fun i2 m2 zs τ Hx=>m2=n-i2/\i2<=n/\Hx=H'/\zs=(qK (S.take i)).map V.int++(List.range i2).map (fun k:Nat=>V.int (z.1+(k:Int)))/\∃o2,τ=[some (.int z.1),some (.int z.2),o2],#[n,by simp,JC _,rfl,by simp,_,rfl],?_]
   rintro i2 m2 zs τ Hy ⟨rfl,hi2,rfl,rfl,o2',rfl⟩
   by_cases hl2:i2<n
   ·refine .inr #[by rw[<- en];exact hl2,by rw[Jt,Je,Je,List.length_range,JF];lia,fun x2 H5 y2=>?_]
    obtain⟨eH5,rfl⟩:H5=Hy/\x2= .int (z.1+(i2:Int)):=y2
    subst eH5;refine#[fun v H7=>v= .int (z.1+(i2:Int))/\H7=H5,fun v H7 hv=>#[n-(i2+1),by lia,rfl,hl2,hv.2,?_,_,rfl],#[_,rfl,rfl,rfl]]
    rw[hv.1,List.range_succ,JJ,EL];rfl
   ·obtain rfl:i2=n:=by lia
    refine .inl #[by rw[<- en];exact Jf _,S.length-(i+1),by lia,rfl,hlt,rfl,?_,_,_,_,rfl]
    rw[j5 hz,<- en,JJ,Es];rfl
  ·obtain rfl:i=S.length:=by lia
   refine .inl #[#[_,Gh.of e1,by rw[Je,la];exact Jf _],fun p hp=>q p _ (F5.upd hp) ?_]
   rw[qa,Ep]
theorem iJ(a:At K mg "least_apart" av ["these","those"])(T:GQ K mg tk)(xF:Df P w K mg base "counts_in" ["stretches"] 1 lO):Df P w K mg base "least_apart" ["these","those"] 2 oh:=by
 refine a.dq i6 fun f _ A _ s H vs Q E hr h=>?_
 ·obtain⟨t,t',S,S',rfl,pr,pr',ok,ok',ne,xs,q⟩:=h
  refine#[_,(qg (ql (qt qA (qz (kD rfl) T.b_sorted PyProof.Rows.boot_sorted (qc (qp yZ (qH (gY rfl) T.b_set PyProof.Rows.boot_set (qc (qr xF hr.mo (qc (qv 0) qb)) qb)) (qH (gY rfl) T.b_set PyProof.Rows.boot_set (qc (qr xF hr.mo (qc (qv 1) qb)) qb))) qb)) qf))),?_]
  have c1:=ok.cnt;have c2:=ok'.cnt;have sb:PySem.scanBound=4096:=rfl
  refine#[_,rfl,t,S,rfl,pr,ok,fun l1 H1 s1 e1=>#[l1,qK S,rfl,Gd.of e1,by lia,fun z1 hz1=>?_]]
  have u1:=F5.upd (o:=bo P w z1 (S0.ddL (qK S))) hz1
  refine#[_,rfl,t',S',rfl,(pr'.same s1).same u1,ok',fun l2 H2 s2 e2=>#[l2,qK S',rfl,Gd.of e2,by lia,fun z2 hz2=>?_]]
  have u2:=F5.upd (o:=bo P w z2 (S0.ddL (qK S'))) hz2
  have ez1:=s2 _ _ (qa (H:=H1) (a:=z1) (o:=bo P w z1 (S0.ddL (qK S))))
  have d1:=fF (qK S);have d2:=fF (qK S');refine#[z1,z2,_,_,rfl,rfl,qk ez1 hz2,u2 _ _ ez1,qa,bu _,bu _,by lia,by lia,fun z3 ks hz3 nd len mem=>?_]
  have u3:=F5.upd (o:=bo P w z3 ks) hz3
  refine#[z3,ks,rfl,qa,xs ks nd (fun k=>by rw[mem,Zx,Zx]),fun l ms hl pm pw=>?_]
  have u4:=F5.upd (o:= .lst (ms.map V.int)) hl
  have hd:=rZ (ms:=ms) ok ok' (fun k=>by rw[pm.mem_iff,mem,Zx,Zx]) pw ne
  exact#[l,_,_,_,rfl,rfl,Gd.of qa,QD (j:=0) (by rw[Jn,hd];rfl),q _ (((((s1.trans u1).trans s2).trans u2).trans u3).trans u4)]
theorem iV(a:At K mg "press_apart" ay ["one","first","other","second"])(T:GQ K mg tk)(U:Hf K C)(xA:Mf P w K mg base C "keys_now" ["self"] 1 (oX K C))(dY:Df P w K mg base "stretches_of" ["door","button","age"] 3 (xx K C))(xG:Df P w K mg base "least_apart" ["these","those"] 2 oh):Df P w K mg base "press_apart" ["one","first","other","second"] 4 (vc K C):=by
 refine a.dq GJ fun f _ A _ s H vs Q E hr h=>?_
 ·obtain⟨p,ta,hk,bd,lg,n,D,v,o,p',ta',hk',bd',lg',n',D',v',o',rfl,b,hv,b',hv',dn,dn',k,k',k8,xs,q⟩:=h
  refine#[_,(qe (qZ JL rfl (zI rfl T.b_range (qc (qz qW T.b_len J3 (qc (zS xA U.cl hr.mo (qv 0)) qb)) qb)) (qh (i:=4) GJ.nd rfl (Or.inl rfl))
   (qe (qw (i:=5) GJ.nd rfl (Or.inl rfl) (qr dY hr.mo (qc (qv 0) (qc (qv 1) (qc (qv 4) qb)))))
   (qe (qw (i:=6) GJ.nd rfl (Or.inl rfl) (qr dY hr.mo (qc (qv 2) (qc (qv 3) (qc (qv 4) qb)))))
   (qg (qN (qE (BG hr) (qv 5) (qv 6) (qy _)) (qg (ql (qF (qc (qv 4) (qc (qr xG hr.mo (qc (qv 5) (qc (qv 6) qb))) qb))))) qB)))))
   (qg (ql zf))),?_]
  refine#[_,rfl,p,rfl,b.no,p,ta,hk,bd,lg,n,D,rfl,b,fun t0 as H0 s0 sq la _=>#[t0,_,rfl,.inr sq,_,rfl,by lia,by rw[Je,la];lia,?_]]
  rw[Je,la,EC];refine zV (n:=D.kss.length) (Pv:=fun i σ Hx=>F5 H Hx/\(∀x:Int,0<=x->x<0+(i:Int)->zm D x o=zm D' x o')/\∃o4 o5 o6,σ=[some (.ref p),some v,some (.ref p'),some v',o4,o5,o6]) #[s0,fun x h1 h2=>by lia,_,_,_,rfl] ?_ ?_
  ·rintro i σ H1 hi ⟨s1,no,o4,o5,o6,rfl⟩
   obtain⟨A,eA⟩:∃A:Int,A=0+(i:Int):=#[_,rfl]
   rw[<- eA]at no⊢;refine#[_,rfl,_,rfl,_,rfl,p,ta,hk,bd,lg,n,D,v,o,A,rfl,b.same s1,hv.same s1,fun t1 H2 s2 pr1=>?_]
   have S2:=s1.trans s2;refine#[_,rfl,_,rfl,_,rfl,p',ta',hk',bd',lg',n',D',v',o',A,rfl,b'.same S2,hv'.same S2,fun t2 H3 s3 pr2=>?_]
   have pr1:Ig H3 t1 (zm D A o):=Ig.same s3 pr1
   have pr2:Ig H3 t2 (zm D' A o'):=pr2
   have S3:=S2.trans s3;refine#[_,rfl,_,rfl,t1,t2,_,_,rfl,rfl,pr1,pr2,_,rfl,qY (fun y=>?_) (fun y=>?_)]
   ·have ne:=Jx y
    refine#[_,rfl,_,rfl,_,rfl,t1,t2,_,_,rfl,pr1,pr2,fw dn k A,fw dn' k' A,ne,xs A,fun H4 s4=>#[FX,fun tt htt=>?_]]
    have e1:Qr D o D' o'=some (A,zT (zm D A o) (zm D' A o')):=by
     unfold Qr;refine bp hi (by rw[<- eA];exact Jc ne) fun x x0 x1=>Jb (no x x0 (by lia))
    have:=q (.ref tt) _ ((S3.trans s4).trans (F5.upd (o:= .tup [.int A,.int (zT (zm D A o) (zm D' A o'))]) htt))
    rw[e1]at this;exact this #[tt,rfl,qa]
   ·have eq:=Decidable.not_not.mp (fun z=>y (Jh z))
    refine#[S3,fun x x0 x1=>?_,_,_,_,rfl]
    by_cases hx:x<A
    ·exact no x x0 hx
    ·obtain rfl:x=A:=by lia
     exact eq
  ·rintro σ H1 ⟨s1,no,o4,o5,o6,rfl⟩
   have e1:Qr D o D' o'=none:=zM fun x x0 x1=>Jb (no x x0 x1)
   have:=q .non _ s1
   rw[e1]at this;exact this rfl
theorem kF(a:At K mg "pair_apart" aU ["one","first","other","second"])(T:GQ K mg tk)(U:Hf K C)(dZ:Mf P w K mg base C "closed_now" ["self"] 1 (jQ K C))(dD:Mf P w K mg base C "plain_step" ["self","button","age","count"] 3 (gD K C))(xK:Df P w K mg base "lesser_end" ["one","first","other","second"] 2 (oo K C))(dL:Df P w K mg base "press_apart" ["one","first","other","second"] 4 (vc K C)):Df P w K mg base "pair_apart" ["one","first","other","second"] 5 (uD K C):=by
 refine a.dq Gm fun f _ A _ s H vs Q E hr h=>?_
 ·obtain⟨p,ta,hk,bd,lg,n,D,v,o,p',ta',hk',bd',lg',n',D',v',o',rfl,b,hv,b',hv',dn,dn',k,k',k8,xs,q⟩:=h
  refine#[_,(qe (qN (QW.pt (Z6 (qE QP (qv 1) zf (qy _)) (ZI (qE QP (qv 3) zf (qy _))))) (qg (ql zf)) qB)
   (qe (qw (i:=4) Gm.nd rfl (Or.inl rfl) (qz (tV rfl) T.b_max PyProof.Rows.boot_max (qc (qt qT (qv 1) qf) (qc (zS dZ U.cl hr.mo (qv 0)) qb))))
   (qe (qw (i:=5) Gm.nd rfl (Or.inl rfl) (qr xK hr.mo (qc (qv 0) (qc (qv 1) (qc (qv 2) (qc (qv 3) qb))))))
   (qe (qZ JL rfl (ff rfl T.b_range (qc (qv 5) (qc (qz (am rfl) T.b_min PyProof.Rows.boot_min (qc (qp qJ (qv 5) qf) (qc (zg (v:= .int 4096) rfl T.g_COUNTS #[_,rfl]) qb))) qb))) (qh (i:=6) Gm.nd rfl (Or.inl rfl))
   (qe (zz (za dD U.cl hr.mo (qv 0) (qc (qv 1) (qc (qv 4) (qc (qv 6) qb)))) (zR rfl (qm (qh (i:=7) Gm.nd rfl (Or.inl rfl)) (qm (qh (i:=8) Gm.nd rfl (Or.inl rfl)) q9))))
   (qe (zz (za dD U.cl hr.mo (qv 2) (qc (qv 3) (qc (qv 4) (qc (qv 6) qb)))) (zR rfl (qm (qh (i:=7) Gm.nd rfl (Or.inl rfl)) (qm (qh (i:=9) Gm.nd rfl (Or.inl rfl)) q9))))
   (qe (qw (i:=10) Gm.nd rfl (Or.inl rfl) (qr dL hr.mo (qc (qv 0) (qc (qv 8) (qc (qv 2) (qc (qv 9) qb))))))
   (qg (qN (qE cp (qv 10) zf (qy _)) (qg (ql (qF (qc (qF (qc (qv 4) (qc (qv 6) qb))) (qc (qv 10) qb))))) qB))))))
   (qg (ql zf)))))),?_]
  cases o with
  |none=>
   have hv:v= .non:=hv
   subst hv
   exact#[_,rfl,rfl,_,rfl,ZE (Jh rfl) (zZ (q .non H (F5.refl _) rfl))]
  |some e=>
  obtain⟨x,rfl,hx⟩:=hv;refine#[_,rfl,rfl,_,rfl,qY (fun y=>nomatch (Jx y)) (fun _=>?_)]
  cases o' with
  |none=>
   have hv':v'= .non:=hv'
   subst hv'
   exact#[_,rfl,rfl,_,rfl,zZ (q .non H (F5.refl _) rfl)]
  |some e'=>
  obtain⟨x',rfl,hx'⟩:=hv';refine#[_,rfl,rfl,_,rfl,zJ ?_]
  have k:Gu D e:=k
  have k':Gu D' e':=k'
  obtain⟨w1,h1,hw1⟩:=id hx;refine#[_,rfl,x,_,_,_,rfl,rfl,Gh.of h1,rfl,_,rfl,p,rfl,b.no,p,ta,hk,bd,lg,n,D,rfl,b,_,_,rfl,?_]
  refine#[_,rfl,_,rfl,_,rfl,_,rfl,p,ta,hk,bd,lg,x,n,D,e,p',ta',hk',bd',lg',x',n',D',e',rfl,b,hx,b',hx',fun H1 s1=>?_]
  obtain⟨A,eA⟩:∃A,A=qx e.age D.least:=#[_,rfl]
  obtain⟨L,eL⟩:∃L,L=zv D e D' e':=#[_,rfl]
  have Lb:0<=L/\L<=6000:=by
   have:=k.l0
   have:=k.l1
   have:=k'.l0
   have:=k'.l1
   have:=dn.n0
   have:=dn.nf
   have:=dn.f1
   have:=dn'.n0
   have:=dn'.nf
   have:=dn'.f1
   rw[eL];unfold zv Qf;split<;>lia
  refine#[_,rfl,_,rfl,_,_,rfl,rfl,_,_,rfl,_,_,rfl,#[by rw[<- eL];lia,by rw[<- eL];lia,by rw[<- eL];split<;>lia,by rw[<- eL];split<;>lia],?_]
  have eq0:ZC D (some e) D' (some e')=zG L (Qf (L+2) 4096-L).toNat fun c=>(Qr D (some (qI D e A c).2) D' (some (qI D' e' A c).2)).map fun p=>((A,c),p):=by rw[eL,eA];rfl
  refine zV (lo:=zv D e D' e') (Pv:=fun i σ Hx=>F5 H Hx/\(∀y:Int,L<=y->y<L+(i:Int)->Qr D (some (qI D e A y).2) D' (some (qI D' e' A y).2)=none)/\∃o6 o7 o8 o9 oa,σ=[some (.ref p),some (.ref x),some (.ref p'),some (.ref x'),some (.int A),some (.int L),o6,o7,o8,o9,oa]) #[s1,fun y h1 h2=>by lia,_,_,_,_,_,by rw[eL,eA];rfl] ?_ ?_
  ·rintro i σ H2 hi ⟨s2,no,o6,o7,o8,o9,oa,rfl⟩
   rw[<- eL]at hi⊢;have hi:i<(Qf (L+2) 4096-L).toNat:=hi
   have hi':(i:Int)<Qf (L+2) 4096-L:=by lia
   have cb:0<=L+(i:Int)/\L+(i:Int)<4096:=by unfold Qf at hi';split at hi'<;>lia
   refine#[_,rfl,p,rfl,(b.same s2).no,_,rfl,_,rfl,_,rfl,p,ta,hk,bd,lg,x,n,D,e,A,_,rfl,b.same s2,hx.same s2,fun q1 a1 H3 s3 hq1 ha1=>#[q1,_,rfl,.tup hq1,rfl,_,_,rfl,_,_,rfl,rfl,?_]]
   have S3:=s2.trans s3;refine#[_,rfl,p',rfl,(b'.same S3).no,_,rfl,_,rfl,_,rfl,p',ta',hk',bd',lg',x',n',D',e',A,_,rfl,b'.same S3,hx'.same S3,fun q2 a2 H4 s4 hq2 ha2=>#[q2,_,rfl,.tup hq2,rfl,_,_,rfl,_,_,rfl,rfl,?_]]
   have S4:=S3.trans s4;refine#[_,rfl,_,rfl,_,rfl,_,rfl,p,ta,hk,bd,lg,n,D,.ref a1,some (qI D e A (L+(i:Int))).2,p',ta',hk',bd',lg',n',D',.ref a2,some (qI D' e' A (L+(i:Int))).2,rfl,b.same S4,#[a1,rfl,ha1.same s4],b'.same S4,#[a2,rfl,ha2],dn,dn',Z1 dn k cb.1 cb.2,Z1 dn' k' cb.1 cb.2,k8,(by rw[eA];exact xs.2 e e' rfl rfl _ (by lia) cb.2),fun u H5 s5 ol=>?_]
   have S5:=S4.trans s5;cases ep:Qr D (some (qI D e A (L+(i:Int))).2) D' (some (qI D' e' A (L+(i:Int))).2)with
   |none=>
    rw[ep]at ol;have ol:u= .non:=ol
    subst ol;refine#[_,rfl,rfl,_,rfl,zJ #[S5,fun y y1 y2=>?_,_,_,_,_,_,rfl]]
    by_cases hy:y<L+(i:Int)
    ·exact no y y1 hy
    ·obtain rfl:y=L+(i:Int):=by lia
     exact ep
   |some pr=>
    rw[ep]at ol;obtain⟨tt,rfl,htt⟩:=ol;refine#[_,rfl,rfl,_,rfl,zZ ?_]
    refine#[_,rfl,_,rfl,FX,fun r1 hr1=>#[_,rfl,FX,fun r2 hr2=>?_]]
    have u1:=F5.upd (o:= .tup [.int A,.int (L+(i:Int))]) hr1
    have u2:=F5.upd (o:= .tup [.ref r1,.ref tt]) hr2
    have e1:ZC D (some e) D' (some e')=some ((A,L+(i:Int)),pr):=by
     rw[eq0];exact bp hi (by rw[ep];rfl) fun y y1 y2=>by rw[no y y1 y2];rfl
    have:=q (.ref r2) _ ((S5.trans u1).trans u2)
    rw[e1]at this;exact this #[r2,r1,tt,rfl,qa,u2 _ _ qa,u2 _ _ (u1 _ _ htt)]
  ·rintro σ H2 ⟨s2,no,o6,o7,o8,o9,oa,rfl⟩
   have e1:ZC D (some e) D' (some e')=none:=by
    rw[eq0];refine zM fun y y1 y2=>?_
    rw[no y y1 (by rw[eL]at y2⊢;exact y2)];rfl
   have:=q .non _ s2
   rw[e1]at this;exact this rfl
end
section
variable{P:Ξ}{w:Ω}{K:μ}{mg:F3}{base:Ψ}{tk:Nat->Tok}{C:Δ}
theorem rN(a:At K mg "telling" dv ["one","other"])(T:GQ K mg tk)(U:Hf K C)(x9:Mf P w K mg base C "button_of" ["self","name"] 1 (ig K C))(dJ:Df P w K mg base "names_known" ["door"] 2 (gh K C))(dL:Df P w K mg base "press_apart" ["one","first","other","second"] 4 (vc K C))(xJ:Df P w K mg base "pair_apart" ["one","first","other","second"] 5 (uD K C)):Df P w K mg base "telling" ["one","other"] 6 (kR K C):=by
 have dC:=x9.ofO;refine a.dq GN fun f _ A _ s H vs Q E hr h=>?_
 ·obtain⟨p,ta,hk,bd,lg,n,D,p',ta',hk',bd',lg',n',D',rfl,b,b',td,td',xs,q⟩:=h
  refine#[_,(qe (qw (i:=2) GN.nd rfl (Or.inl rfl) (qz (kE rfl) T.b_sorted PyProof.Rows.boot_sorted (qc (qp BP (qH (ik rfl) T.b_set PyProof.Rows.boot_set (qc (qr dJ hr.mo (qc (qv 0) qb)) qb)) (qH (ik rfl) T.b_set PyProof.Rows.boot_set (qc (qr dJ hr.mo (qc (qv 1) qb)) qb))) qb)))
   (qe (qZ JL rfl (zo (qv 2)) (qh (i:=3) GN.nd rfl (Or.inr rfl))
   (qe (qw (i:=4) GN.nd rfl (Or.inl rfl) (qr dL hr.mo (qc (qv 0) (qc (za dC U.cl hr.mo (qv 0) (qc (qv 3) qb)) (qc (qv 1) (qc (za dC U.cl hr.mo (qv 1) (qc (qv 3) qb)) qb))))))
   (qg (qN (qE cp (qv 4) zf (qy _)) (qg (ql (qF (qc (qp cm (qF (qc (qv 3) qb)) (qv 4)) qb)))) qB))))
   (qe (qZ JL rfl (zo (qv 2)) (qh (i:=3) GN.nd rfl (Or.inr rfl))
   (qe (qw (i:=5) GN.nd rfl (Or.inl rfl) (qr xJ hr.mo (qc (qv 0) (qc (za dC U.cl hr.mo (qv 0) (qc (qv 3) qb)) (qc (qv 1) (qc (za dC U.cl hr.mo (qv 1) (qc (qv 3) qb)) qb))))))
   (qg (qN (qE cp (qv 5) zf (qy _)) (qg (ql (qH qV T.b_tuple J4 (qc (zL (own:=["press"]) (fr:=["name"]) (js:=[3]) rfl (aV (qv 5)) rfl (i5 rfl) rfl (iM rfl (by decide +kernel) (by decide +kernel) (by decide +kernel) rfl rfl rfl) (fun _ _ _ _=>qh (i:=0) (show List.Nodup (["press","name"]:List Str)from by decide +kernel) rfl (Or.inl rfl) (.inr rfl)) (fun _ _ _ _=>(qp cm (qF (qc (qv 1) qb)) (qv 0)))) qb)))) qB))))
   (qg (ql zf))))),?_]
  have l30:∀{D:Dr} {ss:List Str},GU D->ss.Perm (D.kn.map (·.1))->ss.length<=30:=fun td pm=>by rw[pm.length_eq,Je];exact td.few
  refine#[_,rfl,p,ta,hk,bd,lg,n,D,rfl,b,td.ok,fun n1 ss1 H1 s1 pm1 e1=>?_]
  have ls1:=l30 td pm1;have sb:PySem.scanBound=4096:=rfl
  refine#[n1,ss1,rfl,Gd.of e1,by lia,fun z1 hz1=>?_]
  have u1:=F5.upd (o:=aQ P w z1 (S0.ddL ss1)) hz1
  refine#[_,rfl,p',ta',hk',bd',lg',n',D',rfl,(b'.same s1).same u1,td'.ok,fun n2 ss2 H2 s2 pm2 e2=>?_]
  have ls2:=l30 td' pm2;have d1:=fF ss1;have d2:=fF ss2;refine#[n2,ss2,rfl,Gd.of e2,by lia,fun z2 hz2=>?_]
  have u2:=F5.upd (o:=aQ P w z2 (S0.ddL ss2)) hz2
  have ez1:=s2 _ _ (qa (H:=H1) (a:=z1) (o:=aQ P w z1 (S0.ddL ss1)))
  refine#[z1,z2,_,_,rfl,rfl,qk ez1 hz2,u2 _ _ ez1,qa,bu _,bu _,by lia,fun z3 ks hz3 nd mem=>?_]
  have u3:=F5.upd (o:=aQ P w z3 ks) hz3
  have kl:ks.length<=60:=by
   have:=mR (m:=ss1++ss2) nd fun k hk=>JB.mpr (((mem k).mp hk).imp (Zx ss1 k).mp (Zx ss2 k).mp)
   rw[Jt]at this;lia
  refine#[z3,ks,rfl,qa,by lia,fun l5 ns hl5 pm5 so5=>?_]
  have u5:=F5.upd (o:= .lst (ns.map V.str)) hl5
  have S5:=((((s1.trans u1).trans s2).trans u2).trans u3).trans u5;have hmem:∀k,k∈ns↔k∈D.kn.map (·.1)\/k∈D'.kn.map (·.1):=fun k=>by
   rw[pm5.mem_iff,mem,Zx,Zx,pm1.mem_iff,pm2.mem_iff]
  have ndn:ns.Nodup:=pm5.nodup_iff.mpr nd
  have nl:ns.length<=60:=by rw[pm5.length_eq];exact kl
  have q:∀u H',F5 H H'->HF H' u (Qp D D' ns)->Q u H':=fun u H' s t=>q u ns H' s ndn hmem so5 t
  have k8:=td.ok.kl;clear u1 u2 u3 u5 ez1 mem pm5 pm1 pm2 d1 d2 ls1 ls2 kl nd hz1 hz2 hz3 hl5 e1 e2 s1 s2;refine Qm (fun σ' H'=>F5 H H'/\H' l5=some (.lst (ns.map V.str))/\ns.findSome? (zj D D')=none/\∃o3 o4 o5,σ'=[some (.ref p),some (.ref p'),some (.ref l5),o3,o4,o5]) (fun D0 hrt hnx=>?_) ?_
  ·refine#[_,rfl,l5,rfl,#[_,Gd.of qa],?_]
   refine zY (K:=K) (a:=l5) (xs:=ns.map V.str) (fun i σ Hx=>F5 H Hx/\Hx l5=some (.lst (ns.map V.str))/\(∀j z,j<i->ns[j]? =some z->zj D D' z=none)/\∃o3 o4 o5,σ=[some (.ref p),some (.ref p'),some (.ref l5),o3,o4,o5]) #[S5,qa,fun j z hj _=>absurd hj (Nat.not_lt_zero _),_,_,_,rfl] (fun i σ Hx _ h=>Gd.of h.2.1) ?_ ?_
   ·rintro i z σ H6 hz ⟨s6,e6,no,o3,o4,o5,rfl⟩
    rw[Jn]at hz;obtain⟨nm,hnm,rfl⟩:=JW.mp hz;refine#[_,rfl,_,rfl,p,rfl,(b.same s6).no,_,rfl,p,ta,hk,bd,lg,n,D,nm,rfl,b.same s6,fun v1 hv1=>?_]
    refine#[_,rfl,_,rfl,p',rfl,(b'.same s6).no,_,rfl,p',ta',hk',bd',lg',n',D',nm,rfl,b'.same s6,fun v2 hv2=>?_]
    refine#[p,ta,hk,bd,lg,n,D,v1,_,p',ta',hk',bd',lg',n',D',v2,_,rfl,b.same s6,hv1,b'.same s6,hv2,td.dn,td'.dn,td.kn nm,td'.kn nm,k8,(xs nm).1,fun u H7 s7 ol=>?_]
    have S7:=s6.trans s7;cases ep:Qr D (D.kn.lookup nm) D' (D'.kn.lookup nm)with
    |none=>
     rw[ep]at ol;have ol:u= .non:=ol
     subst ol;refine#[_,rfl,rfl,_,rfl,zJ #[S7,s7 _ _ e6,fun j z hj hz2=>?_,_,_,_,rfl]]
     by_cases hji:j<i
     ·exact no j z hji hz2
     ·obtain rfl:j=i:=by lia
      have ez:z=nm:=JG (hz2.symm.trans hnm)
      rw[ez];unfold zj;rw[ep];rfl
    |some pr=>
     rw[ep]at ol;obtain⟨tt,rfl,htt⟩:=ol;refine#[_,rfl,rfl,_,rfl,zZ ?_]
     refine#[_,rfl,FW,fun t0 ht0=>#[_,rfl,t0,tt,_,_,rfl,rfl,qa,(F5.upd ht0) _ _ htt,FY,fun pp H9 s9 hpp=>#[FW,fun r hr9=>?_]]]
     have u9:=F5.upd (o:= .tup [.ref pp]) hr9
     have e1:Qp D D' ns=some [(nm,pr.1,pr.2)]:=by
      unfold Qp;rw[aL (f:=zj D D') hnm (show zj D D' nm=some [(nm,pr.1,pr.2)] by unfold zj;rw[ep];rfl) no]
     have:=q (.ref r) _ (((S7.trans (F5.upd ht0)).trans s9).trans u9)
     rw[e1]at this;rw[hrt];exact this (HF.one qa (u9 _ _ hpp))
   ·rintro σ H6 ⟨s6,e6,no,o3,o4,o5,rfl⟩
    refine hnx _ _ #[s6,e6,QC fun x hx=>?_,_,_,_,rfl]
    obtain⟨j,hj,rfl⟩:=List.mem_iff_getElem.mp hx;exact no j _ (by rw[Je];exact hj) (Jg hj)
  clear S5
  rintro σ H5 ⟨s5,e5,none1,o3,o4,o5,rfl⟩
  have et:Qp D D' ns=ns.findSome? (ZY D D'):=by unfold Qp;rw[none1]
  rw[et]at q;refine#[_,rfl,l5,rfl,#[_,Gd.of e5],?_]
  refine zY (K:=K) (a:=l5) (xs:=ns.map V.str) (fun i σ Hx=>F5 H Hx/\Hx l5=some (.lst (ns.map V.str))/\(∀j z,j<i->ns[j]? =some z->ZY D D' z=none)/\∃o3 o4 o5,σ=[some (.ref p),some (.ref p'),some (.ref l5),o3,o4,o5]) #[s5,e5,fun j z hj _=>absurd hj (Nat.not_lt_zero _),_,_,_,rfl] (fun i σ Hx _ h=>Gd.of h.2.1) ?_ ?_
  ·rintro i z σ H6 hz ⟨s6,e6,no,o3,o4,o5,rfl⟩
   rw[Jn]at hz;obtain⟨nm,hnm,rfl⟩:=JW.mp hz;refine#[_,rfl,_,rfl,p,rfl,(b.same s6).no,_,rfl,p,ta,hk,bd,lg,n,D,nm,rfl,b.same s6,fun v1 hv1=>?_]
   refine#[_,rfl,_,rfl,p',rfl,(b'.same s6).no,_,rfl,p',ta',hk',bd',lg',n',D',nm,rfl,b'.same s6,fun v2 hv2=>?_]
   refine#[p,ta,hk,bd,lg,n,D,v1,_,p',ta',hk',bd',lg',n',D',v2,_,rfl,b.same s6,hv1,b'.same s6,hv2,td.dn,td'.dn,td.kn nm,td'.kn nm,k8,xs nm,fun u H7 s7 ol=>?_]
   have S7:=s6.trans s7;cases ep:ZC D (D.kn.lookup nm) D' (D'.kn.lookup nm)with
   |none=>
    rw[ep]at ol;have ol:u= .non:=ol
    subst ol;refine#[_,rfl,rfl,_,rfl,zJ #[S7,s7 _ _ e6,fun j z hj hz2=>?_,_,_,_,rfl]]
    by_cases hji:j<i
    ·exact no j z hji hz2
    ·obtain rfl:j=i:=by lia
     have ez:z=nm:=JG (hz2.symm.trans hnm)
     rw[ez];unfold ZY;rw[ep];rfl
   |some pr=>
    rw[ep]at ol;obtain⟨tt,x1,x2,rfl,htt,hx1,hx2⟩:=ol;refine#[_,rfl,rfl,_,rfl,zZ ?_]
    refine#[_,rfl,tt,rfl,#[_,Gh.of htt],?_]
    obtain⟨zs,ezs⟩:∃zs:qC,zs=[(nm,pr.1.1,pr.1.2),(nm,pr.2.1,pr.2.2)]:=#[_,rfl]
    refine aY (K:=K) (a:=tt) (xs:=[.ref x1,.ref x2]) (FX) (fun i ys Hx=>F5 H7 Hx/\∃as:List Δ,ys=as.map V.ref/\as.length=i/\∀(j:Nat) (a:Δ) (z:Str×Int×Int),as[j]? =some a->zs[j]? =some z->Hx a=some (.tup [.str z.1,.int z.2.1,.int z.2.2])) #[F5.refl _,[],rfl,rfl,fun j a z h=>by cases h] (fun i ys Hx h=>Gh.of (h.1 _ _ htt)) ?_ ?_
    ·rintro i2 ys H8 x hx hyl ⟨s8,as,rfl,la,has⟩
     obtain⟨xa,y,rfl,hxa,hzy⟩:∃(xa:Δ) (y:Int×Int),x= .ref xa/\H7 xa=some (.tup [.int y.1,.int y.2])/\∀z,zs[i2]? =some z->z=(nm,y.1,y.2):=by
      rw[ezs]
      match i2,hx with
      |0,hx=>cases hx;exact#[x1,pr.1,rfl,hx1,fun z h=>by cases h;rfl]
      |1,hx=>cases hx;exact#[x2,pr.2,rfl,hx2,fun z h=>by cases h;rfl]
     refine#[_,rfl,FW,fun t0 ht0=>#[_,rfl,t0,xa,_,_,rfl,rfl,qa,(F5.upd ht0) _ _ (s8 _ _ hxa),FY,fun pp H9 s9 hpp=>?_]]
     have S9:=(F5.upd (o:= .tup [.str nm]) ht0).trans s9
     refine#[s8.trans S9,as++[pp],by simp,by simp [la],fun j a z h1 h2=>?_]
     by_cases hj:j<as.length
     ·rw[J0 hj]at h1
      exact S9 _ _ (has j a z h1 h2)
     ·rw[JZ (by lia)]at h1
      cases ej:j-as.length with
      |succ k=>rw[ej]at h1;cases h1
      |zero=>
       rw[ej]at h1;cases h1
       obtain rfl:j=i2:=by lia
       rw[hzy z h2];exact hpp
    ·rintro ys H8 hyl ⟨s8,as,rfl,la,has⟩ l8 hl8
     have u8:=F5.upd (o:= .lst (as.map V.ref)) hl8
     refine#[l8,_,rfl,.inl #[Gd.of qa,fun r hr9=>?_]]
     have u9:=F5.upd (o:= .tup (as.map V.ref)) hr9
     have e1:ns.findSome? (ZY D D')=some zs:=aL (f:=ZY D D') hnm (show ZY D D' nm=some zs by rw[ezs];unfold ZY;rw[ep];rfl) no
     have:=q (.ref r) _ (((S7.trans s8).trans u8).trans u9)
     rw[e1]at this;exact this #[r,as,rfl,qa,by rw[ezs];exact la,fun j a z h1 h2=>u9 _ _ (u8 _ _ (has j a z h1 h2))]
  ·rintro σ H6 ⟨s6,e6,no,o3,o4,o5,rfl⟩
   have e1:ns.findSome? (ZY D D')=none:=QC fun x hx=>by
    obtain⟨j,hj,rfl⟩:=List.mem_iff_getElem.mp hx;exact no j _ (by rw[Je];exact hj) (Jg hj)
   have:=q .non _ s6
   rw[e1]at this;exact this rfl
theorem wf(a:At K mg "agree" iZ ["one","other"])(T:GQ K mg tk)(d8:Df P w K mg base "telling" ["one","other"] 6 (kR K C)):Df P w K mg base "agree" ["one","other"] 7 (oJ K C):=by
 refine a.dq vS fun f _ A _ s H vs Q E hr h=>?_
 ·obtain⟨p,ta,hk,bd,lg,n,D,p',ta',hk',bd',lg',n',D',rfl,b,b',td,td',xs,q⟩:=h
  refine#[_,(qg (ql (zX QP (qr d8 hr.mo (qc (qv 0) (qc (qv 1) qb))) zf (qy _)))),?_]
  refine#[_,rfl,_,rfl,p,ta,hk,bd,lg,n,D,p',ta',hk',bd',lg',n',D',rfl,b,b',td,td',xs,fun u ns H1 s1 nd mem so tl=>#[rfl,?_]]
  have:=q ns H1 s1 nd mem so
  cases e:Qp D D' ns with
  |none=>
   rw[e]at this tl;have tl:u= .non:=tl
   subst tl;exact this
  |some r=>
   rw[e]at this tl;obtain⟨t,as,rfl,_⟩:=tl;exact this
end
end Lw
namespace L3
open PySem PySem.Spec PyProof.Rows L2
def uZ(k:Nat)(js:List Nat)(g:TG)(tk tv:TE)(σ:L2.St)(Q:VK)(J:It)(H1:Hp):Prop:=∃W:Nat->Nat->List (qO×V)->L2.St->Hp->Prop,(∃m,W 0 m [] (σ0 k js σ) H1)/\∀i m ys τ H,W i m ys τ H->
 (J.stop i H/\∀p,H p=none->Q (.ref p) (F9 H p (.dK ys)))\/(J.go i H/\ys.length<η/\∀x H',J.yld i H x H'->g x τ H' fun τ2 H2=>∃N:qO->V->Hp->Prop,(∀k v H3,N k v H3->∃m',m'<m/\W (i+1) m' (G8 ys k v) τ2 H3)/\tk τ2 H2 fun x H3=>∃k,x=kV k/\tv τ2 H3 fun v H4=>N k v H4)
def lI(k:Nat)(js:List Nat)(wi:TI)(g:TG)(tk tv:TE):TE:=fun σ H Q=>wi σ H (uZ k js g tk tv σ Q)
section
variable{prog:Ξ}{w:Ω}{A:Around}{R:Result->Θ->Prop}{s:Θ}
theorem kh{kx vx target iter:Φ}{scope:Scope}{pos:Pos}{it:Γ}{D:Δ}{env:Env}(I:Nat->Θ->Prop)
  (turn:∀n s,I n s->ζ (model prog w) A (pyNext it) (fun r s₁=>match r with
   |none=>R (.ok .next) s₁
   | some v=>ζ (model prog w) A (letOwnedTupleGo target it v) (fun _ s₁'=>ζ (model prog w) A (assign target env v) (fun _ s₂=>ζ (model prog w) A (eval kx env) (fun kv s₃=>ζ (model prog w) A (eval vx env) (fun vv s₄=>
     ζ (model prog w) A (dictSet D kv vv) (fun _ s₅=>∃m,m<n/\I m s₅) (fun _ _=>False) s₄) (fun _ _=>False) s₃)
     (fun _ _=>False) s₂) (fun _ _=>False) s₁') (fun _ _=>False) s₁) (fun _ _=>False) s)
  (n:Nat)(h:I n s):
  codeAny (model prog w) A (.compLoop (.DictComp kx vx [#[target,iter,[],0]] scope pos) 0 it (.ref D) env) R s:=by
 refine codeAny_loop rfl I (fun n s hI=>?_) n h
 show ζ _ _ ((compTurn (.DictComp kx vx [#[target,iter,[],0]] scope pos) 0 it (.ref D) env).onRaise (fun x=>do noteFrame x env;theTreesLotGoes x)) _ _ s
 refine wpAny_noted ?_
 rw[compTurn_dict];refine Ja (Eh (Ja (Jw (turn n s hI) (fun r s₁ h₁=>?_) fun _ _ h'=>h'.elim)))
 cases r with
 |none=>exact Jd h₁
 |some v=>
  refine Ja (Jw h₁ (fun _ s₁' h₁'=>?_) fun _ _ h'=>h'.elim)
  refine Ja (Jw h₁' (fun _ s₂ h₂=>?_) fun _ _ h'=>h'.elim)
  exact Ja (Jd (Ja (Ja (Jw h₂ (fun kv s₄ h₄=>Ja (JD (Jw h₄ (fun vv s₅ h₅=>Ja (Eh (JD (Jw h₅ (fun _ s₆ h₆=>Jd #[rfl,h₆]) fun _ _ h'=>h'.elim)))) fun _ _ h'=>h'.elim))) fun _ _ h'=>h'.elim))))
end
variable{X:Cx}
theorem f6{P:Ξ}{w:Ω}{h:Ψ}{a:Δ}{vs:List (qO×Γ)}{o:Obj}(d:h.DictOf (qS P w) a vs)(e:h.get? a=some o)(v:Option Γ):o.data≠ .cell v:=by
 obtain⟨o',es,ep,h1,h2,h3,_⟩:=d;rw[h1]at e;cases e
 rw[h3];intro z;cases z
theorem tI{kx vx tg iter:Φ}{scope:Scope}{cl:List (Str×Δ)}{pos fpos:Pos}{fr own:List Str}{js:List Nat}{wi:TI}{g:TG}{tk tv:TE}{use:Option (Γ->Sem Unit)}{Post:F2}
  {MT:F4}{s:Θ}{σ:L2.St}{H:Hp}{Q:VK}
  (hc:X.calm=true)(hi:PI X tg iter wi)(hclos:closureFor scope X.env=pure cl)(hcl:∀y c,cl.lookup y=some c->X.env.cells.lookup y=some c)(hfr:cl.map (·.1)=fr)
  (S:GI X scope fr js)
  (hg:∀C s H fp,PG (qX X (own++fr) scope cl C s H fp) tg g)(hk:∀C s H fp,PE (qX X (own++fr) scope cl C s H fp) kx tk)(hv:∀C s H fp,PE (qX X (own++fr) scope cl C s H fp) vx tv)
  (hs:∀x,foldedSetIterable iter X.env x=pure x)
  (I:L2.F8 X MT σ H s)(h:lI own.length js wi g tk tv σ H Q)
  (hfin:∀(acc C:Δ) (s5:Θ) (H':Hp) (m:F3),L2.F8 X MT σ H' s5->s5.heap.Ns C m->LM X MT H' C->Q (.ref acc) H'->compPost (model X.prog X.w) X.A X.xe use Post (.ref acc) C (.ok .next) s5):
  ζ (model X.prog X.w) X.A (comprehension (.DictComp kx vx [#[tg,iter,[],0]] scope pos) scope X.env fpos newDict false (eval iter X.env) use) Post X.xe s:=by
 refine wpAny_comprehension_free (use:=use) rfl hs hclos S.kind S.names (qu (hi MT s σ H _ I h) fun v s1 h1=>qu h1 fun itv s2 h2=>?_)
 obtain⟨it,fp,tn,J,H2,e,I2,T,st2,f2,W,⟨m0,w0⟩,turn⟩:=h2;subst e;refine J5 (wpAny_newFunctionEnv S.nocell (by intro y hy;simp at hy) (fun h₁ hns₁ hsb₁=>?_) S.kind)
 dsimp only at hns₁ hsb₁⊢
 have hnew:(s2.heap.push {cls:= .type "dict",dict:=none,data:= .dict (List.toArray [])}).DictOf (qS X.prog X.w) s2.heap.objs.size []:=Ψ.DictOf.new s2.heap
 generalize hH2:s2.heap.push {cls:= .type "dict",dict:=none,data:= .dict (List.toArray [])}=G at hns₁ hsb₁ hnew⊢
 have hC:G.objs.size=s2.heap.objs.size+1:=by rw[<- hH2,JX]
 have hDC:s2.heap.objs.size≠G.objs.size:=by rw[hC];exact Jk (Ew _)
 have below:∀b,b<s2.heap.objs.size->b≠G.objs.size/\b≠s2.heap.objs.size:=fun b hb=>#[by rw[hC];exact Jk (Eo hb),Jk hb]
 have old:∀b o,s2.heap.get? b=some o->h₁.get? b=some o:=fun b o e=>hsb₁.extBut b o (below b (Ji e)).1 (Jj _ (hH2▸Jj _ e))
 have hacc:h₁.DictOf (qS X.prog X.w) s2.heap.objs.size []:=hnew.at fun o e=>hsb₁.extBut _ _ hDC (Jj _ e)
 let Y:Cx:=qX X (own++fr) scope cl G.objs.size s2 H2 fp
 obtain⟨fplt,IY,accfs,acccell,fpY⟩:=gE (own:=own) (js:=js) hcl hfr S I2 T st2 f2 hC old hns₁
 have loop:∀s₃:Θ,F8 Y [] (σ0 own.length js σ) H2 s₃->tn 0 s₃.heap->s₃.heap.DictOf (qS X.prog X.w) s2.heap.objs.size []->
   codeAny (model X.prog X.w) X.A (.compLoop (.DictComp kx vx [#[tg,iter,[],0]] scope pos) 0 (.ref it) (.ref s2.heap.objs.size) (compEnvC scope cl G.objs.size X.env))
    (compPost (model X.prog X.w) X.A X.xe use Post (.ref s2.heap.objs.size) G.objs.size) s₃:=by
  intro s₃ I3 st3 ha3;refine kh (fun n s'=>∃i ys τ H' its ob,F8 Y [(s2.heap.objs.size,ob)] τ H' s'/\tn i s'.heap/\(∀b∈fp,H' b=none)/\KV ys its/\s'.heap.DictOf (qS X.prog X.w) s2.heap.objs.size its/\ys.length<=η/\W i n ys τ H') ?_ m0 ?_
  ·rintro n s4 ⟨i,ys,τ,H4,its,ob,I4,st4,fr4,vl,dd,hz,w4⟩
   have pin4:=I4.pin (s2.heap.objs.size,ob) (by simp [Y,qX])
   rcases turn i n ys τ H4 w4 with⟨stop,qn⟩|⟨go,hlt,step⟩
   ·refine qu (T.done Y rfl rfl rfl hc i _ s4 τ H4 _ I4 (fpY fr4 (by simp)) st4 stop) fun r s5 zq=>?_
    obtain⟨hr,I5⟩:=zq;subst hr
    show compPost _ _ _ _ _ _ _ _ _
    obtain⟨m5,hn5,_⟩:=I5.loc;have pin5:=I5.pin (s2.heap.objs.size,ob) (by simp [Y,qX])
    have nacc:H4 s2.heap.objs.size=none:=pin5.2.1
    have B:=I5.base;have nC:H4 G.objs.size=none:=I5.free
    have dd5:s5.heap.DictOf (qS X.prog X.w) s2.heap.objs.size its:=dd.at fun o e=>by rw[pin4.1]at e;cases e;exact pin5.1
    obtain⟨z1,z2⟩:=gj (ob:= .dK ys) I2 f2 hC I5 nacc #[hz,E9 (J7 (JM (Nat.lt_trans (by decide) ((I2.mod.glob.keeps I2.bk).lt)) (Jf _))),its,vl,dd5]
    exact hfin s2.heap.objs.size G.objs.size s5 (F9 H4 s2.heap.objs.size (.dK ys)) m5 z1 hn5 z2 (qn _ nacc)
   ·refine qu (T.item Y rfl rfl rfl hc i _ s4 τ H4 _ I4 (fpY fr4 (by simp)) st4 go) fun r s5 zq=>?_
    obtain⟨u,hr,h5⟩:=zq;subst hr;refine qu h5 fun _ s6 zq=>?_
    obtain⟨x,H6,I6,r6,y6,st6,fr6⟩:=zq;have I6':=I6.pinned (fpY fr6 (by simp)) (T.obj _ _ st6)
    refine qu (hg _ _ _ _ _ s6 τ H6 x u _ I6' r6 (step x H6 y6)) fun _ s7 zq=>?_
    obtain⟨τ7,H7,I7,N,hN,q7⟩:=zq;refine qu (hk _ _ _ _ _ s7 τ7 H7 _ I7 q7) fun k' s7' zq=>?_
    obtain⟨yk,H7',I7',rk,kk,ek,q7'⟩:=zq;subst ek;refine qu (hv _ _ _ _ _ s7' τ7 H7' _ I7' q7') fun v' s8 zq=>?_
    obtain⟨y,H8,I8,r8,n8⟩:=zq;obtain⟨m',hm',w8⟩:=hN _ _ _ n8;have pin8:=I8.pin (s2.heap.objs.size,ob) (by simp [qX])
    have dd8:s8.heap.DictOf (qS X.prog X.w) s2.heap.objs.size its:=dd.at fun o e=>by rw[pin4.1]at e;cases e;exact pin8.1
    have pinfp:∀b∈fp,∀o,s6.heap.get? b=some o->s8.heap.get? b=some o/\H8 b=none:=fun b hb o e=>by
     have:=I8.pin (b,o) (JH _ (JH _ (Q1 hb e)))
     exact#[this.1,this.2.1]
    refine wpAny_dictSet_pairs (fG rk) dd8 (fun h' ha' hs'=>?_) (by have:=vl.length;omega)
    have I9:F8 Y [] τ7 H8 {s8 with heap:=h',toks:=s8.toks+1}:=by
     refine(I8.pins_of (pins':=[]) (by simp)).turned (t':=s8.toks+1) (it:=s2.heap.objs.size) (fun b o hb e=>(hs'.2 b hb).trans e) pin8.2.1 ?_ (.inr (Jf _)) (fun x c e=>acccell x c e) (fun p hp=>absurd (show p∈([]:F4)from by simpa [Y,qX]using hp) (by simp))
     exact hDC
    obtain⟨o9,ho9,_⟩:=Ψ.dictOf_iff.mp ha';refine#[m',hm',i+1,G8 ys kk y,τ7,H8,_,o9,I9.pins_of ?_,T.keep _ _ _ st6 fun b hb o e=>(hs'.2 b (below b (fplt b hb)).2).trans (pinfp b hb o e).1,fun b hb=>?_,vl.put kk r8,ha',?_,w8]
    ·intro p hp
     rw[Jl.mp hp]
     exact#[ho9,pin8.2.1,hDC,accfs,fun v z=>f6 ha' ho9 v z]
    ·obtain⟨o,e,_⟩:=T.obj _ _ st6 b hb
     exact(pinfp b hb o e).2
    ·have:=bN ys kk y;omega
  ·obtain⟨o3,ho3,_⟩:=Ψ.dictOf_iff.mp ha3
   refine#[0,[],σ0 own.length js σ,H2,[],o3,I3.pins_of ?_,st3,fun b hb=>(f2 b hb).1,.nil,ha3,JC _,w0]
   intro p hp;rw[Jl.mp hp]
   exact#[ho3,I2.hok.fresh (Jf _),hDC,accfs,fun v z=>f6 ha3 ho3 v z]
 have st1:tn 0 h₁:=T.keep _ _ _ st2 fun b _ o e=>old b o e
 exact codeAny_compStart_dict (loop _ IY st1 hacc) (T.self _ 0 _ _ _ st1 (loop _ IY st1 hacc))
theorem wW{kx vx tg iter:Φ}{scope:Scope}{cl:List (Str×Δ)}{pos spos py:Pos}{fr own:List Str}{js:List Nat}{wi:TI}{g:TG}{tk tv:TE}{i:Nat}{y:Str}
  (hN:X.N.Nodup)(hi':X.N[i]? =some y)(hx:f8 X.env.scope y)
  (hc:X.calm=true)(hi:PI X tg iter wi)(hclos:closureFor scope X.env=pure cl)(hcl:∀y c,cl.lookup y=some c->X.env.cells.lookup y=some c)(hfr:cl.map (·.1)=fr)
  (S:GI X scope fr js)
  (hg:∀C s H fp,PG (qX X (own++fr) scope cl C s H fp) tg g)(hk:∀C s H fp,PE (qX X (own++fr) scope cl C s H fp) kx tk)(hv:∀C s H fp,PE (qX X (own++fr) scope cl C s H fp) vx tv)
  (hs:∀x,foldedSetIterable iter X.env x=pure x:=by intro _;rfl)(hsw:swapsWith (.DictComp kx vx [#[tg,iter,[],0]] scope pos) (some (.Name y py)) spos.line X.env=pure true:=by rfl)
  (hf:X.fn y=true\/X.env.scope.names.lookup y=some .local:=by first|exact .inl rfl|exact .inr rfl|assumption):
  PS X (.Assign [.Name y py] (.DictComp kx vx [#[tg,iter,[],0]] scope pos) spos) (eG (lI own.length js wi g tk tv) (QK i)):=by
 intro MT s σ H D I h;rw[exec_Assign_Name_used _ _ _ _ hsw];refine Ja (Eh (Ja ?_))
 show ζ _ X.A (do let _ <- comprehension (.DictComp kx vx [#[tg,iter,[],0]] scope pos) scope X.env _ newDict false (eval iter X.env) (some (assign (.Name y py) X.env))) _ _ s
 refine Ja (Jw (tI (use:=some (assign (.Name y py) X.env)) (Post:=fun _ s'=>SP X MT D .next s') hc hi hclos hcl hfr S hg hk hv hs I h ?_) (fun _ s' hq=>Jd (Jd hq)) fun _ _ e=>e)
 intro acc C s5 H' m I5 hn aw q
 show ζ _ X.A (assign (.Name y py) X.env (.ref acc)) _ _ _
 refine wpAny_assign_Name (eR (v:= .ref acc) I5 hN hi' hx rfl (fun s6 I6 zq=>?_) hf)
 obtain⟨a,hs6,ha⟩:=zq;have hCa:C≠a:=by
  rcases ha with z|z
  ·rw[z];exact aw.loc
  ·exact Ne.symm (aw.cell _ _ z)
 refine#[m,hn.sameBut hs6 hCa,fun h' hs'=>?_]
 exact#[_,H',I6.turned (t':=s6.toks) (fun b o hb e=>(hs'.2 b hb).trans e) aw.free aw.loc (.inr aw.new) aw.cell aw.pin,q]
end L3
namespace L3
open PySem PySem.Spec PyProof.Rows L2
def zc(x:Int):Int:=if 4095<x then 4095 else x
def zP(D:Dr)(e:Kb)(a:Int):Option Int:=match e.wt with
 |none=>none
 |some (x,w)=>if x=a/\w+1<=zc (e.last+D.far)then some (w+1)else none
theorem cw{D:Dr}{e:Kb}{a:Int}(h1:e.last+1<4096)(ht:qG D e a=true):zp D e a=(e.last+1,zc (e.last+D.near))::(zP D e a).toList.map fun x=>(x,x):=by
 unfold zp zP zc;rw[Jb ht,Jb h1];cases e.wt with
 |none=>rfl
 |some p=>
  obtain⟨x,w⟩:=p;simp only
  by_cases h:x=a/\w+1<=(if 4095<e.last+D.far then 4095 else e.last+D.far)
  ·rw[Jb h,Jb h];rfl
  ·rw[Jc h,Jc h];rfl
theorem GC{D:Dr}{e:Kb}{a:Int}:qG D e a=true↔qx e.age D.least<=a/\a<D.kss.length:=by
 unfold qG Ze qx;rw[Ju,Ju,decide_eq_true_eq,decide_eq_true_eq,decide_eq_true_eq];constructor
 ·rintro⟨⟨h1,h2⟩,h3⟩
  split<;>lia
 ·rintro⟨h1,h2⟩
  split at h1<;>lia
theorem uI{D:Dr}{e:Kb}{a:Int}(ht:¬(qx e.age D.least<=a/\a<D.kss.length)):zp D e a=[]:=by
 unfold zp;rw[Jc fun z=>ht (GC.mp z)]
theorem Av{o o':Option Int}(h:(o.toList.map fun x:Int=>(x,x))=o'.toList.map fun x=>(x,x)):o=o':=by
 cases o with
 |none=>cases o' with
  |none=>rfl
  |some y=>cases h
 |some x=>cases o' with
  |none=>cases h
  |some y=>simp at h;rw[h]
structure Ib(D:Dr)(e:Kb)(D':Dr)(e':Kb):Prop where
 h1:e.last+1<4096
 l:e'.last=e.last
 A:qx e'.age D'.least=qx e.age D.least
 K:D'.kss.length=D.kss.length
 n:zc (e.last+D'.near)=zc (e.last+D.near)
theorem Ib.symm{D D':Dr}{e e':Kb}(s:Ib D e D' e'):Ib D' e' D e:=#[by rw[s.l];exact s.h1,s.l.symm,s.A.symm,s.K.symm,by rw[s.l];exact s.n.symm]
theorem Ib.str{D D':Dr}{e e':Kb}(s:Ib D e D' e')(a:Int):zp D e a=zp D' e' a↔(qx e.age D.least<=a->a<D.kss.length->zP D e a=zP D' e' a):=by
 by_cases h:qx e.age D.least<=a/\a<D.kss.length
 ·have h':qx e'.age D'.least<=a/\a<D'.kss.length:=by rw[s.A,s.K];exact h
  rw[cw s.h1 (GC.mpr h),cw (by rw[s.l];exact s.h1) (GC.mpr h'),s.l,s.n]
  constructor
  ·intro z _ _
   injection z with _ z
   exact Av z
  ·intro z
   rw[z h.1 h.2]
 ·have h':¬(qx e'.age D'.least<=a/\a<D'.kss.length):=by rw[s.A,s.K];exact h
  rw[uI h,uI h']
  exact#[fun _ h1 h2=>absurd #[h1,h2] h,fun _=>rfl]
theorem Ib.pa{D D':Dr}{e e':Kb}(s:Ib D e D' e')(l0:0<=qx e.age D.least):Qr D (some e) D' (some e')=none↔∀a,qx e.age D.least<=a->a<D.kss.length->zP D e a=zP D' e' a:=by
 constructor
 ·intro h a h1 h2
  exact(s.str a).mp (Qt h (by lia) h2) h1 h2
 ·intro h
  exact zM fun a _ _=>Jb ((s.str a).mpr (h a))
theorem re{D D':Dr}{e e':Kb}(d:Gw D)(d':Gw D')(k:Gu D e)(k':Gu D' e')(hk:D.kss.length=D'.kss.length)(no:Qr D (some e) D' (some e')=none)(h1:e.last+1<4096):Ib D e D' e':=by
 have a0:=k.a0;have a0':=k'.a0;have a1:=k.a1;have a1':=k'.a1;have lk:=d.lk;have lk':=d'.lk;have ll:=d.l0;have ll':=d'.l0;have b1:0<=qx e.age D.least/\qx e.age D.least<D.kss.length:=by unfold qx;split<;>lia
 have b2:0<=qx e'.age D'.least/\qx e'.age D'.least<D'.kss.length:=by unfold qx;split<;>lia
 have all:∀a:Int,0<=a->a<D.kss.length->zp D e a=zp D' e' a:=fun a h0 h1=>Qt no h0 h1
 have h2:e'.last+1<4096:=Decidable.byContradiction fun h2=>by
  have p1:=(ZZ d k h1 (a:=qx e.age D.least)).mpr #[JK _,b1.2]
  rw[all _ b1.1 b1.2,ZR d' k' h2]at p1;exact p1 rfl
 have e1:qx e.age D.least=qx e'.age D'.least:=by
  have p1:=(ZZ d k h1 (a:=qx e.age D.least)).mpr #[JK _,b1.2]
  rw[all _ b1.1 b1.2]at p1;have q1:=(ZZ d' k' h2).mp p1;have p2:=(ZZ d' k' h2 (a:=qx e'.age D'.least)).mpr #[JK _,b2.2]
  rw[<- all _ b2.1 (by rw[hk];exact b2.2)]at p2
  have q2:=(ZZ d k h1).mp p2;lia
 have:=all _ b1.1 b1.2
 rw[cw h1 (GC.mpr #[JK _,b1.2]),cw h2 (GC.mpr #[by rw[<- e1];exact JK _,by rw[<- hk];exact b1.2])]at this
 injection this with z _
 injection z with z1 z2
 have el:e'.last=e.last:=by lia
 rw[el]at z2
 exact#[h1,el,e1.symm,hk.symm,z2.symm]
def Q4(D:Dr)(e:Kb)(a c:Int):Prop:=e.last<c/\(c<=e.last+D.near\/(c<=e.last+D.far/\e.wt=some (a,c-1)))
theorem aJ{D:Dr}{e:Kb}{a c:Int}(ht:qG D e a=true)(h:Q4 D e a c):(qI D e a c).2=#[a,c,none]:=by
 unfold qI zx;rw[Jb ht,Jc (by have:=h.1;lia)]
 by_cases h2:c<=e.last+D.near
 ·rw[Jb h2]
 ·obtain⟨h3,h4⟩:=h.2.resolve_left h2
  rw[Jc h2,Jb h3,Jb h4]
theorem t8{D:Dr}{e:Kb}{a c:Int}(ht:qG D e a=true)(h:¬Q4 D e a c)(h1:e.last<c)(h2:c<=e.last+D.far):(qI D e a c).2=#[e.age,e.last,some (a,c)]:=by
 unfold qI zx;rw[Jb ht,Jc (by lia),Jc fun z=>h #[h1,.inl z],Jb h2,Jc fun z=>h #[h1,.inr #[h2,z]]]
theorem Qs{D:Dr}{e:Kb}{a c:Int}(nf:D.near<=D.far)(h:qG D e a=false\/c<=e.last\/e.last+D.far<c):(qI D e a c).2=e:=by
 rcases h with h|h|h
 ·unfold qI;rw[Jc (by rw[h];decide)]
 ·exact zD h
 ·by_cases h0:c<=e.last
  ·exact zD h0
  ·unfold qI zx
   split
   ·rw[Jc (by lia),Jc (by lia)]
   ·rfl
theorem Zy{D:Dr}{e:Kb}(d:Gw D)(k:Gu D e){a c:Int}(c1:c<=4095)(hn:¬c<=e.last+D.near)(h0:e.last<c):Q4 D e a c↔zP D e a=some c:=by
 unfold Q4 zP;cases ew:e.wt with
 |none=>exact#[fun z=>absurd z.2 (fun y=>y.elim hn fun y=>by cases y.2),fun z=>by cases z]
 |some p=>
  obtain⟨x,w⟩:=p;simp only
  constructor
  ·rintro⟨_,z|⟨z1,z2⟩⟩
   ·exact absurd z hn
   ·injection z2 with z2
    injection z2 with z2 z3
    subst z2;rw[Jb #[rfl,by unfold zc;split<;>lia]]
    congr 1;lia
  ·intro z
   split at z
   ·rename_i y
    injection z with z
    obtain⟨rfl,y2⟩:=y;refine#[h0,.inr #[by unfold zc at y2;split at y2<;>lia,by congr 2;lia]]
   ·cases z
section
variable{D D':Dr}{e e':Kb}{a c:Int}
theorem Ib.open_iff(s:Ib D e D' e')(d:Gw D)(d':Gw D')(k:Gu D e)(k':Gu D' e')(ow:zP D e a=zP D' e' a)(c1:c<=4095):Q4 D e a c↔Q4 D' e' a c:=by
 have key:∀{D D':Dr} {e e':Kb},Ib D e D' e'->Gw D->Gw D'->Gu D e->Gu D' e'->zP D e a=zP D' e' a->Q4 D e a c->Q4 D' e' a c:=fun{D D' e e'} s d d' k k' ow h=>by
  have hl:=s.l;have hn:=s.n;have h0:=h.1
  by_cases hc:c<=e.last+D.near
  ·refine#[by lia,.inl ?_]
   unfold zc at hn;rw[hl];split at hn<;>split at hn<;>lia
  ·have hc':¬c<=e'.last+D'.near:=by
    rw[hl];unfold zc at hn;split at hn<;>split at hn<;>lia
   have:=(Zy d k c1 hc h0).mp h
   rw[ow]at this
   exact(Zy d' k' c1 hc' (by lia)).mpr this
 exact#[key s d d' k k' ow,key s.symm d' d k' k ow.symm]
theorem Ib.opened(s:Ib D e D' e')(d:Gw D)(d':Gw D')(hA:qx e.age D.least<=a)(hc:e.last<c)(c1:c<=4095)(a0:0<=a):Qr D (some #[a,c,none]) D' (some #[a,c,none])=none:=by
 have hA':qx e'.age D'.least<=a:=by rw[s.A];exact hA
 have m1:qx a D.least=a:=by unfold qx at hA⊢;split at hA<;>split<;>lia
 have m2:qx a D'.least=a:=by unfold qx at hA'⊢;split at hA'<;>split<;>lia
 by_cases h:c+1<4096
 ·have s2:Ib D #[a,c,none] D' #[a,c,none]:=by
   refine#[h,rfl,by show qx a D'.least=qx a D.least;rw[m1,m2],s.K,?_]
   have hn:=s.n
   show zc (c+D'.near)=zc (c+D.near)
   unfold zc at hn⊢;split at hn<;>split at hn<;>split<;>split<;>lia
  exact(s2.pa (by show 0<=qx a D.least;rw[m1];exact a0)).mpr fun _ _ _=>rfl
 ·have sh:∀(D:Dr) (x:Int),zp D #[a,c,none] x=[]:=fun D x=>by
   unfold zp;split
   ·rfl
   ·rfl
  exact zM fun x _ _=>Jb (by show zp D _ x=zp D' _ x;rw[sh,sh])
theorem Qb{D:Dr}{ea l a c x:Int}:zP D #[ea,l,some (a,c)] x=if a=x/\c+1<=zc (l+D.far)then some (c+1)else none:=rfl
def fW(D:Dr)(e:Kb)(a c:Int):Kb:=if c<=e.last+D.far then#[e.age,e.last,some (a,c)]else e
theorem aN(nf:D.near<=D.far)(ht:qG D e a=true)(h:¬Q4 D e a c)(h1:e.last<c):(qI D e a c).2=fW D e a c:=by
 unfold fW;split
 ·rename_i z;exact t8 ht h h1 z
 ·rename_i z;exact Qs nf (.inr (.inr (by lia)))
theorem aO:(fW D e a c).last=e.last/\(fW D e a c).age=e.age:=by unfold fW;split<;>exact#[rfl,rfl]
theorem Ib.fW(s:Ib D e D' e'):Ib D (fW D e a c) D' (L3.fW D' e' a c):=by
 have f1:=aO (D:=D) (e:=e) (a:=a) (c:=c)
 have f2:=aO (D:=D') (e:=e') (a:=a) (c:=c)
 exact#[by rw[f1.1];exact s.h1,by rw[f1.1,f2.1];exact s.l,by rw[f1.2,f2.2];exact s.A,s.K,by rw[f1.1];exact s.n]
end
section
variable{D D':Dr}{e e':Kb}
def zy(D:Dr)(e:Kb)(D':Dr)(e':Kb)(a c:Int):Option (Int×Int):=Qr D (some (qI D e a c).2) D' (some (qI D' e' a c).2)
structure HY(D:Dr)(e:Kb)(D':Dr)(e':Kb):Prop where
 s:Ib D e D' e'
 d:Gw D
 d':Gw D'
 k:Gu D e
 k':Gu D' e'
 no:Qr D (some e) D' (some e')=none
theorem HY.a0(t:HY D e D' e'):0<=qx e.age D.least/\qx e.age D.least<D.kss.length:=by
 have:=t.k.a0
 have:=t.k.a1
 have:=t.d.l0
 have:=t.d.lk
 unfold qx;split<;>lia
theorem HY.symm(t:HY D e D' e'):HY D' e' D e:=#[t.s.symm,t.d',t.d,t.k',t.k,by rw[oV t.s.K];exact t.no]
theorem HY.ow(t:HY D e D' e'){a:Int}(h1:qx e.age D.least<=a)(h2:a<D.kss.length):zP D e a=zP D' e' a:=(t.s.pa t.a0.1).mp t.no a h1 h2
theorem ca(h:D.kss.length=D'.kss.length)(a c:Int):zy D e D' e' a c=zy D' e' D e a c:=oV h _ _
theorem xp{a x:Int}(h:zP D e a=some x):x<=zc (e.last+D.far):=by
 unfold zP at h;cases ew:e.wt with
 |none=>rw[ew]at h;cases h
 |some p=>
  rw[ew]at h;obtain⟨y,w⟩:=p;simp only at h
  split at h
  ·rename_i z;injection h with h;lia
  ·cases h
theorem aZ(x:Int):zc x<=x/\zc x<=4095:=by unfold zc;split<;>lia
theorem ie{x y:Int}(h:y<=x)(h2:y<=4095):y<=zc x:=by unfold zc;split<;>lia
theorem HY.ne(t:HY D e D' e'){a c:Int}(c1:c<=4095)(h:zy D e D' e' a c≠none):(qx e.age D.least<=a/\a<D.kss.length)/\e.last<c/\¬Q4 D e a c:=by
 have h1:qx e.age D.least<=a/\a<D.kss.length:=Decidable.byContradiction fun z=>h (by
  unfold zy;have z1:qG D e a=false:=EE.mpr fun y=>z (GC.mp y)
  have z2:qG D' e' a=false:=EE.mpr fun y=>z (by have:=GC.mp y;rw[t.s.A,t.s.K]at this;exact this)
  rw[Qs t.d.nf (.inl z1),Qs t.d'.nf (.inl z2)];exact t.no)
 have h2:e.last<c:=Decidable.byContradiction fun z=>h (by
  unfold zy;rw[Qs t.d.nf (.inr (.inl (by lia))),Qs t.d'.nf (.inr (.inl (by rw[t.s.l];lia)))];exact t.no)
 refine#[h1,h2,fun z=>h ?_]
 have z':=(t.s.open_iff t.d t.d' t.k t.k' (t.ow h1.1 h1.2) c1).mp z;unfold zy;rw[aJ (GC.mpr h1) z,aJ (GC.mpr (by rw[t.s.A,t.s.K];exact h1)) z']
 exact t.s.opened t.d t.d' h1.1 h2 c1 (by have:=t.a0;lia)
theorem HY.is(t:HY D e D' e'){a c:Int}(c1:c<=4095)(h1:qx e.age D.least<=a/\a<D.kss.length)(h2:e.last<c)(h3:¬Q4 D e a c):zy D e D' e' a c=none↔∀x,qx e.age D.least<=x->x<D.kss.length->zP D (fW D e a c) x=zP D' (fW D' e' a c) x:=by
 have h3':¬Q4 D' e' a c:=fun z=>h3 ((t.s.open_iff t.d t.d' t.k t.k' (t.ow h1.1 h1.2) c1).mpr z)
 unfold zy;rw[aN t.d.nf (GC.mpr h1) h3 h2,aN t.d'.nf (GC.mpr (by rw[t.s.A,t.s.K];exact h1)) h3' (by rw[t.s.l];exact h2)]
 have f1:=aO (D:=D) (e:=e) (a:=a) (c:=c)
 have:=(t.s.fW (a:=a) (c:=c)).pa (by rw[f1.2];exact t.a0.1)
 rw[f1.2]at this;exact this
theorem Q3{a c:Int}(h:c<=e.last+D.far):fW D e a c=#[e.age,e.last,some (a,c)]:=Jb h
theorem ZJ{a c:Int}(h:e.last+D.far<c):fW D e a c=e:=Jc (by lia)
theorem HY.wit1(t:HY D e D' e')(hf:D'.far<=D.far){a c:Int}(c1:c<=4095)(h:zy D e D' e' a c≠none):
  e.last+D'.far<=c/\((e.last+D'.far<=4095/\zy D e D' e' (qx e.age D.least) (e.last+D'.far)≠none)\/(e.last+D'.far+1<=4095/\zy D e D' e' (qx e.age D.least) (e.last+D'.far+1)≠none)):=by
 obtain⟨h1,h2,h3⟩:=t.ne c1 h;have nf:=t.d.nf;have nf':=t.d'.nf;have n0:=t.d.n0;have n0':=t.d'.n0;have el:=t.s.l;have A0:=t.a0;obtain⟨A,eA⟩:∃A,A=qx e.age D.least:=#[_,rfl]
 have hnn:¬c<=e.last+D.near:=fun z=>h3 #[h2,.inl z]
 have owA:=t.ow (a:=A) (by rw[eA];exact JK _) (by rw[eA];exact A0.2)
 have ow'le:∀{x a:Int},zP D' e' a=some x->x<=e.last+D'.far:=fun{x a} z=>by
  have z1:=xp z;have z2:=(aZ (e'.last+D'.far)).1;rw[el]at z2 z1;lia
 obtain⟨x,hx1,hx2,hx⟩:∃x,qx e.age D.least<=x/\x<D.kss.length/\zP D (fW D e a c) x≠zP D' (fW D' e' a c) x:=Classical.byContradiction fun z=>h ((t.is c1 h1 h2 h3).mpr fun x y1 y2=>Decidable.byContradiction fun y3=>z #[x,y1,y2,y3])
 rw[<- eA]at A0 hx1⊢;have next:e.last+D'.far+1<=4095->D'.far<D.far->e.last+D.near<e.last+D'.far+1->((∃y,A<=y/\y<D.kss.length/\zP D e y≠none)\/e.last+D'.far+2<=zc (e.last+D.far))->zy D e D' e' A (e.last+D'.far+1)≠none:=fun g1 g2 g4 g3 z=>by
  have no:¬Q4 D e A (e.last+D'.far+1):=fun y=>by
   have:=(Zy t.d t.k g1 (by lia) (by lia)).mp y
   rw[owA]at this
   have:=ow'le this
   lia
  have hA:qx e.age D.least<=A/\A<D.kss.length:=by rw[<- eA];exact#[JK _,A0.2]
  have all:=(t.is g1 hA (by lia) no).mp z
  rw[Q3 (D:=D) (e:=e) (by lia),ZJ (D:=D') (e:=e') (by rw[el];lia)]at all
  have n2:¬e.last+D'.far+2<=zc (e.last+D.far):=fun y=>by
   have:=all A hA.1 hA.2
   rw[Qb,Jb #[rfl,by lia]]at this
   have:=ow'le this.symm
   lia
  rcases g3 with⟨y,y1,y2,y3⟩|y
  ·have:=all y (by rw[<- eA];exact y1) y2
   rw[Qb,Jc (fun q=>n2 (by have:=q.2;lia)),<- t.ow (by rw[<- eA];exact y1) y2]at this
   exact y3 this.symm
  ·exact n2 y
 by_cases hc:c<=e.last+D'.far
 ·rw[Q3 (D:=D) (e:=e) (by lia),Q3 (D:=D') (e:=e') (by rw[el];lia),Qb,Qb,el]at hx
  have key:a=x/\c+1<=zc (e.last+D.far)/\¬c+1<=zc (e.last+D'.far):=by
   by_cases q1:a=x/\c+1<=zc (e.last+D.far)
   ·refine#[q1.1,q1.2,fun q=>hx ?_]
    rw[Jb q1,Jb #[q1.1,q]]
   ·refine absurd ?_ hx
    rw[Jc q1,Jc fun q=>q1 #[q.1,?_]]
    have:=q.2
    have z2:=aZ (e.last+D'.far);exact ie (by lia) (by lia)
  obtain⟨_,k2,k3⟩:=key;have z1:=aZ (e.last+D.far);have ec:c=e.last+D'.far:=Decidable.byContradiction fun z=>k3 (ie (by lia) (by lia))
  refine#[by lia,?_]
  by_cases ho:Q4 D e A (e.last+D'.far)
  ·right
   have o1:=(Zy t.d t.k (by lia) (by lia) (by lia)).mp ho
   exact#[by lia,next (by lia) (by lia) (by lia) (.inl #[A,JK _,A0.2,by rw[o1];exact fun z=>by cases z])]
  ·left
   refine#[by lia,fun z=>?_]
   have hA:qx e.age D.least<=A/\A<D.kss.length:=by rw[<- eA];exact#[JK _,A0.2]
   have all:=(t.is (by lia) hA (by lia) ho).mp z A hA.1 hA.2
   rw[Q3 (D:=D) (e:=e) (by lia),Q3 (D:=D') (e:=e') (by rw[el];lia),Qb,Qb,Jb #[rfl,by lia],Jc (fun q=>k3 (by have:=q.2;rw[el]at this;lia))]at all
   cases all
 ·have hc2:c<=e.last+D.far:=Decidable.byContradiction fun z=>hx (by
   rw[ZJ (D:=D) (e:=e) (by lia),ZJ (D:=D') (e:=e') (by rw[el];lia)]
   exact t.ow (by rw[<- eA];exact hx1) hx2)
  rw[Q3 (D:=D) (e:=e) hc2,ZJ (D:=D') (e:=e') (by rw[el];lia),Qb]at hx
  have near:e.last+D.near<e.last+D'.far+1:=Decidable.byContradiction fun z=>by
   have hn:=t.s.n;unfold zc at hn;split at hn<;>split at hn<;>lia
  refine#[by lia,.inr #[by lia,next (by lia) (by lia) near ?_]]
  by_cases q1:c+1<=zc (e.last+D.far)
  ·exact .inr (by lia)
  ·rw[Jc fun q=>q1 q.2]at hx
   exact .inl #[x,hx1,hx2,by rw[t.ow (by rw[<- eA];exact hx1) hx2];exact hx.symm]
theorem HY.wit(t:HY D e D' e'){a c:Int}(c1:c<=4095)(h:zy D e D' e' a c≠none):
  zv D e D' e'<=c/\((zv D e D' e'<=4095/\zy D e D' e' (qx e.age D.least) (zv D e D' e')≠none)\/(zv D e D' e'+1<=4095/\zy D e D' e' (qx e.age D.least) (zv D e D' e'+1)≠none)):=by
 have el:=t.s.l
 by_cases hf:D'.far<=D.far
 ·have ee:zv D e D' e'=e.last+D'.far:=by unfold zv Qf;rw[el];split<;>lia
  rw[ee];exact t.wit1 hf c1 h
 ·have ee:zv D e D' e'=e'.last+D.far:=by unfold zv Qf;rw[el];split<;>lia
  rw[ee];have h':zy D' e' D e a c≠none:=by rw[ca t.s.K];exact h
  have:=t.symm.wit1 (by lia) c1 h'
  rw[t.s.A]at this;rw[ca t.s.K.symm,ca t.s.K.symm];exact this
theorem HY.all{α:Type}(t:HY D e D' e')(g:Int->Int->Int×Int->α){lo:Int}{n:Nat}(l1:lo<=zv D e D' e')(l2:lo+n<=4096)(l3:∀c,c<=4095->c<=zv D e D' e'+1->c<lo+n):
  (zG 0 D.kss.length fun a=>zG lo n fun c=>(zy D e D' e' a c).map (g a c))=(ZC D (some e) D' (some e')).map fun q=>g q.1.1 q.1.2 q.2:=by
 obtain⟨A0,A1⟩:=t.a0;obtain⟨A,eA⟩:∃A,A=qx e.age D.least:=#[_,rfl]
 obtain⟨L,eL⟩:∃L,L=zv D e D' e':=#[_,rfl]
 have ep:ZC D (some e) D' (some e')=zG L (Qf (L+2) 4096-L).toNat fun c=>(zy D e D' e' A c).map fun p=>((A,c),p):=by rw[eL,eA];rfl
 have wit:∀{a c:Int},c<=4095->zy D e D' e' a c≠none->L<=c/\((L<=4095/\zy D e D' e' A L≠none)\/(L+1<=4095/\zy D e D' e' A (L+1)≠none)):=fun{a c} c1 h=>by rw[eL,eA];exact t.wit c1 h
 have low:∀{a c:Int},c<=4095->a<A->zy D e D' e' a c=none:=fun{a c} c1 h=>Decidable.byContradiction fun z=>by
  have:=(t.ne c1 z).1.1
  lia
 rw[<- eA]at A0 A1;rw[<- eL]at l1 l3;rw[ep];have found:∀i:Nat,(i=0\/i=1)->L+(i:Int)<=4095->(∀j:Nat,j<i->zy D e D' e' A (L+(j:Int))=none)->∀p,zy D e D' e' A (L+(i:Int))=some p->(zG 0 D.kss.length fun a=>zG lo n fun c=>(zy D e D' e' a c).map (g a c))=(zG L (Qf (L+2) 4096-L).toNat fun c=>(zy D e D' e' A c).map fun p=>((A,c),p)).map fun q=>g q.1.1 q.1.2 q.2:=fun i hi h1 h2 p hp=>by
  have r:zG L (Qf (L+2) 4096-L).toNat (fun c=>(zy D e D' e' A c).map fun p=>((A,c),p))=some ((A,L+(i:Int)),p):=by
   refine bp (i:=i) (by unfold Qf;split<;>lia) (by rw[hp];rfl) fun x x0 x1=>?_
   have:=h2 (x-L).toNat (by lia)
   rw[show L+((x-L).toNat:Int)=x by lia]at this
   rw[this];rfl
  rw[r];have c3:=l3 (L+(i:Int)) h1 (by lia)
  refine bp (i:=A.toNat) (by lia) ?_ fun x x0 x1=>zM fun c c0 c1=>by rw[low (by lia) (by lia)];rfl
  rw[show(0:Int)+(A.toNat:Int)=A by lia]
  refine bp (i:=(L+(i:Int)-lo).toNat) (by lia) (by rw[show lo+((L+(i:Int)-lo).toNat:Int)=L+(i:Int) by lia,hp];rfl) fun c c0 c1=>?_
  have:zy D e D' e' A c=none:=Decidable.byContradiction fun z=>by
   have w:=(wit (by lia) z).1
   have:=h2 (c-L).toNat (by lia)
   rw[show L+((c-L).toNat:Int)=c by lia]at this
   exact z this
  rw[this];rfl
 by_cases h0:L<=4095/\zy D e D' e' A L≠none
 ·obtain⟨p,hp⟩:=Option.ne_none_iff_exists'.mp h0.2
  exact found 0 (.inl rfl) (by lia) (fun j hj=>absurd hj (Nat.not_lt_zero _)) p (by rw[show L+((0:Nat):Int)=L by lia];exact hp)
 by_cases h1:L+1<=4095/\zy D e D' e' A (L+1)≠none
 ·obtain⟨p,hp⟩:=Option.ne_none_iff_exists'.mp h1.2
  refine found 1 (.inr rfl) (by lia) (fun j hj=>?_) p hp
  obtain rfl:j=0:=by lia
  rw[show L+((0:Nat):Int)=L by lia]
  exact Decidable.byContradiction fun z=>h0 #[by lia,z]
 have none1:∀{a c:Int},c<=4095->zy D e D' e' a c=none:=fun{a c} c1=>Decidable.byContradiction fun z=>by
  rcases(wit c1 z).2 with y|y
  ·exact h0 y
  ·exact h1 y
 rw[zM fun a _ _=>zM fun c c0 c1=>by rw[none1 (by lia)];rfl,zM fun c c0 c1=>by rw[none1 (by unfold Qf at c1;split at c1<;>lia)];rfl]
 rfl
end
section
variable{D D':Dr}{e:Kb}{nm:Str}{a c:Int}
theorem oK(nf:D.near<=D.far)(he:D.kn.lookup nm=some e):Qn D nm a c="open"↔qG D e a=true/\Q4 D e a c:=by
 have no1:¬(("":Str)="open"):=by decide
 have no3:¬(("wait":Str)="open"):=by decide
 unfold Qn Q4;rw[he];simp only
 by_cases ht:qG D e a=true
 ·rw[Jb ht]
  by_cases h1:c-e.last<1\/c-e.last>D.far
  ·rw[Jb h1]
   exact#[fun z=>absurd z no1,fun z=>absurd z.2 fun y=>by rcases y.2 with q|q<;>lia]
  ·rw[Jc h1]
   by_cases h2:c-e.last<=D.near\/e.wt=some (a,c-1)
   ·rw[Jb h2]
    exact#[fun _=>#[ht,by lia,h2.imp (fun _=>by lia) fun q=>#[by lia,q]],fun _=>rfl]
   ·rw[Jc h2]
    exact#[fun z=>absurd z no3,fun z=>absurd (z.2.2.imp (fun q=>by lia) fun q=>q.2) h2]
 ·rw[Jc ht]
  exact#[fun z=>absurd z no1,fun z=>absurd z.1 ht]
theorem uU(d:Gw D)(k:Gu D e)(c1:c<=4095):Qz c (zp D e a)=true↔qG D e a=true/\Q4 D e a c:=by
 have n0:=d.n0;have nf:=d.nf;have l1:=k.l1
 by_cases ht:qG D e a=true
 ·by_cases h1:e.last+1<4096
  ·rw[cw h1 ht]
   unfold Qz;rw[Ef,Bool.or_eq_true,Ju,decide_eq_true_eq,decide_eq_true_eq];have ow:(((zP D e a).toList.map fun x=>(x,x)).any fun p=>decide (p.1<=c)&&decide (c<=p.2))=true↔zP D e a=some c:=by
    cases zP D e a with
    |none=>exact#[(fun z=>by cases z),fun z=>by cases z]
    |some x=>
     show((decide (x<=c)&&decide (c<=x))||false)=true↔_
     rw[Bool.or_false,Ju,decide_eq_true_eq,decide_eq_true_eq,Option.some.injEq];lia
   rw[ow];simp only
   by_cases hn:c<=e.last+D.near
   ·constructor
    ·rintro(z|z)
     ·exact#[ht,by lia,.inl hn]
     ·have:=ow_gt d k z
      lia
    ·rintro⟨_,z,_⟩
     exact .inl #[by lia,ie hn c1]
   ·have hc:¬(e.last+1<=c/\c<=zc (e.last+D.near)):=fun z=>by
     have:=aZ (e.last+D.near)
     lia
    constructor
    ·rintro(z|z)
     ·exact absurd z hc
     ·have h0:e.last<c:=by lia
      exact#[ht,(Zy d k c1 hn h0).mpr z]
    ·rintro⟨_,z⟩
     exact .inr ((Zy d k c1 hn z.1).mp z)
  ·rw[ZR d k h1]
   exact#[(fun z=>by cases z),fun z=>by have:=z.2.1;lia]
 ·have:zp D e a=[]:=by unfold zp;rw[Jc ht]
  rw[this]
  exact#[(fun z=>by cases z),fun z=>absurd z.1 ht]
where
 ow_gt {D:Dr} {e:Kb} {a x:Int} (d:Gw D) (k:Gu D e) (h:zP D e a=some x):e.last+D.near<x:=by
  unfold zP at h;cases ew:e.wt with
  |none=>rw[ew]at h;cases h
  |some p=>
   obtain⟨y,w⟩:=p;rw[ew]at h
   have:=k.w y w ew
   simp only at h
   split at h
   ·injection h with h;lia
   ·cases h
theorem sG(d:Gw D)(k:Gu D e)(h:Qz c (zp D e a)=true):e.last<c/\c<=e.last+D.far/\c<=4095:=by
 have c1:c<=4095:=Decidable.byContradiction fun z=>by rw[(pv d k a).out (.inr (by lia))]at h;cases h
 obtain⟨_,h1,h2⟩:=(uU d k c1).mp h
 have nf:=d.nf
 exact#[h1,h2.elim (fun z=>by lia) fun z=>z.1,c1]
theorem hW(d:Gw D)(k:ZL D (D.kn.lookup nm))(c1:c<=4095):HZ D nm a c=Qz c (zm D a (D.kn.lookup nm)):=by
 unfold HZ;rw[Ej,decide_eq_true_eq];cases he:D.kn.lookup nm with
 |none=>
  have:Qn D nm a c="":=by unfold Qn;rw[he]
  rw[this]
  exact#[fun z=>absurd z (by decide),fun z=>by cases z]
 |some e=>
  rw[he]at k;rw[oK d.nf he]
  exact(uU d k c1).symm
theorem nY{lo:Int}{n:Nat}(d:Gw D)(d':Gw D')(k:ZL D (D.kn.lookup nm))(k':ZL D' (D'.kn.lookup nm))(l0:0<=lo)(l1:lo+n<=4096)
  (hb:∀a x,zm D a (D.kn.lookup nm)≠zm D' a (D'.kn.lookup nm)->Qz x (zm D a (D.kn.lookup nm))=true\/Qz x (zm D' a (D'.kn.lookup nm))=true->lo<=x/\x<lo+n):lN D D' D.kss.length lo n nm=zj D D' nm:=by
 unfold lN zj Qr;rw[iL];refine Qi fun a _ _=>?_
 have hb:=hb a;obtain⟨S,eS⟩:∃S,S=zm D a (D.kn.lookup nm):=#[_,rfl]
 obtain⟨S',eS'⟩:∃S',S'=zm D' a (D'.kn.lookup nm):=#[_,rfl]
 have e1:CV D D' lo n nm a=(Ql lo (lo+n) (QZ S S')).map fun c=>[(nm,a,c)]:=by
  rw[<- tL];refine Qi fun c c0 c1=>?_
  rw[hW d k (by lia),hW d' k' (by lia),<- eS,<- eS']
  unfold QZ
  by_cases z:Qz c S=Qz c S'
  ·rw[Jb z,Jm (fun y=>y z),Jc (by decide)]
  ·rw[Jc z,Jh z,Jb rfl]
 rw[e1,<- eS,<- eS'];rw[<- eS,<- eS']at hb
 by_cases z:S=S'
 ·rw[Jb z]
  have:Ql lo (lo+n) (QZ S S')=none:=sT fun x _ _=>by
   unfold QZ;rw[z];exact Jm fun y=>y rfl
  rw[this];rfl
 ·rw[Jc z]
  obtain⟨q1,q2,q3,q4⟩:=aF (io (by rw[eS];exact fw d k a) (by rw[eS'];exact fw d' k' a) z)
  have w:=hb (zT S S') z (by
   have:=Jx q3
   cases y:Qz (zT S S') S with
   |true=>exact .inl rfl
   |false=>cases y':Qz (zT S S') S' with
    |true=>exact .inr rfl
    |false=>rw[y,y']at this;exact absurd rfl this)
  rw[wM w.1 w.2 q3 fun x x0 x1=>q4 x (by lia) x1];rfl
end
section
variable{D:Dr}{e:Kb}
theorem Q2(d:Gw D)(k:Gu D e)(h:∀a:Int,0<=a->a<D.kss.length->zp D e a=[]):¬e.last+1<4096:=fun h1=>by
 have:=k.a0
 have:=k.a1
 have:=d.l0
 have:=d.lk
 have b1:0<=qx e.age D.least/\qx e.age D.least<D.kss.length:=by unfold qx;split<;>lia
 exact(ZZ d k h1 (a:=qx e.age D.least)).mpr #[JK _,b1.2] (h _ b1.1 b1.2)
end
end L3
namespace L3
open PySem PySem.Spec PyProof.Rows L2 SeqAt
section
variable{X:Cx}
theorem vA{kx vx tg iter:Φ}{scope:Scope}{cl:List (Str×Δ)}{pos spos py:Pos}{fr own:List Str}{js:List Nat}{wi:TI}{g:TG}{tk tv:TE}{i:Nat}{y:Str}
  (hN:X.N.Nodup)(hi':X.N[i]? =some y)(hx:f8 X.env.scope y)
  (hc:X.calm=true)(hi:QI X tg iter wi)(hclos:closureFor scope X.env=pure cl)(hcl:∀y c,cl.lookup y=some c->X.env.cells.lookup y=some c)(hfr:cl.map (·.1)=fr)
  (S:GI X scope fr js)
  (hg:∀C s H fp,QG (qX X (own++fr) scope cl C s H fp) tg g)(hk:∀C s H fp,QE (qX X (own++fr) scope cl C s H fp) kx tk)(hv:∀C s H fp,QE (qX X (own++fr) scope cl C s H fp) vx tv)
  (hs:∀x,foldedSetIterable iter X.env x=pure x:=by intro _;rfl)(hsw:swapsWith (.DictComp kx vx [#[tg,iter,[],0]] scope pos) (some (.Name y py)) spos.line X.env=pure true:=by rfl)
  (hf:X.fn y=true\/X.env.scope.names.lookup y=some .local:=by first|exact .inl rfl|exact .inr rfl|assumption):
  QS X (.Assign [.Name y py] (.DictComp kx vx [#[tg,iter,[],0]] scope pos) spos) (eG (lI own.length js wi g tk tv) (QK i)):=
 #[wW hN hi' hx hc hi.h hclos hcl hfr S (fun C s H fp=>(hg C s H fp).h) (fun C s H fp=>(hk C s H fp).h) (fun C s H fp=>(hv C s H fp).h) hs hsw hf]
theorem sg{K:μ}{js:List Nat}{tk tv:TE}{σ:L2.St}{H:Hp}{Q:VK}{a:Δ}{xs:List V}(hn:xs.length<=η)(Pv:Nat->List (qO×V)->Hp->Prop)(h0:Pv 0 [] H)(hl:∀i ys H,Pv i ys H->Gd K H a xs)
  (hs:∀i ys H x,xs[i]? =some x->ys.length=i->Pv i ys H->tk (some x::aA js σ) H fun u H3=>∃k,u=kV k/\tv (some x::aA js σ) H3 fun v H4=>Pv (i+1) (G8 ys k v) H4/\(G8 ys k v).length=i+1)
  (hd:∀ys H,Pv xs.length ys H->∀p,H p=none->Q (.ref p) (F9 H p (.dK ys))):uZ 1 js (QK 0) tk tv σ Q (c9 K a) H:=by
 refine#[fun i m ys τ H=>m=xs.length-i/\i<=xs.length/\ys.length=i/\Pv i ys H/\∃o,τ=o::aA js σ,#[xs.length,by simp,JC _,rfl,h0,none,rfl],?_]
 rintro i m ys τ H ⟨rfl,hi,hyl,p,o,rfl⟩
 by_cases hlt:i<xs.length
 ·refine .inr #[#[xs,xs[i],hl _ _ _ p,by simp [hlt]],by lia,fun x H' y=>?_]
  obtain⟨e,hx⟩:H'=H/\xs[i]? =some x:=#[y.1,y.2 xs (hl _ _ _ p)]
  subst e
  exact#[fun k v H3=>Pv (i+1) (G8 ys k v) H3/\(G8 ys k v).length=i+1,fun k v H3 p3=>#[xs.length-(i+1),by lia,rfl,hlt,p3.2,p3.1,_,rfl],hs i ys _ x hx hyl p]
 ·obtain rfl:i=xs.length:=by lia
  exact .inl #[#[xs,hl _ _ _ p,Jf _],hd ys H p]
inductive Mj (x:V) (y:V) (H:Hp) (Q:VK):Prop
 |mk (a b:Δ) (bs cs:List Bool) (h1:x= .ref a) (h2:y= .ref b) (h3:H a=some (.lst (bs.map V.bl))) (h4:H b=some (.lst (cs.map V.bl))) (h5:bs.length=cs.length) (h6:Q (.bl (decide (bs=cs))) H)
def Dl:R2:=fun x y H Q=>Mj x y H Q
theorem Ba{k:Nat}(hr:Gq k X.A):zt X (compareOp .Eq) Dl:=by
 intro MT s σ H x y v u Q I rx ry h;obtain⟨a,b,bs,cs,rfl,rfl,e1,e2,hl,q⟩:=h;cases rx;cases ry;obtain⟨its,q1,p1,_⟩:=I.list (Gd.of (K:=X.K) e1)
 obtain⟨its2,q2,p2,_⟩:=I.list (Gd.of (K:=X.K) e2)
 have k1:=q1.length;have k2:=q2.length;rw[Je]at k1 k2;have hu:X.A.units+2<cLine:=by have:=hr.un;lia
 have at_:∀{zs:List Bool} {us:List Γ},Ga (zs.map V.bl) us->∀j (h:j<us.length),us[j]= .bool (zs.getD j false):=fun{zs us} r j h=>by
  obtain⟨z,ez,rz⟩:=zr r (j:=j) h
  rw[Jn]at ez;obtain⟨w,hw,rfl⟩:=JW.mp ez;rw[JA,hw];exact rz
 have e:=RcAt.lists (A:=X.A) (e:=fun j=>bs.getD j false==cs.getD j false) p1.isList p2.isList (by simp;lia) (by lia) (fun j h1 h2=>by
  have h1':j<its.length:=by simpa using h1
  have h2':j<its2.length:=by simpa using h2
  simp only[List.getElem_toArray];rw[at_ q1 j h1',at_ q2 j h2']
  have:=By (A:=X.A.in1) (s:=s) (y:= .bl (bs.getD j false)) (x:= .bl (cs.getD j false)) rfl rfl rfl rfl
  have ee:DB (.bl (bs.getD j false)) (.bl (cs.getD j false))=(bs.getD j false==cs.getD j false):=by
   cases bs.getD j false<;>cases cs.getD j false<;>rfl
  rw[ee]at this;exact this)
 have ed:((List.range its.toArray.size).all fun j=>bs.getD j false==cs.getD j false)=decide (bs=cs):=by
  rw[Jp,<- k1];rw[Ej,decide_eq_true_eq,EG];refine#[fun h1=>?_,fun h=>?_]
  ·refine List.ext_getElem hl fun j j1 j2=>?_
   have:=eq_of_beq (h1 j (JN.mpr (by lia)))
   rw[JA,JA,Jg j1,Jg j2]at this;exact this
  ·subst h
   exact fun j _=>Er _
 rw[ed]at e;exact e _ _ _ _ #[.bl _,H,I,rfl,q]
end
def c8:Dr->qC->Dr
 |D,[]=>D
 |D,z::r=>c8 {D with kn:=Gc D z.1 z.2.1 z.2.2} r
def Qa:Dr->qC->List Bool
 |_,[]=>[]
 |D,z::r=>HZ D z.1 z.2.1 z.2.2::Qa {D with kn:=Gc D z.1 z.2.1 z.2.2} r
section
variable{D:Dr}
theorem AW(zs:qC)(z:Str×Int×Int):c8 D (zs++[z])={c8 D zs with kn:=Gc (c8 D zs) z.1 z.2.1 z.2.2}:=by
 induction zs generalizing D with
 |nil=>rfl
 |cons y r ih=>exact ih
theorem wo(zs:qC)(z:Str×Int×Int):Qa D (zs++[z])=Qa D zs++[HZ (c8 D zs) z.1 z.2.1 z.2.2]:=by
 induction zs generalizing D with
 |nil=>rfl
 |cons y r ih=>show _::Qa _ (r++[z])=_;rw[ih];rfl
theorem B2(zs:qC):c8 D zs={D with kn:=(c8 D zs).kn}:=by
 induction zs generalizing D with
 |nil=>rfl
 |cons y r ih=>show c8 _ r=_;rw[ih];rfl
theorem bi(zs:qC):(Qa D zs).length=zs.length:=by
 induction zs generalizing D with
 |nil=>rfl
 |cons y r ih=>show(_::Qa _ r).length=_;rw[JP,ih];rfl
theorem CU(ok:Hg D)(zs:qC):Hg (c8 D zs):=by
 induction zs generalizing D with
 |nil=>exact ok
 |cons y r ih=>exact ih (ok.hearK y.1 y.2.1 y.2.2)
theorem ww{e:Kb}{nm:Str}{a c:Int}(nf:D.near<=D.far)(he:D.kn.lookup nm=some e):decide ((qI D e a c).1="near")=HZ D nm a c:=by
 unfold HZ;have w:=oK (a:=a) (c:=c) nf he
 refine decide_eq_decide.mpr ?_
 rw[w];unfold qI zx Q4
 by_cases ht:qG D e a=true
 ·rw[Jb ht]
  by_cases h1:c<=e.last
  ·rw[Jb h1]
   exact#[fun z=>absurd z (show¬(("old":Str)="near") by decide),fun z=>absurd z.2.1 (by lia)]
  ·rw[Jc h1]
   by_cases h2:c<=e.last+D.near
   ·rw[Jb h2]
    exact#[fun _=>#[ht,by lia,.inl h2],fun _=>rfl]
   ·rw[Jc h2]
    by_cases h3:c<=e.last+D.far
    ·rw[Jb h3]
     by_cases h4:e.wt=some (a,c-1)
     ·rw[Jb h4]
      exact#[fun _=>#[ht,by lia,.inr #[h3,h4]],fun _=>rfl]
     ·rw[Jc h4]
      exact#[fun z=>absurd z (show¬(("far":Str)="near") by decide),fun z=>by rcases z.2.2 with y|y;exact absurd y h2;exact absurd y.2 h4]
    ·rw[Jc h3]
     exact#[fun z=>absurd z (show¬(("beyond":Str)="near") by decide),fun z=>by rcases z.2.2 with y|y;exact absurd y h2;exact absurd y.1 h3]
 ·rw[Jc ht]
  exact#[fun z=>absurd z (show¬(("age":Str)="near") by decide),fun z=>absurd z.1 ht]
theorem Cg{nm:Str}{a c:Int}(he:D.kn.lookup nm=none):HZ D nm a c=false:=by
 unfold HZ Qn;rw[he];exact Jm (show¬(("":Str)="open") by decide)
theorem sY{e:Kb}{nm:Str}{a c:Int}(nd:(D.kn.map (·.1)).Nodup)(he:D.kn.lookup nm=some e):Gc D nm a c=zk D.kn nm (qI D e a c).2:=by
 unfold Gc zb qI;rw[he];simp only
 by_cases ht:qG D e a=true
 ·rw[Jb ht,Jb ht]
  split<;>rfl
 ·rw[Jc ht,Jc ht]
  exact(jo nd he).symm
theorem lD(bs:List Bool):Qd (bs.map V.bl) none (some (-1))=bs.dropLast.map V.bl:=by
 unfold Qd;have e:HT.sIx (bs.map V.bl).length (bs.map V.bl).length (some (-1))=bs.length-1:=by
  rw[Je]
  show(if(-1:Int)<0 then(-1+(bs.length:Int)).toNat else min (-1:Int).toNat bs.length)=_
  rw[Jb (by decide)]
  lia
 rw[e]
 show((bs.map V.bl).drop 0).take (bs.length-1-0)=_
 rw[List.drop_zero,Nat.sub_zero,List.dropLast_eq_take,List.map_take]
theorem oI{bs:List Bool}(h:0<bs.length):∃x:Bool,bs.getLast? =some x/\QL (bs.map V.bl) (-1)=some (.bl x):=by
 have hx:bs[bs.length-1]? =some bs[bs.length-1]:=Jg (by lia)
 refine#[bs[bs.length-1],by rw[List.getLast?_eq_getElem?,hx],?_]
 unfold QL cv;rw[Je,Jc (by decide),Jb (by lia)]
 show(bs.map V.bl)[(-1+(bs.length:Int)).toNat]? =_
 rw[show(-1+(bs.length:Int)).toNat=bs.length-1 by lia,Jn,hx];rfl
theorem yM{H:Hp}{d:Δ}{ss:List Str}{g:Str->Δ}(nd:(D.kn.map (·.1)).Nodup)(pm:ss.Perm (D.kn.map (·.1)))(hd:H d=some (.dK (ss.map fun nm=>(Sum.inr nm,V.ref (g nm)))))(hg:∀nm∈ss,∀e,D.kn.lookup nm=some e->GH H (g nm) e):Hl H d D.kn:=by
 have look:∀e∈D.kn,D.kn.lookup e.1=some e.2:=fun e he=>by
  obtain⟨b,hb⟩:=Ft.mp (Gb.mpr (Jq.mpr #[e,he,rfl]))
  rw[hb,QF nd hb e he rfl]
 refine#[(ss.map fun nm=>(nm,(D.kn.lookup nm).getD #[0,0,none]),g),?_,fun e he=>hg e.1 (pm.mem_iff.mpr (Jq.mpr #[e,he,rfl])) e.2 (look e he),?_,nd]
 ·rw[hd]
  unfold bz;rw[Es];rfl
 ·refine(pm.map _).trans ?_
  rw[Es]
  have:D.kn.map ((fun nm=>(nm,(D.kn.lookup nm).getD #[0,0,none]))∘fun x=>x.1)=D.kn:=by
   conv=>rhs;rw[<- List.map_id D.kn]
   refine E7 fun e he=>?_
   show(e.1,(D.kn.lookup e.1).getD #[0,0,none])=e
   rw[look e he];rfl
  rw[this]
end
inductive Ih (K:μ) (C:Δ) (vs:List V) (H:Hp) (Q:VK):Prop
 |mk (p ta hk bd lg:Δ) (n:Nat) (D:Dr) (v:V) (zs:qC) (h1:vs=[.ref p,v]) (h2:F7 K C H p ta hk bd lg n D) (h3:Hg D) (h4:D.near<=D.far) (h5:HF H v (some zs)) (h6:zs.length<=100) (h7:∀l H',F5 H H'->H' l=some (.lst ((Qa D zs).map V.bl))->Q (.ref l) H')
def iA(K:μ)(C:Δ):Sp:=fun vs H Q _=>Ih K C vs H Q
def QX(D D':Dr)(zs:qC):Bool:=decide ((Qa D zs).dropLast=(Qa D' zs).dropLast)&& !decide ((Qa D zs).getLast? =(Qa D' zs).getLast?)
inductive LH (K:μ) (C:Δ) (vs:List V) (H:Hp) (Q:VK):Prop
 |mk (p ta hk bd lg:Δ) (n:Nat) (D:Dr) (p' ta' hk' bd' lg':Δ) (n':Nat) (D':Dr) (v:V) (zs:qC) (h1:vs=[.ref p,.ref p',v]) (h2:F7 K C H p ta hk bd lg n D) (h3:F7 K C H p' ta' hk' bd' lg' n' D') (h4:Hg D) (h5:Hg D') (h6:D.near<=D.far) (h7:D'.near<=D'.far) (h8:HF H v (some zs)) (h9:zs.length<=100) (h10:zs≠[]) (h11:∀H',F5 H H'->Q (.bl (QX D D' zs)) H')
def pA(K:μ)(C:Δ):Sp:=fun vs H Q _=>LH K C vs H Q
end L3
namespace Lw
open PySem L2 L3
section
variable{P:Ξ}{w:Ω}{K:μ}{mg:F3}{base:Ψ}{tk:Nat->Tok}{C:Δ}
theorem nJ(a:At K mg "openings" cF ["door","row"])(T:GQ K mg tk)(U:Hf K C)(dC:Mf P w K mg base C "button_of" ["self","name"] 1 (ig K C))(dD:Mf P w K mg base C "plain_step" ["self","button","age","count"] 3 (gD K C))(dJ:Df P w K mg base "names_known" ["door"] 2 (gh K C)):Df P w K mg base "openings" ["door","row"] 4 (iA K C):=by
 refine a.dq Gp fun f _ A _ s H vs Q E hr h=>?_
 ·obtain⟨p,ta,hk,bd,lg,n,D,v,zs,rfl,b,ok,nf,tl,zl,q⟩:=h
  refine#[_,(qe (vA (i:=2) Gp.nd rfl (Or.inl rfl) (own:=["name"]) (fr:=["door"]) (js:=[0]) rfl (zo (qr dJ hr.mo (qc (qv 0) qb))) rfl (i5 rfl) rfl (iM rfl (by decide +kernel) (by decide +kernel) (by decide +kernel) rfl rfl rfl) (fun _ _ _ _=>qh (i:=0) (show List.Nodup (["name","door"]:List Str)from by decide +kernel) rfl (Or.inl rfl) (.inr rfl)) (fun _ _ _ _=>(qv 0)) (fun _ _ _ _=>(za dC U.cl hr.mo (qv 1) (qc (qv 0) qb))))
   (qe (qw (i:=3) Gp.nd rfl (Or.inl rfl) (zC qb))
   (qe (qZ JL rfl (aV (qv 1)) (zR rfl (qm (qh (i:=4) Gp.nd rfl (Or.inl rfl)) (qm (qh (i:=5) Gp.nd rfl (Or.inl rfl)) (qm (qh (i:=6) Gp.nd rfl (Or.inl rfl)) q9))))
   (qe (qw (i:=7) Gp.nd rfl (Or.inl rfl) qR)
   (qe (qN (uH hr (qv 4) (qv 2)) (qe (zz (za dD U.cl hr.mo (qv 0) (qc (oG hr (qv 2) (qv 4)) (qc (qv 5) (qc (qv 6) qb)))) (zR rfl (qm (qh (i:=7) Gp.nd rfl (Or.inl rfl)) (qm (qh (i:=8) Gp.nd rfl (Or.inl rfl)) q9))))
   (qg (gi hr (qv 2) (qv 4) (qv 8)))) qB)
   (qg (Qg (ZA EF EI EJ zW (qv 3) (qc (zX ZK (qv 7) qR (qy _)) qb)))))))
   (qg (ql (qv 3)))))),?_]
  obtain⟨t,as,rfl,ht,la,has⟩:=tl;refine#[_,rfl,p,ta,hk,bd,lg,n,D,rfl,b,ok,fun l ss H1 s1 pm e1=>#[l,rfl,#[_,Gd.of e1],?_]]
  have sl:ss.length<=60:=by rw[pm.length_eq,Je];exact ok.nl
  have nds:ss.Nodup:=pm.nodup_iff.mpr ok.nd
  have b1:=b.same s1;refine sg (K:=K) (a:=l) (xs:=ss.map V.str) (by rw[Je,JF];lia) (fun i ys Hx=>Hx=H1/\∃g:Str->Δ,ys=(ss.take i).map (fun nm=>(Sum.inr nm,V.ref (g nm)))/\∀nm∈ss.take i,∀e,D.kn.lookup nm=some e->GH H1 (g nm) e) #[rfl,fun _=>0,rfl,fun nm h=>by simp at h] (fun i ys Hx h=>by rw[h.1];exact Gd.of e1) ?_ ?_
  ·rintro i ys Hx x hx hyl ⟨rfl,g,rfl,hg⟩
   rw[Jn]at hx;obtain⟨nm,hnm,rfl⟩:=JW.mp hx;have hi:i<ss.length:=(Jy.mp hnm).1
   have tk1:ss.take (i+1)=ss.take i++[nm]:=by rw[Ed,hnm];rfl
   have nin:nm∉ss.take i:=fun z=>by
    rw[<- List.take_append_drop (i+1) ss,tk1]at nds
    exact(EU.mp (EU.mp nds).1).2.2 nm z nm Jv rfl
   refine#[_,rfl,.inr nm,rfl,?_]
   refine#[_,rfl,p,rfl,b1.no,_,rfl,p,ta,hk,bd,lg,n,D,nm,rfl,b1,fun e=>?_,fun e x e2 hx=>?_]
   ·have:=Gb.mpr (pm.mem_iff.mp (J9 hnm))
    rw[e]at this;cases this
   ·have pk:G8 ((ss.take i).map (fun nm=>((Sum.inr nm:qO),V.ref (g nm)))) (Sum.inr nm) (.ref x)=(ss.take (i+1)).map (fun z=>((Sum.inr z:qO),V.ref (if z=nm then x else g z))):=by
     unfold G8;rw[Jc (by
      rw[List.any_eq_true]
      rintro⟨kv,hkv,z⟩
      obtain⟨y,hy,rfl⟩:=Jq.mp hkv;have z:=Jx z;injection z with z
      exact nin (z▸hy)),tk1,JJ]
     congr 1
     ·refine E7 fun y hy=>?_
      rw[Jc (fun z:y=nm=>nin (z▸hy))]
     ·show _=[((Sum.inr nm:qO),V.ref (if nm=nm then x else g nm))];rw[Jb rfl]
    refine#[#[rfl,fun z=>if z=nm then x else g z,pk,fun z hz e3 h3=>?_],?_]
    ·rw[tk1]at hz
     by_cases hzn:z=nm
     ·show GH _ (if z=nm then x else g z) e3
      rw[Jb hzn];rw[hzn,e2]at h3;cases h3;exact hx
     ·show GH _ (if z=nm then x else g z) e3
      rw[Jc hzn];rcases JB.mp hz with hz|hz
      ·exact hg z hz e3 h3
      ·exact absurd (Jl.mp hz) hzn
    ·rw[pk,Je,J8];lia
  rintro ys Hx ⟨rfl,g,rfl,hg⟩ d hd
  have u1:=F5.upd (o:= .dK ((ss.take (ss.map V.str).length).map fun nm=>((Sum.inr nm:qO),V.ref (g nm)))) hd
  have kn0:Hl (F9 Hx d (.dK ((ss.take (ss.map V.str).length).map fun nm=>((Sum.inr nm:qO),V.ref (g nm))))) d D.kn:=by
   have e:ss.take (ss.map V.str).length=ss:=by rw[Je,Ep]
   refine yM (g:=g) ok.nd pm (by rw[qa,e]) fun nm hnm e2 h2=>?_
   obtain⟨v2,h3,h4⟩:=hg nm (by rw[e];exact hnm) e2 h2
   exact#[v2,u1 _ _ h3,h4.same u1]
  have hd0:=QR hd s1;have S1:=s1.trans u1;generalize F9 Hx d (.dK ((ss.take (ss.map V.str).length).map fun nm=>((Sum.inr nm:qO),V.ref (g nm))))=H2 at *
  clear u1 hg e1 b1 hd pm nds sl;refine#[FV,fun to hto=>?_]
  have u2:=F5.upd (o:= .lst []) hto
  have to0:=QR hto S1;refine Qm (fun σ' H'=>F5 H H'/\H' to=some (.lst ((Qa D zs).map V.bl))/\∃o2 o4 o5 o6 o7 o8,σ'=[some (.ref p),some (.ref t),o2,some (.ref to),o4,o5,o6,o7,o8]) (fun D0 hrt hnx=>?_) ?_
  ·refine#[_,rfl,t,rfl,#[_,Gh.of (u2 _ _ (S1 _ _ ht))],?_]
   refine og (K:=K) (a:=t) (xs:=as.map V.ref) (fun j σ Hx=>F5 H Hx/\Hl Hx d (c8 D (zs.take j)).kn/\Hx to=some (.lst ((Qa D (zs.take j)).map V.bl))/\∃o4 o5 o6 o7 o8,σ=[some (.ref p),some (.ref t),some (.ref d),some (.ref to),o4,o5,o6,o7,o8]) #[S1.trans u2,kn0.same u2,qa,_,_,_,_,_,rfl] (fun j σ Hx _ h=>Gh.of (h.1 _ _ ht)) ?_ ?_
   ·rintro j z σ Hx hz ⟨sx,kx,tx,o4,o5,o6,o7,o8,rfl⟩
    rw[Jn]at hz;obtain⟨aj,haj,rfl⟩:=JW.mp hz;have hj:j<zs.length:=by rw[<- la];exact(Jy.mp haj).1
    obtain⟨⟨nm,age,c⟩,ez⟩:∃z,zs[j]? =some z:=#[_,Jg hj]
    have hrow:=sx _ _ (has j aj _ haj ez);have tk1:zs.take (j+1)=zs.take j++[(nm,age,c)]:=by rw[Ed,ez];rfl
    have okj:=CU ok (zs.take j);have isj:=B2 (D:=D) (zs.take j)
    obtain⟨Dj,eDj⟩:∃F,F=c8 D (zs.take j):=#[_,rfl]
    rw[<- eDj]at okj isj kx;have kn1:(c8 D (zs.take (j+1))).kn=Gc Dj nm age c:=by rw[tk1,AW,<- eDj]
    have op1:Qa D (zs.take (j+1))=Qa D (zs.take j)++[HZ Dj nm age c]:=by rw[tk1,wo,<- eDj]
    have nfj:Dj.near<=Dj.far:=by rw[isj];exact nf
    refine#[aj,_,rfl,.tup hrow,rfl,_,_,rfl,_,_,rfl,_,_,rfl,rfl,?_]
    refine Qm (fun σ' H'=>∃(wd:Str) (o8:Option V),F5 H H'/\Hl H' d (Gc Dj nm age c)/\H' to=some (.lst ((Qa D (zs.take j)).map V.bl))/\decide (V.str wd=V.str "near")=HZ Dj nm age c/\σ'=[some (.ref p),some (.ref t),some (.ref d),some (.ref to),some (.str nm),some (.int age),some (.int c),some (.str wd),o8]) (fun D' hrt' hnx'=>?_) ?_
    ·rcases kx.get nm with⟨e1,g1⟩|⟨e,x,e1,g1,hx⟩
     ·refine#[_,rfl,_,rfl,d,_,rfl,g1,_,rfl,zJ (hnx' _ _ #["unknown",_,sx,?_,tx,?_,rfl])]
      ·rcases Q0 (D:=Dj) (nm:=nm) (age:=age) (c:=c)with h|⟨e,h,_⟩
       ·rw[h];exact kx
       ·rw[e1]at h;cases h
      ·rw[Cg e1]
       exact Jm (by intro z;injection z with z;exact absurd z (by decide))
     ·refine#[_,rfl,_,rfl,d,_,rfl,g1,_,rfl,zZ ?_]
      have bx:=b.same sx;refine#[_,rfl,p,rfl,bx.no,_,rfl,_,rfl,d,_,rfl,g1,_,rfl,_,rfl,p,ta,hk,bd,lg,x,n,D,e,age,c,rfl,bx,hx,fun q' a' H3 s3 hq' ha'=>#[q',_,rfl,.tup hq',rfl,_,_,rfl,_,_,rfl,rfl,?_]]
      have st:qI D e age c=qI Dj e age c:=by rw[isj];rfl
      rw[st]at ha';obtain⟨H4,dp,m4,k4⟩:=(kx.same s3).put nm (by have:=okj.nl;lia) ha'
      refine#[_,rfl,_,rfl,_,rfl,d,H4,rfl,dp,hnx' _ _ #[_,_,fun c o e=>m4 c o (qM (qk e hd0)) (s3 _ _ (sx _ _ e)),?_,m4 _ _ (qM ?_) (s3 _ _ tx),?_,rfl]]
      ·rw[sY okj.nd e1];exact k4
      ·obtain⟨f0,e0,_⟩:=id kx
       exact Qu tx e0 (by intro z;cases z)
      ·rw[<- ww nfj e1,st]
       exact decide_eq_decide.mpr #[fun z=>by injection z,fun z=>by rw[z]]
    rintro σ' H5 ⟨wd,o8',s5,k5,t5,ew,rfl⟩
    refine#[_,rfl,.inl #[rfl,_,Gd.of t5],_,rfl,rfl,to,_,_,rfl,rfl,t5,by rw[Je,bi,J8,JF];lia,?_]
    have mt:Mv [to] H5 (F9 H5 to (.lst ((Qa D (zs.take j)).map V.bl++[.bl (decide (V.str wd=V.str "near"))]))):=Mv.upd1
    have ntt:NT [to] H5:=NT.one t5 trivial
    refine#[fun c o e=>mt c o (qM (qk e to0)) (s5 _ _ e),?_,?_,_,_,_,_,_,rfl]
    ·rw[kn1]
     refine k5.mv mt ntt (qM ?_)
     obtain⟨f0,e0,_⟩:=id k5
     exact(Qu t5 e0 (by intro z;cases z)).symm
    ·rw[op1,qa,ew,JJ];rfl
   ·rintro σ Hx ⟨sx,kx,tx,o4,o5,o6,o7,o8,rfl⟩
    refine hnx _ _ #[sx,?_,_,_,_,_,_,_,rfl]
    rw[Je,la,Ep]at tx;exact tx
  rintro σ Hx ⟨sx,tx,o2,o4,o5,o6,o7,o8,rfl⟩
  exact#[_,rfl,q to Hx sx tx]
theorem gg(a:At K mg "shows_telling" ZF ["one","other","row"])(T:GQ K mg tk)(xH:Df P w K mg base "openings" ["door","row"] 4 (iA K C)):Df P w K mg base "shows_telling" ["one","other","row"] 5 (pA K C):=by
 refine a.dq GO fun f _ A _ s H vs Q E hr h=>?_
 ·obtain⟨p,ta,hk,bd,lg,n,D,p',ta',hk',bd',lg',n',D',v,zs,rfl,b,b',ok,ok',nf,nf',tl,zl,z0,q⟩:=h
  refine#[_,(qe (qw (i:=3) GO.nd rfl (Or.inl rfl) (qr xH hr.mo (qc (qv 0) (qc (qv 2) qb))))
   (qe (qw (i:=4) GO.nd rfl (Or.inl rfl) (qr xH hr.mo (qc (qv 1) (qc (qv 2) qb))))
   (qg (ql (af (zX (Ba hr) (QY cx (qv 3) Zt (Zv (kH ib qf))) (QY cx (qv 4) Zt (Zv (kH ib qf))) (qy _)) (bg (zX cI (qt qA (qv 3) (kH ib qf)) (qt qA (qv 4) (kH ib qf)) (qy _)))))))),?_]
  refine#[_,rfl,_,rfl,p,ta,hk,bd,lg,n,D,v,zs,rfl,b,ok,nf,tl,zl,fun l1 H1 s1 e1=>?_]
  refine#[_,rfl,_,rfl,p',ta',hk',bd',lg',n',D',v,zs,rfl,b'.same s1,ok',nf',tl.same s1,zl,fun l2 H2 s2 e2=>?_]
  have e1':=s2 _ _ e1;have lz:0<zs.length:=List.length_pos_iff.mpr z0
  obtain⟨x,hx1,hx2⟩:=oI (bs:=Qa D zs) (by rw[bi];exact lz)
  obtain⟨y,hy1,hy2⟩:=oI (bs:=Qa D' zs) (by rw[bi];exact lz)
  refine#[_,rfl,_,rfl,_,rfl,l1,_,rfl,Gd.of e1',fun m1 hm1=>?_]
  have v1:=F5.upd (o:= .lst (Qd ((Qa D zs).map V.bl) none (some (-1)))) hm1
  refine#[_,rfl,_,rfl,_,rfl,l2,_,rfl,Gd.of (v1 _ _ e2),fun m2 hm2=>?_]
  have v2:=F5.upd (o:= .lst (Qd ((Qa D' zs).map V.bl) none (some (-1)))) hm2
  have S:=((s1.trans s2).trans v1).trans v2;refine#[m1,m2,(Qa D zs).dropLast,(Qa D' zs).dropLast,rfl,rfl,by rw[<- lD];exact v2 _ _ qa,by rw[<- lD];exact qa,by rw[List.length_dropLast,List.length_dropLast,bi,bi],_,rfl,qY (fun h=>?_) (fun h=>?_)]
  ·have h:=Jx h
   refine#[_,rfl,_,rfl,l1,_,_,_,rfl,rfl,Gd.of (v2 _ _ (v1 _ _ e1')),hx2,_,rfl,_,rfl,l2,_,_,_,rfl,rfl,Gd.of (v2 _ _ (v1 _ _ e2)),hy2,rfl,?_]
   have:=q _ S
   unfold QX at this;rw[Jh h,hx1,hy1,EH]at this;rw[show decide (V.bl x=V.bl y)=decide (some x=some y)from decide_eq_decide.mpr #[fun z=>by injection z with z;rw[z],fun z=>by injection z with z;rw[z]]]
   exact this
  ·have:=q _ S
   unfold QX at this;rw[Jm (fun z=>h (Jh z)),Ei]at this
   exact this
end
end Lw
namespace L3
open PySem PySem.Spec PyProof.Rows L2 SeqAt
open AutoSeq1 (wpAny_loadPart')
open MeetsSeq MeetsSeq2 MeetsSeq3 SeqRoads2
def HS(A:Around)(s:Θ)(y x:Γ)(b:Bool):Prop:=∀(prog:Ξ) (w:Ω) (E:F2) (Q:F2),Q (.bool b) s->ζ (model prog w) A (richCompare .Lt y x) Q E s
def Zd(e l:Nat->Bool)(d:Bool):List Nat->Bool
 | []=>d
 |i::r=>if e i=true then Zd e l d r else l i
theorem rn(l b:Δ)(items items2:Array Γ)(n n2:Nat)(dd dd2:Option Δ)(sl sl2:Array (Option Γ))(e lt:Nat->Bool):
  Meets (δ.«tuple.__lt__» #[[.ref l,.ref b],[]])
   (fun A R s=>s.heap.get? l=some {cls:= .type "tuple",dict:=dd,data:= .seq items n,slots:=sl}/\s.heap.get? b=some {cls:= .type "tuple",dict:=dd2,data:= .seq items2 n2,slots:=sl2}/\
    (∀j (h1:j<items.size) (h2:j<items2.size),EqAt A.in1 s items[j] items2[j] (e j))/\(∀j (h1:j<items.size) (h2:j<items2.size),e j=false->HS A.in1 s items[j] items2[j] (lt j))/\
    R (.ok (.ret (.bool (Zd e lt (decide (items.size<items2.size)) (List.range (min items.size items2.size)))))) s):=
 .of_wp fun prog w A R s h=>by
  obtain⟨hp,g,d,tk,os⟩:=s;obtain⟨hl,hb,he,hlt',h⟩:=h
  have f2:=AutoSeq1.sub_tuple_tuple;have hZ:(items.toList.zip items2.toList).length=min items.size items2.size:=by simp
  wp_walk using EO hl,EO hb,wpAny_forIn_list _ (fun rest b s'=>b.1=none/\s'=#[hp,g,d,tk,os]/\∃i,rest=(items.toList.zip items2.toList).drop i/\
   R (.ok (.ret (.bool (Zd e lt (decide (items.size<items2.size)) ((List.range (min items.size items2.size)).drop i))))) #[hp,g,d,tk,os]) _
  case turn=>
   rintro⟨y,x⟩ rest b s' ⟨hb',rfl,i,hz,hR⟩
   have hlt:i<(items.toList.zip items2.toList).length:=by
    rcases Nat.lt_or_ge i (items.toList.zip items2.toList).length with h'|h'
    ·exact h'
    ·rw[List.drop_of_length_le h']at hz;cases hz
   have hm:i<min items.size items2.size:=hZ▸hlt
   have h1:i<items.size:=JM hm (Nat.min_le_left _ _)
   have h2:i<items2.size:=JM hm (Nat.min_le_right _ _)
   rw[List.drop_eq_getElem_cons hlt]at hz;injection hz with hyx hrest
   have hy:y=items[i]:=by have:=JO Prod.fst hyx;simpa using this
   have hx:x=items2[i]:=by have:=JO Prod.snd hyx;simpa using this
   subst hy hx;have hd:(List.range (min items.size items2.size)).drop i=i::(List.range (min items.size items2.size)).drop (i+1):=by simp [List.drop_eq_getElem_cons,hm]
   rw[hd]at hR;unfold Zd at hR;refine Ja (he i h1 h2 prog w _ _ ?_)
   cases hy:e i with
   |true=>
    rw[hy,Jb rfl]at hR
    wp_walk
    exact#[rfl,rfl,i+1,hrest,hR]
   |false=>
    rw[hy,Jc (by decide)]at hR
    have hq:=hlt' i h1 h2 hy;unfold HS at hq;generalize richCompare CmpOp.Lt items[i] items2[i]=rc at hq⊢
    wp_walk
    refine hq prog w _ _ ?_
    wp_walk
    exact#[_,rfl,hR]
  case fin=>
   rintro⟨b1,b2⟩ s' ⟨hb',rfl,i,hz,hR⟩
   simp only at hb'
   subst hb';have hge:min items.size items2.size<=i:=by
    rcases Nat.lt_or_ge i (items.toList.zip items2.toList).length with h'|h'
    ·rw[List.drop_eq_getElem_cons h']at hz;cases hz
    ·exact hZ▸h'
   rw[List.drop_of_length_le (by simpa using hge)]at hR
   wp_walk
   exact#[_,rfl,by simpa [δ.Tuple.tupleCompareSizes,Zd]using hR]
  case h=>
   exact#[rfl,rfl,0,rfl,by simpa using h]
theorem HS.tuples{A:Around}{s:Θ}{l b:Δ}{items items2:Array Γ}{e lt:Nat->Bool}(hl:s.heap.IsTuple l items)(hb:s.heap.IsTuple b items2)(hu:A.units<cLine)
  (he:∀j (h1:j<items.size) (h2:j<items2.size),EqAt A.in1 s items[j] items2[j] (e j))(ht:∀j (h1:j<items.size) (h2:j<items2.size),e j=false->HS A.in1 s items[j] items2[j] (lt j)):HS A s (.ref l) (.ref b) (Zd e lt (decide (items.size<items2.size)) (List.range (min items.size items2.size))):=fun prog w E Q h=>by
 obtain⟨⟨cls,dd,data,sl⟩,ho,hc,n,hd⟩:=id hl;obtain⟨⟨cls2,dd2,data2,sl2⟩,ho2,hc2,n2,hd2⟩:=id hb;simp only at hc hd hc2 hd2
 subst hc hd hc2 hd2;exact richCompare_meets_room (op:= .Lt) #[_,ho,rfl] #[_,ho2,rfl] F.slot_tuple_lt F.entry_tuple_lt (F.args_tuple_lt_2 _ _) (rn l b items items2 n n2 dd dd2 sl sl2 e lt)
  #[ho,ho2,he,ht,show Γ.bool (Zd e lt (decide (items.size<items2.size)) (List.range (min items.size items2.size)))≠Γ.notImplemented/\Q (.bool (Zd e lt (decide (items.size<items2.size)) (List.range (min items.size items2.size)))) s from#[(fun x=>nomatch x),h]] hu
def ZP(z y:Str×Int×Int):Bool:=if z.1=y.1 then(if z.2.1=y.2.1 then decide (z.2.2<y.2.2)else decide (z.2.1<y.2.1))else decide (z.1.cps.toList<y.1.cps.toList)
def bv:qC->qC->Bool
 | [],[]=>false
 | [],_::_=>true
 |_::_,[]=>false
 |z::r,y::q=>if z=y then bv r q else ZP z y
theorem pG{e l:Nat->Bool}{d:Bool}(f:Nat->Nat):∀js:List Nat,Zd e l d (js.map f)=Zd (fun j=>e (f j)) (fun j=>l (f j)) d js
 | []=>rfl
 |j::r=>by
  rw[JU];unfold Zd;rw[pG f r]
theorem wY(zs ys:qC)(dz:Str×Int×Int):Zd (fun j=>decide (zs.getD j dz=ys.getD j dz)) (fun j=>ZP (zs.getD j dz) (ys.getD j dz)) (decide (zs.length<ys.length)) (List.range (min zs.length ys.length))=bv zs ys:=by
 induction zs generalizing ys with
 |nil=>
  cases ys with
  |nil=>rfl
  |cons y q=>show Zd _ _ _ (List.range (min 0 _))=true;rw[Nat.zero_min];exact Jh (Nat.succ_pos _)
 |cons z r ih=>
  cases ys with
  |nil=>show Zd _ _ _ (List.range (min _ 0))=false;rw[Nat.min_zero];exact Jm (Nat.not_lt_zero _)
  |cons y q=>
   rw[JP,JP,Nat.add_min_add_right,List.range_succ_eq_map];unfold Zd bv
   by_cases hz:z=y
   ·rw[Jb (show decide ((z::r).getD 0 dz=(y::q).getD 0 dz)=true from Jh hz),Jb hz,pG,<- ih q]
    rw[show decide (r.length+1<q.length+1)=decide (r.length<q.length)from decide_eq_decide.mpr (by lia)]
    rfl
   ·rw[Jc (show¬decide ((z::r).getD 0 dz=(y::q).getD 0 dz)=true from fun w=>hz (Jx w)),Jc hz];rfl
section
variable{X:Cx}{MT:F4}{σ:L2.St}{H:Hp}{s:Θ}
theorem Bz(I:L2.F8 X MT σ H s){A:Around}{a b:Δ}{z y:Str×Int×Int}(h:H a=some (.tup [.str z.1,.int z.2.1,.int z.2.2]))(h':H b=some (.tup [.str y.1,.int y.2.1,.int y.2.2]))(hu:A.units+1<cLine):EqAt A s (.ref a) (.ref b) (decide (z=y))/\HS A s (.ref a) (.ref b) (ZP z y):=by
 obtain⟨its,q1,p1,_⟩:=I.tuple (Gh.of (K:=X.K) h)
 obtain⟨its2,q2,p2,_⟩:=I.tuple (Gh.of (K:=X.K) h')
 have p1:s.heap.IsTuple a its.toArray:=p1
 have p2:s.heap.IsTuple b its2.toArray:=p2
 have l1:its.length=3:=q1.length.symm
 have l2:its2.length=3:=q2.length.symm
 have at_:∀{us:List Γ} {w:Str×Int×Int},Ga [.str w.1,.int w.2.1,.int w.2.2] us->us.length=3->∃t1 t2 t3,us=[.str w.1 t1,.int w.2.1 t2,.int w.2.2 t3]:=fun{us w} r hl=>by
  match us,hl with
  | [u1,u2,u3],_=>
   cases r with
   |cons r1 r=>
    cases r with
    |cons r2 r=>
     cases r with
     |cons r3 r=>
      obtain⟨t1,rfl⟩:=r1;obtain⟨t2,rfl⟩:=r2;obtain⟨t3,rfl⟩:=r3
      exact#[t1,t2,t3,rfl]
 obtain⟨t1,t2,t3,rfl⟩:=at_ q1 l1;obtain⟨u1,u2,u3,rfl⟩:=at_ q2 l2;obtain⟨e,ee⟩:∃e:Nat->Bool,e=fun j=>if j=0 then decide (z.1=y.1)else if j=1 then decide (z.2.1=y.2.1)else decide (z.2.2=y.2.2):=#[_,rfl]
 obtain⟨l,el⟩:∃l:Nat->Bool,l=fun j=>if j=0 then decide (z.1.cps.toList<y.1.cps.toList)else if j=1 then decide (z.2.1<y.2.1)else decide (z.2.2<y.2.2):=#[_,rfl]
 have he:∀j (h1:j<[Γ.str z.1 t1,.int z.2.1 t2,.int z.2.2 t3].toArray.size) (h2:j<[Γ.str y.1 u1,.int y.2.1 u2,.int y.2.2 u3].toArray.size),EqAt A.in1 s [Γ.str z.1 t1,.int z.2.1 t2,.int z.2.2 t3].toArray[j] [Γ.str y.1 u1,.int y.2.1 u2,.int y.2.2 u3].toArray[j] (e j):=fun j h1 h2=>by
  rw[ee]
  match j,h1,h2 with
  |0,_,_=>have:=EqAt.str_str (A:=A.in1) (s:=s) z.1 t1 y.1 u1;exact this
  |1,_,_=>have:=EqAt.int_int (A:=A.in1) (s:=s) z.2.1 t2 y.2.1 u2;exact this
  |2,_,_=>have:=EqAt.int_int (A:=A.in1) (s:=s) z.2.2 t3 y.2.2 u3;exact this
 have hl:∀j (h1:j<[Γ.str z.1 t1,.int z.2.1 t2,.int z.2.2 t3].toArray.size) (h2:j<[Γ.str y.1 u1,.int y.2.1 u2,.int y.2.2 u3].toArray.size),e j=false->HS A.in1 s [Γ.str z.1 t1,.int z.2.1 t2,.int z.2.2 t3].toArray[j] [Γ.str y.1 u1,.int y.2.1 u2,.int y.2.2 u3].toArray[j] (l j):=fun j h1 h2 _=>by
  rw[el]
  match j,h1,h2 with
  |0,_,_=>exact fun prog w E Q q=>lt_str q
  |1,_,_=>exact fun prog w E Q q=>lt_int q
  |2,_,_=>exact fun prog w E Q q=>lt_int q
 constructor
 ·by_cases hab:a=b
  ·subst hab
   rw[h]at h'
   have:z=y:=by
    injection h' with h'
    injection h' with h'
    injection h' with h1 h'
    injection h' with h2 h'
    injection h' with h3 _
    injection h1 with h1
    injection h2 with h2
    injection h3 with h3
    exact Prod.ext h1 (Prod.ext h2 h3)
   rw[Jh this];exact EqAt.same _
  ·have rc:=RcAt.tuples (A:=A) (e:=e) p1 p2 (by lia) he
   have ed:((List.range (min [Γ.str z.1 t1,.int z.2.1 t2,.int z.2.2 t3].toArray.size [Γ.str y.1 u1,.int y.2.1 u2,.int y.2.2 u3].toArray.size)).all e&&[Γ.str z.1 t1,.int z.2.1 t2,.int z.2.2 t3].toArray.size==[Γ.str y.1 u1,.int y.2.1 u2,.int y.2.2 u3].toArray.size)=decide (z=y):=by
    show(([0,1,2]:List Nat).all e&&true)=_
    rw[Bool.and_true,ee,Ej,decide_eq_true_eq];simp only[List.all_cons,List.all_nil,Bool.and_true,Ju,Ek]
    show(decide (z.1=y.1)=true/\decide (z.2.1=y.2.1)=true/\decide (z.2.2=y.2.2)=true)↔_
    rw[decide_eq_true_eq,decide_eq_true_eq,decide_eq_true_eq]
    exact#[fun⟨a,b,c⟩=>Prod.ext a (Prod.ext b c),fun w=>by rw[w];exact#[rfl,rfl,rfl]]
   rw[ed]at rc;exact EqAt.of_refs hab rc
 ·have lt:=HS.tuples (A:=A) (e:=e) (lt:=l) p1 p2 (by lia) he hl
  have ed:Zd e l (decide ([Γ.str z.1 t1,.int z.2.1 t2,.int z.2.2 t3].toArray.size<[Γ.str y.1 u1,.int y.2.1 u2,.int y.2.2 u3].toArray.size)) (List.range (min [Γ.str z.1 t1,.int z.2.1 t2,.int z.2.2 t3].toArray.size [Γ.str y.1 u1,.int y.2.1 u2,.int y.2.2 u3].toArray.size))=ZP z y:=by
   show Zd e l false [0,1,2]=_
   rw[ee,el];unfold ZP;simp only[Zd,Ek,decide_eq_true_eq,show¬((1:Nat)=0) by decide,show¬((2:Nat)=0) by decide,show¬((2:Nat)=1) by decide,Jz]
   show(if z.1=y.1 then(if z.2.1=y.2.1 then(if z.2.2=y.2.2 then false else decide (z.2.2<y.2.2))else decide (z.2.1<y.2.1))else decide (z.1.cps.toList<y.1.cps.toList))=_
   split
   ·split
    ·split
     ·rename_i w;rw[w];exact(Jm (by lia)).symm
     ·rfl
    ·rfl
   ·rfl
  rw[ed]at lt;exact lt
theorem Ck(I:L2.F8 X MT σ H s){A:Around}{r r':Δ}{zs ys:qC}(h:HF H (.ref r) (some zs))(h':HF H (.ref r') (some ys))(hu:A.units+2<cLine):EqAt A s (.ref r) (.ref r') (decide (zs=ys))/\HS A s (.ref r) (.ref r') (bv zs ys):=by
 obtain⟨_,as,e1,h1,la,has⟩:=h;cases e1;obtain⟨_,bs,e2,h2,lb,hbs⟩:=h';cases e2;obtain⟨its,q1,p1,_⟩:=I.tuple (Gh.of (K:=X.K) h1)
 obtain⟨its2,q2,p2,_⟩:=I.tuple (Gh.of (K:=X.K) h2)
 have p1:s.heap.IsTuple r its.toArray:=p1
 have p2:s.heap.IsTuple r' its2.toArray:=p2
 have l1:its.length=zs.length:=by rw[<- q1.length,Je,la]
 have l2:its2.length=ys.length:=by rw[<- q2.length,Je,lb]
 obtain⟨dz,_⟩:∃z:Str×Int×Int,True:=#[("",0,0),trivial]
 have item:∀{us:List Γ} {cs:List Δ} {ws:qC},Ga (cs.map V.ref) us->cs.length=ws.length->(∀(i:Nat) (a:Δ) (z:Str×Int×Int),cs[i]? =some a->ws[i]? =some z->H a=some (.tup [.str z.1,.int z.2.1,.int z.2.2]))->∀j (hj:j<us.length),∃a,us[j]= .ref a/\H a=some (.tup [.str (ws.getD j dz).1,.int (ws.getD j dz).2.1,.int (ws.getD j dz).2.2]):=fun{us cs ws} q hl f j hj=>by
  obtain⟨x,ex,rx⟩:=zr q (j:=j) hj
  rw[Jn]at ex;obtain⟨a,ha,rfl⟩:=JW.mp ex;have hw:j<ws.length:=by rw[<- hl];exact(Jy.mp ha).1
  refine#[a,rx,?_]
  have:=f j a _ ha (Jg hw)
  rw[JA,Jg hw];exact this
 have both:∀j (z1:j<its.toArray.size) (z2:j<its2.toArray.size),EqAt A.in1 s its.toArray[j] its2.toArray[j] (decide (zs.getD j dz=ys.getD j dz))/\HS A.in1 s its.toArray[j] its2.toArray[j] (ZP (zs.getD j dz) (ys.getD j dz)):=fun j z1 z2=>by
  obtain⟨a,ea,ha⟩:=item q1 la has j (by simpa using z1)
  obtain⟨b,eb,hb⟩:=item q2 lb hbs j (by simpa using z2)
  simp only[List.getElem_toArray];rw[ea,eb];exact Bz I ha hb (by rw[Ee];lia)
 constructor
 ·by_cases hab:r=r'
  ·subst hab
   rw[h1]at h2;have ec:as=bs:=by
    injection h2 with h2
    injection h2 with h2
    have inj:∀{cs ds:List Δ},cs.map V.ref=ds.map V.ref->cs=ds:=fun{cs}=>by
     induction cs with
     |nil=>intro ds hh;cases ds with
      |nil=>rfl
      |cons d ds=>cases hh
     |cons c cs ih=>intro ds hh;cases ds with
      |nil=>cases hh
      |cons d ds=>rw[JU,JU]at hh;injection hh with x1 x2;injection x1 with x1;rw[x1,ih x2]
    exact inj h2
   subst ec
   have:zs=ys:=List.ext_getElem (by lia) fun j j1 j2=>by
    have hj:j<as.length:=by lia
    have x1:=has j as[j] _ (Jg hj) (Jg j1);have x2:=hbs j as[j] _ (Jg hj) (Jg j2);rw[x1]at x2;injection x2 with x2
    injection x2 with x2
    injection x2 with y1 x2
    injection x2 with y2 x2
    injection x2 with y3 _
    injection y1 with y1
    injection y2 with y2
    injection y3 with y3
    exact Prod.ext y1 (Prod.ext y2 y3)
   rw[Jh this];exact EqAt.same _
  ·have rc:=RcAt.tuples (A:=A) (e:=fun j=>decide (zs.getD j dz=ys.getD j dz)) p1 p2 (by lia) fun j z1 z2=>(both j z1 z2).1
   have ed:((List.range (min its.toArray.size its2.toArray.size)).all (fun j=>decide (zs.getD j dz=ys.getD j dz))&&its.toArray.size==its2.toArray.size)=decide (zs=ys):=by
    rw[Jp,Jp,l1,l2,Ej,Ju,JT,decide_eq_true_eq,EG];constructor
    ·rintro⟨x1,x2⟩
     refine List.ext_getElem x2 fun j j1 j2=>?_
     have:=Jx (x1 j (JN.mpr (by lia)))
     rw[JA,JA,Jg j1,Jg j2]at this;exact this
    ·intro x
     subst x
     exact#[fun j _=>Jh rfl,rfl]
   rw[ed]at rc;exact EqAt.of_refs hab rc
 ·have lt:=HS.tuples (A:=A) (e:=fun j=>decide (zs.getD j dz=ys.getD j dz)) (lt:=fun j=>ZP (zs.getD j dz) (ys.getD j dz)) p1 p2 (by lia) (fun j z1 z2=>(both j z1 z2).1) (fun j z1 z2 _=>(both j z1 z2).2)
  rw[Jp,Jp,l1,l2,wY]at lt;exact lt
end
inductive LX (x:V) (y:V) (H:Hp) (Q:VK):Prop
 |mk (t t' r r':Δ) (n n':Int) (zs ys:qC) (h1:x= .ref t) (h2:y= .ref t') (h3:H t=some (.tup [.int n,.ref r])) (h4:H t'=some (.tup [.int n',.ref r'])) (h5:HF H (.ref r) (some zs)) (h6:HF H (.ref r') (some ys)) (h7:Q (.bl (if n=n' then bv zs ys else decide (n<n'))) H)
def CT:R2:=fun x y H Q=>LX x y H Q
theorem vP{X:Cx}{k:Nat}(hr:Gq k X.A):zt X (compareOp .Lt) CT:=by
 intro MT s σ H x y v u Q I rx ry h;obtain⟨t,t',r,r',n,n',zs,ys,rfl,rfl,h1,h2,g1,g2,q⟩:=h;cases rx;cases ry;obtain⟨its,q1,p1,_⟩:=I.tuple (Gh.of (K:=X.K) h1)
 obtain⟨its2,q2,p2,_⟩:=I.tuple (Gh.of (K:=X.K) h2)
 have p1:s.heap.IsTuple t its.toArray:=p1
 have p2:s.heap.IsTuple t' its2.toArray:=p2
 have hu:X.A.units+4<cLine:=by have:=hr.un;lia
 have at_:∀{us:List Γ} {m:Int} {c:Δ},Ga [.int m,.ref c] us->∃t1,us=[.int m t1,.ref c]:=fun{us m c} w=>by
  match us,w.length with
  | [u1,u2],_=>
   cases w with
   |cons r1 w=>
    cases w with
    |cons r2 w=>
     obtain⟨t1,rfl⟩:=r1;cases r2
     exact#[t1,rfl]
 obtain⟨t1,rfl⟩:=at_ q1;obtain⟨u1,rfl⟩:=at_ q2;obtain⟨e3,l3⟩:=Ck I (A:=X.A.in1) g1 g2 (by rw[Ee];lia)
 have lt:=HS.tuples (A:=X.A) (e:=fun j=>if j=0 then decide (n=n')else decide (zs=ys)) (lt:=fun j=>if j=0 then decide (n<n')else bv zs ys) p1 p2 (by lia) (fun j z1 z2=>by
  match j,z1,z2 with
  |0,_,_=>have:=EqAt.int_int (A:=X.A.in1) (s:=s) n t1 n' u1;exact this
  |1,_,_=>exact e3) (fun j z1 z2 _=>by
  match j,z1,z2 with
  |0,_,_=>exact fun prog w E Q q=>lt_int q
  |1,_,_=>exact l3)
 have self:∀zs:qC,bv zs zs=false:=fun zs=>by
  induction zs with
  |nil=>rfl
  |cons z r ih=>unfold bv;rw[Jb rfl];exact ih
 have ed:Zd (fun j=>if j=0 then decide (n=n')else decide (zs=ys)) (fun j=>if j=0 then decide (n<n')else bv zs ys) (decide ([Γ.int n t1,.ref r].toArray.size<[Γ.int n' u1,.ref r'].toArray.size)) (List.range (min [Γ.int n t1,.ref r].toArray.size [Γ.int n' u1,.ref r'].toArray.size))=if n=n' then bv zs ys else decide (n<n'):=by
  show Zd _ _ false [0,1]=_
  simp only[Zd,Ek,decide_eq_true_eq,show¬((1:Nat)=0) by decide,Jz]
  show(if n=n' then(if zs=ys then false else bv zs ys)else decide (n<n'))=_
  split
  ·split
   ·rename_i w;rw[w,self]
   ·rfl
  ·rfl
 rw[ed]at lt;exact lt _ _ _ _ #[.bl _,H,I,rfl,q]
end L3
namespace L3
open PySem PySem.Spec PyProof.Rows L2 SeqAt
structure HU(t:List Int)(kss:List (List Int))(D:Dr):Prop where
 ok:Hg D
 t:D.t=t
 ks:D.kss=kss
 f0:D.near<=D.far
theorem Zz{t:List Int}{kss:List (List Int)}{D:Dr}{nm:Str}{age c d:Int}(h:HU t kss D)(c0:0<=c)(c1:c<4096)(hd:b9 d):c4 D (zK t kss nm age c d)=zb D nm age (some (c,d)):=by
 unfold c4 zK;simp only
 rw[h.t,show QJ D age=kss.getD age.toNat [] by unfold QJ;rw[h.ks],jz (h.t▸h.ok.tp) c0 c1 hd]
end L3
namespace L3
open PySem PySem.Spec PyProof.Rows L2
section
variable{D D':Dr}{e e':Kb}{a c:Int}{o o':Option Kb}
def DR(D D':Dr)(e:Kb):Prop:=zc (e.last+D.far)=zc (e.last+D'.far)\/((∀x,qx e.age D.least<=x->x<D.kss.length->zP D e x=none)/\zc (e.last+D.far)<=e.last+D.near+1/\zc (e.last+D'.far)<=e.last+D'.near+1)
structure Ml(D:Dr)(e:Kb)(D':Dr)(e':Kb):Prop where
 s:Ib D e D' e'
 ow:∀x,qx e.age D.least<=x->x<D.kss.length->zP D e x=zP D' e' x
 f:DR D D' e
def gT:Option Kb->Prop
 |none=>True
 |some e=>¬e.last+1<4096
def Ld(D:Dr)(o:Option Kb)(D':Dr)(o':Option Kb):Prop:=(gT o/\gT o')\/∃e e',o=some e/\o'=some e'/\Ml D e D' e'
theorem lM(d:Gw D)(k:ZL D o)(h:gT o)(a:Int):zm D a o=[]:=by
 cases o with
 |none=>rfl
 |some e=>exact ZR d k h a
theorem B4(d:Gw D)(k:Gu D e):0<=qx e.age D.least:=by
 have:=k.a0
 have:=d.l0
 unfold qx;split<;>lia
theorem Ld.pa(g:Ld D o D' o')(d:Gw D)(d':Gw D')(k:ZL D o)(k':ZL D' o'):Qr D o D' o'=none:=by
 rcases g with⟨h,h'⟩|⟨e,e',rfl,rfl,g⟩
 ·exact zM fun x _ _=>Jb (by rw[lM d k h,lM d' k' h'])
 ·exact(g.s.pa (B4 d k)).mpr g.ow
theorem Ml.opened(g:Ml D e D' e')(hA:qx e.age D.least<=a)(hc:e.last<c)(h:c+1<4096):Ml D #[a,c,none] D' #[a,c,none]:=by
 have hA':qx e'.age D'.least<=a:=by rw[g.s.A];exact hA
 have m1:qx a D.least=a:=by unfold qx at hA⊢;split at hA<;>split<;>lia
 have m2:qx a D'.least=a:=by unfold qx at hA'⊢;split at hA'<;>split<;>lia
 refine#[#[h,rfl,by show qx a D'.least=qx a D.least;rw[m1,m2],g.s.K,?_],fun _ _ _=>rfl,?_]
 ·have hn:=g.s.n
  show zc (c+D'.near)=zc (c+D.near)
  unfold zc at hn⊢;split at hn<;>split at hn<;>split<;>split<;>lia
 ·rcases g.f with f|⟨_,f1,f2⟩
  ·left
   show zc (c+D.far)=zc (c+D'.far)
   unfold zc at f⊢;split at f<;>split at f<;>split<;>split<;>lia
  ·refine .inr #[fun _ _ _=>rfl,?_,?_]
   ·show zc (c+D.far)<=c+D.near+1
    unfold zc at f1⊢;split at f1<;>split<;>lia
   ·show zc (c+D'.far)<=c+D'.near+1
    unfold zc at f2⊢;split at f2<;>split<;>lia
theorem Ml.waits(g:Ml D e D' e')(hn:¬c<=e.last+D.near)(c1:c<=4095):Ml D (fW D e a c) D' (fW D' e' a c):=by
 have el:=g.s.l;have w1:=aO (D:=D) (e:=e) (a:=a) (c:=c)
 have s2:=g.s.fW (a:=a) (c:=c)
 have hn':¬c<=e.last+D'.near:=by
  have hn2:=g.s.n;unfold zc at hn2;split at hn2<;>split at hn2<;>lia
 rcases g.f with f|⟨n,f1,f2⟩
 ·by_cases hc:c<=e.last+D.far
  ·have hc':c<=e'.last+D'.far:=by
    rw[el];unfold zc at f;split at f<;>split at f<;>lia
   rw[Q3 hc,Q3 hc']at s2⊢;refine#[s2,fun x _ _=>?_,.inl f]
   rw[Qb,Qb,el,<- f]
  ·have hc':¬c<=e'.last+D'.far:=by
    rw[el];unfold zc at f;split at f<;>split at f<;>lia
   rw[ZJ (by lia),ZJ (by lia)]
   exact g
 ·have n1:∀x,qx e.age D.least<=x->x<D.kss.length->zP D (fW D e a c) x=none:=fun x x1 x2=>by
   by_cases hc:c<=e.last+D.far
   ·rw[Q3 hc,Qb,Jc (fun z=>by have:=z.2;lia)]
   ·rw[ZJ (by lia)];exact n x x1 x2
  have n2:∀x,qx e.age D.least<=x->x<D.kss.length->zP D' (fW D' e' a c) x=none:=fun x x1 x2=>by
   by_cases hc:c<=e'.last+D'.far
   ·rw[Q3 hc,Qb,Jc (fun z=>by have:=z.2;rw[el]at this;lia)]
   ·rw[ZJ (by lia),<- g.ow x x1 x2];exact n x x1 x2
  refine#[s2,fun x x1 x2=>?_,.inr #[fun x x1 x2=>?_,?_,?_]]
  ·rw[w1.2]at x1
   rw[n1 x x1 x2,n2 x x1 x2]
  ·rw[w1.2]at x1
   exact n1 x x1 x2
  ·rw[w1.1];exact f1
  ·rw[w1.1];exact f2
theorem Ld.step(g:Ld D (some e) D' (some e'))(d:Gw D)(d':Gw D')(k:Gu D e)(k':Gu D' e')(a:Int)(c1:c<=4095):Ld D (some (qI D e a c).2) D' (some (qI D' e' a c).2):=by
 rcases g with⟨h,h'⟩|⟨_,_,q1,q2,g⟩
 ·have h:¬e.last+1<4096:=h
  have h':¬e'.last+1<4096:=h'
  rw[zD (by lia),zD (by lia)]
  exact .inl #[h,h']
 cases q1;cases q2
 by_cases h1:qx e.age D.least<=a/\a<D.kss.length
 case neg=>
  have z1:qG D e a=false:=EE.mpr fun y=>h1 (GC.mp y)
  have z2:qG D' e' a=false:=EE.mpr fun y=>h1 (by have:=GC.mp y;rw[g.s.A,g.s.K]at this;exact this)
  rw[Qs d.nf (.inl z1),Qs d'.nf (.inl z2)];exact .inr #[e,e',rfl,rfl,g]
 by_cases h2:e.last<c
 case neg=>
  rw[Qs d.nf (.inr (.inl (by lia))),Qs d'.nf (.inr (.inl (by rw[g.s.l];lia)))]
  exact .inr #[e,e',rfl,rfl,g]
 have t1:=GC.mpr h1;have t2:qG D' e' a=true:=GC.mpr (by rw[g.s.A,g.s.K];exact h1)
 have oi:=g.s.open_iff d d' k k' (g.ow a h1.1 h1.2) c1
 by_cases ho:Q4 D e a c
 ·rw[aJ t1 ho,aJ t2 (oi.mp ho)]
  by_cases h3:c+1<4096
  ·exact .inr #[_,_,rfl,rfl,g.opened h1.1 h2 h3]
  ·exact .inl #[h3,h3]
 ·rw[aN d.nf t1 ho h2,aN d'.nf t2 (fun z=>ho (oi.mpr z)) (by rw[g.s.l];exact h2)]
  exact .inr #[_,_,rfl,rfl,g.waits (fun z=>ho #[h2,.inl z]) c1]
theorem Ld.pair(g:Ld D o D' o')(d:Gw D)(d':Gw D')(k:ZL D o)(k':ZL D' o'):ZC D o D' o'=none:=by
 cases o with
 |none=>cases o'<;>rfl
 |some e=>cases o' with
  |none=>rfl
  |some e'=>
   have k:Gu D e:=k
   have k':Gu D' e':=k'
   have l0:=k.l0;have l0':=k'.l0;have n0:=d.n0;have n0':=d'.n0;have nf:=d.nf;have nf':=d'.nf;refine zM fun x x1 x2=>?_
   have x0:0<=x:=by unfold zv Qf at x1;split at x1<;>lia
   have x4:x<=4095:=by
    have:Qf (zv D e D' e'+2) 4096<=4096:=by unfold Qf;split<;>lia
    lia
   rw[(g.step d d' k k' (qx e.age D.least) x4).pa d d' (Z1 d k x0 (by lia)) (Z1 d' k' x0 (by lia))]
   rfl
theorem HY.reach(t:HY D e D' e')(hf:D'.far<D.far)(hL:e.last+D'.far<4095)(p0:zy D e D' e' (qx e.age D.least) (e.last+D'.far)=none)(p1:zy D e D' e' (qx e.age D.least) (e.last+D'.far+1)=none):
  (∀x,qx e.age D.least<=x->x<D.kss.length->zP D e x=none)/\zc (e.last+D.far)<=e.last+D.near+1/\zc (e.last+D'.far)<=e.last+D'.near+1:=by
 have el:=t.s.l;have n0:=t.d.n0;have nf:=t.d.nf;have n0':=t.d'.n0;have nf':=t.d'.nf;have A0:=t.a0;have en:D'.near=D.near:=by
  have hn:=t.s.n;unfold zc at hn;split at hn<;>split at hn<;>lia
 obtain⟨A,eA⟩:∃A,A=qx e.age D.least:=#[_,rfl]
 rw[<- eA]at p0 p1 A0⊢;have hA:qx e.age D.least<=A/\A<D.kss.length:=by rw[<- eA];exact#[JK _,A0.2]
 have ow'le:∀{x a:Int},zP D' e' a=some x->x<=e.last+D'.far:=fun{x a} z=>by
  have z1:=xp z;have z2:=(aZ (e'.last+D'.far)).1;rw[el]at z2 z1;lia
 have owA:=t.ow hA.1 hA.2;have no1:¬Q4 D e A (e.last+D'.far+1):=fun y=>by
  have:=(Zy t.d t.k (by lia) (by lia) (by lia)).mp y
  rw[owA]at this
  have:=ow'le this
  lia
 have all:=(t.is (by lia) hA (by lia) no1).mp p1
 rw[Q3 (D:=D) (e:=e) (by lia),ZJ (D:=D') (e:=e') (by rw[el];lia)]at all
 have n2:¬e.last+D'.far+1+1<=zc (e.last+D.far):=fun y=>by
  have:=all A hA.1 hA.2
  rw[Qb,Jb #[rfl,y]]at this
  have:=ow'le this.symm
  lia
 have nw:∀x,A<=x->x<D.kss.length->zP D e x=none:=fun x x1 x2=>by
  have x1':qx e.age D.least<=x:=by rw[<- eA];exact x1
  have:=all x x1' x2
  rw[Qb,Jc (fun q=>n2 q.2)]at this
  rw[t.ow x1' x2];exact this.symm
 have op:Q4 D e A (e.last+D'.far):=Classical.byContradiction fun ho=>by
  have:=(t.is (by lia) hA (by lia) ho).mp p0 A hA.1 hA.2
  rw[Q3 (D:=D) (e:=e) (by lia),Q3 (D:=D') (e:=e') (by rw[el];exact JK _),Qb,Qb,Jb #[rfl,ie (by lia) (by lia)],Jc (fun q=>by have q:=q.2;have:=(aZ (e'.last+D'.far)).1;rw[el]at this q;lia)]at this
  cases this
 have hLn:e.last+D'.far<=e.last+D.near:=Decidable.byContradiction fun z=>by
  have:=(Zy t.d t.k (by lia) z (by lia)).mp op
  rw[nw A (JK _) hA.2]at this;cases this
 have c1:=(aZ (e.last+D'.far)).1
 exact#[nw,by lia,by lia]
theorem AK{α:Type}{lo:Int}{n:Nat}{f:Int->Option α}(h:zG lo n f=none){x:Int}(h1:lo<=x)(h2:x<lo+n):f x=none:=by
 unfold zG at h;exact List.findSome?_eq_none_iff.mp h x (Jq.mpr #[(x-lo).toNat,JN.mpr (by lia),by lia])
theorem C1(d:Gw D)(d':Gw D')(k:ZL D o)(k':ZL D' o')(hk:D.kss.length=D'.kss.length)(no:Qr D o D' o'=none)(np:ZC D o D' o'=none):Ld D o D' o':=by
 cases o with
 |none=>
  cases o' with
  |none=>exact .inl #[trivial,trivial]
  |some e'=>exact .inl #[trivial,Q2 d' k' fun a h0 h1=>(Qt no h0 (by rw[hk];exact h1)).symm]
 |some e=>
  cases o' with
  |none=>exact .inl #[Q2 d k fun a h0 h1=>Qt no h0 h1,trivial]
  |some e'=>
   have k:Gu D e:=k
   have k':Gu D' e':=k'
   by_cases h1:e.last+1<4096
   case neg=>
    refine .inl #[h1,Q2 d' k' fun a h0 h2=>?_]
    have:=Qt no h0 (by rw[hk];exact h2)
    exact this.symm.trans (ZR d k h1 a)
   have s:=re d d' k k' hk no h1;have t:HY D e D' e':=#[s,d,d',k,k',no]
   refine .inr #[e,e',rfl,rfl,s,fun x x1 x2=>t.ow x1 x2,?_]
   by_cases hc:zc (e.last+D.far)=zc (e.last+D'.far)
   ·exact .inl hc
   right
   have el:=s.l;have pr:∀x,zv D e D' e'<=x->x<=zv D e D' e'+1->x<=4095->zy D e D' e' (qx e.age D.least) x=none:=fun x x1 x2 x3=>by
    have:=AK (show zG (zv D e D' e') (Qf (zv D e D' e'+2) 4096-zv D e D' e').toNat (fun c=>(zy D e D' e' (qx e.age D.least) c).map fun p=>((qx e.age D.least,c),p))=none from np) x1 (by unfold Qf;split<;>lia)
    exact Option.map_eq_none_iff.mp this
   rcases Int.lt_trichotomy D'.far D.far with h|h|h
   ·have ee:zv D e D' e'=e.last+D'.far:=by unfold zv Qf;rw[el];split<;>lia
    have hL:e.last+D'.far<4095:=by unfold zc at hc;split at hc<;>split at hc<;>lia
    rw[ee]at pr;exact t.reach h hL (pr _ (JK _) (by lia) (by lia)) (pr _ (by lia) (JK _) (by lia))
   ·rw[h]at hc;exact absurd rfl hc
   ·have ee:zv D e D' e'=e'.last+D.far:=by unfold zv Qf;rw[el];split<;>lia
    have hL:e'.last+D.far<4095:=by rw[el];unfold zc at hc;split at hc<;>split at hc<;>lia
    rw[ee]at pr;have A:=s.A;obtain⟨r1,r2,r3⟩:=t.symm.reach h hL (by rw[A,ca s.K];exact pr _ (JK _) (by lia) (by lia)) (by rw[A,ca s.K];exact pr _ (by lia) (JK _) (by lia))
    rw[el]at r2 r3;refine#[fun x x1 x2=>?_,r3,r2]
    rw[t.ow x1 x2];exact r1 x (by rw[A];exact x1) (by rw[s.K];exact x2)
end
structure LJ(D D':Dr):Prop where
 hk:D.kss.length=D'.kss.length
 all:∀nm,Ld D (D.kn.lookup nm) D' (D'.kn.lookup nm)
section
variable{D D':Dr}{nm z:Str}{a c:Int}{ns:List Str}
theorem fv(h:z∉D.kn.map (·.1)):D.kn.lookup z=none:=by
 cases e:D.kn.lookup z with
 |none=>rfl
 |some b=>exact absurd (Gb.mp (by rw[e];rfl)) h
theorem yS(td:GU D)(td':GU D')(hk:D.kss.length=D'.kss.length)(mem:∀k,k∈ns↔k∈D.kn.map (·.1)\/k∈D'.kn.map (·.1))(h:Qp D D' ns=none):LJ D D':=by
 refine#[hk,fun nm=>?_]
 by_cases hn:nm∈ns
 ·unfold Qp at h
  cases e:ns.findSome? (zj D D')with
  |some r=>rw[e]at h;cases h
  |none=>
   rw[e]at h;have h1:=List.findSome?_eq_none_iff.mp e nm hn;have h2:=List.findSome?_eq_none_iff.mp h nm hn;unfold zj at h1;unfold ZY at h2;exact C1 td.dn td'.dn (td.kn nm) (td'.kn nm) hk (Option.map_eq_none_iff.mp h1) (Option.map_eq_none_iff.mp h2)
 ·have z1:=fv (D:=D) fun y=>hn ((mem nm).mpr (.inl y))
  have z2:=fv (D:=D') fun y=>hn ((mem nm).mpr (.inr y))
  rw[z1,z2];exact .inl #[trivial,trivial]
theorem LJ.tell(g:LJ D D')(td:GU D)(td':GU D')(ns:List Str):Qp D D' ns=none:=by
 have e1:ns.findSome? (zj D D')=none:=QC fun nm _=>by unfold zj;rw[(g.all nm).pa td.dn td'.dn (td.kn nm) (td'.kn nm)];rfl
 unfold Qp;rw[e1];exact QC fun nm _=>by unfold ZY;rw[(g.all nm).pair td.dn td'.dn (td.kn nm) (td'.kn nm)];rfl
theorem Qh(nd:(D.kn.map (·.1)).Nodup):(Gc D nm a c).lookup z=if z=nm then(D.kn.lookup nm).map (fun e=>(qI D e a c).2)else D.kn.lookup z:=by
 by_cases hz:z=nm
 ·subst hz
  rw[Jb rfl];cases e:D.kn.lookup z with
  |some b=>exact sd nd e
  |none=>
   rcases Q0 (D:=D) (nm:=z) (age:=a) (c:=c)with e1|⟨b,hb,_⟩
   ·rw[e1,e];rfl
   ·rw[e]at hb;cases hb
 ·rw[Jc hz]
  rcases Q0 (D:=D) (nm:=nm) (age:=a) (c:=c)with e1|⟨b,hb,_,ek⟩
  ·rw[e1]
  ·rw[ek,nF nd hz]
theorem GU.hear(td:GU D)(c0:0<=c)(c1:c<4096):GU {D with kn:=Gc D nm a c}:=by
 refine#[td.ok.hearK nm a c,#[td.dn.n0,td.dn.n1,td.dn.nf,td.dn.f1,td.dn.l0,td.dn.lk],fun z=>?_,?_]
 ·show ZL _ ((Gc D nm a c).lookup z)
  rw[Qh td.ok.nd];have key:∀o:Option Kb,ZL D o->ZL {D with kn:=Gc D nm a c} o:=fun o h=>by
   cases o with
   |none=>exact trivial
   |some e=>exact Gu.mono h (Jf _)
  split
  ·have k:=td.kn nm
   cases e:D.kn.lookup nm with
   |none=>exact trivial
   |some b=>rw[e]at k;exact key _ (Z1 td.dn k c0 c1)
  ·exact key _ (td.kn z)
 ·have:=JO List.length (ZN D nm a c)
  rw[Je,Je]at this
  show(Gc D nm a c).length<=30
  rw[this];exact td.few
theorem LJ.hear(g:LJ D D')(td:GU D)(td':GU D')(c1:c<=4095):LJ {D with kn:=Gc D nm a c} {D' with kn:=Gc D' nm a c}:=by
 refine#[g.hk,fun z=>?_]
 show Ld _ ((Gc D nm a c).lookup z) _ ((Gc D' nm a c).lookup z)
 rw[Qh td.ok.nd,Qh td'.ok.nd];have key:∀o o':Option Kb,Ld D o D' o'->Ld {D with kn:=Gc D nm a c} o {D' with kn:=Gc D' nm a c} o':=fun o o' h=>by
  rcases h with h|⟨e,e',e1,e2,h⟩
  ·exact .inl h
  ·exact .inr #[e,e',e1,e2,#[h.s.h1,h.s.l,h.s.A,h.s.K,h.s.n],h.ow,h.f]
 by_cases hz:z=nm
 ·rw[Jb hz,Jb hz]
  have gn:=g.all nm;have k:=td.kn nm;have k':=td'.kn nm;cases e:D.kn.lookup nm with
  |none=>
   rw[e]at gn;cases e':D'.kn.lookup nm with
   |none=>exact .inl #[trivial,trivial]
   |some b'=>
    rw[e']at gn;rcases gn with⟨_,h⟩|⟨_,_,q,_⟩
    ·refine .inl #[trivial,?_]
     show gT (some (qI D' b' a c).2)
     have h:¬b'.last+1<4096:=h
     rw[zD (by lia)];exact h
    ·cases q
  |some b=>
   rw[e]at gn k;cases e':D'.kn.lookup nm with
   |none=>
    rw[e']at gn;rcases gn with⟨h,_⟩|⟨_,_,_,q,_⟩
    ·refine .inl #[?_,trivial]
     show gT (some (qI D b a c).2)
     have h:¬b.last+1<4096:=h
     rw[zD (by lia)];exact h
    ·cases q
   |some b'=>
    rw[e']at gn k';exact key _ _ (gn.step td.dn td'.dn k k' a c1)
 ·rw[Jc hz,Jc hz]
  exact key _ _ (g.all z)
theorem LJ.opn(g:LJ D D')(td:GU D)(td':GU D')(a0:0<=a)(a1:a<D.kss.length)(c1:c<=4095):L3.HZ D nm a c=L3.HZ D' nm a c:=by
 rw[hW td.dn (td.kn nm) c1,hW td'.dn (td'.kn nm) c1,Qt ((g.all nm).pa td.dn td'.dn (td.kn nm) (td'.kn nm)) a0 a1]
end
theorem pJ{α β γ:Type}(l:List α)(g:α->List β)(f:β->Option γ):(l.flatMap g).findSome? f=l.findSome? fun x=>(g x).findSome? f:=by
 induction l with
 |nil=>rfl
 |cons x r ih=>
  rw[List.flatMap_cons,List.findSome?_append,List.findSome?_cons,ih]
  cases(g x).findSome? f<;>rfl
theorem BK{α β γ:Type}(l:List α)(g:α->β)(f:β->Option γ):(l.map g).findSome? f=l.findSome? fun x=>f (g x):=by
 induction l with
 |nil=>rfl
 |cons x r ih=>rw[JU,List.findSome?_cons,List.findSome?_cons,ih]
def Q5(nms:List Str)(K:Nat)(lo:Int)(n:Nat):qC:=nms.flatMap fun nm=>((List.range K).map fun i:Nat=>(0:Int)+(i:Int)).flatMap fun a=>((List.range n).map fun i:Nat=>lo+(i:Int)).map fun c=>(nm,a,c)
theorem rG{γ:Type}(nms:List Str)(K:Nat)(lo:Int)(n:Nat)(f:Str×Int×Int->Option γ):(Q5 nms K lo n).findSome? f=nms.findSome? fun nm=>zG 0 K fun a=>zG lo n fun c=>f (nm,a,c):=by
 unfold Q5 zG;rw[pJ];refine Z4 fun nm _=>?_
 rw[pJ];refine Z4 fun a _=>?_
 rw[BK]
def qL(D:Dr)(z:Str×Int×Int):Dr:={D with kn:=Gc D z.1 z.2.1 z.2.2}
def zh(D:Dr)(z:Str×Int×Int):Bool:=HZ D z.1 z.2.1 z.2.2
def Qc(D D':Dr)(z:Str×Int×Int):Option qC:=if zh D z=zh D' z then none else some [z]
def Qv(D D':Dr)(ps:qC)(z:Str×Int×Int):Option qC:=ps.findSome? fun y=>if zh (qL D z) y=zh (qL D' z) y then none else some [z,y]
def QB(D D':Dr)(ps:qC)(ch:Str×Int×Int->Bool):Option qC:=match ps.findSome? (Qc D D')with
 |some r=>some r
 |none=>ps.findSome? fun z=>if ch z=true then Qv D D' ps z else none
structure Ik(base:Int)(D:Dr):Prop where
 td:GU D
 n:D.near<=13
 lo:∀nm e,D.kn.lookup nm=some e->base<e.last/\e.last+D.far<=base+10
def zA(base:Int):Nat:=((if base+10<4095 then base+10 else 4095)-base+1).toNat
theorem Qw{base:Int}(b1:base<=4095):(zA base:Int)=(if base+10<4095 then base+10 else 4095)-base+1:=by unfold zA;split<;>lia
theorem vB{α:Type}{lo:Int}{n m:Nat}{f:Int->Option α}(h:n<=m)(hf:∀x,lo+n<=x->x<lo+m->f x=none):zG lo m f=zG lo n f:=by
 unfold zG;obtain⟨d,rfl⟩:∃d,m=n+d:=#[m-n,by lia]
 rw[List.range_add,JJ,List.findSome?_append,Es]
 have:((List.range d).map ((fun i:Nat=>lo+(i:Int))∘fun x=>n+x)).findSome? f=none:=QC fun x hx=>by
  obtain⟨i,hi,rfl⟩:=Jq.mp hx
  have:=JN.mp hi
  exact hf _ (by show lo+(n:Int)<=lo+((n+i:Nat):Int);lia) (by show lo+((n+i:Nat):Int)<lo+((n+d:Nat):Int);lia)
 rw[this]
 cases((List.range n).map fun i:Nat=>lo+(i:Int)).findSome? f<;>rfl
section
variable{base:Int}{D D':Dr}{nm:Str}
theorem Ik.win(h:Ik base D){a x:Int}(b0:0<=base)(b1:base<=4090)(hx:Qz x (zm D a (D.kn.lookup nm))=true):base<=x/\x<base+(zA base:Int):=by
 rw[Qw (by lia)]
 cases e:D.kn.lookup nm with
 |none=>rw[e]at hx;cases hx
 |some k=>
  rw[e]at hx;have ok:=h.td.kn nm;rw[e]at ok;obtain⟨h1,h2,h3⟩:=sG h.td.dn ok hx;obtain⟨q1,q2⟩:=h.lo nm k e;split<;>lia
theorem Ik.one(h:Ik base D)(h':Ik base D')(b0:0<=base)(b1:base<=4090)(nm:Str):lN D D' D.kss.length base (zA base) nm=zj D D' nm:=
 nY h.td.dn h'.td.dn (h.td.kn nm) (h'.td.kn nm) b0 (by rw[Qw (by lia)];split<;>lia) fun a x _ hx=>by
  rcases hx with hx|hx
  ·exact h.win b0 b1 hx
  ·exact h'.win b0 b1 hx
theorem Ik.next(h:Ik base D)(h':Ik base D')(hk:D.kss.length=D'.kss.length)(b0:0<=base)(b1:base<=4090)(no:∀nm,zj D D' nm=none){z:Str×Int×Int}(c0:0<=z.2.2)(c1:z.2.2<=4095)(nm:Str):lN (qL D z) (qL D' z) D.kss.length base (zA base) nm=zj (qL D z) (qL D' z) nm:=by
 have td1:GU (qL D z):=h.td.hear c0 (by lia)
 have td1':GU (qL D' z):=h'.td.hear c0 (by lia)
 refine nY td1.dn td1'.dn (td1.kn nm) (td1'.kn nm) b0 (by rw[Qw (by lia)];split<;>lia) fun a x ne hx=>?_
 have ne:zm D a ((Gc D z.1 z.2.1 z.2.2).lookup nm)≠zm D' a ((Gc D' z.1 z.2.1 z.2.2).lookup nm):=ne
 have hx:Qz x (zm D a ((Gc D z.1 z.2.1 z.2.2).lookup nm))=true\/Qz x (zm D' a ((Gc D' z.1 z.2.1 z.2.2).lookup nm))=true:=hx
 rw[Qh h.td.ok.nd,Qh h'.td.ok.nd]at ne hx
 by_cases hz:nm=z.1
 case neg=>
  rw[Jc hz,Jc hz]at hx;rcases hx with hx|hx
  ·exact h.win b0 b1 hx
  ·exact h'.win b0 b1 hx
 rw[Jb hz,Jb hz]at ne hx;have no1:=no z.1;unfold zj at no1;rw[Option.map_eq_none_iff]at no1;have kn:=h.td.kn z.1;have kn':=h'.td.kn z.1;have one:∀{D:Dr} {e:Kb},Ik base D->D.kn.lookup z.1=some e->(qI D e z.2.1 z.2.2).2.last=e.last->Qz x (zp D (qI D e z.2.1 z.2.2).2 a)=true->base<=x/\x<base+(zA base:Int):=fun{D e} h he hl hx=>by
  have k:=h.td.kn z.1;rw[he]at k;obtain⟨h1,h2,h3⟩:=sG h.td.dn (Z1 h.td.dn k c0 (by lia)) hx
  rw[hl]at h1 h2;obtain⟨q1,q2⟩:=h.lo _ _ he;rw[Qw (by lia)]
  split<;>lia
 cases he:D.kn.lookup z.1 with
 |none=>
  cases he':D'.kn.lookup z.1 with
  |none=>rw[he,he']at hx;rcases hx with hx|hx<;>cases hx
  |some e'=>
   rw[he,he']at hx no1;rw[he']at kn';have sh:=Q2 h'.td.dn kn' fun a h0 h1=>(Qt no1 h0 (by rw[hk];exact h1)).symm
   rcases hx with hx|hx
   ·cases hx
   ·exact one h' he' (by rw[zD (by lia)]) hx
 |some e=>
  cases he':D'.kn.lookup z.1 with
  |none=>
   rw[he,he']at hx no1;rw[he]at kn;have sh:=Q2 h.td.dn kn fun a h0 h1=>Qt no1 h0 h1
   rcases hx with hx|hx
   ·exact one h he (by rw[zD (by lia)]) hx
   ·cases hx
  |some e'=>
   rw[he,he']at hx no1 ne;rw[he]at kn;rw[he']at kn';have kn:Gu D e:=kn
   have kn':Gu D' e':=kn'
   by_cases h1:e.last+1<4096
   case neg=>
    have sh':¬e'.last+1<4096:=Q2 h'.td.dn kn' fun a h0 h2=>by
     have:=Qt no1 h0 (by rw[hk];exact h2)
     exact this.symm.trans (ZR h.td.dn kn h1 a)
    rcases hx with hx|hx
    ·exact one h he (by rw[zD (by lia)]) hx
    ·exact one h' he' (by rw[zD (by lia)]) hx
   have t:HY D e D' e':=#[re h.td.dn h'.td.dn kn kn' hk no1 h1,h.td.dn,h'.td.dn,kn,kn',no1]
   have pn:zy D e D' e' z.2.1 z.2.2≠none:=fun y=>by
    by_cases ha:0<=a/\a<(D.kss.length:Int)
    ·exact ne (Qt y ha.1 ha.2)
    ·refine ne ?_
     have nt:∀{D:Dr} {f:Kb},0<=D.least->¬(0<=a/\a<(D.kss.length:Int))->zp D f a=[]:=fun{D f} l0 h=>by
      unfold zp;rw[Jc fun q=>h (Z9 q l0)]
     show zp D _ a=zp D' _ a
     rw[nt h.td.dn.l0 ha,nt h'.td.dn.l0 (by rw[<- hk];exact ha)]
   obtain⟨g1,g2,g3⟩:=t.ne c1 pn;have g3':¬Q4 D' e' z.2.1 z.2.2:=fun y=>g3 ((t.s.open_iff t.d t.d' t.k t.k' (t.ow g1.1 g1.2) c1).mpr y)
   rcases hx with hx|hx
   ·exact one h he (by rw[aN t.d.nf (GC.mpr g1) g3 g2];exact aO.1) hx
   ·exact one h' he' (by rw[aN t.d'.nf (GC.mpr (by rw[t.s.A,t.s.K];exact g1)) g3' (by rw[t.s.l];exact g2)];exact aO.1) hx
theorem Ik.two(h:Ik base D)(h':Ik base D')(hk:D.kss.length=D'.kss.length)(b0:0<=base)(b1:base<=4090)(no:∀nm,zj D D' nm=none){nms:List Str}(nd:nms.Nodup)(hn:nm∈nms)(ch:Str×Int×Int->Bool)(hc:∀z,ch z=false->Gc D z.1 z.2.1 z.2.2=D.kn/\Gc D' z.1 z.2.1 z.2.2=D'.kn):
  (zG 0 D.kss.length fun a=>zG base (zA base) fun c=>if ch (nm,a,c)=true then Qv D D' (Q5 nms D.kss.length base (zA base)) (nm,a,c)else none)=ZY D D' nm:=by
 have w:=Qw (base:=base) (by lia)
 have turn:∀a c:Int,0<=c->c<=4095->(if ch (nm,a,c)=true then Qv D D' (Q5 nms D.kss.length base (zA base)) (nm,a,c)else none)=(zj (qL D (nm,a,c)) (qL D' (nm,a,c)) nm).map fun r=>(nm,a,c)::r:=fun a c c0 c1=>by
  have flat:Qv D D' (Q5 nms D.kss.length base (zA base)) (nm,a,c)=(zj (qL D (nm,a,c)) (qL D' (nm,a,c)) nm).map fun r=>(nm,a,c)::r:=by
   unfold Qv;rw[rG];have e:∀y,(zG 0 D.kss.length fun a2=>zG base (zA base) fun c2=>if zh (qL D (nm,a,c)) (y,a2,c2)=zh (qL D' (nm,a,c)) (y,a2,c2)then none else some [(nm,a,c),(y,a2,c2)])=(zj (qL D (nm,a,c)) (qL D' (nm,a,c)) y).map fun r=>(nm,a,c)::r:=fun y=>by
    rw[<- h.next h' hk b0 b1 no (z:=(nm,a,c)) c0 c1 y]
    unfold lN CV;rw[iL];refine Qi fun a2 _ _=>?_
    rw[iL];refine Qi fun c2 _ _=>?_
    show(if HZ _ y a2 c2=HZ _ y a2 c2 then none else some [(nm,a,c),(y,a2,c2)])=Option.map _ (if HZ _ y a2 c2=HZ _ y a2 c2 then none else some [(y,a2,c2)])
    split<;>rfl
   rw[Z4 (g:=fun y=>(zj (qL D (nm,a,c)) (qL D' (nm,a,c)) y).map fun r=>(nm,a,c)::r) fun y _=>e y]
   have other:∀y,y≠nm->zj (qL D (nm,a,c)) (qL D' (nm,a,c)) y=none:=fun y hy=>by
    have:=no y
    unfold zj at this⊢;rw[Option.map_eq_none_iff]at this⊢
    show Qr D ((Gc D nm a c).lookup y) D' ((Gc D' nm a c).lookup y)=none
    rw[Qh h.td.ok.nd,Qh h'.td.ok.nd,Jc hy,Jc hy];exact this
   have key:∀l:List Str,nm∈l->l.findSome? (fun y=>(zj (qL D (nm,a,c)) (qL D' (nm,a,c)) y).map fun r=>(nm,a,c)::r)=(zj (qL D (nm,a,c)) (qL D' (nm,a,c)) nm).map fun r=>(nm,a,c)::r:=fun l hl=>by
    induction l with
    |nil=>cases hl
    |cons y l ih=>
     rw[List.findSome?_cons]
     by_cases hy:y=nm
     ·rw[hy]
      cases eo:zj (qL D (nm,a,c)) (qL D' (nm,a,c)) nm with
      |some r=>rfl
      |none=>
       show List.findSome? _ l=none
       refine QC fun x _=>?_
       by_cases hx:x=nm
       ·rw[hx,eo];rfl
       ·rw[other x hx];rfl
     ·rw[other y hy]
      exact ih ((Jr.mp hl).resolve_left (Ne.symm hy))
   exact key nms hn
  by_cases hch:ch (nm,a,c)=true
  ·rw[Jb hch,flat]
  ·rw[Jc hch]
   obtain⟨q1,q2⟩:=hc (nm,a,c) (EE.mpr hch)
   have e1:qL D (nm,a,c)=D:=by unfold qL;rw[q1]
   have e2:qL D' (nm,a,c)=D':=by unfold qL;rw[q2]
   rw[e1,e2,no nm];rfl
 rw[Qi (g:=fun a=>zG base (zA base) fun c=>(zj (qL D (nm,a,c)) (qL D' (nm,a,c)) nm).map fun r=>(nm,a,c)::r) fun a _ _=>Qi fun c q1 q2=>turn a c (by lia) (by rw[w]at q2;split at q2<;>lia)]
 have no1:=no nm;unfold zj at no1;rw[Option.map_eq_none_iff]at no1;have kn:=h.td.kn nm;have kn':=h'.td.kn nm;have step:∀a c,zj (qL D (nm,a,c)) (qL D' (nm,a,c)) nm=(Qr D ((D.kn.lookup nm).map fun e=>(qI D e a c).2) D' ((D'.kn.lookup nm).map fun e=>(qI D' e a c).2)).map fun p=>[(nm,p.1,p.2)]:=fun a c=>by
  unfold zj
  show Option.map _ (Qr D ((Gc D nm a c).lookup nm) D' ((Gc D' nm a c).lookup nm))=_
  rw[Qh h.td.ok.nd,Qh h'.td.ok.nd,Jb rfl,Jb rfl]
 have quiet:(∀a c:Int,c<=4095->((D.kn.lookup nm).map fun e=>(qI D e a c).2)=D.kn.lookup nm/\((D'.kn.lookup nm).map fun e=>(qI D' e a c).2)=D'.kn.lookup nm)->(zG 0 D.kss.length fun a=>zG base (zA base) fun c=>(zj (qL D (nm,a,c)) (qL D' (nm,a,c)) nm).map fun r=>(nm,a,c)::r)=none:=fun q=>zM fun a _ _=>zM fun c q1 q2=>by
  obtain⟨z1,z2⟩:=q a c (by rw[w]at q2;split at q2<;>lia)
  rw[step,z1,z2,no1];rfl
 unfold ZY;cases he:D.kn.lookup nm with
 |none=>
  rw[he]at no1;cases he':D'.kn.lookup nm with
  |none=>exact quiet fun a c _=>by rw[he,he'];exact#[rfl,rfl]
  |some e'=>
   rw[he']at no1 kn';have sh:=Q2 h'.td.dn kn' fun a h0 h1=>(Qt no1 h0 (by rw[hk];exact h1)).symm
   exact quiet fun a c c1=>by rw[he,he'];exact#[rfl,by show some (qI D' e' a c).2=_;rw[zD (by lia)]]
 |some e=>
  rw[he]at no1 kn;cases he':D'.kn.lookup nm with
  |none=>
   rw[he']at no1;have sh:=Q2 h.td.dn kn fun a h0 h1=>Qt no1 h0 h1
   exact quiet fun a c c1=>by rw[he,he'];exact#[by show some (qI D e a c).2=_;rw[zD (by lia)],rfl]
  |some e'=>
   rw[he']at no1 kn';have kn:Gu D e:=kn
   have kn':Gu D' e':=kn'
   by_cases h1:e.last+1<4096
   case neg=>
    have sh':¬e'.last+1<4096:=Q2 h'.td.dn kn' fun a h0 h2=>by
     have:=Qt no1 h0 (by rw[hk];exact h2)
     exact this.symm.trans (ZR h.td.dn kn h1 a)
    rw[show ZC D (some e) D' (some e')=none from(show Ld D (some e) D' (some e')from .inl #[h1,sh']).pair h.td.dn h'.td.dn kn kn']
    exact quiet fun a c c1=>by rw[he,he'];exact#[by show some (qI D e a c).2=_;rw[zD (by lia)],by show some (qI D' e' a c).2=_;rw[zD (by lia)]]
   have t:HY D e D' e':=#[re h.td.dn h'.td.dn kn kn' hk no1 h1,h.td.dn,h'.td.dn,kn,kn',no1]
   obtain⟨p1,p2⟩:=h.lo nm e he;obtain⟨p1',p2'⟩:=h'.lo nm e' he';have n0:=t.d.n0;have nf:=t.d.nf;have n0':=t.d'.n0;have nf':=t.d'.nf;obtain⟨m,em⟩:∃m:Nat,m=(4096-base).toNat:=#[_,rfl]
   have all:=t.all (fun a c p=>[(nm,a,c),(nm,p.1,p.2)]) (lo:=base) (n:=m) (by unfold zv Qf;split<;>lia) (by lia) (fun c q1 q2=>by lia)
   rw[<- all];refine Qi fun a _ _=>?_
   have wm:zA base<=m:=by
    have:(zA base:Int)<=m:=by rw[w];split<;>lia
    lia
   have wd:=vB (lo:=base) (n:=zA base) (m:=m) (f:=fun c=>(zy D e D' e' a c).map fun p=>[(nm,a,c),(nm,p.1,p.2)]) wm fun x q1 q2=>by
    have hx:base+10<x\/4095<x:=by rw[w]at q1;split at q1<;>lia
    have:zy D e D' e' a x=none:=by
     unfold zy;rw[Qs nf (.inr (.inr (by lia))),Qs nf' (.inr (.inr (by lia)))];exact no1
    show Option.map _ (zy D e D' e' a x)=none
    rw[this];rfl
   rw[show(zG base m fun c=>(zy D e D' e' a c).map ((fun a c p=>[(nm,a,c),(nm,p.1,p.2)]) a c))=_ from wd]
   refine Qi fun c _ _=>?_
   rw[step,he,he']
   show Option.map _ (Option.map _ (zy D e D' e' a c))=_
   rw[Option.map_map];rfl
theorem Ik.first(h:Ik base D)(h':Ik base D')(hk:D.kss.length=D'.kss.length)(b0:0<=base)(b1:base<=4090){nms:List Str}(nd:nms.Nodup)(sub:∀z∈D.kn.map (·.1),z∈nms)(sub':∀z∈D'.kn.map (·.1),z∈nms)(ch:Str×Int×Int->Bool)(hc:∀z,ch z=false->Gc D z.1 z.2.1 z.2.2=D.kn/\Gc D' z.1 z.2.1 z.2.2=D'.kn):
  QB D D' (Q5 nms D.kss.length base (zA base)) ch=Qp D D' nms:=by
 have e1:(Q5 nms D.kss.length base (zA base)).findSome? (Qc D D')=nms.findSome? (zj D D'):=by
  rw[rG];refine Z4 fun nm _=>?_
  rw[<- h.one h' b0 b1 nm];rfl
 unfold QB Qp;rw[e1];cases eo:nms.findSome? (zj D D')with
 |some r=>rfl
 |none=>
  have no:∀nm,zj D D' nm=none:=fun nm=>by
   by_cases hn:nm∈nms
   ·exact List.findSome?_eq_none_iff.mp eo nm hn
   ·unfold zj
    rw[fv (fun z=>hn (sub nm z)),fv (fun z=>hn (sub' nm z))]
    have:Qr D none D' none=none:=zM fun a _ _=>Jb rfl
    rw[this];rfl
  show(Q5 nms D.kss.length base (zA base)).findSome? _=nms.findSome? _
  rw[rG];exact Z4 fun nm hn=>h.two h' hk b0 b1 no nd hn ch hc
end
end L3
namespace L3
open PySem PySem.Spec PyProof.Rows L2 SeqAt
section
variable{A:Around}{s:Θ}
theorem sn{b:Δ}{k:Bool}(h:RcAt A s .none (.ref b) k):EqAt A s .none (.ref b) k:=fun prog w E Q hq=>by
 unfold eqBool;refine JD ?_
 refine wpAny_ite_split (fun hab=>by cases(show false=true from hab)) (fun _=>?_)
 exact Ja (h prog w E _ (EA hq))
theorem pL{b:Δ}{k:Bool}(h:RcAt A s (.ref b) .none k):EqAt A s (.ref b) .none k:=fun prog w E Q hq=>by
 unfold eqBool;refine JD ?_
 refine wpAny_ite_split (fun hab=>by cases(show false=true from hab)) (fun _=>?_)
 exact Ja (h prog w E _ (EA hq))
end
section
variable{X:Cx}{MT:F4}{σ:L2.St}{H:Hp}{s:Θ}
theorem mE{v:V}{w w':Option (Int×Int)}(h:Wt H v w)(h':Wt H v w'):w=w':=by
 cases w with
 |none=>
  cases w' with
  |none=>rfl
  |some p=>obtain⟨a,b⟩:=p;obtain⟨x,e,_⟩:=h';rw[show v= .non from h]at e;cases e
 |some p=>
  obtain⟨a,b⟩:=p;obtain⟨x,rfl,hx⟩:=h;cases w' with
  |none=>cases(show V.ref x= .non from h')
  |some p'=>
   obtain⟨a',b'⟩:=p';obtain⟨x',e,hx'⟩:=h';cases e;rw[hx]at hx';injection hx' with hx'
   injection hx' with hx'
   injection hx' with h1 hx'
   injection hx' with h2 _
   injection h1 with h1
   injection h2 with h2
   rw[h1,h2]
theorem Db(I:L2.F8 X MT σ H s){A:Around}{v v':V}{w w':Option (Int×Int)}(h:Wt H v w)(h':Wt H v' w'){x y:Γ}(r:Ge v x)(r':Ge v' y)(hu:A.units+1<cLine):∃b,EqAt A s x y b/\(b=true->w=w'):=by
 cases w with
 |none=>
  have h:v= .non:=h
  subst h
  cases(show x=Γ.none from r)
  cases w' with
  |none=>
   have h':v'= .non:=h'
   subst h'
   cases(show y=Γ.none from r')
   exact#[true,EqAt.same _,fun _=>rfl]
  |some p=>
   obtain⟨a,b⟩:=p;obtain⟨q,rfl,hq⟩:=h'
   cases(show y=Γ.ref q from r')
   obtain⟨its,q1,p1,_⟩:=I.tuple (Gh.of (K:=X.K) hq)
   exact#[false,sn (RcAt.none_tuple (show s.heap.IsTuple q its.toArray from p1) (by lia)),fun z=>by cases z]
 |some p=>
  obtain⟨a,b⟩:=p;obtain⟨q,rfl,hq⟩:=h
  cases(show x=Γ.ref q from r)
  obtain⟨its,q1,p1,_⟩:=I.tuple (Gh.of (K:=X.K) hq)
  have p1:s.heap.IsTuple q its.toArray:=p1
  cases w' with
  |none=>
   have h':v'= .non:=h'
   subst h'
   cases(show y=Γ.none from r')
   exact#[false,pL (RcAt.tuple_none p1 (by lia)),fun z=>by cases z]
  |some p'=>
   obtain⟨a',b'⟩:=p';obtain⟨q',rfl,hq'⟩:=h'
   cases(show y=Γ.ref q' from r')
   obtain⟨its2,q2,p2,_⟩:=I.tuple (Gh.of (K:=X.K) hq')
   have p2:s.heap.IsTuple q' its2.toArray:=p2
   by_cases hab:q=q'
   ·subst hab
    exact#[true,EqAt.same _,fun _=>mE (H:=H) (v:= .ref q) #[q,rfl,hq] #[q,rfl,hq']]
   ·have l1:its.length=2:=q1.length.symm
    have l2:its2.length=2:=q2.length.symm
    have at_:∀{us:List Γ} {m k:Int},Ga [.int m,.int k] us->us.length=2->∃t1 t2,us=[.int m t1,.int k t2]:=fun{us m k} w hl=>by
     match us,hl with
     | [u1,u2],_=>
      cases w with
      |cons r1 w=>
       cases w with
       |cons r2 w=>
        obtain⟨t1,rfl⟩:=r1;obtain⟨t2,rfl⟩:=r2
        exact#[t1,t2,rfl]
    obtain⟨t1,t2,rfl⟩:=at_ q1 l1;obtain⟨u1,u2,rfl⟩:=at_ q2 l2;have rc:=RcAt.tuples (A:=A) (e:=fun j=>if j=0 then a==a' else b==b') p1 p2 (by lia) (fun j z1 z2=>by
     match j,z1,z2 with
     |0,_,_=>exact EqAt.int_int a t1 a' u1
     |1,_,_=>exact EqAt.int_int b t2 b' u2)
    refine#[_,EqAt.of_refs hab rc,fun z=>?_]
    have z:(([0,1]:List Nat).all (fun j=>if j=0 then a==a' else b==b')&&true)=true:=z
    simp only[List.all_cons,List.all_nil,Bool.and_true,Ju,Ek,show¬((1:Nat)=0) by decide,Jz,JT]at z
    rw[z.1,z.2]
theorem yJ(I:L2.F8 X MT σ H s){A:Around}{q q':Δ}{ss:List Str}{kn kn':Kw}(h:Ht H q ss kn)(h':Ht H q' ss kn')(hk:∀nm∈ss,(kn.lookup nm).isSome=true/\(kn'.lookup nm).isSome=true)(hu:A.units+3<cLine):∃b,EqAt A s (.ref q) (.ref q') b/\(b=true->∀nm∈ss,kn.lookup nm=kn'.lookup nm):=by
 obtain⟨as,h1,la,has⟩:=h;obtain⟨bs,h2,lb,hbs⟩:=h';have row:∀{kn:Kw} {cs:List Δ},cs.length=ss.length->(∀(i:Nat) (a:Δ) (nm:Str) (e:Kb),cs[i]? =some a->ss[i]? =some nm->kn.lookup nm=some e->∃v,H a=some (.tup [.str nm,.int e.age,.int e.last,v])/\Wt H v e.wt)->(∀nm∈ss,(kn.lookup nm).isSome=true)->∀(i:Nat) (nm:Str),ss[i]? =some nm->∃a e v,cs[i]? =some a/\kn.lookup nm=some e/\H a=some (.tup [.str nm,.int e.age,.int e.last,v])/\Wt H v e.wt:=fun{kn cs} hl f g i nm hi=>by
  have hc:i<cs.length:=by rw[hl];exact(Jy.mp hi).1
  obtain⟨e,he⟩:=Ft.mp (g nm (J9 hi))
  obtain⟨v,x1,x2⟩:=f i _ nm e (Jg hc) hi he
  exact#[_,e,v,Jg hc,he,x1,x2]
 have r1:=row la has fun nm hn=>(hk nm hn).1
 have r2:=row lb hbs fun nm hn=>(hk nm hn).2
 by_cases hqq:q=q'
 ·subst hqq
  refine#[true,EqAt.same _,fun _ nm hn=>?_]
  obtain⟨i,hi,rfl⟩:=List.mem_iff_getElem.mp hn;obtain⟨a,e,v,x1,x2,x3,x4⟩:=r1 i _ (Jg hi)
  obtain⟨a',e',v',y1,y2,y3,y4⟩:=r2 i _ (Jg hi)
  rw[h1]at h2;injection h2 with h2
  injection h2 with h2
  have ea:a=a':=by
   have e1:(as.map V.ref)[i]? =some (.ref a):=by rw[Jn,x1];rfl
   have e2:(bs.map V.ref)[i]? =some (.ref a'):=by rw[Jn,y1];rfl
   rw[h2,e2]at e1;injection e1 with e1
   injection e1 with e1
   exact e1.symm
  subst ea;rw[x3]at y3;injection y3 with y3
  injection y3 with y3
  injection y3 with _ y3
  injection y3 with g1 y3
  injection y3 with g2 y3
  injection y3 with g3 _
  injection g1 with g1
  injection g2 with g2
  rw[<- g3]at y4;have g4:=mE x4 y4;rw[x2,y2];cases e;cases e';simp only at g1 g2 g4
  rw[g1,g2,g4]
 ·obtain⟨its,q1,p1,_⟩:=I.tuple (Gh.of (K:=X.K) h1)
  obtain⟨its2,q2,p2,_⟩:=I.tuple (Gh.of (K:=X.K) h2)
  have p1:s.heap.IsTuple q its.toArray:=p1
  have p2:s.heap.IsTuple q' its2.toArray:=p2
  have l1:its.length=ss.length:=by rw[<- q1.length,Je,la]
  have l2:its2.length=ss.length:=by rw[<- q2.length,Je,lb]
  have one:∀j,∃b,(∀(z1:j<its.length) (z2:j<its2.length),EqAt A.in1 s its[j] its2[j] b)/\(b=true->∀nm,ss[j]? =some nm->kn.lookup nm=kn'.lookup nm):=fun j=>by
   by_cases hj:j<ss.length
   case neg=>exact#[true,fun z1=>by lia,fun _ nm hn=>absurd (Jy.mp hn).1 hj]
   have hn:=Jg hj;obtain⟨nm,en⟩:∃nm,nm=ss[j]:=#[_,rfl]
   rw[<- en]at hn;obtain⟨a,e,v,x1,x2,x3,x4⟩:=r1 j nm hn;obtain⟨a',e',v',y1,y2,y3,y4⟩:=r2 j nm hn;have i1:its[j]'(by lia)= .ref a:=by
    obtain⟨x,ex,rx⟩:=zr q1 (j:=j) (by lia)
    rw[Jn,x1]at ex;cases ex;exact rx
   have i2:its2[j]'(by lia)= .ref a':=by
    obtain⟨x,ex,rx⟩:=zr q2 (j:=j) (by lia)
    rw[Jn,y1]at ex;cases ex;exact rx
   have fin:e.age=e'.age->e.last=e'.last->e.wt=e'.wt->∀nm2,ss[j]? =some nm2->kn.lookup nm2=kn'.lookup nm2:=fun g1 g2 g3 nm2 hn2=>by
    rw[hn]at hn2;cases hn2;rw[x2,y2];cases e;cases e';simp only at g1 g2 g3
    rw[g1,g2,g3]
   by_cases hab:a=a'
   ·subst hab
    refine#[true,fun z1 z2=>by rw[i1,i2];exact EqAt.same _,fun _=>?_]
    rw[x3]at y3;injection y3 with y3
    injection y3 with y3
    injection y3 with _ y3
    injection y3 with g1 y3
    injection y3 with g2 y3
    injection y3 with g3 _
    injection g1 with g1
    injection g2 with g2
    rw[<- g3]at y4;exact fin g1 g2 (mE x4 y4)
   ·obtain⟨js,k1,c1,_⟩:=I.tuple (Gh.of (K:=X.K) x3)
    obtain⟨js2,k2,c2,_⟩:=I.tuple (Gh.of (K:=X.K) y3)
    have c1:s.heap.IsTuple a js.toArray:=c1
    have c2:s.heap.IsTuple a' js2.toArray:=c2
    have at_:∀{us:List Γ} {n:Str} {m k:Int} {v:V},Ga [.str n,.int m,.int k,v] us->∃t1 t2 t3 x,us=[.str n t1,.int m t2,.int k t3,x]/\Ge v x:=fun{us n m k v} w=>by
     match us,w.length with
     | [u1,u2,u3,u4],_=>
      cases w with
      |cons r1 w=>
       cases w with
       |cons r2 w=>
        cases w with
        |cons r3 w=>
         cases w with
         |cons r4 w=>
          obtain⟨t1,rfl⟩:=r1;obtain⟨t2,rfl⟩:=r2;obtain⟨t3,rfl⟩:=r3
          exact#[t1,t2,t3,u4,rfl,r4]
    obtain⟨t1,t2,t3,x,rfl,rx⟩:=at_ k1;obtain⟨u1,u2,u3,y,rfl,ry⟩:=at_ k2;obtain⟨bw,ew,hw⟩:=Db I (A:=A.in1.in1) x4 y4 rx ry (by rw[Ee,Ee];lia)
    have rc:=RcAt.tuples (A:=A.in1) (e:=fun j=>if j=0 then true else if j=1 then e.age==e'.age else if j=2 then e.last==e'.last else bw) c1 c2 (by rw[Ee];lia) (fun j z1 z2=>by
     match j,z1,z2 with
     |0,_,_=>have:=EqAt.str_str (A:=A.in1.in1) (s:=s) nm t1 nm u1;rw[Er]at this;exact this
     |1,_,_=>exact EqAt.int_int e.age t2 e'.age u2
     |2,_,_=>exact EqAt.int_int e.last t3 e'.last u3
     |3,_,_=>exact ew)
    refine#[_,fun z1 z2=>by rw[i1,i2];exact EqAt.of_refs hab rc,fun z=>?_]
    have z:(([0,1,2,3]:List Nat).all (fun j=>if j=0 then true else if j=1 then e.age==e'.age else if j=2 then e.last==e'.last else bw)&&true)=true:=z
    simp only[List.all_cons,List.all_nil,Bool.and_true,Ju,Ek,show¬((1:Nat)=0) by decide,show¬((2:Nat)=0) by decide,show¬((3:Nat)=0) by decide,show¬((2:Nat)=1) by decide,show¬((3:Nat)=1) by decide,show¬((3:Nat)=2) by decide,Jz,JT,true_and]at z
    exact fin z.1 z.2.1 (hw z.2.2)
  obtain⟨f,hf⟩:∃f:Nat->Bool,∀j,(∀(z1:j<its.length) (z2:j<its2.length),EqAt A.in1 s its[j] its2[j] (f j))/\(f j=true->∀nm,ss[j]? =some nm->kn.lookup nm=kn'.lookup nm):=#[fun j=>Classical.choose (one j),fun j=>Classical.choose_spec (one j)]
  have rc:=RcAt.tuples (A:=A) (e:=f) p1 p2 (by lia) (fun j z1 z2=>by
   simp only[List.getElem_toArray]
   exact(hf j).1 (by simpa using z1) (by simpa using z2))
  refine#[_,EqAt.of_refs hqq rc,fun z nm hn=>?_]
  obtain⟨j,hj,rfl⟩:=List.mem_iff_getElem.mp hn;rw[Jp,Jp,l1,l2,Nat.min_self,Ju,EG]at z
  exact(hf j).2 (z.1 j (JN.mpr hj)) _ (Jg hj)
end
inductive Mm (x:V) (y:V) (H:Hp) (Q:VK):Prop
 |mk (l l' q0 q1 q0' q1':Δ) (s0 s1:List Str) (k0 k1 k0' k1':Kw) (h1:x= .ref l) (h2:y= .ref l') (h3:H l=some (.lst [.ref q0,.ref q1])) (h4:H l'=some (.lst [.ref q0',.ref q1'])) (h5:Ht H q0 s0 k0) (h6:Ht H q0' s0 k0') (h7:Ht H q1 s1 k1) (h8:Ht H q1' s1 k1') (h9:(∀nm∈s0,(k0.lookup nm).isSome=true/\(k0'.lookup nm).isSome=true)) (h10:(∀nm∈s1,(k1.lookup nm).isSome=true/\(k1'.lookup nm).isSome=true)) (h11:∀b:Bool,(b=false->(∀nm∈s0,k0.lookup nm=k0'.lookup nm)/\∀nm∈s1,k1.lookup nm=k1'.lookup nm)->Q (.bl b) H)
def Dq:R2:=fun x y H Q=>Mm x y H Q
theorem Aw{X:Cx}{k:Nat}(hr:Gq k X.A):zt X (compareOp .NotEq) Dq:=by
 intro MT s σ H x y v u Q I rx ry h;obtain⟨l,l',q0,q1,q0',q1',s0,s1,k0,k1,k0',k1',rfl,rfl,h1,h2,a0,b0,a1,b1,g0,g1,q⟩:=h;cases rx;cases ry;obtain⟨its,r1,p1,_⟩:=I.list (Gd.of (K:=X.K) h1)
 obtain⟨its2,r2,p2,_⟩:=I.list (Gd.of (K:=X.K) h2)
 have hu:X.A.units+5<cLine:=by have:=hr.un;lia
 have at_:∀{us:List Γ} {a b:Δ},Ga [.ref a,.ref b] us->us=[.ref a,.ref b]:=fun{us a b} w=>by
  match us,w.length with
  | [u1,u2],_=>
   cases w with
   |cons r1 w=>
    cases w with
    |cons r2 w=>
     cases r1;cases r2;rfl
 obtain rfl:=at_ r1
 obtain rfl:=at_ r2
 obtain⟨e0,x0,y0⟩:=yJ I (A:=X.A.in1) a0 b0 g0 (by rw[Ee];lia)
 obtain⟨e1,x1,y1⟩:=yJ I (A:=X.A.in1) a1 b1 g1 (by rw[Ee];lia)
 have e:=RcNeAt.lists (A:=X.A) (e:=fun j=>if j=0 then e0 else e1) p1.isList p2.isList rfl (by lia) (fun j z1 z2=>by
  match j,z1,z2 with
  |0,_,_=>exact x0
  |1,_,_=>exact x1)
 refine e _ _ _ _ #[.bl _,H,I,rfl,q _ fun z=>?_]
 have z:(!([0,1]:List Nat).all fun j=>if j=0 then e0 else e1)=false:=z
 simp only[List.all_cons,List.all_nil,Bool.and_true,Ek,show¬((1:Nat)=0) by decide,Jz,Bool.not_eq_false',Ju]at z
 exact#[y0 z.1,y1 z.2]
theorem jt{D:Dr}{nm:Str}{a c:Int}(nd:(D.kn.map (·.1)).Nodup)(h:∀z∈D.kn.map (·.1),D.kn.lookup z=(Gc D nm a c).lookup z):Gc D nm a c=D.kn:=by
 rcases Q0 (D:=D) (nm:=nm) (age:=a) (c:=c)with e|⟨e,he,_,ek⟩
 ·exact e
 ·have:=h nm (Gb.mp (by rw[he];rfl))
  rw[ek,gs nd,he]at this;injection this with this
  rw[ek,<- this];exact jo nd he
end L3
namespace L3
open PySem PySem.Spec PyProof.Rows L2
theorem wj(z:Str×Int×Int):ZP z z=false:=by
 unfold ZP;rw[Jb rfl,Jb rfl];exact Jm (by lia)
theorem yu{γ:Type}(ch:Str×Int×Int->Bool)(f:Str×Int×Int->Option γ):∀ps:qC,ps.findSome? (fun z=>if ch z=true then f z else none)=(ps.filter ch).findSome? f
 | []=>rfl
 |z::r=>by
  rw[List.findSome?_cons,List.filter_cons,yu ch f r];cases e:ch z with
  |true=>rw[Jb rfl,Jb rfl,List.findSome?_cons]
  |false=>rw[Jc (by decide),Jc (by decide)]
theorem HU.he{t:List Int}{kss:List (List Int)}{D:Dr}(h:HU t kss D)(z:Str×Int×Int):HU t kss (qL D z):=#[h.ok.hearK z.1 z.2.1 z.2.2,h.t,h.ks,h.f0]
def mJ(ps:qC):Prop:=ps.Pairwise fun x y=>ZP y x=false
theorem Zw{γ:Type}{ps:qC}{f:Str×Int×Int->Option γ}{r:γ}(so:mJ ps)(h:ps.findSome? f=some r):∃p∈ps,f p=some r/\∀q∈ps,f q≠none->ZP q p=false:=by
 obtain⟨l1,p,l2,e,hp,hn⟩:=List.findSome?_eq_some_iff.mp h
 subst e;refine#[p,by simp,hp,fun q hq hf=>?_]
 rcases JB.mp hq with hq|hq
 ·exact absurd (hn q hq) hf
 ·rcases Jr.mp hq with rfl|hq
  ·exact wj _
  ·exact(List.pairwise_cons.mp (List.pairwise_append.mp so).2.1).1 q hq
section
variable{D D':Dr}{ps:qC}
theorem ju(z:Str×Int×Int):QX D D' [z]= !decide (zh D z=zh D' z):=by
 unfold QX
 show(decide (([]:List Bool)=[])&& !decide (some (zh D z)=some (zh D' z)))=_
 rw[Jh rfl,EH];congr 1
 exact decide_eq_decide.mpr #[fun h=>JG h,fun h=>JO some h]
theorem jX(z y:Str×Int×Int):QX D D' [z,y]=(decide (zh D z=zh D' z)&& !decide (zh (qL D z) y=zh (qL D' z) y)):=by
 unfold QX
 show(decide ([zh D z]=[zh D' z])&& !decide (some (zh (qL D z) y)=some (zh (qL D' z) y)))=_
 congr 1
 ·exact decide_eq_decide.mpr #[fun h=>(List.cons.inj h).1,fun h=>by rw[h]]
 ·congr 1
  exact decide_eq_decide.mpr #[fun h=>JG h,fun h=>JO some h]
theorem gm{z:Str×Int×Int}{r:qC}(h:Qc D D' z=some r):r=[z]/\zh D z≠zh D' z:=by
 unfold Qc at h;split at h
 ·cases h
 ·rename_i w;cases h;exact#[rfl,w]
theorem lh{z:Str×Int×Int}{r:qC}(so:mJ ps)(h:Qv D D' ps z=some r):∃y∈ps,r=[z,y]/\zh (qL D z) y≠zh (qL D' z) y/\∀q∈ps,zh (qL D z) q≠zh (qL D' z) q->ZP q y=false:=by
 obtain⟨y,hy,hf,hb⟩:=Zw so h;split at hf
 ·cases hf
 ·rename_i w
  cases hf
  exact#[y,hy,rfl,w,fun q hq hd=>hb q hq (by rw[Jc hd];exact fun z=>by cases z)]
theorem nq{r:qC}(so:mJ ps)(h:QB D D' ps (fun _=>true)=some r):QX D D' r=true/\r≠[]/\r.length<=2:=by
 unfold QB at h;cases e:ps.findSome? (Qc D D')with
 |some r'=>
  rw[e]at h;cases h;obtain⟨p,_,hp,_⟩:=Zw so e;obtain⟨rfl,w⟩:=gm hp;refine#[?_,(fun z=>by cases z),(by decide:1<=2)]
  rw[ju,Jm w];rfl
 |none=>
  rw[e]at h;have h:ps.findSome? (fun z=>if true=true then Qv D D' ps z else none)=some r:=h
  obtain⟨p,hp,hf,_⟩:=Zw so h;rw[Jb rfl]at hf;obtain⟨y,hy,rfl,w,_⟩:=lh so hf;refine#[?_,(fun z=>by cases z),Jf 2]
  have no:=List.findSome?_eq_none_iff.mp e p hp;unfold Qc at no;rw[jX,Jm w];split at no
  ·rename_i q;rw[Jh q];rfl
  ·cases no
theorem jw{row:qC}{due:Option qC}(so:mJ ps)(hin:∀z∈row,z∈ps)(hl:row.length=1\/row.length=2)(h:QB D D' ps (fun _=>true)=due)(hc:due=none\/∃r,due=some r/\(if(row.length:Int)=(r.length:Int)then bv row r else decide ((row.length:Int)<(r.length:Int)))=true):QX D D' row=false:=by
 refine EE.mpr fun hs=>?_
 have key:∃r,due=some r/\(if(row.length:Int)=(r.length:Int)then bv row r else decide ((row.length:Int)<(r.length:Int)))=false:=by
  unfold QB at h;rcases hl with hl|hl
  ·obtain⟨q,rfl⟩:∃q,row=[q]:=by
    match row,hl with
    | [q],_=>exact#[q,rfl]
   rw[ju]at hs;have w:zh D q≠zh D' q:=fun z=>by rw[Jh z]at hs;cases hs
   have hq:=hin q Jv;cases e:ps.findSome? (Qc D D')with
   |none=>
    have:=List.findSome?_eq_none_iff.mp e q hq
    unfold Qc at this;rw[Jc w]at this;cases this
   |some r=>
    rw[e]at h;obtain⟨p,_,hp,hb⟩:=Zw so e;obtain⟨rfl,_⟩:=gm hp;refine#[[p],h.symm,?_]
    rw[Jb (show(([q]:qC).length:Int)=(([p]:qC).length:Int)from rfl)]
    show(if q=p then bv [] []else ZP q p)=false
    split
    ·rfl
    ·exact hb q hq (by unfold Qc;rw[Jc w];exact fun z=>by cases z)
  ·obtain⟨q1,q2,rfl⟩:∃q1 q2,row=[q1,q2]:=by
    match row,hl with
    | [q1,q2],_=>exact#[q1,q2,rfl]
   rw[jX,Ju]at hs;have w:zh (qL D q1) q2≠zh (qL D' q1) q2:=fun z=>by rw[Jh z]at hs;cases hs.2
   have h1:=hin q1 Jv;have h2:=hin q2 (JE _ Jv);cases e:ps.findSome? (Qc D D')with
   |some r=>
    rw[e]at h;obtain⟨p,_,hp,_⟩:=Zw so e;obtain⟨rfl,_⟩:=gm hp
    exact#[[p],h.symm,by rw[Jc (show¬((([q1,q2]:qC).length:Int)=(([p]:qC).length:Int))from by show¬((2:Int)=1);decide)];exact Jm (by show¬((2:Int)<1);decide)]
   |none=>
    rw[e]at h;have h:ps.findSome? (fun z=>if true=true then Qv D D' ps z else none)=due:=h
    have t1:Qv D D' ps q1≠none:=fun z=>by
     have:=List.findSome?_eq_none_iff.mp z q2 h2
     rw[Jc w]at this;cases this
    cases ed:due with
    |none=>
     rw[ed]at h
     have:=List.findSome?_eq_none_iff.mp h q1 h1
     rw[Jb rfl]at this;exact absurd this t1
    |some r=>
     rw[ed]at h;obtain⟨p,hp,hf,hb⟩:=Zw so h;rw[Jb rfl]at hf;obtain⟨y,hy,rfl,_,hb2⟩:=lh so hf;refine#[[p,y],rfl,?_]
     rw[Jb (show(([q1,q2]:qC).length:Int)=(([p,y]:qC).length:Int)from rfl)]
     show(if q1=p then(if q2=y then false else ZP q2 y)else ZP q1 p)=false
     split
     ·rename_i eq
      split
      ·rfl
      ·exact hb2 q2 h2 (by rw[<- eq];exact w)
     ·exact hb q1 h1 (by rw[Jb rfl];exact t1)
 obtain⟨r,e1,e2⟩:=key;rcases hc with hc|⟨r',hc,hc2⟩
 ·rw[e1]at hc;cases hc
 ·rw[e1]at hc
  cases hc;rw[e2]at hc2;cases hc2
end
theorem ul{nms:List Str}{K:Nat}{lo:Int}{n:Nat}(nd:nms.Pairwise fun x y=>x≠y/\¬y.cps.toList<x.cps.toList):mJ (Q5 nms K lo n):=by
 unfold mJ Q5;rw[List.pairwise_flatMap];have rng:∀(lo:Int) (n:Nat),((List.range n).map fun i:Nat=>lo+(i:Int)).Pairwise (· < ·):=fun lo n=>by
  rw[List.pairwise_map];exact List.pairwise_lt_range.imp fun h=>by lia
 refine#[fun nm _=>?_,nd.imp fun{x y} h u hu v hv=>?_]
 ·rw[List.pairwise_flatMap]
  refine#[fun a _=>?_,(rng 0 K).imp fun{a b} h u hu v hv=>?_]
  ·rw[List.pairwise_map]
   refine(rng lo n).imp fun{c d} h=>?_
   unfold ZP;rw[Jb rfl,Jb rfl];exact Jm (by show¬d<c;lia)
  ·obtain⟨c,_,rfl⟩:=Jq.mp hu
   obtain⟨d,_,rfl⟩:=Jq.mp hv;unfold ZP;rw[Jb rfl,Jc (by show¬b=a;lia)]
   exact Jm (by show¬b<a;lia)
 ·obtain⟨a,_,hu⟩:=List.mem_flatMap.mp hu
  obtain⟨b,_,hv⟩:=List.mem_flatMap.mp hv;obtain⟨c,_,rfl⟩:=Jq.mp hu;obtain⟨d,_,rfl⟩:=Jq.mp hv;unfold ZP;rw[Jc (by show¬y=x;exact fun z=>h.1 z.symm)]
  exact Jm h.2
theorem lU{α β:Type}{g:α->List β}{k:Nat}(h:∀x,(g x).length=k):∀l:List α,(l.flatMap g).length=l.length*k
 | []=>by simp
 |x::r=>by rw[List.flatMap_cons,Jt,h,lU h r,JP,Nat.succ_mul,Nat.add_comm]
theorem lc(nms:List Str)(K:Nat)(lo:Int)(n:Nat):(Q5 nms K lo n).length=nms.length*(K*n):=by
 unfold Q5;refine lU (fun nm=>?_) nms
 rw[lU (k:=n) (fun a=>by rw[Je,Je,List.length_range]),Je,List.length_range]
theorem vT{nms:List Str}{K:Nat}{lo:Int}{n:Nat}(nd:nms.Nodup):(Q5 nms K lo n).Nodup:=by
 have rng:∀(lo:Int) (n:Nat),((List.range n).map fun i:Nat=>lo+(i:Int)).Pairwise (· ≠ ·):=fun lo n=>by
  rw[List.pairwise_map];exact List.pairwise_lt_range.imp fun h=>by lia
 unfold List.Nodup Q5;rw[List.pairwise_flatMap];refine#[fun nm _=>?_,nd.imp fun{x y} h u hu v hv e=>?_]
 ·rw[List.pairwise_flatMap]
  refine#[fun a _=>?_,(rng 0 K).imp fun{a b} h u hu v hv e=>?_]
  ·rw[List.pairwise_map]
   exact(rng lo n).imp fun{c d} h e=>h (by injection e with _ e;injection e)
  ·obtain⟨c,_,rfl⟩:=Jq.mp hu
   obtain⟨d,_,rfl⟩:=Jq.mp hv;injection e with _ e
   injection e with e
   exact h e
 ·obtain⟨a,_,hu⟩:=List.mem_flatMap.mp hu
  obtain⟨b,_,hv⟩:=List.mem_flatMap.mp hv;obtain⟨c,_,rfl⟩:=Jq.mp hu;obtain⟨d,_,rfl⟩:=Jq.mp hv;injection e with e
  exact h e
structure HK(K:μ)(C:Δ)(H:Hp)(l:Δ)(a0 a1:Da)(D0 D1:Dr)(L0 L1:List Rw):Prop where
 li:H l=some (.lst [.ref a0.p,.ref a1.p])
 d0:Gv K C H a0 D0 L0
 d1:Gv K C H a1 D1 L1
 dj:∀z∈dS a0,z∉dS a1
 n0:l∉dS a0
 n1:l∉dS a1
section
variable{K:μ}{C:Δ}{S:List Δ}{H H':Hp}{l:Δ}{a0 a1:Da}{D0 D1:Dr}{L0 L1:List Rw}
theorem HK.mv(w:HK K C H l a0 a1 D0 D1 L0 L1)(m:Mv S H H')(nt:NT S H)(hl:l∉S)(h0:∀z∈dS a0,z∉S)(h1:∀z∈dS a1,z∉S):HK K C H' l a0 a1 D0 D1 L0 L1:=
 #[m _ _ hl w.li,w.d0.mv m nt (h0 _ (cT _)) (h0 _ (aG _)) (h0 _ (aE _)) (h0 _ (aB _)),w.d1.mv m nt (h1 _ (cT _)) (h1 _ (aG _)) (h1 _ (aE _)) (h1 _ (aB _)),w.dj,w.n0,w.n1]
theorem HK.same(w:HK K C H l a0 a1 D0 D1 L0 L1)(s:F5 H H'):HK K C H' l a0 a1 D0 D1 L0 L1:=w.mv (S:=[]) s.mv jP (fun h=>nomatch h) (fun _ _ h=>nomatch h) (fun _ _ h=>nomatch h)
theorem HK.nt(w:HK K C H l a0 a1 D0 D1 L0 L1):NT (dS a0++dS a1) H:=fun z hz=>by
 rcases JB.mp hz with hz|hz
 ·exact w.d0.nt z hz
 ·exact w.d1.nt z hz
end
def Gx(H:Hp)(pl:Δ)(t:List Int)(kss:List (List Int))(ps:qC):Prop:=∃es:List (Δ×Δ×Δ),H pl=some (.lst (es.map fun e=> .ref e.1))/\es.length=ps.length/\∀(i:Nat) (e:Δ×Δ×Δ) (z:Str×Int×Int),es[i]? =some e->ps[i]? =some z->H e.1=some (.tup [.ref e.2.1,.ref e.2.2])/\H e.2.1=some (.tup [.str z.1,.int z.2.1,.int z.2.2])/\ZU H e.2.2 (zK t kss z.1 z.2.1 z.2.2 2)
theorem Gx.mv{S:List Δ}{H H':Hp}{pl:Δ}{t:List Int}{kss:List (List Int)}{ps:qC}(h:Gx H pl t kss ps)(m:Mv S H H')(nt:NT S H)(hp:pl∉S):Gx H' pl t kss ps:=by
 obtain⟨es,e,l,r⟩:=h
 exact#[es,m _ _ hp e,l,fun i e z h1 h2=>let⟨x1,x2,x3⟩:=r i e z h1 h2;#[m.tup nt x1,m.tup nt x2,Gz.mv m nt x3]]
theorem Gx.same{H H':Hp}{pl:Δ}{t:List Int}{kss:List (List Int)}{ps:qC}(h:Gx H pl t kss ps)(s:F5 H H'):Gx H' pl t kss ps:=h.mv (S:=[]) s.mv jP (fun h=>nomatch h)
structure LY(t:List Int)(kss:List (List Int))(ps:qC):Prop where
 tp:t.Perm GG
 len:ps.length<=100
 nd:ps.Nodup
 z:∀z∈ps,Zo z.1/\0<=z.2.1/\z.2.1<kss.length/\0<=z.2.2/\z.2.2<4096
inductive IJ (K:μ) (C:Δ) (vs:List V) (H:Hp) (Q:VK):Prop
 |mk (l pr:Δ) (a0 a1:Da) (D0 D1:Dr) (L0 L1:List Rw) (t:List Int) (kss:List (List Int)) (z:Str×Int×Int) (h1:vs=[.ref l,.ref pr]) (h2:HK K C H l a0 a1 D0 D1 L0 L1) (h3:HU t kss D0) (h4:HU t kss D1) (h5:L0.length<=900) (h6:L1.length<=900) (h7:ZU H pr (zK t kss z.1 z.2.1 z.2.2 2)) (h8:Zo z.1) (h9:0<=z.2.2) (h10:z.2.2<4096) (h11:∀q H' M0 M1,Mv (dS a0++dS a1) H H'->HK K C H' l a0 a1 (qL D0 z) (qL D1 z) M0 M1->M0.length<=L0.length+2->M1.length<=L1.length+2->H q=none->H' q=some (.lst [.bl (zh D0 z),.bl (zh D1 z)])->Q (.ref q) H')
def eO(K:μ)(C:Δ):Sp:=fun vs H Q _=>IJ K C vs H Q
inductive Ii (vs:List V) (H:Hp) (Q:VK):Prop
 |mk (cd tb kt nl:Δ) (t:List Int) (kss:List (List Int)) (nms:List Str) (base:Int) (h1:vs=[.ref cd,.ref nl,.int base]) (h2:HQ H cd tb kt t kss) (h3:t.Perm GG) (h4:H nl=some (.lst (nms.map V.str))) (h5:nms.length<=2) (h6:(∀z∈nms,Zo z)) (h7:kss.length<=2) (h8:0<=base) (h9:base<=4090) (h10:∀pl H',F5 H H'->H pl=none->Gx H' pl t kss (Q5 nms kss.length base (zA base))->Q (.ref pl) H')
def gZ:Sp:=fun vs H Q _=>Ii vs H Q
inductive IK (K:μ) (C:Δ) (vs:List V) (H:Hp) (Q:VK):Prop
 |mk (l pl:Δ) (a0 a1:Da) (D0 D1:Dr) (L0 L1:List Rw) (t:List Int) (kss:List (List Int)) (ps:qC) (h1:vs=[.ref l,.ref pl]) (h2:HK K C H l a0 a1 D0 D1 L0 L1) (h3:HU t kss D0) (h4:HU t kss D1) (h5:L0.length<=800) (h6:L1.length<=800) (h7:Gx H pl t kss ps) (h8:LY t kss ps) (h9:∀u ch H',F5 H H'->(∀z,ch z=false->Gc D0 z.1 z.2.1 z.2.2=D0.kn/\Gc D1 z.1 z.2.1 z.2.2=D1.kn)->HF H' u (QB D0 D1 ps ch)->Q u H')
def jS(K:μ)(C:Δ):Sp:=fun vs H Q _=>IK K C vs H Q
section
variable{K:μ}{C:Δ}{te:TE}{σ:L2.St}{H:Hp}{Q:VK}{l:Δ}{a0 a1:Da}{D0 D1:Dr}{L0 L1:List Rw}
theorem jj(w:HK K C H l a0 a1 D0 D1 L0 L1)(h:te [some (.ref a0.p)] H fun v0 H1=>F5 H H1/\te [some (.ref a1.p)] H1 fun v1 H2=>F5 H H2/\∀p,H2 p=none->Q (.ref p) (F9 H2 p (.lst [v0,v1])))
  (mono:∀(x:V) (Hx:Hp) (R R':VK),(∀v H',R v H'->R' v H')->te [some x] Hx R->te [some x] Hx R'):bB (c9 K l) [] te σ H Q:=by
 refine ai (K:=K) (a:=l) (xs:=[.ref a0.p,.ref a1.p]) (by show 2<=η;decide) (fun i ys Hx=>F5 H Hx/\((i=0/\ys=[]/\Hx=H)\/(i=1/\∃v0,ys=[v0]/\te [some (.ref a1.p)] Hx fun v1 H2=>F5 H H2/\∀p,H2 p=none->Q (.ref p) (F9 H2 p (.lst [v0,v1])))\/(i=2/\∃v0 v1,ys=[v0,v1]/\∀p,Hx p=none->Q (.ref p) (F9 Hx p (.lst [v0,v1]))))) #[F5.refl _,.inl #[rfl,rfl,rfl]] (fun i ys Hx hx=>Gd.of (hx.1 _ _ w.li)) ?_ ?_
 ·rintro i ys Hx x hx hyl ⟨sx,⟨rfl,rfl,rfl⟩|⟨rfl,v0,rfl,h1⟩|⟨rfl,_⟩⟩
  ·cases hx
   exact mono _ _ _ _ (fun v H' g=>#[g.1,.inr (.inl #[rfl,v,rfl,g.2])]) h
  ·cases hx
   exact mono _ _ _ _ (fun v H' g=>#[g.1,.inr (.inr #[rfl,v0,v,rfl,g.2])]) h1
  ·cases hx
 ·rintro ys Hx hyl ⟨sx,⟨h0,_⟩|⟨h0,_⟩|⟨_,v0,v1,rfl,hq⟩⟩ p hp
  ·cases h0
  ·cases h0
  ·exact hq p hp
theorem c5(w:HK K C H l a0 a1 D0 D1 L0 L1)(hte:∀{a:Da} {D:Dr} {L:List Rw} {Hx:Hp} {R:VK},Gv K C Hx a D L->D.kss.length<=8->(∀a' H',F5 Hx H'->(∀z∈dS a',Hx z=none)->Gv K C H' a' D L->R (.ref a'.p) H')->te [some (.ref a.p)] Hx R)
  (mono:∀(x:V) (Hx:Hp) (R R':VK),(∀v H',R v H'->R' v H')->te [some x] Hx R->te [some x] Hx R')(k0:D0.kss.length<=8)(k1:D1.kss.length<=8)
  (hq:∀l' b0 b1 H',F5 H H'->H l'=none->(∀z∈dS b0++dS b1,H z=none)->HK K C H' l' b0 b1 D0 D1 L0 L1->Q (.ref l') H'):bB (c9 K l) [] te σ H Q:=by
 refine jj w (hte w.d0 k0 fun b0 H1 s1 f0 d0=>#[s1,hte (w.d1.same s1) k1 fun b1 H2 s2 f1 d1=>#[s1.trans s2,fun p hp=>?_]]) mono
 have u:=F5.upd (o:= .lst [.ref b0.p,.ref b1.p]) hp
 have d0':=d0.same s2;refine hq p b0 b1 _ ((s1.trans s2).trans u) (QR hp (s1.trans s2)) (fun z hz=>?_) #[qa,d0'.same u,d1.same u,fun z hz hz'=>d0.some hz (f1 z hz'),fun z=>d0'.some z hp,fun z=>d1.some z hp]
 rcases JB.mp hz with hz|hz
 ·exact f0 z hz
 ·exact QR (f1 z hz) s1
theorem iq(w:HK K C H l a0 a1 D0 D1 L0 L1)(hte:∀{a:Da} {D:Dr} {L:List Rw} {Hx:Hp} {R:VK},Gv K C Hx a D L->Hg D->(∀q ss H',F5 Hx H'->ss.Perm (D.kn.map (·.1))->sortedS ss=true->Ht H' q ss D.kn->R (.ref q) H')->te [some (.ref a.p)] Hx R)
  (mono:∀(x:V) (Hx:Hp) (R R':VK),(∀v H',R v H'->R' v H')->te [some x] Hx R->te [some x] Hx R')(ok0:Hg D0)(ok1:Hg D1)
  (hq:∀p q0 q1 s0 s1 H',F5 H H'->H p=none->H' p=some (.lst [.ref q0,.ref q1])->s0.Perm (D0.kn.map (·.1))->sortedS s0=true->Ht H' q0 s0 D0.kn->s1.Perm (D1.kn.map (·.1))->sortedS s1=true->Ht H' q1 s1 D1.kn->Q (.ref p) H'):bB (c9 K l) [] te σ H Q:=by
 refine jj w (hte w.d0 ok0 fun q0 s0 H1 x1 p0 o0 h0=>#[x1,hte (w.d1.same x1) ok1 fun q1 s1 H2 x2 p1 o1 h1=>#[x1.trans x2,fun p hp=>?_]]) mono
 have u:=F5.upd (o:= .lst [.ref q0,.ref q1]) hp
 exact hq p q0 q1 s0 s1 _ ((x1.trans x2).trans u) (QR hp (x1.trans x2)) qa p0 o0 ((h0.same x2).same u) p1 o1 (h1.same u)
end
def Ij(K:μ)(C:Δ)(H:Hp)(al:Δ)(D0 D1:Dr)(m:Nat)(zs:qC):Prop:=∃es:List (Δ×Δ×Δ),H al=some (.lst (es.map fun e=> .ref e.1))/\es.length=zs.length/\∀(i:Nat) (e:Δ×Δ×Δ) (z:Str×Int×Int),es[i]? =some e->zs[i]? =some z->H e.1=some (.tup [.ref e.2.1,.ref e.2.2])/\H e.2.1=some (.tup [.str z.1,.int z.2.1,.int z.2.2])/\e.2.2≠al/\∃b0 b1 M0 M1,HK K C H e.2.2 b0 b1 (qL D0 z) (qL D1 z) M0 M1/\M0.length<=m/\M1.length<=m/\al∉dS b0/\al∉dS b1
section
variable{K:μ}{C:Δ}{H H':Hp}{al:Δ}{D0 D1:Dr}{m:Nat}{zs:qC}
theorem Ij.same(h:Ij K C H al D0 D1 m zs)(s:F5 H H'):Ij K C H' al D0 D1 m zs:=by
 obtain⟨es,e,l,r⟩:=h;refine#[es,s _ _ e,l,fun i e z h1 h2=>?_]
 obtain⟨x1,x2,x3,b0,b1,M0,M1,w,q⟩:=r i e z h1 h2
 exact#[s _ _ x1,s _ _ x2,x3,b0,b1,M0,M1,w.same s,q]
theorem Ij.add{e:Δ×Δ×Δ}{z:Str×Int×Int}{b0 b1:Da}{M0 M1:List Rw}{es:List V}(h:Ij K C H al D0 D1 m zs)(he:H al=some (.lst es))(h1:H e.1=some (.tup [.ref e.2.1,.ref e.2.2]))(h2:H e.2.1=some (.tup [.str z.1,.int z.2.1,.int z.2.2]))(h3:e.2.2≠al)(w:HK K C H e.2.2 b0 b1 (qL D0 z) (qL D1 z) M0 M1)(l0:M0.length<=m)(l1:M1.length<=m)(n0:al∉dS b0)(n1:al∉dS b1):Ij K C (F9 H al (.lst (es++[.ref e.1]))) al D0 D1 m (zs++[z]):=by
 obtain⟨fs,e0,l,r⟩:=h;rw[he]at e0;injection e0 with e0
 injection e0 with e0
 subst e0;have mv:Mv [al] H (F9 H al (.lst ((fs.map fun e=>V.ref e.1)++[.ref e.1]))):=Mv.upd1
 have nt:NT [al] H:=NT.one he trivial
 refine#[fs++[e],by rw[qa,JJ];rfl,by rw[Jt,Jt,l];rfl,fun i f y g1 g2=>?_]
 by_cases hi:i<fs.length
 ·rw[J0 hi]at g1
  rw[J0 (by lia)]at g2
  obtain⟨x1,x2,x3,c0,c1,N0,N1,w',q1,q2,q3,q4⟩:=r i f y g1 g2
  exact#[mv.tup nt x1,mv.tup nt x2,x3,c0,c1,N0,N1,w'.mv mv nt (qM x3) (fun x hx=>qM fun y=>q3 (y▸hx)) (fun x hx=>qM fun y=>q4 (y▸hx)),q1,q2,q3,q4]
 ·rw[JZ (by lia)]at g1
  rw[JZ (by lia)]at g2
  cases ei:i-fs.length with
  |succ k=>rw[ei]at g1;cases g1
  |zero=>
   rw[ei]at g1;rw[show i-zs.length=0 by lia]at g2
   cases g1;cases g2
   exact#[mv.tup nt h1,mv.tup nt h2,h3,b0,b1,M0,M1,w.mv mv nt (qM h3) (fun x hx=>qM fun y=>n0 (y▸hx)) (fun x hx=>qM fun y=>n1 (y▸hx)),l0,l1,n0,n1]
theorem Gx.add{H:Hp}{pl:Δ}{t:List Int}{kss:List (List Int)}{ps:qC}{es:List V}{e:Δ×Δ×Δ}{z:Str×Int×Int}(h:Gx H pl t kss ps)(he:H pl=some (.lst es))(h1:H e.1=some (.tup [.ref e.2.1,.ref e.2.2]))(h2:H e.2.1=some (.tup [.str z.1,.int z.2.1,.int z.2.2]))(h3:ZU H e.2.2 (zK t kss z.1 z.2.1 z.2.2 2)):Gx (F9 H pl (.lst (es++[.ref e.1]))) pl t kss (ps++[z]):=by
 obtain⟨fs,e0,l,r⟩:=h;rw[he]at e0;injection e0 with e0
 injection e0 with e0
 subst e0;have mv:Mv [pl] H (F9 H pl (.lst ((fs.map fun e=>V.ref e.1)++[.ref e.1]))):=Mv.upd1
 have nt:NT [pl] H:=NT.one he trivial
 refine#[fs++[e],by rw[qa,JJ];rfl,by rw[Jt,Jt,l];rfl,fun i f y g1 g2=>?_]
 by_cases hi:i<fs.length
 ·rw[J0 hi]at g1
  rw[J0 (by lia)]at g2
  obtain⟨x1,x2,x3⟩:=r i f y g1 g2
  exact#[mv.tup nt x1,mv.tup nt x2,Gz.mv mv nt x3]
 ·rw[JZ (by lia)]at g1
  rw[JZ (by lia)]at g2
  cases ei:i-fs.length with
  |succ k=>rw[ei]at g1;cases g1
  |zero=>
   rw[ei]at g1;rw[show i-ps.length=0 by lia]at g2
   cases g1;cases g2
   exact#[mv.tup nt h1,mv.tup nt h2,Gz.mv mv nt h3]
end
end L3
namespace Lw
open PySem L2 L3
section
variable{P:Ξ}{w:Ω}{K:μ}{mg:F3}{base:Ψ}{tk:Nat->Tok}{C:Δ}
theorem mz(a:At K mg "_law_opens" bY ["_law_doors","_law_press"])(T:GQ K mg tk)(U:Hf K C)(dR:Mf P w K mg base C "hear" ["self","thing"] 6 (i7 K C)):Df P w K mg base "_law_opens" ["_law_doors","_law_press"] 7 (eO K C):=by
 refine a.dq kO fun f _ A _ s H vs Q E hr h=>?_
 ·obtain⟨l,pr,a0,a1,D0,D1,L0,L1,t,kss,z,rfl,wd,h0,h1,l90,l91,hp,hn,n0,n1,q⟩:=h
  refine#[_,(qg (ql (zL (own:=["_law_door"]) (fr:=["_law_press"]) (js:=[1]) rfl (zo (qv 0)) rfl (i5 rfl) rfl (iM rfl (by decide +kernel) (by decide +kernel) (by decide +kernel) rfl rfl rfl) (fun _ _ _ _=>qh (i:=0) (show List.Nodup (["_law_door","_law_press"]:List Str)from by decide +kernel) rfl (Or.inl rfl) (.inr rfl)) (fun _ _ _ _=>(zX ZK (qt (aP (K:=K) rfl) (za dR U.cl hr.mo (qv 0) (qc (qv 1) qb)) qf) qR (qy _)))))),?_]
  have tp:t.Perm GG:=h0.t▸h0.ok.tp
  have okP:=bE (kss:=kss) (age:=z.2.1) tp hn n0 n1 (d:=2) #[by decide,by decide]
  refine#[_,rfl,l,rfl,#[_,Gd.of wd.li],?_]
  have nlS:l∉dS a0++dS a1:=fun y=>(JB.mp y).elim wd.n0 wd.n1
  refine ai (K:=K) (a:=l) (xs:=[.ref a0.p,.ref a1.p]) (FX) (fun i ys Hx=>Mv (dS a0++dS a1) H Hx/\(∃M0,M0.length<=L0.length+i/\Gv K C Hx a0 (if i=0 then D0 else qL D0 z) M0)/\(∃M1,M1.length<=L1.length+i/\Gv K C Hx a1 (if i<=1 then D1 else qL D1 z) M1)/\ys=[V.bl (zh D0 z),.bl (zh D1 z)].take i) #[fun _ _ _ e=>e,#[L0,Jf _,wd.d0],#[L1,Jf _,wd.d1],rfl] (fun i ys Hx h=>Gd.of (h.1 _ _ nlS wd.li)) ?_ ?_
  ·rintro i ys Hx xv hxv hyl ⟨mx,⟨M0,l0,d0⟩,⟨M1,l1,d1⟩,rfl⟩
   have hi:i=0\/i=1:=by have:=(Jy.mp hxv).1;have:i<2:=this;lia
   rcases hi with rfl|rfl
   ·cases hxv
    have d0:Gv K C Hx a0 D0 M0:=d0
    have d1:Gv K C Hx a1 D1 M1:=d1
    have dj':∀x∈dS a1,x∉dS a0:=fun x hx y=>wd.dj x y hx
    refine#[_,rfl,a0.p,rfl,d0.dr.no,_,rfl,a0,D0,M0,.ref pr,some (zK t kss z.1 z.2.1 z.2.2 2),rfl,d0,by lia,h0.ok,#[pr,rfl,Gz.mv mx wd.nt hp,okP],(fun z=>by cases z),fun PP hP pr' q' H3 hpr' m3 _ hq' d3=>?_]
    cases hP;rw[Zz h0 n0 n1 #[by decide,by decide]]at d3 hq'
    rw[bH]at d3;have m3':=eN m3;obtain⟨hw1,hw2⟩:=jN D0 z.1 z.2.1 z.2.2 2 h0.f0;obtain⟨y,hy,hg⟩:∃y:Str,QL (zb D0 z.1 z.2.1 (some (z.2.2,2))).1 0=some (.str y)/\decide (V.str y=V.str "open")=zh D0 z:=by
     unfold zh HZ
     by_cases ho:Qn D0 z.1 z.2.1 z.2.2="open"
     ·exact#["open",QD (j:=0) (hw1 ho),by rw[Jh rfl,Jh ho]]
     ·exact#["held",QD (j:=0) (hw2 ho),by rw[Jm ho];exact Jm (by intro z;injection z with z;exact absurd z (by decide))]
    refine#[q',_,_,_,rfl,rfl,Gh.of hq',hy,rfl,mx.trans (m3'.mono (fun c h z=>h (JB.mpr (.inl z)))),#[_,by rw[Jt];exact E4 l0,d3],#[M1,FL l1,d1.mv m3' d0.nt (dj' _ (cT _)) (dj' _ (aG _)) (dj' _ (aE _)) (dj' _ (aB _))],?_]
    rw[hg];rfl
   ·cases hxv
    have d0:Gv K C Hx a0 (qL D0 z) M0:=d0
    have d1:Gv K C Hx a1 D1 M1:=d1
    have dj':∀x∈dS a0,x∉dS a1:=wd.dj
    refine#[_,rfl,a1.p,rfl,d1.dr.no,_,rfl,a1,D1,M1,.ref pr,some (zK t kss z.1 z.2.1 z.2.2 2),rfl,d1,by lia,h1.ok,#[pr,rfl,Gz.mv mx wd.nt hp,okP],(fun z=>by cases z),fun PP hP pr' q' H3 hpr' m3 _ hq' d3=>?_]
    cases hP;rw[Zz h1 n0 n1 #[by decide,by decide]]at d3 hq'
    rw[bH]at d3;have m3':=eN m3;obtain⟨hw1,hw2⟩:=jN D1 z.1 z.2.1 z.2.2 2 h1.f0;obtain⟨y,hy,hg⟩:∃y:Str,QL (zb D1 z.1 z.2.1 (some (z.2.2,2))).1 0=some (.str y)/\decide (V.str y=V.str "open")=zh D1 z:=by
     unfold zh HZ
     by_cases ho:Qn D1 z.1 z.2.1 z.2.2="open"
     ·exact#["open",QD (j:=0) (hw1 ho),by rw[Jh rfl,Jh ho]]
     ·exact#["held",QD (j:=0) (hw2 ho),by rw[Jm ho];exact Jm (by intro z;injection z with z;exact absurd z (by decide))]
    refine#[q',_,_,_,rfl,rfl,Gh.of hq',hy,rfl,mx.trans (m3'.mono (fun c h z=>h (JB.mpr (.inr z)))),#[M0,FL l0,d0.mv m3' d1.nt (dj' _ (cT _)) (dj' _ (aG _)) (dj' _ (aE _)) (dj' _ (aB _))],#[_,by rw[Jt];exact E4 l1,d3],?_]
    rw[hg];rfl
  rintro ys Hx hyl ⟨mx,⟨M0,l0,d0⟩,⟨M1,l1,d1⟩,hys⟩ lo hlo
  obtain rfl:ys=[.bl (zh D0 z),.bl (zh D1 z)]:=hys
  have d0:Gv K C Hx a0 (qL D0 z) M0:=d0
  have d1:Gv K C Hx a1 (qL D1 z) M1:=d1
  have vo:=F5.upd (o:= .lst [.bl (zh D0 z),.bl (zh D1 z)]) hlo
  refine q lo _ M0 M1 (mx.trans vo.mv) #[vo _ _ (mx _ _ nlS wd.li),d0.same vo,d1.same vo,wd.dj,wd.n0,wd.n1] (by have:M0.length<=L0.length+2:=l0;lia) (by have:M1.length<=L1.length+2:=l1;lia) ?_ qa
  cases e:H lo with
  |none=>rfl
  |some o=>
   by_cases y:lo∈dS a0++dS a1
   ·rcases JB.mp y with y|y
    ·exact absurd hlo (d0.some y)
    ·exact absurd hlo (d1.some y)
   ·rw[mx _ _ y e]at hlo;cases hlo
def ui:Sp:=fun vs H Q _=>∃x:Bool,vs=[.bl x,.bl x]/\Q (.bl true) H
theorem tY(a:At K mg "_law_is" gN ["_law_found","_law_due"])(T:GQ K mg tk):Df P w K mg base "_law_is" ["_law_found","_law_due"] 1 ui:=by
 refine a.dq ua fun f _ A _ s H vs Q E hr h=>?_
 ·obtain⟨x,rfl,q⟩:=h
  refine#[_,(qg (ql (af (qz gK T.b_isinstance Fn (qc (qv 0) (qc (aK (v:= .ty "bool") rfl T.b_bool PyProof.Rows.boot_bool rfl) qb))) (bg (zX ZK (qv 0) (qv 1) (qy _)))))),?_]
  refine#[_,rfl,.bl x,"bool","bool",rfl,.bl x,by simp [iQ],by simp [lB],?_]
  rw[show aX "bool" "bool"=true from by decide]
  refine#[_,rfl,zZ #[_,rfl,_,rfl,rfl,?_]]
  rw[Jh rfl];exact q
end
section
variable{P:Ξ}{w:Ω}{K:μ}{mg:F3}{base:Ψ}{tk:Nat->Tok}
theorem ki(a:At K mg "_law_plains" a9 ["_law_code","_law_names","_law_base"])(T:GQ K mg tk)(dQ:Df P w K mg base "press_of" ["table","key","name","age","count","deed"] 3 (i0 K)):Df P w K mg base "_law_plains" ["_law_code","_law_names","_law_base"] 4 gZ:=by
 refine a.dq GF fun f _ A _ s H vs Q E hr h=>?_
 ·obtain⟨cd,tb,kt,nl,t,kss,nms,ba,rfl,hc,tp,hnl,n2,hnm,k2,b0,b1,q⟩:=h
  refine#[_,(qe (qw (i:=3) GF.nd rfl (Or.inl rfl) (zC qb))
   (qe (qZ JL rfl (zo (qv 1)) (qh (i:=4) GF.nd rfl (Or.inl rfl))
   (qg (qZ JL rfl (zI rfl T.b_range (qc (qz qW T.b_len J3 (qc (qt qT (qv 0) qf) qb)) qb)) (qh (i:=5) GF.nd rfl (Or.inl rfl))
   (qg (qZ JL rfl (ff rfl T.b_range (qc (qv 2) (qc (qp qJ (qz (am rfl) T.b_min PyProof.Rows.boot_min (qc qf (qc (qp qJ (qv 2) qf) qb))) qf) qb))) (qh (i:=6) GF.nd rfl (Or.inl rfl))
   (qg (Qg (ZA EF EI EJ zW (qv 3) (qc (qF (qc (qF (qc (qv 4) (qc (qv 5) (qc (qv 6) qb)))) (qc (qr dQ hr.mo (qc (qt qT (qv 0) qf) (qc (qt qT (qt qT (qv 0) qf) (qv 5)) (qc (qv 4) (qc (qv 5) (qc (qv 6) (qc qf qb))))))) qb))) qb)))))))))
   (qg (ql (qv 3))))),?_]
  obtain⟨n,en⟩:∃n,n=zA ba:=#[_,rfl]
  have wn:=Qw (base:=ba) (by lia)
  rw[<- en]at wn q;have n11:(n:Int)<=11:=by rw[wn];split<;>lia
  have n11:n<=11:=by lia
  refine#[FV,fun fl hfl=>?_]
  have u0:=F5.upd (o:= .lst []) hfl
  have St:∀(o4 o5 o6:Option V),[some (V.ref cd),some (.ref nl),some (.int ba),some (.ref fl),o4,o5,o6]=[some (V.ref cd),some (.ref nl),some (.int ba),some (.ref fl),o4,o5,o6]:=fun _ _ _=>rfl
  refine Qm (fun σ' H'=>F5 H H'/\Gx H' fl t kss (Q5 nms kss.length ba n)/\∃o4 o5 o6,σ'=[some (.ref cd),some (.ref nl),some (.int ba),some (.ref fl),o4,o5,o6]) (fun D0 hrt hnx=>?_) ?_
  ·refine#[_,rfl,nl,rfl,#[_,Gd.of (u0 _ _ hnl)],?_]
   refine zY (K:=K) (a:=nl) (xs:=nms.map V.str) (fun i σ Hx=>F5 H Hx/\Gx Hx fl t kss (Q5 (nms.take i) kss.length ba n)/\∃o4 o5 o6,σ=[some (.ref cd),some (.ref nl),some (.int ba),some (.ref fl),o4,o5,o6]) #[u0,#[[],qa,rfl,fun i e z h=>by cases h],_,_,_,rfl] (fun i σ Hx _ h=>Gd.of (h.1 _ _ hnl)) ?_ ?_
   ·rintro i x σ Hx hx ⟨sx,px,o4,o5,o6,rfl⟩
    rw[Jn]at hx;obtain⟨nm,ex,rfl⟩:=JW.mp hx;have hi:i<nms.length:=(Jy.mp ex).1
    have nmk:=hnm nm (J9 ex);obtain⟨PA,ePA⟩:∃PA,PA=Q5 (nms.take i) kss.length ba n:=#[_,rfl]
    rw[<- ePA]at px;have last:Q5 (nms.take (i+1)) kss.length ba n=PA++((List.range kss.length).map fun i:Nat=>(0:Int)+(i:Int)).flatMap fun a=>((List.range n).map fun i:Nat=>ba+(i:Int)).map fun c=>(nm,a,c):=by
     rw[ePA,Ed,ex];unfold Q5;rw[List.flatMap_append]
     show _++List.flatMap _ [nm]=_
     rw[List.flatMap_cons,List.flatMap_nil,JV]
    have lPA:PA.length<=22*i:=by
     rw[ePA,lc,J8]
     have:kss.length*n<=2*11:=Nat.mul_le_mul k2 n11
     have h2:min i nms.length*(kss.length*n)<=i*22:=Nat.mul_le_mul (Nat.min_le_left _ _) this
     lia
    have hcx:=hc.same sx;obtain⟨as,eK,lK,hks⟩:=id hcx.ks;refine#[_,rfl,cd,_,_,_,rfl,rfl,Gh.of hcx.e,rfl,kt,_,rfl,.inr eK.up,_,rfl,by lia,by rw[Je,lK];lia,?_]
    rw[Je,lK,EC];refine zV (n:=kss.length) (Pv:=fun j σ Hy=>F5 H Hy/\Gx Hy fl t kss (PA++((List.range j).map fun i:Nat=>(0:Int)+(i:Int)).flatMap fun a=>((List.range n).map fun i:Nat=>ba+(i:Int)).map fun c=>(nm,a,c))/\∃o5 o6,σ=[some (.ref cd),some (.ref nl),some (.int ba),some (.ref fl),some (.str nm),o5,o6]) #[sx,by rw[List.range_zero,Fh,List.flatMap_nil,JV];exact px,_,_,rfl] ?_ ?_
    ·rintro j σ Hy hj ⟨sy,py,o5,o6,rfl⟩
     obtain⟨PB,ePB⟩:∃PB,PB=PA++((List.range j).map fun i:Nat=>(0:Int)+(i:Int)).flatMap fun a=>((List.range n).map fun i:Nat=>ba+(i:Int)).map fun c=>(nm,a,c):=#[_,rfl]
     rw[<- ePB]at py;have lPB:PB.length<=44:=by
      have:(((List.range j).map fun i:Nat=>(0:Int)+(i:Int)).flatMap fun a=>((List.range n).map fun i:Nat=>ba+(i:Int)).map fun c=>(nm,a,c)).length<=11*j:=by
       rw[List.length_flatMap];simp only[Je,List.length_range,List.map_const',List.sum_replicate_nat];rw[Nat.mul_comm];exact Nat.mul_le_mul_right _ n11
      rw[ePB,Jt];lia
     obtain⟨ag,eag⟩:∃ag:Int,ag=0+(j:Int):=#[_,rfl]
     rw[<- eag];have nb:(((if ba+10<4095 then ba+10 else 4095)+1-ba).toNat)=n:=by
      have:(n:Int)=(if ba+10<4095 then ba+10 else 4095)+1-ba:=by rw[wn];lia
      lia
     refine#[_,rfl,_,rfl,_,_,rfl,rfl,_,_,rfl,_,_,rfl,rfl,_,_,rfl,#[by lia,by lia,by split<;>lia,by split<;>lia],?_]
     rw[nb];refine zV (lo:=ba) (n:=n) (Pv:=fun m σ Hz=>F5 H Hz/\Gx Hz fl t kss (PB++((List.range m).map fun i:Nat=>ba+(i:Int)).map fun c=>(nm,ag,c))/\∃o6,σ=[some (.ref cd),some (.ref nl),some (.int ba),some (.ref fl),some (.str nm),some (.int ag),o6]) #[sy,by rw[List.range_zero,Fh,Fh,JV];exact py,_,rfl] ?_ ?_
     ·rintro m σ Hz hm ⟨sz,pz,o6',rfl⟩
      have cb:0<=ba+(m:Int)/\ba+(m:Int)<4096:=by
       have:(m:Int)<n:=by lia
       rw[wn]at this;split at this<;>lia
      obtain⟨es,e0,le,res⟩:=id pz;have hcz:=hc.same sz;obtain⟨bs,eK2,lK2,hks2⟩:=id hcz.ks;obtain⟨ak,hat,hak⟩:=ij (D:=#[t,kss,0,0,0,0,[]]) (age:=ag) lK2 hks2 (by lia) (by show ag<(kss.length:Int);lia)
      refine#[_,rfl,.inl #[rfl,_,Gd.of e0],_,rfl,_,rfl,_,rfl,FY,fun z1 hz1=>?_]
      have v1:=F5.upd (o:= .tup [.str nm,.int ag,.int (ba+(m:Int))]) hz1
      have hcw:=hcz.same v1;obtain⟨cs,eK3,lK3,hks3⟩:=id hcw.ks;obtain⟨ak,hat,hak⟩:=ij (D:=#[t,kss,0,0,0,0,[]]) (age:=ag) lK3 hks3 (by lia) (by show ag<(kss.length:Int);lia)
      refine#[_,rfl,cd,_,_,_,rfl,rfl,Gh.of hcw.e,rfl,_,rfl,cd,_,_,_,rfl,rfl,Gh.of hcw.e,rfl,_,rfl,kt,_,_,_,rfl,rfl,eK3.up,hat,_,rfl,_,rfl,_,rfl,tb,ak,nm,ag,ba+(m:Int),2,t,_,rfl,.inr (.inl hcw.tb),.inr hak.up,nmk,by rw[tp.length_eq];rfl,cb.1,cb.2,#[by decide,by decide],fun pr pc H5 s5 h1 h2=>#[FX,fun ee hee=>?_]]
      have v6:=F5.upd (o:= .tup [.ref z1,.ref pr]) hee
      have S6:=(v1.trans s5).trans v6;have e6:=S6 _ _ e0;refine#[fl,_,_,rfl,rfl,e6,by rw[Je,le,Jt,Je,Je,List.length_range,JF];lia,?_]
      have ad:=(pz.same S6).add (e:=(ee,z1,pr)) (z:=(nm,ag,ba+(m:Int))) e6 qa (v6 _ _ (s5 _ _ qa)) #[pc,v6 _ _ h1,v6 _ _ h2]
      refine#[fun c o e=>?_,?_,_,rfl]
      ·rw[qj (qk e hfl)];exact S6 _ _ (sz _ _ e)
      ·rw[List.range_succ,JJ,JJ,<- EL]
       exact ad
     ·rintro σ Hz ⟨sz,pz,o6',rfl⟩
      refine#[sz,?_,_,_,rfl]
      rw[List.range_succ,JJ,List.flatMap_append,<- EL,<- ePB]
      show Gx Hz fl t kss (PB++List.flatMap _ [0+(j:Int)])
      rw[List.flatMap_cons,List.flatMap_nil,JV,<- eag];exact pz
    ·rintro σ Hy ⟨sy,py,o5,o6,rfl⟩
     exact#[sy,by rw[last];exact py,_,_,_,rfl]
   ·rintro σ Hx ⟨sx,px,o4,o5,o6,rfl⟩
    rw[Je,Ep]at px;exact hnx _ _ #[sx,px,_,_,_,rfl]
  rintro σ Hx ⟨sx,px,o4,o5,o6,rfl⟩
  exact#[_,rfl,q fl Hx sx hfl px]
end
section
variable{P:Ξ}{w:Ω}{K:μ}{mg:F3}{base:Ψ}{tk:Nat->Tok}{C:Δ}
theorem lG(a:At K mg "_law_first" bR ["_law_doors","_law_plains_here"])(T:GQ K mg tk)(U:Hf K C)(dG:Mf P w K mg base C "known_now" ["self"] 1 (gJ K C))(dH:Mf P w K mg base C "twin_door" ["self"] 3 (iH K C))(dM:Df P w K mg base "_law_opens" ["_law_doors","_law_press"] 7 (eO K C)):Df P w K mg base "_law_first" ["_law_doors","_law_plains_here"] 8 (jS K C):=by
 refine a.dq Gj fun f _ A _ s H vs Q E hr h=>?_
 ·obtain⟨l,pl,a0,a1,D0,D1,L0,L1,t,kss,ps,rfl,wd,h0,h1,l80,l81,hp,hz,q⟩:=h
  refine#[_,(qe (qw (i:=2) Gj.nd rfl (Or.inl rfl) (zC qb))
   (qe (qZ JL rfl (zo (qv 1)) (zR rfl (qm (qh (i:=3) Gj.nd rfl (Or.inl rfl)) (qm (qh (i:=4) Gj.nd rfl (Or.inl rfl)) q9)))
   (qe (fK (i:=5) Gj.nd rfl (Or.inl rfl) (own:=["_law_door"]) (fr:=[]) (js:=[]) rfl (zo (qv 0)) rfl (fun _ _ h=>nomatch h) rfl (az rfl (by decide +kernel) (by decide +kernel) (by decide +kernel)) (fun _ _ _ _=>qh (i:=0) (show List.Nodup (["_law_door"]:List Str)from by decide +kernel) rfl (Or.inl rfl) (.inr rfl)) (fun _ _ _ _=>(zS dH U.cl hr.mo (qv 0))))
   (qe (fK (i:=6) Gj.nd rfl (Or.inl rfl) (own:=["_law_door"]) (fr:=[]) (js:=[]) rfl (zo (qv 0)) rfl (fun _ _ h=>nomatch h) rfl (az rfl (by decide +kernel) (by decide +kernel) (by decide +kernel)) (fun _ _ _ _=>qh (i:=0) (show List.Nodup (["_law_door"]:List Str)from by decide +kernel) rfl (Or.inl rfl) (.inr rfl)) (fun _ _ _ _=>(zS dG U.cl hr.mo (qv 0))))
   (qe (qw (i:=7) Gj.nd rfl (Or.inl rfl) (qr dM hr.mo (qc (qv 5) (qc (qv 4) qb))))
   (qe (qN (qE cI (qt qA (qv 7) qf) (qt qA (qv 7) qf) (qy _)) (qg (ql (qF (qc (qv 3) qb)))) qB)
   (qg (qN (qE (Aw hr) (zL (own:=["_law_twin"]) (fr:=[]) (js:=[]) rfl (zo (qv 5)) rfl (fun _ _ h=>nomatch h) rfl (az rfl (by decide +kernel) (by decide +kernel) (by decide +kernel)) (fun _ _ _ _=>qh (i:=0) (show List.Nodup (["_law_twin"]:List Str)from by decide +kernel) rfl (Or.inl rfl) (.inr rfl)) (fun _ _ _ _=>(zS dG U.cl hr.mo (qv 0)))) (qv 6) (qy _)) (qg (Qg (ZA EF EI EJ zW (qv 2) (qc (qF (qc (qv 3) (qc (qv 5) qb))) qb)))) qB)))))))
   (qe (qZ JL rfl (zo (qv 2)) (zR rfl (qm (qh (i:=3) Gj.nd rfl (Or.inl rfl)) (qm (qh (i:=5) Gj.nd rfl (Or.inl rfl)) q9)))
   (qg (qZ JL rfl (zo (qv 1)) (zR rfl (qm (qh (i:=8) Gj.nd rfl (Or.inl rfl)) (qm (qh (i:=4) Gj.nd rfl (Or.inl rfl)) q9)))
   (qe (qw (i:=7) Gj.nd rfl (Or.inl rfl) (qr dM hr.mo (qc (zL (own:=["_law_twin"]) (fr:=[]) (js:=[]) rfl (zo (qv 5)) rfl (fun _ _ h=>nomatch h) rfl (az rfl (by decide +kernel) (by decide +kernel) (by decide +kernel)) (fun _ _ _ _=>qh (i:=0) (show List.Nodup (["_law_twin"]:List Str)from by decide +kernel) rfl (Or.inl rfl) (.inr rfl)) (fun _ _ _ _=>(zS dH U.cl hr.mo (qv 0)))) (qc (qv 4) qb))))
   (qg (qN (qE cI (qt qA (qv 7) qf) (qt qA (qv 7) qf) (qy _)) (qg (ql (qF (qc (qv 3) (qc (qv 8) qb))))) qB))))))
   (qg (ql zf))))),?_]
  have fd:∀{a':Da} {Hx:Hp},Hx a'.p=none->Hx a'.hk=none->Hx a'.bd=none->Hx a'.lg=none->∀z∈dS a',Hx z=none:=fun f1 f2 f3 f4 z hz=>by
   rcases mN hz with rfl|rfl|rfl|rfl
   ·exact f1
   ·exact f2
   ·exact f3
   ·exact f4
  have k0:=h0.ok.kl;have k1:=h1.ok.kl;refine#[FV,fun al hal=>?_]
  have u0:=F5.upd (o:= .lst []) hal
  obtain⟨es,epl,les,res⟩:=id hp;have item:∀{i:Nat} {x:V},(es.map fun e=>V.ref e.1)[i]? =some x->∃e z,x= .ref e.1/\es[i]? =some e/\ps[i]? =some z/\z∈ps/\H e.1=some (.tup [.ref e.2.1,.ref e.2.2])/\H e.2.1=some (.tup [.str z.1,.int z.2.1,.int z.2.2])/\ZU H e.2.2 (zK t kss z.1 z.2.1 z.2.2 2):=fun{i x} hx=>by
   rw[Jn]at hx;obtain⟨e,he,rfl⟩:=JW.mp hx;have hi:i<ps.length:=by rw[<- les];exact(Jy.mp he).1
   have hz:=Jg hi
   exact#[e,_,rfl,he,hz,J9 hz,res i e _ he hz]
  refine Qm (fun σ' H'=>∃ch,F5 H H'/\Ij K C H' al D0 D1 802 (ps.filter ch)/\(∀z,ch z=false->Gc D0 z.1 z.2.1 z.2.2=D0.kn/\Gc D1 z.1 z.2.1 z.2.2=D1.kn)/\(∀z∈ps,Qc D0 D1 z=none)/\∃o3 o4 o5 o6 o7 o8,σ'=[some (.ref l),some (.ref pl),some (.ref al),o3,o4,o5,o6,o7,o8]) (fun Dn hrt hnx=>?_) ?_
  ·refine#[_,rfl,pl,rfl,#[_,Gd.of (u0 _ _ epl)],?_]
   refine zY (K:=K) (a:=pl) (xs:=es.map fun e=>V.ref e.1) (fun i σ Hx=>∃ch,F5 H Hx/\Ij K C Hx al D0 D1 802 ((ps.take i).filter ch)/\(∀z,ch z=false->Gc D0 z.1 z.2.1 z.2.2=D0.kn/\Gc D1 z.1 z.2.1 z.2.2=D1.kn)/\(∀j z,j<i->ps[j]? =some z->Qc D0 D1 z=none)/\∃o3 o4 o5 o6 o7 o8,σ=[some (.ref l),some (.ref pl),some (.ref al),o3,o4,o5,o6,o7,o8]) #[fun _=>true,u0,#[[],qa,rfl,fun i e z h=>by cases h],(fun z h=>by cases h),fun j z hj=>absurd hj (Nat.not_lt_zero _),_,_,_,_,_,_,rfl] (fun i σ Hx _ h=>let⟨_,s,_⟩:=h;Gd.of (s _ _ epl)) ?_ ?_
   ·rintro i x σ Hx hx ⟨ch,sx,ax,ic,no,o3,o4,o5,o6,o7,o8,rfl⟩
    obtain⟨e,z,rfl,he,ez,zin,x1,x2,x3⟩:=item hx;obtain⟨zn,za0,za1,zc0,zc1⟩:=hz.z z zin;have tk1:ps.take (i+1)=ps.take i++[z]:=by rw[Ed,ez];rfl
    have nin:z∉ps.take i:=fun y=>by
     have nd:=hz.nd;rw[<- List.take_append_drop (i+1) ps,tk1]at nd
     exact(EU.mp (EU.mp nd).1).2.2 z y z Jv rfl
    refine#[e.1,_,rfl,.tup (sx _ _ x1),rfl,_,_,rfl,_,_,rfl,rfl,?_]
    have wx:=wd.same sx;refine#[_,rfl,l,rfl,#[_,Gd.of wx.li],c5 wx (fun{a D L Hx R} d k8 hR=>#[_,rfl,a.p,rfl,d.dr.no,a,D,L,rfl,d,k8,fun a' H' s f1 f2 f3 f4 d'=>hR a' H' s (fd f1 f2 f3 f4) d']) (fun x Hx R R' hRR ⟨v,e1,p,e2,no,a,D,L,e3,d,k8,hq⟩=>#[v,e1,p,e2,no,a,D,L,e3,d,k8,fun a' H' s f1 f2 f3 f4 d'=>hRR _ _ (hq a' H' s f1 f2 f3 f4 d')]) k0 k1 fun tl b0 b1 H1 s1 ftl fb w1=>?_]
    have wx1:=wx.same s1;refine#[_,rfl,l,rfl,#[_,Gd.of wx1.li],iq wx1 (fun{a D L Hx R} d ok hR=>#[_,rfl,a.p,rfl,d.dr.no,a.p,a.ta,a.hk,a.bd,a.lg,_,D,rfl,d.dr,ok,hR]) (fun x Hx R R' hRR ⟨v,e1,p,e2,no,p',ta,hk,bd,lg,n,D,e3,d,ok,hq⟩=>#[v,e1,p,e2,no,p',ta,hk,bd,lg,n,D,e3,d,ok,fun q ss H' s pm so sh=>hRR _ _ (hq q ss H' s pm so sh)]) h0.ok h1.ok fun kl q0 q1 ss0 ss1 H2 s2 fkl ekl pm0 so0 sh0 pm1 so1 sh1=>?_]
    have w2:=w1.same s2;have hpr2:=Gz.same ((sx.trans s1).trans s2) x3;refine#[_,rfl,_,rfl,tl,e.2.2,b0,b1,D0,D1,L0,L1,t,kss,z,rfl,w2,h0,h1,by lia,by lia,hpr2,zn,zc0,zc1,fun qo H4 M0 M1 m4 w4 lm0 lm1 fqo eqo=>?_]
    have S4:F5 Hx H4:=fun c o ec=>m4 c o (fun y=>by rw[fb c y]at ec;cases ec) (s2 _ _ (s1 _ _ ec))
    have N2:=w2.nt;have nkl:kl∉dS b0++dS b1:=fun y=>(JB.mp y).elim (fun y=>w1.d0.some y fkl) (fun y=>w1.d1.some y fkl)
    refine#[_,rfl,qo,_,_,_,rfl,rfl,Gd.of eqo,rfl,_,rfl,qo,_,_,_,rfl,rfl,Gd.of eqo,rfl,rfl,_,rfl,qY (fun y=>?_) (fun y=>?_)]
    ·have ne:zh D0 z≠zh D1 z:=fun w=>by rw[w,Jh rfl]at y;cases y
     refine#[_,rfl,FW,fun r hr9=>?_]
     have u9:=F5.upd (o:= .tup [.ref e.2.1]) hr9
     have e1:QB D0 D1 ps (fun _=>true)=some [z]:=by
      unfold QB;rw[aL (f:=Qc D0 D1) ez (show Qc D0 D1 z=some [z] by unfold Qc;rw[Jc ne]) no]
     have:=q (.ref r) (fun _=>true) _ ((sx.trans S4).trans u9) (fun z h=>by cases h)
     rw[e1]at this;rw[hrt];exact this (HF.one qa (u9 _ _ (S4 _ _ (sx _ _ x2))))
    have eq1:zh D0 z=zh D1 z:=Decidable.byContradiction fun w=>y (by rw[Jm (fun v=>w (by injection v))];rfl)
    have no':∀j y,j<i+1->ps[j]? =some y->Qc D0 D1 y=none:=fun j y hj hy=>by
     by_cases hji:j<i
     ·exact no j y hji hy
     ·obtain rfl:j=i:=by lia
      rw[ez]at hy;cases hy;unfold Qc;rw[Jb eq1]
    have key0:(qL D0 z).kn.map (·.1)=D0.kn.map (·.1):=ZN ..
    have key1:(qL D1 z).kn.map (·.1)=D1.kn.map (·.1):=ZN ..
    refine#[_,rfl,tl,rfl,#[_,Gd.of w4.li],iq w4 (fun{a D L Hx R} d ok hR=>#[_,rfl,a.p,rfl,d.dr.no,a.p,a.ta,a.hk,a.bd,a.lg,_,D,rfl,d.dr,ok,hR]) (fun x Hx R R' hRR ⟨v,e1,p,e2,no,p',ta,hk,bd,lg,n,D,e3,d,ok,hq⟩=>#[v,e1,p,e2,no,p',ta,hk,bd,lg,n,D,e3,d,ok,fun q ss H' s pm so sh=>hRR _ _ (hq q ss H' s pm so sh)]) (h0.he z).ok (h1.he z).ok fun kl2 r0 r1 ts0 ts1 H5 s5 fkl2 ekl2 qm0 qo0 qh0 qm1 qo1 qh1=>?_]
    obtain rfl:ss0=ts0:=bM pm0 so0 (key0▸qm0) qo0
    obtain rfl:ss1=ts1:=bM pm1 so1 (key1▸qm1) qo1
    have sm:∀{D:Dr} {ss:List Str},ss.Perm (D.kn.map (·.1))->∀nm∈ss,(D.kn.lookup nm).isSome=true:=fun pm nm hn=>Gb.mpr (pm.mem_iff.mp hn)
    refine#[_,rfl,kl2,kl,r0,r1,q0,q1,ss0,ss1,(qL D0 z).kn,(qL D1 z).kn,D0.kn,D1.kn,rfl,rfl,ekl2,s5 _ _ (m4 _ _ nkl ekl),qh0,((sh0.mv m4 N2).same s5),qh1,((sh1.mv m4 N2).same s5),fun nm hn=>#[sm qm0 nm hn,sm pm0 nm hn],fun nm hn=>#[sm qm1 nm hn,sm pm1 nm hn],fun bb hbb=>#[_,rfl,qY (fun hy=>?_) (fun hy=>?_)]]
    ·have S5:=S4.trans s5
     have ax5:=ax.same S5;obtain⟨fs,eal,lfs,_⟩:=id ax5;refine#[_,rfl,.inl #[rfl,_,Gd.of eal],_,rfl,_,rfl,FX,fun ee hee=>?_]
     have v6:=F5.upd (o:= .tup [.ref e.2.1,.ref tl]) hee
     have eal6:=v6 _ _ eal;have llen:fs.length<=i:=by rw[lfs];exact JQ (List.length_filter_le _ _) (by rw[J8];lia)
     have hi:i<ps.length:=(Jy.mp ez).1
     have len100:=hz.len;refine#[al,_,_,rfl,rfl,eal6,by rw[Je,JF];lia,?_]
     have w6:=(w4.same s5).same v6;have exx:Hx al≠none:=fun y=>by obtain⟨_,e0,_⟩:=id ax;rw[y]at e0;cases e0
     have ntl:tl≠al:=fun y=>exx (y▸ftl)
     have nb:al∉dS b0/\al∉dS b1:=#[fun y=>exx (fb al (JB.mpr (.inl y))),fun y=>exx (fb al (JB.mpr (.inr y)))]
     have ad:=(ax5.same v6).add (e:=(ee,e.2.1,tl)) (z:=z) eal6 qa (v6 _ _ (S5 _ _ (sx _ _ x2))) ntl w6 (by lia) (by lia) nb.1 nb.2
     refine#[fun y=>if y=z then true else ch y,fun c o ec=>?_,?_,fun y hy=>?_,no',_,_,_,_,_,_,rfl]
     ·rw[qj (qk ec hal)]
      exact v6 _ _ (S5 _ _ (sx _ _ ec))
     ·have ef:(ps.take (i+1)).filter (fun y=>if y=z then true else ch y)=(ps.take i).filter ch++[z]:=by
       rw[tk1,List.filter_append];congr 1
       ·refine List.filter_congr fun y hy=>?_
        rw[Jc (fun w:y=z=>nin (w▸hy))]
       ·rw[List.filter_cons,Jb (show(if z=z then true else ch z)=true from Jb rfl)];rfl
      rw[ef];exact ad
     ·by_cases hyz:y=z
      ·have hy:(if y=z then true else ch y)=false:=hy
       rw[Jb hyz]at hy;cases hy
      ·have hy:(if y=z then true else ch y)=false:=hy
       rw[Jc hyz]at hy;exact ic y hy
    ·have hbf:bb=false:=EE.mpr hy
     obtain⟨g0,g1⟩:=hbb hbf;refine#[fun y=>if y=z then false else ch y,sx.trans (S4.trans s5),?_,fun y hy=>?_,no',_,_,_,_,_,_,rfl]
     ·have ef:(ps.take (i+1)).filter (fun y=>if y=z then false else ch y)=(ps.take i).filter ch:=by
       rw[tk1,List.filter_append,List.filter_cons,Jc (show¬(if z=z then false else ch z)=true by rw[Jb rfl];decide),List.filter_nil,JV]
       refine List.filter_congr fun y hy=>?_
       rw[Jc (fun w:y=z=>nin (w▸hy))]
      rw[ef];exact ax.same (S4.trans s5)
     ·by_cases hyz:y=z
      ·subst hyz
       exact#[jt h0.ok.nd fun x hx=>(g0 x (pm0.mem_iff.mpr hx)).symm,jt h1.ok.nd fun x hx=>(g1 x (pm1.mem_iff.mpr hx)).symm]
      ·have hy:(if y=z then false else ch y)=false:=hy
       rw[Jc hyz]at hy;exact ic y hy
   ·rintro σ Hx ⟨ch,sx,ax,ic,no,o3,o4,o5,o6,o7,o8,rfl⟩
    rw[Je,les,Ep]at ax;refine hnx _ _ #[ch,sx,ax,ic,fun z hz=>?_,_,_,_,_,_,_,rfl]
    obtain⟨j,hj,rfl⟩:=List.mem_iff_getElem.mp hz;exact no j _ (by rw[Je,les];exact hj) (Jg hj)
  rintro σ Hx ⟨ch,sx,ax,ic,no,o3,o4,o5,o6,o7,o8,rfl⟩
  have none1:ps.findSome? (Qc D0 D1)=none:=QC no
  have ef:QB D0 D1 ps ch=(ps.filter ch).findSome? (Qv D0 D1 ps):=by
   unfold QB;rw[none1];exact yu ch _ ps
  have q:∀u H',F5 H H'->HF H' u ((ps.filter ch).findSome? (Qv D0 D1 ps))->Q u H':=fun u H' s tv=>q u ch H' s ic (by rw[ef];exact tv)
  obtain⟨fs,eal,lfs,rfs⟩:=id ax;refine iW (fun σ' H'=>F5 H H'/\(ps.filter ch).findSome? (Qv D0 D1 ps)=none) (fun Dn hrt hnx=>?_) ?_
  ·refine#[_,rfl,al,rfl,#[_,Gd.of eal],?_]
   refine zY (K:=K) (a:=al) (xs:=fs.map fun e=>V.ref e.1) (fun i σ Hy=>F5 Hx Hy/\(∀j z,j<i->(ps.filter ch)[j]? =some z->Qv D0 D1 ps z=none)/\∃o3 o4 o5 o6 o7 o8,σ=[some (.ref l),some (.ref pl),some (.ref al),o3,o4,o5,o6,o7,o8]) #[F5.refl _,fun j z hj=>absurd hj (Nat.not_lt_zero _),_,_,_,_,_,_,rfl] (fun i σ Hy _ h=>Gd.of (h.1 _ _ eal)) ?_ ?_
   ·rintro i x σ Hy hx ⟨sy,no2,o3,o4,o5,o6,o7,o8,rfl⟩
    rw[Jn]at hx;obtain⟨e,he,rfl⟩:=JW.mp hx;have hi:i<(ps.filter ch).length:=by rw[<- lfs];exact(Jy.mp he).1
    have ez:=Jg hi;obtain⟨z,eez⟩:∃z,z=(ps.filter ch)[i]:=#[_,rfl]
    rw[<- eez]at ez;obtain⟨x1,x2,x3,b0,b1,M0,M1,wt,lm0,lm1,_,_⟩:=rfs i e z he ez;refine#[e.1,_,rfl,.tup (sy _ _ x1),rfl,_,_,rfl,_,_,rfl,rfl,?_]
    refine#[_,rfl,pl,rfl,#[_,Gd.of (sy _ _ (sx _ _ epl))],?_]
    refine zY (K:=K) (a:=pl) (xs:=es.map fun e=>V.ref e.1) (fun j σ Hz=>F5 Hx Hz/\(∀k y,k<j->ps[k]? =some y->zh (qL D0 z) y=zh (qL D1 z) y)/\∃o4 o6 o7 o8,σ=[some (.ref l),some (.ref pl),some (.ref al),some (.ref e.2.1),o4,some (.ref e.2.2),o6,o7,o8]) #[sy,fun k y hk=>absurd hk (Nat.not_lt_zero _),_,_,_,_,rfl] (fun j σ Hz _ h=>Gd.of (h.1 _ _ (sx _ _ epl))) ?_ ?_
    ·rintro j x σ Hz hx ⟨sz,no3,o4,o6,o7,o8,rfl⟩
     obtain⟨e2,y,rfl,he2,ey,yin,y1,y2,y3⟩:=item hx;obtain⟨zn,za0,za1,zc0,zc1⟩:=hz.z y yin;have sxz:=sx.trans sz;refine#[e2.1,_,rfl,.tup (sxz _ _ y1),rfl,_,_,rfl,_,_,rfl,rfl,?_]
     have wz:=wt.same sz;refine#[_,rfl,e.2.2,rfl,#[_,Gd.of wz.li],c5 wz (fun{a D L Hx R} d k8 hR=>#[_,rfl,a.p,rfl,d.dr.no,a,D,L,rfl,d,k8,fun a' H' s f1 f2 f3 f4 d'=>hR a' H' s (fd f1 f2 f3 f4) d']) (fun x Hx R R' hRR ⟨v,e1,p,e2,no,a,D,L,e3,d,k8,hq⟩=>#[v,e1,p,e2,no,a,D,L,e3,d,k8,fun a' H' s f1 f2 f3 f4 d'=>hRR _ _ (hq a' H' s f1 f2 f3 f4 d')]) k0 k1 fun tl c0 c1 H1 s1 ftl fb w1=>?_]
     refine#[_,rfl,tl,e2.2.2,c0,c1,qL D0 z,qL D1 z,M0,M1,t,kss,y,rfl,w1,h0.he z,h1.he z,by lia,by lia,Gz.same (sxz.trans s1) y3,zn,zc0,zc1,fun qo H4 N0 N1 m4 w4 _ _ fqo eqo=>?_]
     have S4:F5 Hz H4:=fun c o ec=>m4 c o (fun y=>by rw[fb c y]at ec;cases ec) (s1 _ _ ec)
     refine#[_,rfl,qo,_,_,_,rfl,rfl,Gd.of eqo,rfl,_,rfl,qo,_,_,_,rfl,rfl,Gd.of eqo,rfl,rfl,_,rfl,qY (fun yy=>?_) (fun yy=>?_)]
     ·have ne:zh (qL D0 z) y≠zh (qL D1 z) y:=fun w=>by rw[w,Jh rfl]at yy;cases yy
      refine#[_,rfl,_,rfl,FX,fun r hr9=>?_]
      have u9:=F5.upd (o:= .tup [.ref e.2.1,.ref e2.2.1]) hr9
      have t1:Qv D0 D1 ps z=some [z,y]:=aL (i:=j) ey (by rw[Jc ne]) fun k y' hk hy'=>Jb (no3 k y' hk hy')
      have:=q (.ref r) _ ((sxz.trans S4).trans u9)
      rw[aL (f:=Qv D0 D1 ps) ez t1 no2]at this
      rw[hrt];refine this #[r,[e.2.1,e2.2.1],rfl,qa,rfl,fun k a' z' g1 g2=>?_]
      match k,g1,g2 with
      |0,g1,g2=>cases g1;cases g2;exact u9 _ _ (S4 _ _ (sz _ _ x2))
      |1,g1,g2=>cases g1;cases g2;exact u9 _ _ (S4 _ _ (sxz _ _ y2))
     ·refine#[sz.trans S4,fun k y' hk hy'=>?_,_,_,_,_,rfl]
      by_cases hkj:k<j
      ·exact no3 k y' hkj hy'
      ·obtain rfl:k=j:=by lia
       rw[ey]at hy';cases hy';exact Decidable.byContradiction fun w=>yy (by rw[Jm (fun v=>w (by injection v))];rfl)
    ·rintro σ Hz ⟨sz,no3,o4,o6,o7,o8,rfl⟩
     refine#[sz,fun j y hj hy=>?_,_,_,_,_,_,_,rfl]
     by_cases hji:j<i
     ·exact no2 j y hji hy
     ·obtain rfl:j=i:=by lia
      rw[ez]at hy;cases hy;refine QC fun y hy=>?_
      obtain⟨k,hk,rfl⟩:=List.mem_iff_getElem.mp hy;exact Jb (no3 k _ (by rw[Je,les];exact hk) (Jg hk))
   ·rintro σ Hy ⟨sy,no2,o3,o4,o5,o6,o7,o8,rfl⟩
    refine hnx _ _ #[sx.trans sy,QC fun z hz=>?_]
    obtain⟨j,hj,rfl⟩:=List.mem_iff_getElem.mp hz;exact no2 j _ (by rw[Je,lfs];exact hj) (Jg hj)
  rintro σ Hy ⟨sy,en⟩
  have:=q .non Hy sy
  rw[en]at this;exact this rfl
end
end Lw
namespace L3
open PySem PySem.Spec PyProof.Rows L2
structure Lf(nms:List Str)(many:Nat)(base:Int):Prop where
 nm:nms=([("a":Str)]:List Str)\/nms=([("ab":Str),("b":Str)]:List Str)
 m1:1<=many
 m2:many<=2
 b:base=0\/base=4088
theorem Lf.nd{nms:List Str}{many:Nat}{base:Int}(h:Lf nms many base):nms.Nodup:=by rcases h.nm with rfl|rfl<;>decide +kernel
theorem Lf.len{nms:List Str}{many:Nat}{base:Int}(h:Lf nms many base):nms.length<=2/\1<=nms.length:=by rcases h.nm with rfl|rfl<;>decide
theorem Lf.ok{nms:List Str}{many:Nat}{base:Int}(h:Lf nms many base):∀z∈nms,Zo z:=by
 have q:∀z∈([("a":Str),("ab":Str),("b":Str)]:List Str),Zo z:=fun z hz=>by
  refine IM.mp ?_
  rcases Jr.mp hz with rfl|hz
  ·decide +kernel
  ·rcases Jr.mp hz with rfl|hz
   ·decide +kernel
   ·obtain rfl:=Jl.mp hz
    decide +kernel
 intro z hz;refine q z ?_
 rcases h.nm with rfl|rfl
 ·exact Jr.mpr (.inl (Jl.mp hz))
 ·exact JE _ hz
theorem Lf.srt{nms:List Str}{many:Nat}{base:Int}(h:Lf nms many base):nms.Pairwise fun x y=>x≠y/\¬y.cps.toList<x.cps.toList:=by rcases h.nm with rfl|rfl<;>decide +kernel
theorem Lf.sorted{nms:List Str}{many:Nat}{base:Int}(h:Lf nms many base):sortedS nms=true:=by rcases h.nm with rfl|rfl<;>decide +kernel
theorem HF.mv{S:List Δ}{H H':Hp}{v:V}{o:Option qC}(h:HF H v o)(m:Mv S H H')(nt:NT S H):HF H' v o:=by
 cases o with
 |none=>exact h
 |some r=>
  obtain⟨t,as,rfl,e,l,q⟩:=h
  exact#[t,as,rfl,m.tup nt e,l,fun i a z h1 h2=>m.tup nt (q i a z h1 h2)]
theorem Gx.at{H:Hp}{pl:Δ}{t:List Int}{kss:List (List Int)}{ps:qC}(h:Gx H pl t kss ps):∃es:List V,H pl=some (.lst es)/\es.length=ps.length/\∀r:Int,0<=r->r<(ps.length:Int)->∃(e e1 e2:Δ) (z:Str×Int×Int),QL es r=some (.ref e)/\z∈ps/\H e=some (.tup [.ref e1,.ref e2])/\H e1=some (.tup [.str z.1,.int z.2.1,.int z.2.2])/\ZU H e2 (zK t kss z.1 z.2.1 z.2.2 2):=by
 obtain⟨es,e,l,q⟩:=h;refine#[_,e,by rw[Je,l],fun r r0 r1=>?_]
 obtain⟨i,rfl⟩:∃i:Nat,r=(i:Int):=#[r.toNat,by lia]
 have hi:i<ps.length:=by lia
 have hj:i<es.length:=by lia
 obtain⟨q1,q2,q3⟩:=q i es[i] ps[i] (Jg hj) (Jg hi)
 exact#[es[i].1,es[i].2.1,es[i].2.2,ps[i],QD (by rw[Jn,Jg hj];rfl),EZ hi,q1,q2,q3]
structure HX(t:List Int)(kss:List (List Int))(base:Int)(nms:List Str)(D:Dr):Prop where
 hr:HU t kss D
 dn:Gw D
 n2:D.near<=2
 f5:D.far<=5
 mo:D.most=3
 le:D.least=0
 kl:∀e∈D.kn,Gu D e.2/\base<e.2.last/\e.2.last<=base+3/\e.2.wt=none
 sub:D.kn.map (·.1)=nms
section
variable{t:List Int}{kss:List (List Int)}{base:Int}{nms:List Str}{D:Dr}{nm:Str}{age c:Int}
theorem HX.new{near far:Int}(tp:t.Perm GG)(k1:1<=kss.length)(k8:kss.length<=8)(n1:1<=near)(n2:near<=2)(nf:near<=far)(f5:far<=5):HX t kss base [] #[t,kss,near,far,3,0,[]]:=
 #[#[#[tp,JK _,k8,JC _,FH],rfl,rfl,nf],#[n1,by show near<=64;lia,nf,by show far<=1024;lia,JK _,by show(0:Int)<kss.length;lia],n2,f5,rfl,rfl,(fun e h=>nomatch h),rfl]
theorem HX.learn(h:HX t kss base nms D)(hl:nms.length<=2)(hn:nm∉nms)(a1:0<kss.length)(b0:0<=base)(c1:c<4096)(b1:base<c)(b3:c<=base+3):HX t kss base (nms++[nm]) {D with kn:=zk D.kn nm #[0,c,none]}:=by
 have ln:D.kn.length=nms.length:=by rw[<- h.sub,Je]
 have hn':nm∉D.kn.map (·.1):=by rw[h.sub];exact hn
 have hle:=wS D.kn nm #[0,c,none];have k:Gu {D with kn:=zk D.kn nm #[0,c,none]} #[0,c,none]:=#[JK _,by show(0:Int)<(D.kss.length:Int);rw[h.hr.ks];lia,by show 1<=c;lia,c1,fun x y z=>by cases z]
 refine#[#[#[h.hr.ok.tp,h.hr.ok.l0,h.hr.ok.kl,by show(zk _ _ _).length<=60;lia,iN h.hr.ok.nd _ _],h.hr.t,h.hr.ks,h.hr.f0],#[h.dn.n0,h.dn.n1,h.dn.nf,h.dn.f1,h.dn.l0,h.dn.lk],h.n2,h.f5,h.mo,h.le,fun e he=>?_,?_]
 ·rcases gk he with he|rfl
  ·have:=h.kl e he
   exact#[this.1.mono (Jf _),this.2]
  ·exact#[k,b1,b3,rfl]
 ·show(zk D.kn nm #[0,c,none]).map (·.1)=_
  rw[bI,Jc hn',h.sub]
theorem HX.lr(h:HX t kss base nms D)(hl:nms.length<=2):ML t kss D:=#[h.hr.ok,h.hr.t,h.hr.ks,by rw[h.mo,<- Je (f:=(·.1)),h.sub];lia]
theorem HX.rd(h:HX t kss base nms D)(hl:nms.length<=2)(a1:0<kss.length)(c0:0<=c)(c1:c<4096):fZ D (zK t kss nm 0 c 0)=some (c,0):=
 pN (h.lr hl) (by rw[h.le];exact JK _) (by lia) c0 c1 #[by decide,by decide]
theorem HX.td(h:HX t kss base nms D)(l3:nms.length<=3):GU D:=#[h.hr.ok,h.dn,fun nm=>by
 cases e:D.kn.lookup nm with
 |none=>exact trivial
 |some b=>exact(h.kl _ (zF e)).1,by rw[<- Je (f:=(·.1)),h.sub];lia]
structure Mp(t:List Int)(kss:List (List Int))(base:Int)(nms:List Str)(D:Dr):Prop where
 r:Ik base D
 hr:HU t kss D
 sub:D.kn.map (·.1)=nms
theorem HX.done(h:HX t kss base nms D)(l3:nms.length<=3):Mp t kss base nms D:=#[#[h.td l3,by have:=h.n2;lia,fun nm e he=>by
 obtain⟨_,q2,q3,_⟩:=h.kl _ (zF he)
 have:=h.f5
 simp only at q2 q3
 lia],h.hr,h.sub]
theorem HX.heard(h:HX t kss base nms D)(l3:nms.length<=3)(c0:0<=c)(c1:c<4096):Mp t kss base nms {D with kn:=Gc D nm age c}:=by
 have n2:=h.n2;have f5:=h.f5;have kk:=ZN D nm age c;have nd:((Gc D nm age c).map (·.1)).Nodup:=(h.hr.ok.hearK nm age c).nd
 refine#[#[(h.td l3).hear c0 c1,by show D.near<=13;lia,fun nm' e he=>?_],#[h.hr.ok.hearK nm age c,h.hr.t,h.hr.ks,h.hr.f0],?_]
 ·have he:(nm',e)∈Gc D nm age c:=zF he
  show base<e.last/\e.last+D.far<=base+10
  have old:∀x∈D.kn,base<x.2.last/\x.2.last+D.far<=base+10:=fun x hx=>by
   obtain⟨_,q2,q3,_⟩:=h.kl x hx;lia
  rcases Q0 (D:=D) (nm:=nm) (age:=age) (c:=c)with e1|⟨b,hb,ht,ek⟩
  ·rw[e1]at he
   exact old _ he
  ·rw[ek]at he
   rcases gk he with he|he
   ·exact old _ he
   ·injection he with _ he
    subst he;obtain⟨_,q2,q3,q4⟩:=h.kl _ (zF hb)
    simp only at q2 q3 q4
    unfold zx;split
    ·exact#[q2,by show b.last+D.far<=base+10;lia]
    ·split
     ·exact#[by show base<c;lia,by show c+D.far<=base+10;lia]
     ·rw[q4]
      split
      ·rw[Jc (fun z=>by cases z)]
       exact#[q2,by show b.last+D.far<=base+10;lia]
      ·exact#[q2,by show b.last+D.far<=base+10;lia]
 ·show(Gc D nm age c).map (·.1)=nms
  rw[kk,h.sub]
end
theorem vW{nms:List Str}{i:Nat}{nm:Str}(nd:nms.Nodup)(h:nms[i]? =some nm):nm∉nms.take i:=fun hm=>by
 obtain⟨j,hj,e⟩:=List.mem_iff_getElem.mp hm;rw[J8]at hj;rw[List.getElem_take]at e;obtain⟨hi,e2⟩:=Jy.mp h;exact List.pairwise_iff_getElem.mp nd j i (by lia) hi (by lia) (e.trans e2.symm)
abbrev Dx:=Da×Dr×List Rw
structure GW(K:μ)(C:Δ)(H H':Hp)(b:Δ)(c:Nat)(dl nl cd tb kt:Δ)(t:List Int)(kss:List (List Int))(ba:Int)(nms:List Str)(xs:List Dx):Prop where
 g:HB b c H H'
 li:H' dl=some (.lst (xs.map fun x=>V.ref x.1.p))
 nn:H' nl=some (.lst (nms.map V.str))
 co:HQ H' cd tb kt t kss
 d:∀x∈xs,Gv K C H' x.1 x.2.1 x.2.2/\HX t kss ba nms x.2.1/\x.2.2.length<=2/\∀z∈dS x.1,H z=none/\z≠dl/\z≠nl
 pw:xs.Pairwise fun x y=>∀z∈dS x.1,z∉dS y.1
section
variable{K:μ}{C:Δ}{H Hx Hy:Hp}{b:Δ}{c c':Nat}{dl nl cd tb kt:Δ}{t:List Int}{kss:List (List Int)}{ba:Int}{nms:List Str}{xs:List Dx}{S:List Δ}
theorem GW.mv(h:GW K C H Hx b c dl nl cd tb kt t kss ba nms xs)(m:Mv S Hx Hy)(nt:NT S Hx)(hb:HH Hy b c')(h0:∀z∈S,H z=none\/z=b)(hd:dl∉S)(hn:nl∉S)(hx:∀x∈xs,∀z∈dS x.1,z∉S):GW K C H Hy b c' dl nl cd tb kt t kss ba nms xs:=
 #[#[fun z o nz e=>m z o (fun hz=>(h0 z hz).elim (fun y=>by rw[y]at e;cases e) nz) (h.g.kp z o nz e),hb],m _ _ hd h.li,m _ _ hn h.nn,h.co.mv m nt,fun x hx'=>let q:=h.d x hx';#[q.1.mv m nt (hx x hx' _ (cT _)) (hx x hx' _ (aG _)) (hx x hx' _ (aE _)) (hx x hx' _ (aB _)),q.2],h.pw]
theorem GW.same(h:GW K C H Hx b c dl nl cd tb kt t kss ba nms xs)(s:F5 Hx Hy):GW K C H Hy b c dl nl cd tb kt t kss ba nms xs:=
 h.mv (S:=[]) s.mv jP (h.g.same s).bx (fun z hz=>nomatch hz) (fun hz=>nomatch hz) (fun hz=>nomatch hz) (fun _ _ _ _ hz=>nomatch hz)
theorem GW.take(h:GW K C H Hx b c dl nl cd tb kt t kss ba nms xs)(g:HB b c' Hx Hy)(nd:dl≠b)(nn:nl≠b)(hb:H b≠none):GW K C H Hy b c' dl nl cd tb kt t kss ba nms xs:=
 h.mv (S:=[b]) (fun z o hz e=>g.kp z o (fun y=>hz (Jl.mpr y)) e) (Z3 h.g.bx) g.bx (fun z hz=> .inr (Jl.mp hz)) (qM nd) (qM nn) (fun x hx z hz=>qM fun y=>hb (y▸((h.d x hx).2.2.2 z hz).1))
theorem GW.mono(h:GW K C H Hx b c dl nl cd tb kt t kss ba nms xs)(l:c<=c'):GW K C H Hx b c' dl nl cd tb kt t kss ba nms xs:=#[h.g.mono l,h.li,h.nn,h.co,h.d,h.pw]
theorem GW.apart(h:GW K C H Hx b c dl nl cd tb kt t kss ba nms xs){a:Da}(f:∀z∈dS a,Hx z=none):∀x∈xs,∀z∈dS x.1,z∉dS a:=fun x hx z hz y=>(h.d x hx).1.some hz (f z y)
theorem GW.add(h:GW K C H Hx b c dl nl cd tb kt t kss ba nms xs){x:Dx}(nn:dl≠nl)(hb:dl≠b)(hH:H dl=none)(hd:Gv K C Hx x.1 x.2.1 x.2.2)(hq:HX t kss ba nms x.2.1)(hl:x.2.2.length<=2)(hf:∀z∈dS x.1,H z=none/\z≠dl/\z≠nl)(ap:∀y∈xs,∀z∈dS y.1,z∉dS x.1):GW K C H (F9 Hx dl (.lst ((xs.map fun x=>V.ref x.1.p)++[.ref x.1.p]))) b c dl nl cd tb kt t kss ba nms (xs++[x]):=by
 have m:Mv [dl] Hx (F9 Hx dl (.lst ((xs.map fun x=>V.ref x.1.p)++[.ref x.1.p]))):=Mv.upd1
 have nt:NT [dl] Hx:=NT.one h.li trivial
 have all:∀y∈xs++[x],Gv K C Hx y.1 y.2.1 y.2.2/\HX t kss ba nms y.2.1/\y.2.2.length<=2/\∀z∈dS y.1,H z=none/\z≠dl/\z≠nl:=fun y hy=>by
  rcases JB.mp hy with hy|hy
  ·exact h.d y hy
  ·rw[Jl.mp hy];exact#[hd,hq,hl,hf]
 have ni:∀y∈xs++[x],∀z∈dS y.1,z∉[dl]:=fun y hy z hz=>qM ((all y hy).2.2.2 z hz).2.1
 refine#[#[fun z o nz e=>m z o (qM (qk e hH)) (h.g.kp z o nz e),?_],by rw[qa,JJ];rfl,m _ _ (qM nn.symm) h.nn,h.co.mv m nt,fun y hy=>let q:=all y hy;#[q.1.mv m nt (ni y hy _ (cT _)) (ni y hy _ (aG _)) (ni y hy _ (aE _)) (ni y hy _ (aB _)),q.2],?_]
 ·obtain⟨n,k,j,e,r⟩:=h.g.bx
  exact#[n,k,j,m _ _ (qM hb.symm) e,r]
 ·rw[List.pairwise_append]
  refine#[h.pw,List.pairwise_singleton _ _,fun y hy z hz=>?_]
  rw[Jl.mp hz];exact ap y hy
end
inductive Le (K:μ) (C:Δ) (vs:List V) (H:Hp) (Q:VK):Prop
 |mk (b:Δ) (c:Nat) (h1:vs=[.ref b]) (h2:HH H b c) (h3:c<=1000) (h4:∀(q dl cd tb kt nl:Δ) (a0 a1:Da) (D0 D1:Dr) (L0 L1:List Rw) (t:List Int) (kss:List (List Int)) (nms:List Str) (base:Int) (H':Hp),HB b (c+200) H H'->H' q=some (.tup [.ref dl,.ref cd,.ref nl,.int base])->HK K C H' dl a0 a1 D0 D1 L0 L1->L0.length<=9->L1.length<=9->HQ H' cd tb kt t kss->H' nl=some (.lst (nms.map V.str))->Lf nms kss.length base->Mp t kss base nms D0->Mp t kss base nms D1->H dl=none->H nl=none->(∀z∈dS a0++dS a1,H z=none)->dl≠nl->nl∉dS a0++dS a1->Q (.ref q) H')
def mV(K:μ)(C:Δ):Sp:=fun vs H Q _=>Le K C vs H Q
end L3
namespace Lw
open PySem L2 L3
section
variable{P:Ξ}{w:Ω}{K:μ}{mg:F3}{base:Ψ}{tk:Nat->Tok}{C:Δ}
theorem m9(a:At K mg "_law_made" c6 ["_law_box_here"])(T:GQ K mg tk)(U:Hf K C)(xN:Mi P w K mg base C "Door" ["self","table","keys","near","far","most"] 1 (mT K C))(xO:Mf P w K mg base C "learn" ["self","one","other"] 7 (jU K C))(dR:Mf P w K mg base C "hear" ["self","thing"] 6 (i7 K C))(dA:Df P w K mg base "_law_take" ["_law_box_here","_law_many"] 1 cn)(xR:Df P w K mg base "_law_table" ["_law_box_here"] 2 lm)(xW:Df P w K mg base "_law_key" ["_law_box_here"] 2 nZ)(dQ:Df P w K mg base "press_of" ["table","key","name","age","count","deed"] 3 (i0 K)):Df P w K mg base "_law_made" ["_law_box_here"] 8 (mV K C):=by
  refine a.dq Gg fun f _ A _ s H vs Q E hr h=>?_
  · obtain⟨b,c,rfl,hb,hc,q⟩:=h
    refine#[_,(qe (Cy (i:=1) (j:=2) rfl Gg.nd rfl rfl (by decide) rfl rfl (qc (qt qA (zC (qc (zC (qc qR qb)) (qc (zC (qc qR (qc qR qb))) qb))) (qr dA hr.mo (qc (qv 0) (qc qf qb)))) (qc (qp qJ qf (qH eB T.b_int FI (qc (zX ZK (qr dA hr.mo (qc (qv 0) (qc qf qb))) qf (qy _)) qb))) qb)))
      (qe (qw (i:=3) Gg.nd rfl (Or.inl rfl) (qt qA (zC (qc qf (qc qf qb))) (qr dA hr.mo (qc (qv 0) (qc qf qb)))))
      (qe (qN (qE ZK (qz qW T.b_len J3 (qc (qv 1) qb)) qf (qy _)) (qg (qw (i:=2) Gg.nd rfl (Or.inl rfl) qf)) qB)
      (qe (qw (i:=4) Gg.nd rfl (Or.inr rfl) (qF (qc (qr xR hr.mo (qc (qv 0) qb)) (qc (qH qV T.b_tuple J4 (qc (zL (own:=["_law_k"]) (fr:=["_law_box_here"]) (js:=[0]) rfl (zI rfl T.b_range (qc (qv 2) qb)) rfl (i5 rfl) rfl (iM rfl (by decide +kernel) (by decide +kernel) (by decide +kernel) rfl rfl rfl) (fun _ _ _ _=>qh (i:=0) (show List.Nodup (["_law_k","_law_box_here"]:List Str)from by decide +kernel) rfl (Or.inl rfl) (.inr rfl)) (fun _ _ _ _=>(QY jc (qr xW hr.mo (qc (qv 1) qb)) Zt (Zv qf)))) qb)) qb))))
      (qe (qw (i:=5) Gg.nd rfl (Or.inl rfl) (zC qb))
      (qe (qw (i:=6) Gg.nd rfl (Or.inl rfl) (qp qJ qf (qr dA hr.mo (qc (qv 0) (qc qf qb)))))
      (qe (qw (i:=7) Gg.nd rfl (Or.inl rfl) (qp qJ (qp qJ (qv 3) qf) (qr dA hr.mo (qc (qv 0) (qc qf qb)))))
      (qe (qZ JL rfl (zI rfl T.b_range (qc qf qb)) (qh (i:=8) Gg.nd rfl (Or.inl rfl))
      (qe (qw (i:=9) Gg.nd rfl (Or.inl rfl) (qt qA (zC (qc (qv 6) (qc (qv 6) (qc (qp qJ qf (qr dA hr.mo (qc (qv 0) (qc qf qb)))) qb)))) (qr dA hr.mo (qc (qv 0) (qc qf qb)))))
      (qe (qw (i:=10) Gg.nd rfl (Or.inl rfl) (pI xN hr.mo (qc (qt qT (qv 4) qf) (qc (qt qT (qv 4) qf) (qc (qv 9) (qc (qp qJ (qv 9) (qr dA hr.mo (qc (qv 0) (qc qf qb)))) (qc qf qb)))))))
      (qe (qZ JL rfl (zo (qv 1)) (qh (i:=11) Gg.nd rfl (Or.inr rfl))
      (qe (qw (i:=12) Gg.nd rfl (Or.inl rfl) (qp qJ (qv 7) (qt qA (zC (qc qf (qc qf (qc qf (qc qf qb))))) (qr dA hr.mo (qc (qv 0) (qc qf qb))))))
      (qe (fK (i:=13) Gg.nd rfl (Or.inl rfl) (own:=["_law_count"]) (fr:=["_law_name","_law_code"]) (js:=[11,4]) rfl (aV (qF (qc (qp Zf (qv 12) qf) (qc (qv 12) qb)))) rfl (vZ rfl rfl) rfl (vK rfl (by decide +kernel) (by decide +kernel) (by decide +kernel) rfl rfl rfl rfl rfl rfl) (fun _ _ _ _=>qh (i:=0) (show List.Nodup (["_law_count","_law_name","_law_code"]:List Str)from by decide +kernel) rfl (Or.inl rfl) (.inr rfl)) (fun _ _ _ _=>(qr dQ hr.mo (qc (qt (aP (K:=K) rfl) (qv 2) qf) (qc (qt (aP (K:=K) rfl) (qt (aP (K:=K) rfl) (qv 2) qf) qf) (qc (qv 1) (qc qf (qc (qv 0) (qc qf qb)))))))))
      (qg (Qg (za xO U.cl hr.mo (qv 10) (qc (qt qA (qv 13) qf) (qc (qt qA (qv 13) qf) qb))))))))
      (qg (Qg (ZA EF EI EJ zW (qv 5) (qc (qv 10) qb))))))))
      (qe (qw (i:=14) Gg.nd rfl (Or.inl rfl) (qF (qc (qt qA (qv 1) qf) (qc qf (qc (qp qJ (qp qJ (qv 3) qf) (qr dA hr.mo (qc (qv 0) (qc qf qb)))) qb)))))
      (qe (qZ JL rfl (zo (qt qA (zC (qc (qv 5) (qc (QY cx (qv 5) Zt (Zv qf)) (qc (zC qb) qb)))) (qr dA hr.mo (qc (qv 0) (qc qf qb))))) (qh (i:=10) Gg.nd rfl (Or.inl rfl))
      (qg (Qg (za dR U.cl hr.mo (qv 10) (qc (qr dQ hr.mo (qc (qt qT (qv 4) qf) (qc (qt qT (qt qT (qv 4) qf) qf) (qc (qt qT (qv 14) qf) (qc qf (qc (qt qT (qv 14) qf) (qc qf qb))))))) qb)))))
      (qg (ql (qF (qc (qv 5) (qc (qv 4) (qc (qv 1) (qc (qv 3) qb))))))))))))))))),?_]
    refine#[FW,fun q0 hq0=>#[FX,fun q1 hq1=>#[FX,fun q2 hq2=>?_]]]
    have v0:=F5.upd (o:= .lst [.str "a"]) hq0
    have v1:=F5.upd (o:= .lst [.str "ab",.str "b"]) hq1
    have v2:=F5.upd (o:= .lst [.ref q0,.ref q1]) hq2
    have V2:=(v0.trans v1).trans v2;have f1:H q1=none:=QR hq1 v0
    have f2:H q2=none:=QR hq2 (v0.trans v1)
    have e0:=v2 _ _ (v1 _ _ (qa (H:=H) (a:=q0) (o:= .lst [.str "a"])))
    have e1:=v2 _ _ (qa (H:=F9 H q0 (.lst [.str "a"])) (a:=q1) (o:= .lst [.str "ab",.str "b"]))
    have e2:=qa (H:=F9 (F9 H q0 (.lst [.str "a"])) q1 (.lst [.str "ab",.str "b"])) (a:=q2) (o:= .lst [.ref q0,.ref q1])
    have G0:=V2.grc hb;generalize F9 (F9 (F9 H q0 (.lst [.str "a"])) q1 (.lst [.str "ab",.str "b"])) q2 (.lst [.ref q0,.ref q1])=Ha at *
    refine#[_,rfl,b,2,_,rfl,G0.bx,by lia,by decide,by decide,fun r1 Hb r10 r11 g1=>?_]
    obtain⟨nl,nms,hat,hnl,hnms,fnl⟩:∃(nl:Δ) (nms:List Str),QL [V.ref q0,.ref q1] r1=some (.ref nl)/\Hb nl=some (.lst (nms.map V.str))/\(nms=([("a":Str)]:List Str)\/nms=([("ab":Str),("b":Str)]:List Str))/\H nl=none:=by
      have hw:r1=0\/r1=1:=by lia
      rcases hw with z|z
      · exact#[q0,[("a":Str)],by rw[z];rfl,g1.kp _ _ (qU hb hq0) e0,.inl rfl,hq0]
      · exact#[q1,[("ab":Str),("b":Str)],by rw[z];rfl,g1.kp _ _ (qU hb f1) e1,.inr rfl,f1]
    have nlb:=qU hb fnl;refine#[q2,_,_,_,rfl,rfl,Gd.of (g1.kp _ _ (qU hb f2) e2),hat,?_]
    have G1:=G0.trans g1;clear hat e0 e1 e2 v0 v1 v2 V2 hq0 hq1 hq2 f1 f2 G0 g1;refine#[_,rfl,b,4,_,rfl,G1.bx,by lia,by decide,by decide,fun r2 Hc r20 r21 g2=>#[rfl,.inr #[_,rfl,_,_,rfl,rfl,_,_,rfl,?_]]]
    have G2:=G1.trans g2;have hnl2:=g2.kp _ _ nlb hnl;refine#[FX,fun q3 hq3=>?_]
    have v3:=F5.upd (o:= .lst [.int 0,.int 4088]) hq3
    have e3:(F9 Hc q3 (.lst [.int 0,.int 4088])) q3=some (.lst [.int 0,.int 4088]):=qa
    have n3:=qU G2.bx hq3;have G3:=G2.same v3;have hnl3:=v3 _ _ hnl2;generalize F9 Hc q3 (.lst [.int 0,.int 4088])=Hd at *
    refine#[_,rfl,b,2,_,rfl,G3.bx,by lia,by decide,by decide,fun r3 He r30 r31 g3=>?_]
    obtain⟨ba,hat,hba⟩:∃ba:Int,QL [V.int 0,.int 4088] r3=some (.int ba)/\(ba=0\/ba=4088):=by
      have hw:r3=0\/r3=1:=by lia
      rcases hw with z|z
      · exact#[0,by rw[z];rfl,.inl rfl]
      · exact#[4088,by rw[z];rfl,.inr rfl]
    refine#[q3,_,_,_,rfl,rfl,Gd.of (g3.kp _ _ n3 e3),hat,?_]
    have G4:=G3.trans g3;have hnl4:=g3.kp _ _ nlb hnl3;clear hat e3 n3 v3 hq3 G3 g3 hnl3 G1 g2 G2 hnl2 hnl;refine Qm (fun σ' H'=>∃m:Nat,HB b (c+3) H H'/\H' nl=some (.lst (nms.map V.str))/\1<=m/\m<=2/\σ'=[some (.ref b),some (.ref nl),some (.int (m:Int)),some (.int ba),none,none,none,none,none,none,none,none,none,none,none]) (fun D0 hrt hnx=>?_) ?_
    · obtain⟨m,em,m1,m2⟩:∃m:Nat,(1+(if decide (V.int r2=V.int 0)=true then 1 else 0):Int)=(m:Int)/\1<=m/\m<=2:=by
        split
        · exact#[2,rfl,by decide,by decide]
        · exact#[1,rfl,by decide,by decide]
      refine#[_,rfl,nl,_,rfl,.inl (Gd.of hnl4),rfl,_,rfl,qY (fun y=>?_) (fun y=>?_)]
      · exact hnx _ _ #[1,G4,hnl4,by decide,by decide,rfl]
      · refine hnx _ _ #[m,G4,hnl4,m1,m2,?_]
        rw[<- em];rfl
    clear G4 hnl4
    rintro σ H5 ⟨m,G5,hnl5,m1,m2,rfl⟩
    have M:Lf nms m ba:=#[hnms,m1,m2,hba]
    refine#[_,rfl,b,c+3,rfl,G5.bx,by lia,fun tb t H1 g1 ftb etb tp=>?_]
    have ntb:=qU G5.bx ftb;have hnl6:=g1.kp _ _ nlb hnl5;have G6:=G5.trans g1;refine#[_,rfl,_,rfl,by lia,by lia,?_]
    rw[EC];refine aI (n:=m) (by rw[JF];lia) (fun i ys Hx=>HB b (c+3+16+9*i) H Hx/\Hx nl=some (.lst (nms.map V.str))/\Hx tb=some (.tup (t.map V.int))/\∃(as:List Δ) (kss:List (List Int)),ys=as.map V.ref/\as.length=i/\kss.length=i/\∀(j:Nat) (x:Δ) (z:List Int),as[j]? =some x->kss[j]? =some z->Hx x=some (.tup (z.map V.int))) #[G6,hnl6,etb,[],[],rfl,rfl,rfl,fun j x z e=>by cases e] ?_ ?_
    · rintro i ys Hx hi hyl ⟨G,en,et,as,kss,rfl,lA,lK,hks⟩
      refine#[_,rfl,b,c+3+16+9*i,rfl,G.bx,by lia,fun p ks H2 g2 fp ep dk l1 l8=>#[_,rfl,p,_,rfl,ep,fun y H3 s3 hy _=>?_]]
      rw[cX]at hy;have kp:∀{x:Δ} {xs:List V},Hx x=some (.tup xs)->H3 x=some (.tup xs):=fun{x xs} e=>s3 _ _ (g2.kp _ _ (fun z=>by obtain⟨_,_,_,eb,_⟩:=G.bx;rw[z,eb]at e;cases e) e)
      refine#[((G.trans g2).same s3).mono (by lia),s3 _ _ (g2.kp _ _ nlb en),kp et,as++[y],kss++[br ks none (some 1)],by simp,by simp [lA],by simp [lK],fun j x z e1 e2=>?_]
      by_cases hj:j<as.length
      · rw[J0 hj]at e1
        rw[J0 (by lia)]at e2
        exact kp (hks j x z e1 e2)
      · rw[JZ (by lia)]at e1
        rw[JZ (by lia)]at e2
        cases ej:j-as.length with
        |zero=>rw[ej]at e1;rw[show j-kss.length=0 by lia]at e2;cases e1;cases e2;exact hy
        |succ k=>rw[ej]at e1;cases e1
    rintro ys Hx hyl ⟨G,en,et,as,kss,rfl,lA,lK,hks⟩ l0 hl0
    refine#[l0,_,rfl,.inl #[Gd.of qa,fun kt hkt=>#[FX,fun cd hcd=>?_]]]
    have u1:=F5.upd (o:= .lst (as.map V.ref)) hl0
    have u2:=F5.upd (o:= .tup (as.map V.ref)) hkt
    have u3:=F5.upd (o:= .tup [.ref tb,.ref kt]) hcd
    have S3:=(u1.trans u2).trans u3;have lAK:as.length=kss.length:=by rw[lA,lK]
    have hC:HQ (F9 (F9 (F9 Hx l0 (.lst (as.map V.ref))) kt (.tup (as.map V.ref))) cd (.tup [.ref tb,.ref kt])) cd tb kt t kss:=#[qa,.inl (S3 _ _ et),as,.inl (.inl (u3 _ _ qa)),lAK,fun j x z e1 e2=> .inl (.inl (S3 _ _ (hks j x z e1 e2)))]
    have G7:=G.same S3;have hnl7:=S3 _ _ en;generalize F9 (F9 (F9 Hx l0 (.lst (as.map V.ref))) kt (.tup (as.map V.ref))) cd (.tup [.ref tb,.ref kt])=H7 at *
    clear hks et u1 u2 u3 hl0 hkt hcd S3 G en G6 hnl6 g1 G5 hnl5 ftb etb ntb;refine#[FV,fun dl hdl=>?_]
    have u4:=F5.upd (o:= .lst []) hdl
    have fdl:H dl=none:=G7.fresh (hb.mono (by lia)) hdl
    have ndb:=qU hb fdl;have ndn:dl≠nl:=(qk hnl7 hdl).symm
    have bn:H b≠none:=fun z=>by obtain⟨_,_,_,e,_⟩:=hb;rw[z]at e;cases e
    have ds0:GW K C H (F9 H7 dl (.lst [])) b (c+46) dl nl cd tb kt t kss ba nms []:=#[(G7.same u4).mono (by lia),qa,u4 _ _ hnl7,hC.same u4,(fun x h=>nomatch h),.nil]
    generalize F9 H7 dl (.lst [])=H8 at *
    clear G7 hnl7 hC u4 hdl;refine#[_,rfl,b,2,_,rfl,ds0.g.bx,by lia,by decide,by decide,fun r4 H9 r40 r41 g4=>#[_,_,rfl,rfl,?_]]
    have ds1:=ds0.take g4 ndb nlb bn;refine(show∀n:Int,n=1+r4->QK 6 (.int n) _ _ _ from fun near en=>?_) _ rfl
    have n12:1<=near/\near<=2:=by lia
    clear en g4 ds0;refine#[_,rfl,_,_,rfl,rfl,_,rfl,b,2,_,rfl,ds1.g.bx,by lia,by decide,by decide,fun r5 Ha r50 r51 g5=>#[_,_,rfl,rfl,?_]]
    have ds2:=(ds1.take g5 ndb nlb bn).mono (c':=c+50) (by lia)
    refine(show∀n:Int,n=ba+1+r5->QK 7 (.int n) _ _ _ from fun last el=>?_) _ rfl
    have la:ba+1<=last/\last<=ba+2:=by lia
    clear el g5 ds1;refine Qm (fun σ' H'=>∃xs o8 o9 o10 o11 o12 o13,GW K C H H' b (c+60) dl nl cd tb kt t kss ba nms xs/\xs.length=2/\σ'=[some (.ref b),some (.ref nl),some (.int (m:Int)),some (.int ba),some (.ref cd),some (.ref dl),some (.int near),some (.int last),o8,o9,o10,o11,o12,o13,none]) (fun D0 hrt hnx=>?_) ?_
    · refine#[_,rfl,by decide,by decide,?_]
      refine zV (n:=2) (Pv:=fun j σ Hy=>∃xs,GW K C H Hy b (c+50+5*j) dl nl cd tb kt t kss ba nms xs/\xs.length=j/\∃o8 o9 o10 o11 o12 o13,σ=[some (.ref b),some (.ref nl),some (.int (m:Int)),some (.int ba),some (.ref cd),some (.ref dl),some (.int near),some (.int last),o8,o9,o10,o11,o12,o13,none]) #[[],ds2,rfl,_,_,_,_,_,_,rfl] ?_ ?_
      · rintro j σ Hy hj ⟨xs,ds,lx,o8,o9,o10,o11,o12,o13,rfl⟩
        have j2:j<2:=hj
        refine#[_,rfl,_,rfl,_,rfl,b,2,_,rfl,ds.g.bx,by lia,by decide,by decide,fun r6 H1 r60 r61 g6=>#[_,_,rfl,rfl,FY,fun q4 hq4=>?_]]
        have ds3:=ds.take g6 ndb nlb bn;have v4:=F5.upd (o:= .lst [.int near,.int near,.int (1+r6)]) hq4
        have e4:(F9 H1 q4 (.lst [.int near,.int near,.int (1+r6)])) q4=some (.lst [.int near,.int near,.int (1+r6)]):=qa
        have n4:=qU ds3.g.bx hq4;have ds4:=ds3.same v4;generalize F9 H1 q4 (.lst [.int near,.int near,.int (1+r6)])=H2 at *
        refine#[_,rfl,b,3,_,rfl,ds4.g.bx,by lia,by decide,by decide,fun r7 H3 r70 r71 g7=>?_]
        obtain⟨own,hat,w1,w2⟩:∃own:Int,QL [V.int near,.int near,.int (1+r6)] r7=some (.int own)/\1<=own/\own<=2:=by
          have hw:r7=0\/r7=1\/r7=2:=by lia
          rcases hw with z|z|z
          · exact#[near,by rw[z];rfl,n12.1,n12.2]
          · exact#[near,by rw[z];rfl,n12.1,n12.2]
          · exact#[1+r6,by rw[z];rfl,by lia,by lia]
        refine#[q4,_,_,_,rfl,rfl,Gd.of (g7.kp _ _ n4 e4),hat,?_]
        have ds5:=ds4.take g7 ndb nlb bn;clear hat e4 n4 v4 hq4 ds4 ds3 g7 g6;have hC:=ds5.co;refine#[_,rfl,cd,_,_,_,rfl,rfl,Gh.of hC.e,rfl,_,rfl,cd,_,_,_,rfl,rfl,Gh.of hC.e,rfl,_,rfl,_,rfl,_,rfl,b,4,_,rfl,ds5.g.bx,by lia,by decide,by decide,fun r8 H4 r80 r81 g8=>#[_,_,rfl,rfl,fun x dx nx ndx nex=>?_]]
        have ds6:=(ds5.take g8 ndb nlb bn).mono (c':=c+53+5*j) (by lia)
        have sJ:F5 H4 (F9 (F9 H4 dx (.own x)) x (.ins C dx [])):=(F5.upd ndx).trans (F5.upd (by rw[qj nex.symm];exact nx))
        refine#[x,tb,kt,dx,own,own+r8,3,t,kss,rfl,qa,.inr (.inl (Rd.same sJ ds6.co.tb)),ds6.co.ks.same sJ,by lia,fun ta hk bd' lg Hi h1 h2 h3 mv dr' kr=>#[rfl,?_]]
        have sK:F5 H4 Hi:=fun c o e=>mv c o (qM (qk e nx)) (sJ c o e)
        have dl0:Gv K C Hi #[x,ta,hk,bd',lg] #[t,kss,own,own+r8,3,0,[]] []:=F7.dl dr' kr
        have fz:∀z∈dS #[x,ta,hk,bd',lg],H4 z=none:=fun z hz=>by
          rcases mN hz with rfl|rfl|rfl|rfl
          · exact nx
          · exact QR h1 sJ
          · exact QR h2 sJ
          · exact QR h3 sJ
        have q0:HX t kss ba [] #[t,kss,own,own+r8,3,0,[]]:=HX.new tp (by lia) (by lia) w1 w2 (by lia) (by lia)
        have ap:=ds6.apart fz;have ds7:=ds6.same sK;obtain⟨aa,eaa⟩:∃aa:Da,aa=#[x,ta,hk,bd',lg]:=#[_,rfl]
        have exp:x=aa.p:=by rw[eaa]
        rw[<- eaa]at dl0 fz ap;rw[exp];have hf:∀z∈dS aa,H z=none/\z≠dl/\z≠nl:=fun z hz=>by
          refine#[ds6.g.fresh (hb.mono (by lia)) (fz z hz),fun y=>?_,fun y=>?_]
          · rw[y]at hz
            have:=fz _ hz
            rw[ds6.li]at this;cases this
          · rw[y]at hz
            have:=fz _ hz
            rw[ds6.nn]at this;cases this
        refine Qm (fun σ' H'=>∃D L o11 o12 o13,GW K C H H' b (c+55+5*j) dl nl cd tb kt t kss ba nms xs/\Gv K C H' aa D L/\HX t kss ba nms D/\L.length<=2/\σ'=[some (.ref b),some (.ref nl),some (.int (m:Int)),some (.int ba),some (.ref cd),some (.ref dl),some (.int near),some (.int last),some (.int (0+(j:Int))),some (.int own),some (.ref aa.p),o11,o12,o13,none]) (fun D1 hrt1 hnx1=>?_) ?_
        · refine#[_,rfl,nl,rfl,#[_,Gd.of ds7.nn],?_]
          refine zY (K:=K) (a:=nl) (xs:=nms.map V.str) (fun i σ Hx=>∃D L,GW K C H Hx b (c+53+5*j+i) dl nl cd tb kt t kss ba nms xs/\Gv K C Hx aa D L/\HX t kss ba (nms.take i) D/\L.length<=i/\∃o11 o12 o13,σ=[some (.ref b),some (.ref nl),some (.int (m:Int)),some (.int ba),some (.ref cd),some (.ref dl),some (.int near),some (.int last),some (.int (0+(j:Int))),some (.int own),some (.ref aa.p),o11,o12,o13,none]) #[_,_,ds7,dl0,q0,Jf _,_,_,_,rfl] (fun i σ Hx _ h=>Gd.of (let⟨_,_,d,_⟩:=h;d.nn)) ?_ ?_
          · rintro i xv σ Hx hx ⟨D,L,d,dd,qd,ll,o11,o12,o13,rfl⟩
            rw[Jn]at hx;obtain⟨nm,ex,rfl⟩:=JW.mp hx;have hi:i<nms.length:=(Jy.mp ex).1
            have nmk:=M.ok nm (J9 ex);have hl2:=M.len;refine#[_,rfl,FZ,fun q5 hq5=>?_]
            have v5:=F5.upd (o:= .lst [.int 0,.int 0,.int 0,.int 1]) hq5
            have e5:(F9 Hx q5 (.lst [.int 0,.int 0,.int 0,.int 1])) q5=some (.lst [.int 0,.int 0,.int 0,.int 1]):=qa
            have n5:=qU d.g.bx hq5;have d1:=d.same v5;have dd1:=dd.same v5;generalize F9 Hx q5 (.lst [.int 0,.int 0,.int 0,.int 1])=Hw at *
            refine#[_,rfl,b,4,_,rfl,d1.g.bx,by lia,by decide,by decide,fun r9 Hv r90 r91 g9=>?_]
            obtain⟨off,hat,of0,of1⟩:∃off:Int,QL [V.int 0,.int 0,.int 0,.int 1] r9=some (.int off)/\0<=off/\off<=1:=by
              have hw:r9=0\/r9=1\/r9=2\/r9=3:=by lia
              rcases hw with z|z|z|z
              · exact#[0,by rw[z];rfl,by decide,by decide]
              · exact#[0,by rw[z];rfl,by decide,by decide]
              · exact#[0,by rw[z];rfl,by decide,by decide]
              · exact#[1,by rw[z];rfl,by decide,by decide]
            refine#[q5,_,_,_,rfl,rfl,Gd.of (g9.kp _ _ n5 e5),hat,_,_,rfl,rfl,?_]
            have d2:=d1.take g9 ndb nlb bn;have nbz:∀z∈dS aa,z≠b:=fun z hz y=>bn (y▸(hf z hz).1)
            have dd2:=dd1.mv (S:=[b]) (fun z o hz e=>g9.kp z o (fun y=>hz (Jl.mpr y)) e) (Z3 d1.g.bx) (qM (nbz _ (cT _))) (qM (nbz _ (aG _))) (qM (nbz _ (aE _))) (qM (nbz _ (aB _)))
            refine(show∀n:Int,n=last+off->QK 12 (.int n) _ _ _ from fun la1 ela=>?_) _ rfl
            have lb:ba+1<=la1/\la1<=ba+3:=by lia
            have l4:la1<4096:=by rcases hba with z|z<;>lia
            have b00:0<=ba:=by rcases hba with z|z<;>lia
            clear ela hat n5 e5 v5 hq5 g9 d1 dd1 d dd;refine#[_,rfl,_,_,rfl,rfl,_,rfl,FX,fun tq htq=>#[tq,rfl,#[_,Gh.of qa],?_]]
            have uq:=F5.upd (o:= .tup [.int (la1-1),.int la1]) htq
            have d3:=d2.same uq;have dd3:=dd2.same uq;have etq:(F9 Hv tq (.tup [.int (la1-1),.int la1])) tq=some (.tup [.int (la1-1),.int la1]):=qa
            generalize F9 Hv tq (.tup [.int (la1-1),.int la1])=Hq at *
            refine aY (K:=K) (a:=tq) (xs:=[.int (la1-1),.int la1]) (FX) (fun k ys Hy=>F5 Hq Hy/\∃qs:List Δ,ys=qs.map V.ref/\qs.length=k/\∀(k:Nat) (p:Δ),qs[k]? =some p->ZU Hy p (zK t kss nm 0 (la1-1+(k:Int)) 0)) #[F5.refl _,[],rfl,rfl,fun k p h=>by cases h] (fun i ys Hy h=>Gh.of (h.1 _ _ etq)) ?_ ?_
            · rintro k ys Hy z hz hyl ⟨sy,qs,rfl,hql,hqs⟩
              have hi2:k<2:=(Jy.mp hz).1
              have ez:z= .int (la1-1+(k:Int)):=by
                match k,hi2,hz with
                |0,_,hz=>cases hz;show V.int (la1-1)=V.int (la1-1+0);rw[Int.add_zero]
                |1,_,hz=>cases hz;show V.int la1=V.int (la1-1+1);rw[Int.sub_add_cancel]
              subst ez;have hcw:=d3.co.same sy;obtain⟨cs,eK3,lK3,hks3⟩:=id hcw.ks;obtain⟨ak,hat,hak⟩:=ij (D:=#[t,kss,0,0,0,0,[]]) (age:=0) lK3 hks3 (by lia) (by show(0:Int)<(kss.length:Int);lia)
              refine#[_,rfl,cd,_,_,_,rfl,rfl,Gh.of hcw.e,rfl,_,rfl,cd,_,_,_,rfl,rfl,Gh.of hcw.e,rfl,kt,_,_,_,rfl,rfl,eK3.up,hat,_,rfl,_,rfl,tb,ak,nm,0,la1-1+(k:Int),0,t,_,rfl,.inr (.inl hcw.tb),.inr hak.up,nmk,by rw[tp.length_eq];rfl,by lia,by lia,#[by decide,by decide],fun pr pc Hz sz h1 h2=>#[sy.trans sz,qs++[pr],by simp,by simp [hql],fun k' p' hk'=>?_]]
              by_cases hkl':k'<qs.length
              · rw[J0 hkl']at hk'
                exact Gz.same sz (hqs k' p' hk')
              · rw[JZ (by lia)]at hk'
                cases ek:k'-qs.length with
                | zero => rw[ek]at hk';cases hk';obtain rfl:k'=k:=by lia
                          exact#[pc,h1,h2]
                |succ m=>rw[ek]at hk';cases hk'
            rintro ys Hy hyl ⟨sy,qs,rfl,hql,hqs⟩ prl hprl
            obtain⟨p0,p1,rfl⟩:∃q0 q1,qs=[q0,q1]:=by
              match qs,hql with
              | [q0,q1],_=>exact#[q0,q1,rfl]
            have ur:=F5.upd (o:= .lst (([p0,p1]:List Δ).map V.ref)) hprl
            have Sr:=sy.trans ur;have eprl:(F9 Hy prl (.lst (([p0,p1]:List Δ).map V.ref))) prl=some (.lst [.ref p0,.ref p1]):=qa
            have hp0:=Gz.same ur (hqs 0 p0 rfl);have hp1:=Gz.same ur (hqs 1 p1 rfl);have d4:=d3.same Sr;have dd4:=dd3.same Sr;generalize F9 Hy prl (.lst (([p0,p1]:List Δ).map V.ref))=Hr at *
            refine#[_,rfl,aa.p,rfl,dd4.dr.no,_,rfl,prl,_,_,_,rfl,rfl,Gd.of eprl,rfl,_,rfl,prl,_,_,_,rfl,rfl,Gd.of eprl,rfl,?_]
            have e10:la1-1+((1:Nat):Int)=la1-1+1:=rfl
            have e00:la1-1+((0:Nat):Int)=la1-1:=Int.add_zero _
            rw[e00]at hp0;have lt2:(nms.take i).length=i:=by rw[J8];lia
            have nin:nm∉nms.take i:=vW M.nd ex
            have lkn:D.kn.length=i:=by rw[<- Je (f:=(·.1)),qd.sub,lt2]
            have rd0:=qd.rd (nm:=nm) (by lia) (by lia) (show 0<=la1-1 by lia) (by lia)
            have rd1:=qd.rd (nm:=nm) (c:=la1-1+1) (by lia) (by lia) (by lia) (by lia)
            refine#[aa,D,L,p0,p1,zK t kss nm 0 (la1-1) 0,zK t kss nm 0 (la1-1+1) 0,la1-1,0,0,rfl,dd4,by lia,qd.hr.ok,hp0,hp1,bE tp nmk (by lia) (by lia) #[by decide,by decide],bE tp nmk (by lia) (by lia) #[by decide,by decide],rd0,rd1,rfl,rfl,ra (by rw[qd.sub];exact nin),by rw[qd.mo,lkn];lia,fun Hs ms dd5=>?_]
            have ms':=eN ms;have dfin:GW K C H Hs b (c+53+5*j+(i+1)) dl nl cd tb kt t kss ba nms xs:=d4.mv ms' dd4.nt (by obtain⟨n,m,k,e,r⟩:=d4.g.bx;exact#[n,m,k,ms' _ _ (fun hz=>nbz _ hz rfl) e,r]) (fun z hz=> .inl (hf z hz).1) (fun hz=>(hf _ hz).2.1 rfl) (fun hz=>(hf _ hz).2.2 rfl) ap
            have e11:la1-1+1=la1:=by lia
            have qn:HX t kss ba (nms.take (i+1)) {D with kn:=zk D.kn nm #[0,la1-1+1,none]}:=by
              rw[Ed,ex];exact qd.learn (by lia) nin (by lia) b00 (by lia) (by lia) (by lia)
            exact#[_,_,dfin,dd5,qn,by rw[Jt];exact E4 ll,_,_,_,rfl]
          · rintro σ Hx ⟨D,L,d,dd,qd,ll,o11,o12,o13,rfl⟩
            rw[Je]at d ll qd;rw[Ep]at qd;have hl2:=M.len;exact hnx1 _ _ #[D,L,_,_,_,d.mono (by lia),dd,qd,by lia,rfl]
        rintro σ Hx ⟨D,L,o11,o12,o13,d,dd,qd,ll,rfl⟩
        refine#[_,rfl,.inl #[rfl,_,Gd.of d.li],_,rfl,dl,_,_,rfl,rfl,d.li,by rw[Je,lx,JF];lia,?_]
        exact#[xs++[(aa,D,L)],(d.add (x:=(aa,D,L)) ndn ndb fdl dd qd ll hf ap).mono (by lia),by rw[Jt,lx];rfl,_,_,_,_,_,_,rfl]
      · rintro σ Hy ⟨xs,ds,lx,o8,o9,o10,o11,o12,o13,rfl⟩
        exact hnx _ _ #[xs,_,_,_,_,_,_,ds,lx,rfl]
    clear ds2
    rintro σ Hy ⟨xs,o8,o9,o10,o11,o12,o13,ds,lx,rfl⟩
    obtain⟨⟨a0,D0,L0⟩,⟨a1,D1,L1⟩,rfl⟩:∃x0 x1:Dx,xs=[x0,x1]:=by
      match xs,lx with
      | [x0,x1],_=>exact#[x0,x1,rfl]
    obtain⟨d0,k0,l0,f0⟩:=ds.d _ Jv;obtain⟨d1,k1,l1,f1⟩:=ds.d _ (JE _ Jv)
    have dj:=(List.pairwise_cons.mp ds.pw).1 _ Jv;simp only at d0 k0 l0 f0 d1 k1 l1 f1 dj
    have wd:HK K C Hy dl a0 a1 D0 D1 L0 L1:=#[ds.li,d0,d1,dj,fun z=>(f0 _ z).2.1 rfl,fun z=>(f1 _ z).2.1 rfl]
    have g0:=ds.g;have hC0:=ds.co;have hN0:=ds.nn;have fA:∀z∈dS a0++dS a1,H z=none/\z≠nl:=fun z hz=>(JB.mp hz).elim (fun y=>#[(f0 z y).1,(f0 z y).2.2]) fun y=>#[(f1 z y).1,(f1 z y).2.2]
    have bA:b∉dS a0++dS a1:=fun hz=>bn (fA _ hz).1
    clear ds d0 d1 f0 f1;obtain⟨n0,hat0,hn0⟩:∃n0:Str,QL (nms.map V.str) 0=some (.str n0)/\n0∈nms:=by
      rcases M.nm with z|z
      · exact#[("a":Str),by rw[z];rfl,by rw[z];exact Jv]
      · exact#[("ab":Str),by rw[z];rfl,by rw[z];exact Jv]
    have nmk:=M.ok n0 hn0;refine#[_,rfl,nl,_,_,_,rfl,rfl,Gd.of hN0,hat0,_,rfl,_,_,rfl,rfl,_,rfl,b,4,_,rfl,g0.bx,by lia,by decide,by decide,fun r Hp rr0 rr1 gp=>#[_,_,rfl,rfl,FY,fun pt hpt=>?_]]
    obtain⟨z,ez⟩:∃z:Str×Int×Int,z=(n0,0,ba+3+r):=#[_,rfl]
    have c0:0<=ba+3+r:=by rcases hba with y|y<;>lia
    have c1:ba+3+r<4096:=by rcases hba with y|y<;>lia
    have vp:=F5.upd (o:= .tup [.str n0,.int 0,.int (ba+3+r)]) hpt
    have mp:Mv [b] Hy Hp:=fun x o hx e=>gp.kp x o (fun y=>hx (Jl.mpr y)) e
    have np:=Z3 g0.bx;have wd1:=(wd.mv mp np (qM ndb) (fun x hx=>qM fun y=>bA (y▸Eg _ hx)) (fun x hx=>qM fun y=>bA (y▸JH _ hx))).same vp
    have hC1:=(hC0.mv mp np).same vp;have hN1:=vp _ _ (gp.kp _ _ nlb hN0);have g1:=(g0.trans gp).same vp;have ept:(F9 Hp pt (.tup [.str n0,.int 0,.int (ba+3+r)])) pt=some (.tup [.str n0,.int 0,.int (ba+3+r)]):=qa
    generalize F9 Hp pt (.tup [.str n0,.int 0,.int (ba+3+r)])=Hw at *
    clear vp mp np gp wd hC0 hN0 g0 hpt;refine Qm (fun σ' H'=>∃E0 E1 M0 M1 o10,HB b (c+62) H H'/\HK K C H' dl a0 a1 E0 E1 M0 M1/\M0.length<=9/\M1.length<=9/\Mp t kss ba nms E0/\Mp t kss ba nms E1/\HQ H' cd tb kt t kss/\H' nl=some (.lst (nms.map V.str))/\σ'=[some (.ref b),some (.ref nl),some (.int (m:Int)),some (.int ba),some (.ref cd),some (.ref dl),some (.int near),some (.int last),o8,o9,o10,o11,o12,o13,some (.ref pt)]) (fun DD hrt hnx=>?_) ?_
    · refine#[_,rfl,_,rfl,_,rfl,dl,_,rfl,Gd.of wd1.li,fun s1 hs1=>#[FV,fun s2 hs2=>#[FY,fun s3 hs3=>?_]]]
      have w1:=F5.upd (o:= .lst (Qd [V.ref a0.p,.ref a1.p] none (some 1))) hs1
      have w2:=F5.upd (o:= .lst []) hs2
      have w3:=F5.upd (o:= .lst [.ref dl,.ref s1,.ref s2]) hs3
      have W3:=(w1.trans w2).trans w3;have es1:=w3 _ _ (w2 _ _ (qa (H:=Hw) (a:=s1) (o:= .lst (Qd [V.ref a0.p,.ref a1.p] none (some 1)))))
      have es2:=w3 _ _ (qa (H:=F9 Hw s1 (.lst (Qd [V.ref a0.p,.ref a1.p] none (some 1)))) (a:=s2) (o:= .lst []))
      have es3:=qa (H:=F9 (F9 Hw s1 (.lst (Qd [V.ref a0.p,.ref a1.p] none (some 1)))) s2 (.lst [])) (a:=s3) (o:= .lst [.ref dl,.ref s1,.ref s2])
      have fr1:∀x∈dS a0++dS a1,x≠s1/\x≠s2:=fun x hx=>by
        have hne:Hw x≠none:=(JB.mp hx).elim (fun y=>wd1.d0.some y) (fun y=>wd1.d1.some y)
        exact#[fun y=>hne (y▸hs1),fun y=>hne (y▸QR hs2 w1)]
      have nb1:=qU g1.bx hs1;have nb2:=qU g1.bx (QR hs2 w1);have nb3:=qU g1.bx (QR hs3 (w1.trans w2));have wd2:=wd1.same W3;have hC2:=hC1.same W3;have hN2:=W3 _ _ hN1;have g2:=g1.same W3;have ept2:=W3 _ _ ept;generalize F9 (F9 (F9 Hw s1 (.lst (Qd [V.ref a0.p,.ref a1.p] none (some 1)))) s2 (.lst [])) s3 (.lst [.ref dl,.ref s1,.ref s2])=Hv at *
      refine#[_,rfl,b,3,_,rfl,g2.bx,by lia,by decide,by decide,fun r' Hu q00 q01 gu=>?_]
      have mu:Mv [b] Hv Hu:=fun x o hx e=>gu.kp x o (fun y=>hx (Jl.mpr y)) e
      have nu:=Z3 g2.bx;have wd3:=wd2.mv mu nu (qM ndb) (fun x hx=>qM fun y=>bA (y▸Eg _ hx)) (fun x hx=>qM fun y=>bA (y▸JH _ hx))
      have hC3:=hC2.mv mu nu;have hN3:=gu.kp _ _ nlb hN2;have g3:=g2.trans gu;have ept3:=mu.tup nu ept2;obtain⟨lz,k,hat,hlz,k2,nlz⟩:∃(lz:Δ) (k:Nat),QL [V.ref dl,.ref s1,.ref s2] r'=some (.ref lz)/\Hu lz=some (.lst ([V.ref a0.p,.ref a1.p].take k))/\k<=2/\lz∉dS a0++dS a1:=by
        have hw:r'=0\/r'=1\/r'=2:=by lia
        rcases hw with y|y|y
        · exact#[dl,2,by rw[y];rfl,wd3.li,by decide,fun y=>(JB.mp y).elim wd3.n0 wd3.n1]
        · exact#[s1,1,by rw[y];rfl,gu.kp _ _ nb1 es1,by decide,fun y=>(fr1 _ y).1 rfl]
        · exact#[s2,0,by rw[y];rfl,gu.kp _ _ nb2 es2,by decide,fun y=>(fr1 _ y).2 rfl]
      refine#[s3,_,_,_,rfl,rfl,Gd.of (gu.kp _ _ nb3 es3),hat,lz,rfl,#[_,Gd.of hlz],?_]
      clear w1 w2 w3 W3 es1 es2 es3 fr1 nb1 nb2 nb3 wd2 hC2 hN2 g2 ept2 mu nu gu hat wd1 hC1 hN1 g1 ept hs1 hs2 hs3;have lk:([V.ref a0.p,.ref a1.p].take k).length=k:=by rw[J8];show min k 2=k;lia
      refine zY (K:=K) (a:=lz) (xs:=[V.ref a0.p,.ref a1.p].take k) (fun i σ Hx=>∃M0 M1,HB b (c+62) H Hx/\HK K C Hx dl a0 a1 (if 0<i then qL D0 z else D0) (if 1<i then qL D1 z else D1) M0 M1/\M0.length<=2+i/\M1.length<=2+i/\HQ Hx cd tb kt t kss/\Hx nl=some (.lst (nms.map V.str))/\Hx lz=some (.lst ([V.ref a0.p,.ref a1.p].take k))/\Hx pt=some (.tup [.str n0,.int 0,.int (ba+3+r)])/\∃o10,σ=[some (.ref b),some (.ref nl),some (.int (m:Int)),some (.int ba),some (.ref cd),some (.ref dl),some (.int near),some (.int last),o8,o9,o10,o11,o12,o13,some (.ref pt)]) #[L0,L1,g3.mono (by lia),wd3,l0,l1,hC3,hN3,hlz,ept3,_,rfl] (fun i σ Hx _ h=>Gd.of (let⟨_,_,_,_,_,_,_,_,e,_⟩:=h;e)) ?_ ?_
      · rintro i xv σ Hx hx ⟨M0,M1,gx,wx,m0,m1,hCx,hNx,hlx,epx,o10,rfl⟩
        have okP:=bE (kss:=kss) (age:=0) tp nmk c0 c1 (d:=1) #[by decide,by decide]
        obtain⟨cs,eK3,lK3,hks3⟩:=id hCx.ks;obtain⟨ak,hat,hak⟩:=ij (D:=#[t,kss,0,0,0,0,[]]) (age:=0) lK3 hks3 (by lia) (by show(0:Int)<(kss.length:Int);lia)
        have hi:i<k:=by have:=(Jy.mp hx).1;lia
        rw[List.getElem?_take,Jb hi]at hx;have hi2:i=0\/i=1:=by lia
        rcases hi2 with rfl|rfl
        · cases hx
          have wx:HK K C Hx dl a0 a1 D0 D1 M0 M1:=wx
          refine#[_,rfl,a0.p,rfl,wx.d0.dr.no,_,rfl,cd,_,_,_,rfl,rfl,Gh.of hCx.e,rfl,_,rfl,cd,_,_,_,rfl,rfl,Gh.of hCx.e,rfl,kt,_,_,_,rfl,rfl,eK3.up,hat,_,rfl,pt,_,_,_,rfl,rfl,Gh.of epx,rfl,_,rfl,pt,_,_,_,rfl,rfl,Gh.of epx,rfl,tb,ak,n0,0,ba+3+r,1,t,_,rfl,.inr (.inl hCx.tb),.inr hak.up,nmk,by rw[tp.length_eq];rfl,c0,c1,#[by decide,by decide],fun pr pc H5 s5 h1 h2=>?_]
          refine#[a0,D0,M0,.ref pr,some (zK t kss n0 0 (ba+3+r) 1),rfl,wx.d0.same s5,by lia,k0.hr.ok,#[pr,rfl,#[pc,h1,h2],okP],(fun z=>by cases z),fun PP hP pr' q' H3 hpr' m3 _ hq' d3=>?_]
          cases hP;rw[Zz k0.hr c0 c1 #[by decide,by decide]]at d3
          rw[bH,<- show qL D0 z={D0 with kn:=Gc D0 n0 0 (ba+3+r)} by rw[ez];rfl]at d3
          have m3':=eN m3;have wy:=wx.same s5;have nt:=wy.d0.nt;have dj':∀x∈dS a1,x∉dS a0:=fun x hx y=>wd3.dj x y hx
          refine#[_,M1,#[fun x o nx e=>m3' x o (fun y=>by have:=(fA x (Eg _ y)).1;rw[e]at this;cases this) (s5 _ _ (gx.kp x o nx e)),?_],#[m3' _ _ wy.n0 wy.li,d3,wy.d1.mv m3' nt (dj' _ (cT _)) (dj' _ (aG _)) (dj' _ (aE _)) (dj' _ (aB _)),wd3.dj,wd3.n0,wd3.n1],?_,FL m1,(hCx.same s5).mv m3' nt,m3' _ _ (fun y=>(fA _ (Eg _ y)).2 rfl) (s5 _ _ hNx),m3' _ _ (fun y=>nlz (Eg _ y)) (s5 _ _ hlx),m3'.tup nt (s5 _ _ epx),_,rfl]
          · obtain⟨n,k,j,e,rr⟩:=gx.bx
            exact#[n,k,j,m3' _ _ (fun y=>bA (Eg _ y)) (s5 _ _ e),rr]
          · rw[Jt];exact E4 m0
        · cases hx
          have wx:HK K C Hx dl a0 a1 (qL D0 z) D1 M0 M1:=wx
          refine#[_,rfl,a1.p,rfl,wx.d1.dr.no,_,rfl,cd,_,_,_,rfl,rfl,Gh.of hCx.e,rfl,_,rfl,cd,_,_,_,rfl,rfl,Gh.of hCx.e,rfl,kt,_,_,_,rfl,rfl,eK3.up,hat,_,rfl,pt,_,_,_,rfl,rfl,Gh.of epx,rfl,_,rfl,pt,_,_,_,rfl,rfl,Gh.of epx,rfl,tb,ak,n0,0,ba+3+r,1,t,_,rfl,.inr (.inl hCx.tb),.inr hak.up,nmk,by rw[tp.length_eq];rfl,c0,c1,#[by decide,by decide],fun pr pc H5 s5 h1 h2=>?_]
          refine#[a1,D1,M1,.ref pr,some (zK t kss n0 0 (ba+3+r) 1),rfl,wx.d1.same s5,by lia,k1.hr.ok,#[pr,rfl,#[pc,h1,h2],okP],(fun z=>by cases z),fun PP hP pr' q' H3 hpr' m3 _ hq' d3=>?_]
          cases hP;rw[Zz k1.hr c0 c1 #[by decide,by decide]]at d3
          rw[bH,<- show qL D1 z={D1 with kn:=Gc D1 n0 0 (ba+3+r)} by rw[ez];rfl]at d3
          have m3':=eN m3;have wy:=wx.same s5;have nt:=wy.d1.nt;have dj':∀x∈dS a0,x∉dS a1:=wd3.dj
          refine#[M0,_,#[fun x o nx e=>m3' x o (fun y=>by have:=(fA x (JH _ y)).1;rw[e]at this;cases this) (s5 _ _ (gx.kp x o nx e)),?_],#[m3' _ _ wy.n1 wy.li,wy.d0.mv m3' nt (dj' _ (cT _)) (dj' _ (aG _)) (dj' _ (aE _)) (dj' _ (aB _)),d3,wd3.dj,wd3.n0,wd3.n1],FL m0,?_,(hCx.same s5).mv m3' nt,m3' _ _ (fun y=>(fA _ (JH _ y)).2 rfl) (s5 _ _ hNx),m3' _ _ (fun y=>nlz (JH _ y)) (s5 _ _ hlx),m3'.tup nt (s5 _ _ epx),_,rfl]
          · obtain⟨n,k,j,e,rr⟩:=gx.bx
            exact#[n,k,j,m3' _ _ (fun y=>bA (JH _ y)) (s5 _ _ e),rr]
          · rw[Jt];exact E4 m1
      · rintro σ Hx ⟨M0,M1,gx,wx,m0,m1,hCx,hNx,hlx,epx,o10,rfl⟩
        rw[lk]at wx m0 m1;have hl2:=M.len;refine hnx _ _ #[_,_,M0,M1,o10,gx,wx,by lia,by lia,?_,?_,hCx,hNx,rfl]
        · split
          · rw[ez];exact k0.heard (by lia) c0 c1
          · exact k0.done (by lia)
        · split
          · rw[ez];exact k1.heard (by lia) c0 c1
          · exact k1.done (by lia)
    clear wd1 hC1 hN1 g1 ept
    rintro σ Hx ⟨E0,E1,M0,M1,o10',gx,wx,m0,m1',e0,e1,hCx,hNx,rfl⟩
    refine#[_,rfl,_,rfl,_,rfl,_,rfl,FZ,fun qq hqq=>?_]
    have vq:=F5.upd (o:= .tup [.ref dl,.ref cd,.ref nl,.int ba]) hqq
    refine q qq dl cd tb kt nl a0 a1 E0 E1 M0 M1 t kss nms ba _ ((gx.same vq).mono (by lia)) qa (wx.same vq) m0 m1' (hCx.same vq) (vq _ _ hNx) ?_ e0 e1 fdl fnl (fun z hz=>(fA z hz).1) ndn (fun y=>(fA _ y).2 rfl)
    rw[show kss.length=m from lK]
    exact M
end
section
variable{P:Ξ}{w:Ω}{K:μ}{mg:F3}{base:Ψ}{tk:Nat->Tok}{C:Δ}
theorem cH{H:Hp}{v:V}{o:Option qC}(h:HF H v o):decide (v= .non)=o.isNone:=by
 cases o with
 |none=>rw[show v= .non from h];exact Jh rfl
 |some r=>obtain⟨t,as,rfl,_⟩:=h;exact Jm (fun z=>nomatch z)
theorem BO{f:Δ}{fd:FuncData}(F:IQ K "law" "law" aD f fd)(T:GQ K mg tk)(U:Hf K C)(dH:Mf P w K mg base C "twin_door" ["self"] 3 (iH K C))(xX:Df P w K mg base "_law_box" ["_law_script","_law_k"] 1 (uM K))(dA:Df P w K mg base "_law_take" ["_law_box_here","_law_many"] 1 cn)(xT:Df P w K mg base "_law_made" ["_law_box_here"] 8 (mV K C))(xL:Df P w K mg base "_law_plains" ["_law_code","_law_names","_law_base"] 4 gZ)(xQ:Df P w K mg base "_law_first" ["_law_doors","_law_plains_here"] 8 (jS K C))(dM:Df P w K mg base "_law_opens" ["_law_doors","_law_press"] 7 (eO K C))(d8:Df P w K mg base "telling" ["one","other"] 6 (kR K C))(x6:Df P w K mg base "agree" ["one","other"] 7 (oJ K C))(dW:Df P w K mg base "shows_telling" ["one","other","row"] 5 (pA K C))(x8:Df P w K mg base "_law_is" ["_law_found","_law_due"] 1 ui):HG P w K mg base bh 9 f fd ["_law_script"] (kK K):=by
 refine F.dq GK (fun vs H Q E h=>?_) (fun cdv A outer s H vs Q E hr h=>?_)
 ·obtain⟨x,ns,rfl,_⟩:=h
  rfl
 ·obtain⟨sc,ns,rfl,hS,hlen,q⟩:=h
  refine#[_,(qe (qZ JL rfl (zI rfl T.b_range (qc (qp qJ qf (qz qW T.b_len J3 (qc (QY cx (qv 0) Zt (Zv qf)) qb))) qb)) (qh (i:=1) GK.nd rfl (Or.inl rfl))
   (qe (qw (i:=2) GK.nd rfl (Or.inr rfl) (qr xX hr.mo (qc (qv 0) (qc (qv 1) qb))))
   (qe (zz (qr xT hr.mo (qc (qv 2) qb)) (zR rfl (qm (qh (i:=3) GK.nd rfl (Or.inl rfl)) (qm (qh (i:=4) GK.nd rfl (Or.inl rfl)) (qm (qh (i:=5) GK.nd rfl (Or.inl rfl)) (qm (qh (i:=6) GK.nd rfl (Or.inl rfl)) q9))))))
   (qe (qw (i:=7) GK.nd rfl (Or.inr rfl) (qr xL hr.mo (qc (qv 4) (qc (qv 5) (qc (qv 6) qb)))))
   (qe (qw (i:=8) GK.nd rfl (Or.inl rfl) (qr xQ hr.mo (qc (qv 3) (qc (qv 7) qb))))
   (qe (qN (QW.pt (Z6 (qE (B1 hr) (qr d8 hr.mo (qc (qt qA (qv 3) qf) (qc (qt qA (qv 3) qf) qb))) (qv 8) (qy _)) (ZI (Qx (Qy (qr x8 hr.mo (qc (qr x6 hr.mo (qc (qt qA (qv 3) qf) (qc (qt qA (qv 3) qf) qb))) (qc (zX QP (qv 8) zf (qy _)) qb)))))))) (qg (ql ZD)) qB)
   (qe (qZ JL rfl (zI rfl T.b_range (qc qf qb)) (qh (i:=9) GK.nd rfl (Or.inl rfl))
   (qe (qw (i:=10) GK.nd rfl (Or.inl rfl) (qH qV T.b_tuple J4 (qc (zL (own:=["_law_place"]) (fr:=["_law_plains_here","_law_box_here"]) (js:=[7,2]) rfl (zI rfl T.b_range (qc (qp qJ qf (qr dA hr.mo (qc (qv 2) (qc qf qb)))) qb)) rfl (vZ rfl rfl) rfl (vK rfl (by decide +kernel) (by decide +kernel) (by decide +kernel) rfl rfl rfl rfl rfl rfl) (fun _ _ _ _=>qh (i:=0) (show List.Nodup (["_law_place","_law_plains_here","_law_box_here"]:List Str)from by decide +kernel) rfl (Or.inl rfl) (.inr rfl)) (fun _ _ _ _=>(qt (aP (K:=K) rfl) (qt (vJ (K:=K) rfl) (qv 1) (qr dA hr.mo (qc (qv 2) (qc (qz (aq (K:=K) rfl) T.b_len J3 (qc (qv 1) qb)) qb)))) qf))) qb)))
   (qg (qN (QW.pt (Z6 (qE QP (qv 8) zf (qy _)) (ZI (qE (vP hr) (qF (qc (qz qW T.b_len J3 (qc (qv 10) qb)) (qc (qv 10) qb))) (qF (qc (qz qW T.b_len J3 (qc (qv 8) qb)) (qc (qv 8) qb))) (qy _))))) (qg (qN (qE bP (qr dW hr.mo (qc (qt qA (qv 3) qf) (qc (qt qA (qv 3) qf) (qc (qv 10) qb)))) ZD (qy _)) (qg (ql ZD)) qB)) qB))))
   (qe (qN (QW.pt (lX (qE cp (qv 8) zf (qy _)) (iU (qE bP (qr dW hr.mo (qc (qt qA (qv 3) qf) (qc (qt qA (qv 3) qf) (qc (qv 8) qb)))) ZD (qy _))))) (qg (ql ZD)) qB)
   (qe (fK (i:=11) GK.nd rfl (Or.inl rfl) (own:=["_law_door"]) (fr:=[]) (js:=[]) rfl (zo (qv 3)) rfl (fun _ _ h=>nomatch h) rfl (az rfl (by decide +kernel) (by decide +kernel) (by decide +kernel)) (fun _ _ _ _=>qh (i:=0) (show List.Nodup (["_law_door"]:List Str)from by decide +kernel) rfl (Or.inl rfl) (.inr rfl)) (fun _ _ _ _=>(zS dH U.cl hr.mo (qv 0))))
   (qg (qZ JL rfl (zI rfl T.b_range (qc (qp Zb qf (qH eB T.b_int FI (qc (zX QP (qv 8) zf (qy _)) qb))) qb)) (qh (i:=9) GK.nd rfl (Or.inl rfl))
   (qe (qw (i:=12) GK.nd rfl (Or.inl rfl) (qr dM hr.mo (qc (qv 11) (qc (qt qT (qt qA (qv 7) (qr dA hr.mo (qc (qv 2) (qc (qz (aq (K:=K) rfl) T.b_len J3 (qc (qv 7) qb)) qb)))) qf) qb))))
   (qg (qN (QW.pt (Z6 (qE cI (qt qA (qv 12) qf) (qt qA (qv 12) qf) (qy _)) (ZI (qE bP (qr x6 hr.mo (qc (qt qA (qv 11) qf) (qc (qt qA (qv 11) qf) qb))) ZD (qy _))))) (qg (ql ZD)) qB))))))))))))))
   (qg (ql ZD))),?_]
  refine#[_,rfl,_,rfl,sc,_,rfl,hS,fun l0 hl0=>#[l0,_,rfl,.inl (Gd.of qa),_,_,rfl,rfl,_,rfl,?_,?_,?_]]
  ·lia
  ·rw[cX,Je]
   have:(br ns none (some 1)).length<=ns.length:=by unfold br;rw[J8,FA];lia
   lia
  have u0:=F5.upd (o:= .lst (Qd (ns.map V.int) none (some 1))) hl0
  have hS0:=u0.seq hS;generalize F9 H l0 (.lst (Qd (ns.map V.int) none (some 1)))=Ha at *
  refine zV (Pv:=fun k σ Hx=>F5 Ha Hx/\∃(o1 o2 o3 o4 o5 o6 o7 o8 o9 p1 p2 p3:Option V),σ=[some (.ref sc),o1,o2,o3,o4,o5,o6,o7,o8,o9,p1,p2,p3]) #[F5.refl _,none,none,none,none,none,none,none,none,none,none,none,none,rfl] ?_ ?_
  ·rintro k σ H1 hk ⟨s1,o1,o2,o3,o4,o5,o6,o7,o8,o9,p1,p2,p3,rfl⟩
   refine#[_,rfl,_,rfl,sc,ns,k,by simp,s1.seq hS0,fun b H2 fb s2 bx2=>?_]
   refine#[_,rfl,b,0,rfl,bx2,by decide,fun qq dl cd tb kt nl a0 a1 D0 D1 L0 L1 t kss nms ba H3 g3 eqq wd l0 l1 hC hN M e0 e1 fdl fnl fA ndn nA=>?_]
   refine#[qq,_,rfl,.tup eqq,rfl,_,_,rfl,_,_,rfl,_,_,rfl,_,_,rfl,rfl,?_]
   have ml:=M.len;have m1:=M.m1;have m2:=M.m2;have tp:t.Perm GG:=e0.hr.t▸e0.hr.ok.tp
   have b0:0<=ba:=by rcases M.b with y|y<;>lia
   have b1:ba<=4088:=by rcases M.b with y|y<;>lia
   refine#[_,rfl,_,rfl,_,rfl,cd,tb,kt,nl,t,kss,nms,ba,rfl,hC,tp,hN,ml.1,M.ok,m2,b0,by lia,fun pl H4 s4 fpl hpl=>?_]
   obtain⟨ps,eps⟩:∃ps,ps=Q5 nms kss.length ba (zA ba):=#[_,rfl]
   rw[<- eps]at hpl;have n11:zA ba<=11:=by
    have:=Qw (base:=ba) (by lia)
    split at this<;>lia
   have psl:ps.length<=44:=by
    rw[eps,lc];exact JQ (Nat.mul_le_mul ml.1 (Nat.mul_le_mul m2 n11)) (by decide)
   have pok:LY t kss ps:=#[tp,by lia,by rw[eps];exact vT M.nd,fun z hz=>by
    rw[eps]at hz;unfold Q5 at hz;obtain⟨nm,h1,hz⟩:=List.mem_flatMap.mp hz;obtain⟨a,h2,hz⟩:=List.mem_flatMap.mp hz;obtain⟨x,h3,rfl⟩:=Jq.mp hz;obtain⟨i,hi,rfl⟩:=Jq.mp h2;obtain⟨j,hj,rfl⟩:=Jq.mp h3;have hi:=JN.mp hi;have hj:=JN.mp hj
    have:=Qw (base:=ba) (by lia)
    refine#[M.ok nm h1,by show 0<=0+(i:Int);lia,by show 0+(i:Int)<_;lia,by show 0<=ba+(j:Int);lia,by show ba+(j:Int)<4096;split at this<;>lia]]
   refine#[_,rfl,_,rfl,dl,pl,a0,a1,D0,D1,L0,L1,t,kss,ps,rfl,wd.same s4,e0.hr,e1.hr,by lia,by lia,hpl,pok,fun u ch H5 s5 hch hu=>?_]
   have hkk:D0.kss.length=D1.kss.length:=by rw[e0.hr.ks,e1.hr.ks]
   have frst:∀ch,(∀z,ch z=false->Gc D0 z.1 z.2.1 z.2.2=D0.kn/\Gc D1 z.1 z.2.1 z.2.2=D1.kn)->QB D0 D1 ps ch=Qp D0 D1 nms:=fun ch hc=>by
    rw[eps,<- show D0.kss.length=kss.length by rw[e0.hr.ks]]
    exact e0.r.first e1.r hkk b0 (by lia) M.nd (fun z hz=>e0.sub▸hz) (fun z hz=>e1.sub▸hz) ch hc
   rw[frst ch hch]at hu;obtain⟨due,edue⟩:∃due,due=Qp D0 D1 nms:=#[_,rfl]
   have fall:=(frst (fun _=>true) (fun z h=>by cases h)).trans edue.symm
   rw[<- edue]at hu;clear frst hch;have wd5:=(wd.same s4).same s5;have hp5:=hpl.same s5;have g5:=(g3.same s4).same s5;have bsm:∃o,H2 b=some o:=let⟨_,_,_,e,_⟩:=bx2;#[_,e]
   have bA:b∉dS a0++dS a1:=fun hz=>by obtain⟨o,e⟩:=bsm;rw[fA _ hz]at e;cases e
   have ndb:dl≠b:=qU bx2 fdl
   have npb:pl≠b:=qU g3.bx fpl
   have frm:∀{Hx Hy:Hp} {c c':Nat},HH Hx b c->HB b c' Hx Hy->HK K C Hx dl a0 a1 D0 D1 L0 L1->Gx Hx pl t kss ps->HF Hx u due->HK K C Hy dl a0 a1 D0 D1 L0 L1/\Gx Hy pl t kss ps/\HF Hy u due:=fun{Hx Hy c c'} hb g wx px ux=>by
    have mb:Mv [b] Hx Hy:=fun x o hx e=>g.kp x o (fun y=>hx (Jl.mpr y)) e
    have nb:=Z3 hb
    exact#[wx.mv mb nb (qM ndb) (fun x hx=>qM fun y=>bA (y▸Eg _ hx)) (fun x hx=>qM fun y=>bA (y▸JH _ hx)),px.mv mb nb (qM npb),ux.mv mb nb]
   clear hpl s4 s5 wd hC hN g3 eqq;have mm:∀(ns1:List Str),(∀k,k∈ns1↔k∈D0.kn.map (·.1)\/k∈D1.kn.map (·.1))->∀k,k∈ns1↔k∈nms:=fun ns1 h k=>by rw[h k,e0.sub,e1.sub,or_self]
   refine#[_,rfl,dl,_,_,_,rfl,rfl,Gd.of wd5.li,rfl,_,rfl,dl,_,_,_,rfl,rfl,Gd.of wd5.li,rfl,a0.p,a0.ta,a0.hk,a0.bd,a0.lg,_,D0,a1.p,a1.ta,a1.hk,a1.bd,a1.lg,_,D1,rfl,wd5.d0.dr,wd5.d1.dr,e0.r.td,e1.r.td,Me.narrow e0.r.n e1.r.n,fun u1 ns1 H6 s6 nd1 mem1 sn1 tv1=>?_]
   rw[ia nd1 M.nd sn1 M.sorted (mm ns1 mem1),<- edue]at tv1;have wd6:=wd5.same s6;have hu6:=hu.same s6;refine#[_,rfl,2,by decide,HF.eqk tv1 hu6,_,rfl,zJ ?_]
   refine#[_,rfl,dl,_,_,_,rfl,rfl,Gd.of wd6.li,rfl,_,rfl,dl,_,_,_,rfl,rfl,Gd.of wd6.li,rfl,a0.p,a0.ta,a0.hk,a0.bd,a0.lg,_,D0,a1.p,a1.ta,a1.hk,a1.bd,a1.lg,_,D1,rfl,wd6.d0.dr,wd6.d1.dr,e0.r.td,e1.r.td,Me.narrow e0.r.n e1.r.n,fun ns2 H7 s7 nd2 mem2 sn2=>#[_,rfl,rfl,due.isNone,?_,#[_,rfl,zJ ?_]]]
   ·rw[ia nd2 M.nd sn2 M.sorted (mm ns2 mem2),<- edue,cH hu6];rfl
   have wd7:=wd6.same s7;have hu7:=hu6.same s7;have hp7:=(hp5.same s6).same s7;have g7:=((g5.same s6).same s7).mono (d:=200) (by lia)
   clear hu hu6 tv1 wd5 wd6 hp5 g5 s6 s7 mm nd1 mem1 sn1 nd2 mem2 sn2;have ps1:1<=ps.length:=by
    rw[eps,lc]
    have:=Qw (base:=ba) (by lia)
    have w1:1<=zA ba:=by split at this<;>lia
    exact Nat.mul_pos (by lia) (Nat.mul_pos (by lia) (by lia))
   have so:mJ ps:=by rw[eps];exact ul M.srt
   refine BE (fun σ' H'=>HB b 300 H2 H'/\HK K C H' dl a0 a1 D0 D1 L0 L1/\Gx H' pl t kss ps/\HF H' u due/\∃o9 o10,σ'=[some (.ref sc),some (.int (0+(k:Int))),some (.ref b),some (.ref dl),some (.ref cd),some (.ref nl),some (.int ba),some (.ref pl),some u,o9,o10,p2,p3]) (fun DD hrt hnx=>?_) ?_
   ·refine#[_,rfl,by decide,by decide,?_]
    refine zV (n:=4) (Pv:=fun j σ Hx=>HB b (200+5*j) H2 Hx/\HK K C Hx dl a0 a1 D0 D1 L0 L1/\Gx Hx pl t kss ps/\HF Hx u due/\∃o9 o10,σ=[some (.ref sc),some (.int (0+(k:Int))),some (.ref b),some (.ref dl),some (.ref cd),some (.ref nl),some (.int ba),some (.ref pl),some u,o9,o10,p2,p3]) #[g7,wd7,hp7,hu7,_,_,rfl] ?_ ?_
    ·rintro j σ Hx hj ⟨gx,wx,px,ux,o9',o10',rfl⟩
     have j4:j<4:=hj
     refine#[_,rfl,b,2,_,rfl,gx.bx,by lia,by decide,by decide,fun r Hb r0 r1 gb=>#[_,_,rfl,rfl,_,rfl,by lia,by lia,?_]]
     obtain⟨wb,pb,ub⟩:=frm gx.bx gb wx px ux;obtain⟨n,en,n1,n2⟩:∃n:Nat,(1+r).toNat=n/\1<=n/\n<=2:=#[_,rfl,by lia,by lia]
     rw[en];refine aI (n:=n) (by rw[JF];lia) (fun i ys Hy=>HB b (201+5*j+i) H2 Hy/\HK K C Hy dl a0 a1 D0 D1 L0 L1/\Gx Hy pl t kss ps/\HF Hy u due/\∃(as:List Δ) (zs:qC),ys=as.map V.ref/\as.length=i/\zs.length=i/\(∀z∈zs,z∈ps)/\∀(k:Nat) (a:Δ) (z:Str×Int×Int),as[k]? =some a->zs[k]? =some z->Hy a=some (.tup [.str z.1,.int z.2.1,.int z.2.2])) #[(gx.trans gb).mono (by lia),wb,pb,ub,[],[],rfl,rfl,rfl,(fun z h=>nomatch h),fun k a z h=>by cases h] ?_ ?_
     ·rintro i ys Hy hi hyl ⟨gy,wy,py,uy,as,zs,rfl,lA,lZ,hz,hh⟩
      obtain⟨es,ees,les,hat⟩:=py.at;refine#[_,rfl,_,rfl,_,rfl,pl,_,rfl,.inl (Gd.of ees),b,_,_,rfl,gy.bx,by lia,by lia,by lia,fun r' Hc r0' r1' gc=>?_]
      obtain⟨wc,pc,uc⟩:=frm gy.bx gc wy py uy;have mb:Mv [b] Hy Hc:=fun x o hx e=>gc.kp x o (fun y=>hx (Jl.mpr y)) e
      have nb:=Z3 gy.bx;obtain⟨e,x1,x2,z,h1,h2,h3,h4,h5⟩:=hat r' r0' (by lia)
      refine#[pl,_,_,_,rfl,rfl,Gd.of (gc.kp _ _ npb ees),h1,e,_,_,_,rfl,rfl,Gh.of (mb.tup nb h3),rfl,(gy.trans gc).mono (by lia),wc,pc,uc,as++[x1],zs++[z],by simp,by simp [lA],by simp [lZ],fun y hy=>?_,fun k a y g1 g2=>?_]
      ·rcases JB.mp hy with hy|hy
       ·exact hz y hy
       ·rw[Jl.mp hy];exact h2
      ·by_cases hk:k<as.length
       ·rw[J0 hk]at g1
        rw[J0 (by lia)]at g2
        exact mb.tup nb (hh k a y g1 g2)
       ·rw[JZ (by lia)]at g1
        rw[JZ (by lia)]at g2
        cases ek:k-as.length with
        |zero=>rw[ek]at g1;rw[show k-zs.length=0 by lia]at g2;cases g1;cases g2;exact mb.tup nb h4
        |succ q=>rw[ek]at g1;cases g1
     rintro ys Hy hyl ⟨gy,wy,py,uy,as,zs,rfl,lA,lZ,hz,hh⟩ ly hly
     refine#[ly,_,rfl,.inl #[Gd.of qa,fun row hrow=>?_]]
     have v1:=F5.upd (o:= .lst (as.map V.ref)) hly
     have v2:=F5.upd (o:= .tup (as.map V.ref)) hrow
     have V2:=v1.trans v2;have hrw:HF (F9 (F9 Hy ly (.lst (as.map V.ref))) row (.tup (as.map V.ref))) (.ref row) (some zs):=#[row,as,rfl,qa,by lia,fun i a z h1 h2=>V2 _ _ (hh i a z h1 h2)]
     have wz:=wy.same V2;have pz:=py.same V2;have uz:=uy.same V2;have gz:=gy.same V2;generalize F9 (F9 Hy ly (.lst (as.map V.ref))) row (.tup (as.map V.ref))=Hz at *
     clear wy py uy gy v1 v2 V2 hly hrow hh wb pb ub gb;have zne:zs≠[]:=fun y=>by rw[y]at lZ;have lZ:0=n:=lZ;lia
     have hl12:zs.length=1\/zs.length=2:=by lia
     refine#[_,rfl,rfl,_,rfl,qY (fun h=>?_) (fun h=>?_)]
     ·have wq:=wz;have hrq:=hrw;have gq:=gz;have pq:=pz;have uq:=uz
      have sh:QX D0 D1 zs=false:=jw so hz hl12 fall (.inl (by
       have:=cH uq
       rw[h]at this;cases due with
       |none=>rfl
       |some r=>cases this))
      refine ZE rfl ?_
      refine#[_,rfl,dl,_,_,_,rfl,rfl,Gd.of wq.li,rfl,_,rfl,dl,_,_,_,rfl,rfl,Gd.of wq.li,rfl,_,rfl,a0.p,a0.ta,a0.hk,a0.bd,a0.lg,_,D0,a1.p,a1.ta,a1.hk,a1.bd,a1.lg,_,D1,.ref row,zs,rfl,wq.d0.dr,wq.d1.dr,e0.hr.ok,e1.hr.ok,e0.hr.f0,e1.hr.f0,hrq,by lia,zne,fun H8 s8=>#[_,false,rfl,rfl,_,rfl,ZH (by rw[sh];rfl) #[(gq.same s8).mono (by lia),wq.same s8,pq.same s8,uq.same s8,_,_,rfl]]]
     ·obtain⟨r,er⟩:∃r,due=some r:=by
       have:=cH uz
       cases due with
       |none=>exact absurd (this.trans rfl) h
       |some r=>exact#[r,rfl]
      have uz':=uz;rw[er]at uz';obtain⟨du,ds,rfl,edu,lds,hds⟩:=id uz';obtain⟨rw',asw,erw,etr,lrw,hhr⟩:=id hrw;cases erw;refine#[_,rfl,row,_,rfl,.inr (Gh.of etr),_,rfl,FX,fun t1 ht1=>?_]
      have v1:=F5.upd (o:= .tup [.int ((asw.map V.ref).length:Int),.ref row]) ht1
      refine#[_,rfl,du,_,rfl,.inr (Gh.of (v1 _ _ edu)),_,rfl,FX,fun t2 ht2=>?_]
      have v2:=F5.upd (o:= .tup [.int ((ds.map V.ref).length:Int),.ref du]) ht2
      have V2:=v1.trans v2;refine#[t1,t2,row,du,_,_,zs,r,rfl,rfl,v2 _ _ qa,qa,hrw.same V2,uz'.same V2,_,rfl,qY (fun h2=>?_) (fun h2=>?_)]
      ·have wq:=wz.same V2;have hrq:=hrw.same V2;have gq:=gz.same V2;have pq:=pz.same V2;have uq:=uz.same V2
       have sh:QX D0 D1 zs=false:=jw so hz hl12 fall (.inr #[r,er,by rw[Je,Je,lrw,lds]at h2;exact h2])
       refine#[_,rfl,dl,_,_,_,rfl,rfl,Gd.of wq.li,rfl,_,rfl,dl,_,_,_,rfl,rfl,Gd.of wq.li,rfl,_,rfl,a0.p,a0.ta,a0.hk,a0.bd,a0.lg,_,D0,a1.p,a1.ta,a1.hk,a1.bd,a1.lg,_,D1,.ref row,zs,rfl,wq.d0.dr,wq.d1.dr,e0.hr.ok,e1.hr.ok,e0.hr.f0,e1.hr.f0,hrq,by lia,zne,fun H8 s8=>#[_,false,rfl,rfl,_,rfl,ZH (by rw[sh];rfl) #[(gq.same s8).mono (by lia),wq.same s8,pq.same s8,uq.same s8,_,_,rfl]]]
      ·exact#[(gz.same V2).mono (by lia),wz.same V2,pz.same V2,uz.same V2,_,_,rfl]
    ·rintro σ Hx ⟨gx,wx,px,ux,o9',o10',rfl⟩
     exact hnx _ _ #[gx.mono (by lia),wx,px,ux,_,_,rfl]
   clear g7 wd7 hp7 hu7
   rintro σ Hx ⟨gx,wx,px,ux,o9',o10',rfl⟩
   refine iW (fun σ' H'=>HB b 300 H2 H'/\HK K C H' dl a0 a1 D0 D1 L0 L1/\Gx H' pl t kss ps/\HF H' u due/\σ'=[some (.ref sc),some (.int (0+(k:Int))),some (.ref b),some (.ref dl),some (.ref cd),some (.ref nl),some (.int ba),some (.ref pl),some u,o9',o10',p2,p3]) (fun DD hrt hnx=>?_) ?_
   ·cases ed:due with
    |none=>
     rw[ed]at ux;have eu:u= .non:=ux
     subst eu
     exact#[_,rfl,rfl,_,rfl,zJ (zJ (hnx _ _ #[gx,wx,px,by rw[ed];exact ux,rfl]))]
    |some r=>
     obtain⟨sh,rne,r2⟩:=nq so (fall.trans ed)
     have ux':=ux;rw[ed]at ux';obtain⟨du,ds,rfl,_⟩:=id ux';refine#[_,rfl,rfl,_,rfl,ZE rfl ?_]
     refine#[_,rfl,dl,_,_,_,rfl,rfl,Gd.of wx.li,rfl,_,rfl,dl,_,_,_,rfl,rfl,Gd.of wx.li,rfl,_,rfl,a0.p,a0.ta,a0.hk,a0.bd,a0.lg,_,D0,a1.p,a1.ta,a1.hk,a1.bd,a1.lg,_,D1,.ref du,r,rfl,wx.d0.dr,wx.d1.dr,e0.hr.ok,e1.hr.ok,e0.hr.f0,e1.hr.f0,ux',by lia,rne,fun H8 s8=>#[_,true,rfl,rfl,_,rfl,ZH (by rw[sh];rfl) (hnx _ _ #[gx.same s8,wx.same s8,px.same s8,ux.same s8,rfl])]]
   clear gx wx px ux
   rintro σ Hx ⟨gx,wx,px,ux,rfl⟩
   have k0:D0.kss.length<=8:=by rw[e0.hr.ks];lia
   have k1:D1.kss.length<=8:=by rw[e1.hr.ks];lia
   have fd:∀{a':Da} {Hx:Hp},Hx a'.p=none->Hx a'.hk=none->Hx a'.bd=none->Hx a'.lg=none->∀z∈dS a',Hx z=none:=fun f1 f2 f3 f4 z hz=>by
    rcases mN hz with rfl|rfl|rfl|rfl
    ·exact f1
    ·exact f2
    ·exact f3
    ·exact f4
   refine#[_,rfl,dl,rfl,#[_,Gd.of wx.li],c5 wx (fun{a D L Hx R} d k8 hR=>#[_,rfl,a.p,rfl,d.dr.no,a,D,L,rfl,d,k8,fun a' H' s f1 f2 f3 f4 d'=>hR a' H' s (fd f1 f2 f3 f4) d']) (fun x Hx R R' hRR ⟨v,e1,p,e2,no,a,D,L,e3,d,k8,hq⟩=>#[v,e1,p,e2,no,a,D,L,e3,d,k8,fun a' H' s f1 f2 f3 f4 d'=>hRR _ _ (hq a' H' s f1 f2 f3 f4 d')]) k0 k1 fun tl c0 c1 Hw sw ftl fb' w1=>?_]
   have gw:=gx.same sw;have pw:=px.same sw;have uw:=ux.same sw;have bS:∃o,Hx b=some o:=let⟨_,_,_,e,_⟩:=gx.bx;#[_,e]
   have bC:b∉dS c0++dS c1:=fun hz=>by obtain⟨o,e⟩:=bS;rw[fb' _ hz]at e;cases e
   have pC:pl∉dS c0++dS c1:=fun hz=>by obtain⟨es,ees,_⟩:=px;have:=fb' _ hz;rw[ees]at this;cases this
   have fC:∀z∈dS c0++dS c1,H2 z=none:=fun z hz=>gx.fresh (bx2.mono (by lia)) (fb' z hz)
   have ntb:tl≠b:=qU gx.bx ftl
   refine#[_,rfl,rfl,.inr #[_,rfl,_,_,rfl,rfl,.inl #[by decide,by decide],_,rfl,by split<;>decide,by split<;>decide,?_]]
   obtain⟨n,en,n6,nd⟩:∃n:Nat,(6*(if decide (u=V.non)=true then 1 else 0):Int).toNat=n/\n<=6/\(0<n->due=none):=by
    refine#[_,rfl,by split<;>decide,fun h=>?_]
    have:=cH ux
    cases due with
    |none=>rfl
    |some r=>
     rw[this]at h;have h:0<(6*(if false=true then 1 else 0):Int).toNat:=h
     exact absurd h (by decide)
   rw[en];refine zV (n:=n) (Pv:=fun j σ Hy=>∃E0 E1 M0 M1,HB b (300+j) H2 Hy/\HK K C Hy tl c0 c1 E0 E1 M0 M1/\Gx Hy pl t kss ps/\(GU E0/\GU E1/\HU t kss E0/\HU t kss E1/\E0.near<=13/\E1.near<=13/\(due=none->LJ E0 E1))/\M0.length<=9+2*j/\M1.length<=9+2*j/\∃o9 p3,σ=[some (.ref sc),some (.int (0+(k:Int))),some (.ref b),some (.ref dl),some (.ref cd),some (.ref nl),some (.int ba),some (.ref pl),some u,o9,o10',some (.ref tl),p3]) #[D0,D1,L0,L1,gw,w1,pw,#[e0.r.td,e1.r.td,e0.hr,e1.hr,e0.r.n,e1.r.n,fun ed=>yS e0.r.td e1.r.td hkk (fun k=>by rw[e0.sub,e1.sub,or_self]) (edue.symm.trans ed)],l0,l1,_,_,rfl] ?_ ?_
   ·clear w1 pw gw
    rintro j σ Hy hj ⟨E0,E1,M0,M1,gy,wy,py,⟨t0,t1,h0,h1,n0,n1,ag⟩,l0',l1',o9,p3',rfl⟩
    have jn:j<n:=hj
    have ag:=ag (nd (by lia))
    obtain⟨es,ees,les,hat⟩:=py.at;refine#[_,rfl,_,rfl,_,rfl,_,rfl,pl,_,rfl,.inl (Gd.of ees),b,_,_,rfl,gy.bx,by lia,by lia,by lia,fun r' Hc r0' r1' gc=>?_]
    have mb:Mv [b] Hy Hc:=fun x o hx e=>gc.kp x o (fun y=>hx (Jl.mpr y)) e
    have nb:=Z3 gy.bx;have wc:=wy.mv mb nb (qM ntb) (fun x hx=>qM fun y=>bC (y▸Eg _ hx)) (fun x hx=>qM fun y=>bC (y▸JH _ hx))
    have pc:=py.mv mb nb (qM npb);obtain⟨e,x1,x2,z,q1,q2,q3,q4,q5⟩:=hat r' r0' (by lia)
    obtain⟨z1,z2,z3,z4,z5⟩:=pok.z z q2;refine#[pl,_,_,_,rfl,rfl,Gd.of (gc.kp _ _ npb ees),q1,e,_,_,_,rfl,rfl,Gh.of (mb.tup nb q3),rfl,tl,x2,c0,c1,E0,E1,M0,M1,t,kss,z,rfl,wc,h0,h1,by lia,by lia,Gz.mv mb nb q5,z1,z4,z5,fun qo H8 N0 N1 m8 w8 nn0 nn1 fq hq=>?_]
    have oz:zh E0 z=zh E1 z:=ag.opn t0 t1 z2 (by rw[h0.ks];exact z3) (by lia)
    have g8:HB b (300+(j+1)) H2 H8:=#[fun x o nx e=>m8 x o (fun y=>by rw[fC x y]at e;cases e) ((gy.trans gc).kp x o nx e),by obtain⟨a,b',c,e,rr⟩:=gc.bx;exact#[a,b',c,m8 _ _ bC e,rr]]
    have p8:=pc.mv m8 wc.nt pC;refine#[_,rfl,qo,_,_,_,rfl,rfl,Gd.of hq,rfl,_,rfl,qo,_,_,_,rfl,rfl,Gd.of hq,rfl,rfl,_,rfl,ZH (by rw[oz,Jh rfl];rfl) ?_]
    have t0':GU (qL E0 z):=t0.hear z4 z5
    have t1':GU (qL E1 z):=t1.hear z4 z5
    have ag':LJ (qL E0 z) (qL E1 z):=ag.hear t0 t1 (by lia)
    refine#[_,rfl,tl,_,_,_,rfl,rfl,Gd.of w8.li,rfl,_,rfl,tl,_,_,_,rfl,rfl,Gd.of w8.li,rfl,c0.p,c0.ta,c0.hk,c0.bd,c0.lg,_,qL E0 z,c1.p,c1.ta,c1.hk,c1.bd,c1.lg,_,qL E1 z,rfl,w8.d0.dr,w8.d1.dr,t0',t1',Me.narrow n0 n1,fun ns2 H9 s9 nd2 mem2 sn2=>#[_,true,rfl,rfl,_,rfl,ZH ?_ #[qL E0 z,qL E1 z,N0,N1,g8.same s9,w8.same s9,p8.same s9,#[t0',t1',h0.he z,h1.he z,n0,n1,fun _=>ag'],by lia,by lia,_,_,rfl]]]
    rw[ag'.tell t0' t1'];rfl
   ·rintro σ Hy ⟨E0,E1,M0,M1,gy,_,_,_,_,_,o9,p3',rfl⟩
    exact#[fun c o e=>gy.kp c o (fun y=>by rw[y]at e;rw[s1 _ _ e]at fb;cases fb) (s2 _ _ (s1 _ _ e)),_,_,_,_,_,_,_,_,_,_,_,_,rfl]
  ·rintro σ Hx ⟨_,o1,o2,o3,o4,o5,o6,o7,o8,o9,p1,p2,p3,rfl⟩
   exact q _
end
theorem CG{l:W.OpenLaw}{w:Ω}{K:μ}{h:Ψ}{mg:F3}{fa:Δ}(X:K.In h)(G:h.Ns θ mg)(hfa:mg "law"=some (.ref fa))
  {C:Δ}
  (aCD:W.nsIn K θ "Door"=some (some (.ref C)))
  (pgD:W.plainGet K C Str.empty=true)
  (hdD:W.hasDictIn K C=true)
  (poD:W.plainOver K C=true)
  (saD:W.findIn K (.ref C) "__setattr__"=some (some (.builtin "object.__setattr__")))
  (mkD:W.makesIn K C=true)
  (kcD:W.keepIn K (.ref C)=true)
  (Fr:W.findIn K (.ref C) "table"=some none)
  (pi:W.findIn K (.ref C) "house_keys"=some none)
  (Fz:W.findIn K (.ref C) "near"=some none)
  (Go:W.findIn K (.ref C) "far"=some none)
  (Fs:W.findIn K (.ref C) "most"=some none)
  (Fa:W.findIn K (.ref C) "least_age"=some none)
  (Fq:W.findIn K (.ref C) "buttons"=some none)
  (Gr:W.findIn K (.ref C) "log"=some none)
  (A0:Ac K mg "is_number" bO)
  (A1:Ac K mg "is_digit" cE)
  (A2:Ac K mg "are_digits" bm)
  (A3:Ac K mg "back_table" bq)
  (A4:Ac K mg "coded" iO)
  (A5:Ac K mg "decoded" eQ)
  (A6:Ac K mg "is_name" fe)
  (A7:Ac K mg "is_code" eT)
  (A8:Ac K mg "is_press" cZ)
  (A9:Ac K mg "letter_digits" ZO)
  (A10:Ac K mg "key_of" gl)
  (A11:Ac K mg "count_digits" ZX)
  (A12:Ac K mg "press_of" cS)
  (A13:Ac K mg "read_press" aS)
  (A14:Ac K mg "word_of" fk)
  (A15:Ac K mg "step_by" eI)
  (A16:Ic K C "__init__" "Door.__init__" Zh)
  (A17:Ic K C "is_full" "Door.is_full" ZS)
  (A18:Ic K C "button_of" "Door.button_of" Zm)
  (A19:Ic K C "takes_age" "Door.takes_age" Zs)
  (A20:Ic K C "takes_from" "Door.takes_from" Za)
  (A21:Ic K C "plain_step" "Door.plain_step" Qo)
  (A22:Ic K C "answer_to" "Door.answer_to" Zr)
  (A23:Ic K C "hear" "Door.hear" bJ)
  (A24:Ic K C "read_right" "Door.read_right" Q7)
  (A25:Ic K C "learn" "Door.learn" aT)
  (A26:Ic K C "known_now" "Door.known_now" Zl)
  (A27:Ic K C "keys_now" "Door.keys_now" ZM)
  (A28:Ic K C "closed_now" "Door.closed_now" Q8)
  (A29:Ic K C "bounds_told" "Door.bounds_told" QM)
  (A30:Ic K C "twin_door" "Door.twin_door" Zn)
  (A31:Ac K mg "stretches_of" Z2)
  (A32:Ac K mg "names_known" au)
  (A33:Ac K mg "lesser_end" bf)
  (A34:Ac K mg "counts_in" bT)
  (A35:Ac K mg "least_apart" av)
  (A36:Ac K mg "press_apart" ay)
  (A37:Ac K mg "pair_apart" aU)
  (A38:Ac K mg "telling" dv)
  (A39:Ac K mg "agree" iZ)
  (A40:Ac K mg "openings" cF)
  (A41:Ac K mg "shows_telling" ZF)
  (A42:Ac K mg "_law_box" fj)
  (A43:Ac K mg "_law_take" cG)
  (A44:Ac K mg "_law_table" bU)
  (A45:Ac K mg "_law_key" fi)
  (A46:Ac K mg "_law_made" c6)
  (A47:Ac K mg "_law_plains" a9)
  (A48:Ac K mg "_law_opens" bY)
  (A49:Ac K mg "_law_first" bR)
  (A50:Ac K mg "_law_is" gN)
  {f51:Δ}{od51 an51:Option Δ}{sl51:Array (Option Γ)}{oc51 kV51 dc51 pm51 cd51 ct51:Γ}
  (a51:W.nsIn K θ "law"=some (some (.ref f51)))
  (l51:K.lookup f51=some #[oc51,od51,.func (W.fnOf "law" "law" (QH aD) (zO aD) (qi aD) .none kV51 dc51 pm51 an51 cd51 ct51),sl51])
  (c51:W.codeIn K cd51 "law"=true)
  (k51:W.keepIn K (.ref f51)=true)
  {t0:Tok}
  (yg0:W.nsIn K θ "DIGITS"=some (some (.int 16 t0)))
  {t1:Tok}
  (yg1:W.nsIn K θ "KEY_PLACES"=some (some (.int 4 t1)))
  {t2:Tok}
  (yg2:W.nsIn K θ "LONGEST_NAME"=some (some (.int 8 t2)))
  {t3:Tok}
  (yg3:W.nsIn K θ "CODE_DIGITS"=some (some (.int 5 t3)))
  {t4:Tok}
  (yg4:W.nsIn K θ "COUNTS"=some (some (.int 4096 t4)))
  (z0:W.nsIn K θ "isinstance"=some none)
  (z1:W.nsIn K θ "bool"=some none)
  (z2:W.nsIn K θ "int"=some none)
  (z3:W.nsIn K θ "tuple"=some none)
  (z4:W.nsIn K θ "all"=some none)
  (z5:W.nsIn K θ "any"=some none)
  (z6:W.nsIn K θ "len"=some none)
  (z7:W.nsIn K θ "abs"=some none)
  (z8:W.nsIn K θ "list"=some none)
  (z9:W.nsIn K θ "enumerate"=some none)
  (z10:W.nsIn K θ "range"=some none)
  (z11:W.nsIn K θ "max"=some none)
  (z12:W.nsIn K θ "min"=some none)
  (z13:W.nsIn K θ "str"=some none)
  (z14:W.nsIn K θ "zip"=some none)
  (z15:W.nsIn K θ "ord"=some none)
  (z16:W.nsIn K θ "sum"=some none)
  (z17:W.nsIn K θ "reversed"=some none)
  (z18:W.nsIn K θ "sorted"=some none)
  (z19:W.nsIn K θ "dict"=some none)
  (z20:W.nsIn K θ "set"=some none):
  ∃fd:FuncData,(∀(s:Θ) (v:Γ),BindsTo s fd #[[v],[]] [("_law_script",v)])/\∀base:Ψ,K.In base->base.Ns θ mg->HG l.prog w K mg base bh 9 fa fd ["_law_script"] (kK K):=by
 have e:=hfa.symm.trans (EV X G a51);cases e;have T:GQ K mg (fun i=>if i=0 then t0 else if i=1 then t1 else if i=2 then t2 else if i=3 then t3 else if i=4 then t4 else 0):=#[EV X G yg0,EV X G yg1,EV X G yg2,EV X G yg3,EV X G yg4,JS X G z0,JS X G z1,JS X G z2,JS X G z3,JS X G z4,JS X G z5,JS X G z6,JS X G z7,JS X G z8,JS X G z9,JS X G z10,JS X G z11,JS X G z12,JS X G z13,JS X G z14,JS X G z15,JS X G z16,JS X G z17,JS X G z18,JS X G z19,JS X G z20]
 refine#[W.fnOf "law" "law" (QH aD) (zO aD) (qi aD) .none kV51 dc51 pm51 an51 cd51 ct51,fun s v=> .of_eq rfl,fun base _ _=>?_]
 have U:Hf K C:=#[#[pgD,hdD,poD,saD],Fr,pi,Fz,Go,Fs,Fa,Fq,Gr]
 have dU:=mI (P:=l.prog) (w:=w) (base:=base) A0.at T
 have xS:=nv A1.at T dU
 have xP:=kq A2.at T xS
 have xM:=kg (P:=l.prog) (w:=w) (base:=base) A3.at T
 have xI:=xj (P:=l.prog) (w:=w) (base:=base) A4.at T
 have xV:=pO A5.at T xM
 have xU:=pP (P:=l.prog) (w:=w) (base:=base) A6.at T
 have xZ:=rQ A7.at T xP
 have dX:=nO A8.at T xU dU xZ
 have xB:=gB (P:=l.prog) (w:=w) (base:=base) A9.at T
 have xD:=uo A10.at T xB xI
 have xC:=il (P:=l.prog) (w:=w) (base:=base) A11.at T
 have dQ:=nB A12.at T xC xD xI
 have dP:=ky A13.at T xD xV
 have xY:=rF (P:=l.prog) (w:=w) (base:=base) A14.at T
 have d9:=rA A15.at T xY
 have A16:=A16.at (ps:=["self","table","keys","near","far","most"])
 have yA:=iK (P:=l.prog) (w:=w) (base:=base) A16 T U
 have xN:=yA.mi mkD kcD (EV X G aCD);have yB:=(gW (P:=l.prog) (w:=w) (base:=base) A16 T U).mi mkD kcD (EV X G aCD)
 have xE:=hU (P:=l.prog) (w:=w) (base:=base) A17.at T U
 have dC:=fO (P:=l.prog) (w:=w) (base:=base) A18.at T U
 have dI:=fR (P:=l.prog) (w:=w) (base:=base) A19.at T U
 have dB:=di A20.at T U dI
 have A21:=A21.at (ps:=["self","button","age","count"])
 have dD:=eY A21 T U dB d9;have G_Door_plain_step:=dh A21 T U dB d9;have d7:=fS A22.at T U dC dB dD dP
 have dR:=mS A23.at T U dX d7
 have dO:=eV A24.at T U dX dI dP
 have xO:=ko A25.at T U dO xE
 have dG:=fT (P:=l.prog) (w:=w) (base:=base) A26.at T U
 have xA:=gO (P:=l.prog) (w:=w) (base:=base) A27.at T U
 have dZ:=dw (P:=l.prog) (w:=w) (base:=base) A28.at T U
 have dE:=db (P:=l.prog) (w:=w) (base:=base) A29.at T U
 have dH:=fN A30.at T U xN
 have dY:=hV A31.at T U dB dE
 have dJ:=i4 A32.at T U dG
 have xK:=kz A33.at T U dE
 have xF:=mB (P:=l.prog) (w:=w) (base:=base) A34.at T
 have xG:=iJ A35.at T xF
 have dL:=iV A36.at T U xA dY xG
 have xJ:=kF A37.at T U dZ G_Door_plain_step xK dL
 have d8:=rN A38.at T U dC dJ dL xJ
 have x6:=wf A39.at T d8
 have xH:=nJ A40.at T U dC G_Door_plain_step dJ
 have dW:=gg A41.at T xH
 have xX:=rY (P:=l.prog) (w:=w) (base:=base) A42.at T
 have dA:=ng (P:=l.prog) (w:=w) (base:=base) A43.at T
 have xR:=mG A44.at T dA
 have xW:=rB A45.at T dA
 have xT:=m9 A46.at T U yB xO dR dA xR xW dQ
 have xL:=ki A47.at T dQ
 have dM:=mz A48.at T U dR
 have xQ:=lG A49.at T U dG dH dM
 have x8:=tY (P:=l.prog) (w:=w) (base:=base) A50.at T
 exact BO (lC (st:=aD) l51 c51 k51) T U dH xX dA xT xL xQ dM d8 x6 dW x8
theorem vH{l:W.OpenLaw}{q:Ξ}{loose:List Str}{XP:(Str->Option Γ)->Ψ->Prop}{YP:Ω->Ψ->Prop}{d:DefRec}{K:Params->μ}(hn:l.most=some 63)(hdf:d.params.defaults=[])
  (hY:∀(w:Ω) (h:Ψ),YP w h->(K w.params).In h)
  (F:∀(w:Ω) (mg:F3) (fa:Δ) (h:Ψ),(K w.params).In h->h.Ns θ mg->mg d.name=some (.ref fa)->
   ∃fd:FuncData,(∀(s:Θ) (u:Γ),BindsTo s fd #[[u],[]] [("_law_script",u)])/\∀base:Ψ,(K w.params).In base->base.Ns θ mg->HG l.prog w (K w.params) mg base bh 9 fa fd ["_law_script"] (kK (K w.params))):
  W.WalkO q loose XP YP l.row.toRowW d [] (fun f vs=>PySem.call f vs):=
 L2.Al (n:=63) (k:=9) (x:="_law_script") (CX:=fun _=>bh) (sp:=fun w=>kK (K w.params)) hn (by decide) hdf #[rfl,by decide,by decide] hY F (fun _ _ a ns hl _ hS=>#[a,ns,rfl,hS,hl,fun _=>rfl]) fun _ _ _ _ _ z=>z
end Lw
structure PySem.W.Fast:Prop where(tw6021004625796879713 tw15044389412126805114 tw6031858578580566593 tw13635189594969915999 tw4869060700784714092 tw15108799748466570255 tw1709920898162153499 tw4250796178834912039 tw8705232891449710897 tw8883985896316100145 tw15090629791853242016 tw3403111583820011123 tw4239894442234436176 tw9453479210842282314 tw2970645069090517496 tw3424142778525953379 tw4078366246768891289 tw8120608932402612987 tw4484497691184575824 tw4934860600462262405 tw1250473208719735201 tw11976283236762717834 tw8839457488039743116 tw12357023400634576710 tw9584711692546249124 tw5759004536597936710 tw13641739983836900547 tw7436096180996338791 tw14132355575354143726 tw14245470391568956291 tw15387520892261791874 tw15176004588052448545 tw8114924490962514669 tw9433149881398103802 tw14775799368946563537 tw8946950412181794498 tw16110768089018230298 tw16346375777029379881 tw6349537555855153330 tw16068680383804002260 tw3448671477480097124 tw4845486590584311114 tw11476806730055672558 tw6513001589591958535 tw9280824020439571732 tw3883488113453015094 tw9492582913677206551 tw14925639944887526525 tw16455391479062437118 tw8614787205076280024 tw13859530139203659943 tw9001341642884759135 tw15127391649466826940 tw11874726276492081746 tw10523300288021954537 tw13925064783254814069 tw4706093900439563195 tw11778284995761072620 tw18273965787488277650 tw10198312534760633455 tw15107232710700288739 tw14190533969486401565 tw11515411724338143390 tw10821102795446941969 tw8341322058731183620 tw17287403156879828696 tw1757960618175293430 tw12782682090598455625 tw15925619488145496098 tw8883627930244966991 tw15527987807448547091 tw12819252456272935057 tw5903362436326671838 tw10430174070411123411 tw5284434633515596950 tw4448670383574899776 tw12645472733904638877 tw14859978672509397276 tw2552820400055594106 tw13351694316888014919 tw15197635488392569283 tw4047625769842033182 tw12714918670857423198 tw5829363478076548534 tw17811880086508001794 tw11661117898069835848 tw12962070457658433568 tw14632763377991527449 tw1298972831455100538 tw10705968809779519415 tw16829300142499958238 tw15364878266124449691 tw4372486978952043011 tw2099414229609554644 tw16583065647515984871 tw11563256055817486168 tw5488311289506191329 tw191609265314386607 tw7538384193141401763 tw7849667529934899276 tw11348319358168872884 tw5165331764074635497 tw6428219654551287143 tw13818696906947474415 tw5221310541830080669 tw3827435011054760216 tw1849423847181502781 tw10748424629284806184 tw9708951321867012806 tw8777708222135947240 tw13430344161399224081 tw970645691507405819 tw14183068596486077725 tw8968017949423078402 tw1891801393583457811 tw1155177853093961030 tw2562889456477865763 tw3266738457665088555 tw1126936574044939615 tw9680585360427273408 tw7290752213691890619 tw2723954461953344776 tw2011881022865120839 tw17958405352660004009 tw11836154029254483190 tw2845966035423368105 tw834590190625307260 tw25864059917169259 tw12497334848393633904 tw3603329968368312198 tw3743957773989564898 tw3699427564256736114 tw6565369061175556808 tw17547024647334669880 tw12020942172358650004 tw17797465883080621182 tw9333156304130299679 tw139567114177273615 tw12419973378805307122 tw7838042754916956901 tw16314949446858847895 tw9347263302960651736 tw7125963891284689306 tw10166267435518969380 tw6258632867208065252 tw16157956154773975642 tw15450392606650487294 tw4843103451316146836 tw3706734742101431978 tw1785839435820327316:True)
open PySem PySem.W PyProof.Rows
set_option maxRecDepth 100000 in
set_option maxHeartbeats 0 in
theorem PySem.Challenge.cw_rollcode_k65_whole_rows_that_tell_holds : PySem.Challenge.rw_rollcode_k65_whole_rows_that_tell.Holds := by
 w_on;o_law;k_head;(case hw=>w_witness2)
 k_fill
 refine Lw.vH (l:=PySem.Challenge.rw_rollcode_k65_whole_rows_that_tell) rfl rfl (fun w h Y=>PySem.W.kIn_of Y) ?F
 case F=>
  intro w mg fa h KX G hmg;refine' Lw.CG KX G hmg ?aCD ?pgD ?hdD ?poD ?saD ?mkD ?kcD ?Fr ?pi ?Fz ?Go ?Fs ?Fa ?Fq ?Gr ?A0 ?A1 ?A2 ?A3 ?A4 ?A5 ?A6 ?A7 ?A8 ?A9 ?A10 ?A11 ?A12 ?A13 ?A14 ?A15 ?A16 ?A17 ?A18 ?A19 ?A20 ?A21 ?A22 ?A23 ?A24 ?A25 ?A26 ?A27 ?A28 ?A29 ?A30 ?A31 ?A32 ?A33 ?A34 ?A35 ?A36 ?A37 ?A38 ?A39 ?A40 ?A41 ?A42 ?A43 ?A44 ?A45 ?A46 ?A47 ?A48 ?A49 ?A50 ?a51 ?l51 ?c51 ?k51 ?yg0 ?yg1 ?yg2 ?yg3 ?yg4 ?z0 ?z1 ?z2 ?z3 ?z4 ?z5 ?z6 ?z7 ?z8 ?z9 ?z10 ?z11 ?z12 ?z13 ?z14 ?z15 ?z16 ?z17 ?z18 ?z19 ?z20
  (case aCD|pgD|hdD|poD|saD|mkD|kcD|Fr|pi|Fz|Go|Fs|Fa|Fq|Gr=>k_is)
  (case A0|A1|A2|A3|A4|A5|A6|A7|A8|A9|A10|A11|A12|A13|A14|A15=>refine' L3.yd KX G ?ya ?yl ?yc ?yk;case ya|yl|yc|yk=>k_is)
  (case A16|A17|A18|A19|A20|A21|A22|A23|A24|A25|A26|A27|A28|A29|A30=>refine' L3.CS ?ya ?yi ?yl ?yc ?yk;case ya|yi|yl|yc|yk=>k_is)
  (case A31|A32|A33|A34|A35|A36|A37|A38|A39|A40|A41|A42|A43|A44|A45|A46|A47|A48|A49|A50=>refine' L3.yd KX G ?ya ?yl ?yc ?yk;case ya|yl|yc|yk=>k_is)
  (case a51|l51|c51|k51|yg0|yg1|yg2|yg3|yg4|z0|z1|z2|z3|z4|z5|z6|z7|z8|z9|z10|z11|z12|z13|z14|z15|z16|z17|z18|z19|z20=>k_is)