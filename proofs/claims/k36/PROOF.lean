import PyProof.Rows.All
import Wide.All
import OpenK.AllK
import Wide.FinOn
import Lean
import PyProof.EqAt
import PyProof.EqKinds
import PyProof.TupleCall
import PySem.Challenge.RW_rollcode_k36_brought_together
import PyProof.StationsW
import PyProof.ExcClass2
import OpenK.KOwn
import PyProof.ExcBaseAll.ValueError
import PyProof.RulesAs
import PyProof.NsDelKeeps
import PyProof.Rows.Catch
import KE.KIsAll
import PyProof.ExcArgsOwn
import PyProof.Rows.CatchOwn
import PyProof.ExcAttrAll.ValueError
import PyProof.AttrMissHeap
import PyProof.Rows.SetFrom
import KE.KDictOf
import PyProof.DictWalks
import PyProof.Rows.DictUnroll
import PyProof.ExcInit
import PyProof.InstStoreFacts
import PyProof.FString
import OpenK.KCls
import PyProof.ListMulRoad
import PyProof.FactsAll.tuple_2
import PyProof.FactsAll.set
import PyProof.CollectWalk
import KE.KDictList
import PyProof.FactsAll.set_1
import PyProof.FactsAll.set_2
import PyProof.SetNew
import PyProof.MeetsSeq2
set_option Elab.async false
set_option maxRecDepth 100000
set_option maxHeartbeats 4000000
set_option linter.unusedVariables false
set_option linter.all false
open PySem.W (Frag)
namespace L0
abbrev Ja:=@PySem.wpAny_bind
abbrev Jb:=@PySem.wpAny_pure
abbrev Jc:=@if_neg
abbrev Jd:=@if_pos
abbrev Je:=@List.length_map
abbrev Jf:=@Nat.le_refl
abbrev Jg:=@List.mem_singleton
abbrev Jh:=@PySem.Heap.lt_size
abbrev Ji:=@PySem.Heap.get?_push_of_some
abbrev Jj:=@List.mem_cons
abbrev Jk:=@decide_eq_true
abbrev Jl:=@List.getElem?_eq_getElem
abbrev Jm:=@Nat.ne_of_lt
abbrev Jn:=@PySem.Heap.get?_push_size
abbrev Jo:=@List.getElem?_map
abbrev Jp:=@List.not_mem_nil
abbrev Jq:=@or_false
abbrev Jr:=@decide_eq_false
abbrev Js:=@List.getElem?_eq_some_iff
abbrev Jt:=@List.size_toArray
abbrev Ju:=@PyProof.Rows.boot_isinstance
abbrev Jv:=@Option.some.inj
abbrev Jw:=@List.mem_map
abbrev Jx:=@List.length_append
abbrev Jy:=@of_decide_eq_true
abbrev Jz:=@PySem.sizeLine_eq
abbrev JA:=@Nat.le_trans
abbrev JB:=@Nat.lt_of_lt_of_le
abbrev JC:=@Nat.zero_le
abbrev JD:=@PyProof.Rows.boot_tuple
abbrev JE:=@List.mem_cons_self
abbrev JF:=@List.getD_eq_getElem?_getD
abbrev JG:=@PySem.wpAny_mono
abbrev JH:=@List.map_append
abbrev JI:=@PySem.PassesOwn.never
abbrev JJ:=@List.mem_cons_of_mem
abbrev JK:=@Bool.false_ne_true
abbrev JL:=@PySem.wpAny_field
abbrev JM:=@PySem.W.mg_none_of
abbrev JN:=@if_false
abbrev JO:=@List.mem_append
abbrev JP:=@congrArg
abbrev JQ:=@Nat.ne_of_gt
abbrev JR:=@PySem.Heap.size_push
abbrev JS:=@List.mem_of_getElem?
abbrev JT:=@PySem.wpAny_call_entry
abbrev JU:=@Nat.lt_irrefl
abbrev JV:=@PySem.wpAny_holding
abbrev JW:=@List.map_cons
abbrev JX:=@List.getElem?_append_right
abbrev JY:=@PySem.boot_len
abbrev JZ:=@PySem.W.kia_one
abbrev J0:=@List.getElem?_append_left
abbrev J1:=@Array.length_toList
abbrev J2:=@List.mem_append_right
abbrev J3:=@PySem.wpAny_newObj_type
abbrev J4:=@Bool.and_eq_true
abbrev J5:=@List.take_add_one
abbrev BL:=@Bool.false_and
abbrev BM:=@List.length_cons
abbrev BN:=@List.nodup_cons
abbrev BO:=@if_true
abbrev BP:=@Option.map_eq_some_iff
abbrev BQ:=@PySem.F.plainAttrs_list
abbrev BR:=@PyProof.Rows.boot_list
abbrev BS:=@List.length_take
abbrev BU:=@List.lookup_cons
abbrev BV:=@PySem.wpAny_of_eq
abbrev BW:=@PySem.wpAny_rule
abbrev BX:=@Nat.lt_succ_self
abbrev BY:=@PySem.wpAny_setField
abbrev BZ:=@PySem.Heap.SameBut.update
abbrev B0:=@List.take_length
abbrev B1:=@beq_self_eq_true
abbrev B2:=@beq_iff_eq
abbrev B3:=@Int.toNat_natCast
abbrev B4:=@PySem.wpAny_attempt
abbrev B5:=@PyProof.Rows.boot_int
abbrev B6:=@List.mem_range
abbrev B7:=@PySem.wpAny_truthy_bool
abbrev B8:=@List.append_assoc
abbrev B9:=@Nat.lt_succ_of_lt
abbrev Ca:=@List.getElem_mem
abbrev Cb:=@PySem.wpAny_seqItems
abbrev Cc:=@Nat.le_add_right
abbrev Cd:=@PySem.codeAny_builtin
abbrev Ce:=@Int.emod_nonneg
abbrev Cf:=@Int.emod_lt_of_pos
abbrev Cg:=@Bool.true_and
abbrev Ci:=@PySem.F.slot_list_append
abbrev Cj:=@PySem.F.type_list_append
abbrev Ck:=@List.mem_append_left
abbrev Cm:=@PySem.wpAny_pyIter_tuple
abbrev Cn:=@PyProof.Rows.callWith_type1
abbrev Co:=@Nat.le_succ
abbrev Cp:=@PySem.Heap.get?_update_self
abbrev Cr:=@List.length_singleton
abbrev Cs:=@PySem.wpAny_isInstance
abbrev Ct:=@PySem.F.slot_zip_next
abbrev Cu:=@PySem.isSubtype_type
abbrev Cv:=@List.map_map
abbrev Cy:=@PySem.W.mg_of
abbrev Cz:=@Int.le_refl
abbrev CA:=@beq_eq_false_iff_ne
abbrev CB:=@PySem.wpAny_standAt
abbrev CC:=@PySem.mem_of_lookup
abbrev CD:=@List.length_set
abbrev CF:=@PySem.Obj.data_mapFields
abbrev CG:=@PySem.wpAny_specialOf
abbrev CH:=@List.find?_cons
abbrev CI:=@List.nodup_nil
abbrev CJ:=@PyProof.Rows.boot_bool
abbrev CK:=@PyProof.Rows.boot_str
abbrev CL:=@PyProof.Rows.boot_max
abbrev CM:=@List.filterMap_cons
abbrev CN:=@PySem.wpAny_pyIter_list
abbrev CO:=@Bool.eq_iff_iff
abbrev CP:=@List.append_nil
abbrev CQ:=@PySem.codeAny_mono
abbrev CS:=@PySem.Heap.get?_update_other
abbrev CT:=@PySem.call_meets
abbrev CU:=@Option.getD_some
abbrev CV:=@PySem.wpAny_loadPart'
abbrev CW:=@List.any_cons
abbrev CY:=@PySem.W.kia_tup
abbrev CZ:=@PySem.typeLookup_type
abbrev C1:=@PySem.builtinLookup_eq_fast
abbrev C2:=@PySem.Around.in1_units
abbrev C3:=@beq_false_of_ne
abbrev C4:=@PySem.F.slot_dict_get
abbrev C5:=@Nat.le_of_lt
abbrev C6:=@PySem.wpAny_passesOwn
abbrev C7:=@PySem.wpAny_typeOf
abbrev C8:=@List.replicate_succ
abbrev C9:=@List.map_nil
abbrev Dc:=@Nat.le_of_not_lt
abbrev De:=@PySem.wpAny_pyIter_enum
abbrev Dg:=@List.all_eq_true
abbrev Dh:=@decide_eq_true_iff
abbrev Di:=@PySem.isSubtype_stop
abbrev Dj:=@PySem.wpAny_setField_rec
abbrev Dk:=@List.map_congr_left
abbrev Dl:=@PySem.tupleKind_room_in1
abbrev Dm:=@List.getElem?_append
abbrev Dn:=@List.getElem?_set_self
abbrev Do:=@List.getElem?_set_ne
abbrev Dp:=@PySem.wpAny_Call_Name_kw
abbrev Dq:=@PyProof.Rows.slot_tuple_getitem
abbrev Ds:=@PySem.Calls.callWith_builtin
abbrev Dt:=@List.flatten_cons
abbrev Du:=@PySem.F.slot_tuple_iterator_next
abbrev Dv:=@PySem.Obj.isFreed_of_fields
abbrev Dw:=@PySem.F.entry_zip_next
abbrev Dx:=@PySem.F.args_zip_next_1
abbrev Dy:=@PySem.wpAny_pyIter_zip
abbrev Dz:=@List.nodup_append
abbrev DA:=@PyProof.Rows.boot_all
abbrev DB:=@PySem.wpAny_pyIter_rangeiter
abbrev DC:=@Option.isSome_iff_exists
abbrev DD:=@List.length_replicate
abbrev DE:=@PySem.F.slot_tuple_add
abbrev DF:=@PySem.F.entry_tuple_add
abbrev DG:=@PySem.F.args_tuple_add_2
abbrev DH:=@PySem.Calls.evalArgs_plain
abbrev DI:=@List.getElem?_eq_none
abbrev DJ:=@Bool.eq_false_iff
end L0
open L0
namespace L2
open PySem PySem.Spec PyProof.Rows
abbrev qL:=Sum Int Str
def cG:qL->Value->Bool
 | .inl k,v=>Value.isInt k v
 | .inr x,v=>Value.isStrOf x v
def BC(w:World):qL->Int
 | .inl k=>hashInt k
 | .inr x=>hashStr w x
theorem zC:∀{k:qL} {v:Value},cG k v=true->(∃i t,k=Sum.inl i/\v=Value.int i t)\/(∃x t,k=Sum.inr x/\v=Value.str x t)
 | .inl i,v,h=>by
  obtain⟨t,e⟩:=Value.isInt_shape (k:=i) (v:=v) h
  exact .inl ⟨i,t,rfl,e⟩
 | .inr x,v,h=>by
  obtain⟨t,e⟩:=Value.isStrOf_shape (x:=x) (v:=v) h
  exact .inr ⟨x,t,rfl,e⟩
theorem pV(i:Int)(t:Tok):cG (.inl i) (.int i t)=true:=by simp [cG,Value.isInt]
theorem rV(x:Str)(t:Tok):cG (.inr x) (.str x t)=true:=by simp [cG,Value.isStrOf]
theorem xt(a b:Int):decide ((Sum.inl a:qL)=Sum.inl b)=(a==b):=by
 by_cases e:a=b
 ·subst e;simp
 ·have h:¬(Sum.inl a:qL)=Sum.inl b:=fun q=>e (Sum.inl.inj q)
  rw[Jr h]
  exact(CA.mpr e).symm
theorem Ad(a b:Str):decide ((Sum.inr a:qL)=Sum.inr b)=decide (a=b):=by
 by_cases e:a=b
 ·subst e;simp
 ·have h:¬(Sum.inr a:qL)=Sum.inr b:=fun q=>e (Sum.inr.inj q)
  rw[Jr h,Jr e]
theorem yw(a:Int)(b:Str):decide ((Sum.inl a:qL)=Sum.inr b)=false:=Jr (fun q=>nomatch q)
theorem Ax(a:Str)(b:Int):decide ((Sum.inr a:qL)=Sum.inl b)=false:=Jr (fun q=>nomatch q)
def qU(prog:Program)(w:World):PySem.KeyKind prog w qL where
 is:=cG
 hash:=BC w
 inj:=fun v a b ha hb=>by
  rcases zC ha with⟨i,t,rfl,rfl⟩|⟨x,t,rfl,rfl⟩
  ·rcases zC hb with⟨j,u,rfl,e⟩|⟨y,u,rfl,e⟩
   ·injection e with e1 _;rw[e1]
   ·exact nomatch e
  ·rcases zC hb with⟨j,u,rfl,e⟩|⟨y,u,rfl,e⟩
   ·exact nomatch e
   ·injection e with e1 _;rw[e1]
 byValue:=fun k v h=>by
  rcases zC h with⟨i,t,rfl,rfl⟩|⟨x,t,rfl,rfl⟩<;>rfl
 pyHash:=fun hv h=>by
  rcases zC hv with⟨i,t,rfl,rfl⟩|⟨x,t,rfl,rfl⟩
  ·exact wpAny_pyHash_int h
  ·exact wpAny_pyHash_str h
 eqBool:=fun hu hv h=>by
  rcases zC hu with⟨i,t,rfl,rfl⟩|⟨x,t,rfl,rfl⟩
  ·rcases zC hv with⟨j,u,rfl,rfl⟩|⟨y,u,rfl,rfl⟩
   ·rw[xt]at h;exact wpAny_eqBool_int h
   ·rw[yw]at h;exact SeqAt.EqAt.int_str i t y u _ _ _ _ h
  ·rcases zC hv with⟨j,u,rfl,rfl⟩|⟨y,u,rfl,rfl⟩
   ·rw[Ax]at h;exact SeqAt.EqAt.str_int x t j u _ _ _ _ h
   ·rw[Ad]at h;exact wpAny_eqBool_str h
 «strs»:=fun k x t v h=>by
  rcases zC h with⟨i,u,rfl,e⟩|⟨y,u,rfl,e⟩
  ·exact nomatch e
  ·injection e with e1 _
   subst e1;cases v<;>rfl
theorem lf(prog:Program)(w:World)(i:Int)(t:Tok):(qU prog w).is (.inl i) (.int i t)=true:=pV i t
theorem kX(prog:Program)(w:World)(x:Str)(t:Tok):(qU prog w).is (.inr x) (.str x t)=true:=rV x t
inductive V where
 |non|bl (b:Bool)|int (i:Int)|str (x:Str)|byt (b:Array UInt8)|flt (b:UInt64)|ref (a:Addr)|ty (n:String)
 deriving DecidableEq
def RelV:V->Value->Prop
 | .non,u=>u=Value.none
 | .bl b,u=>u=Value.bool b
 | .int i,u=>∃t,u=Value.int i t
 | .str x,u=>∃t,u=Value.str x t
 | .byt b,u=>∃t,u=Value.bytes b t
 | .flt b,u=>∃t,u=Value.float b t
 | .ref a,u=>u=Value.ref a
 | .ty n,u=>u=Value.type n
abbrev Vals:List V->List Value->Prop:=Paired RelV
theorem Vals.length{xs:List V}{us:List Value}(r:Vals xs us):xs.length=us.length:=Paired.length r
theorem Vals.get:∀{xs:List V} {us:List Value} {i:Nat} {x:V},Vals xs us->xs[i]? =some x->∃u,us[i]? =some u/\RelV x u
 |_,_,_,_,.nil,e=>by simp at e
 |_,_,0,_,.cons r _,e=>by simp at e;subst e;exact⟨_,rfl,r⟩
 |_,_,i+1,x,.cons _ t,e=>by
  obtain⟨u,h1,h2⟩:=Vals.get (i:=i) (x:=x) t (by simpa using e)
  exact⟨u,by simpa using h1,h2⟩
theorem Vals.set{x:V}{u:Value}(r:RelV x u):∀{xs:List V} {us:List Value} (i:Nat),Vals xs us->Vals (xs.set i x) (us.set i u)
 |_,_,_,.nil=> .nil
 |_,_,0,.cons _ t=> .cons r t
 |_,_,i+1,.cons q t=> .cons q (Vals.set r i t)
theorem Vals.append:∀{xs ys:List V} {us ws:List Value},Vals xs us->Vals ys ws->Vals (xs++ys) (us++ws)
 |_,_,_,_,.nil,s=>s
 |_,_,_,_,.cons r t,s=> .cons r (Vals.append t s)
theorem Vals.take:∀{xs:List V} {us:List Value} (n:Nat),Vals xs us->Vals (xs.take n) (us.take n)
 |_,_,0,_=> .nil
 |_,_,_+1,.nil=> .nil
 |_,_,n+1,.cons r t=> .cons r (Vals.take n t)
theorem Vals.drop:∀{xs:List V} {us:List Value} (n:Nat),Vals xs us->Vals (xs.drop n) (us.drop n)
 |_,_,0,r=>r
 |_,_,_+1,.nil=> .nil
 |_,_,n+1,.cons _ t=>Vals.drop n t
def RelO:Option V->Option Value->Prop
 |some v,some u=>RelV v u
 |none,none=>True
 |_,_=>False
def KV{κ:Type}:List (κ×V)->List (κ×Value)->Prop:=Paired fun(p:κ×V) (q:κ×Value)=>p.1=q.1/\RelV p.2 q.2
def kV:qL->V
 | .inl i=> .int i
 | .inr x=> .str x
inductive HO where
 |lst (xs:List V)
 |tup (xs:List V)
 |dK (kvs:List (qL×V))|dT (kvs:List (List qL×V))
 |set (S:Int->Bool) (n:Nat)
 |ins (C dx:Addr) (fs:List (Str×V))
 |own (x:Addr)
 |xd (fs:List (Str×V))
 |met (f x:Addr)
 |rng (lo hi:Int)
 |frz (o:Obj) (u:HO)
 |tbl (ps:Array Value)
 |ext (φ:Heap->Prop)
abbrev Hp:=Addr->Option HO
def upd(H:Hp)(a:Addr)(o:HO):Hp:=fun b=>if b=a then some o else H b
theorem qd{H:Hp}{a:Addr}{o:HO}:upd H a o a=some o:=by unfold upd;rw[Jd rfl]
theorem qp{H:Hp}{a b:Addr}{o:HO}(h:b≠a):upd H a o b=H b:=by unfold upd;rw[Jc h]
theorem Qf{H:Hp}{a b:Addr}{o u:HO}(h:H a=some o)(h':H b=some u)(d:o≠u):a≠b:=by
 intro e;subst e;rw[h]at h';exact d (Jv h')
theorem qi{H:Hp}{a b:Addr}{o:HO}(h:H a=some o)(h':H b=none):a≠b:=by
 intro e;subst e;rw[h]at h';cases h'
section
variable(P:Program)(w:World)
def ObjOk(H:Hp)(h:Heap)(a:Addr):HO->Prop
 | .lst xs=>xs.length<=sizeLine/\∃(its:List Value) (n:Nat),Vals xs its/\h.get? a=some {cls:= .type "list",data:= .seq its.toArray n}
 | .tup xs=>xs.length<=sizeLine/\∃its:List Value,Vals xs its/\IsTup h a its.toArray
 | .dK kvs=>kvs.length<=sizeLine/\(a==sysModules)=false/\∃vs,KV kvs vs/\h.DictOf (qU P w) a vs
 | .dT kvs=>kvs.length<=sizeLine/\(a==sysModules)=false/\∃xs:List (List qL×Addr×Value),
   Paired (fun(p:List qL×V) (q:List qL×Addr×Value)=>p.1=q.1/\H q.2.1=some (.tup (p.1.map kV))/\RelV p.2 q.2.2) kvs xs/\
   ∃o es ep,h.get? a=some o/\o.ExactDict/\o.data= .dict es ep/\es.toList=xs.map (entryOfKey (tupleKind (qU P w)))/\(xs.map (·.1)).Nodup
 | .set S n=>h.SetOf (intKind P w) a S n
 | .ins C dx fs=>H dx=some (.own a)/\fs.length<=1000/\dx≠a/\h.get? a=some (PySem.W.instObj C dx)/\
   ∃mA,h.Ns1 dx mA/\(∀f,RelO (fs.lookup f) (mA f))/\PySem.Within mA (fs.map (·.1))
 | .own _=>∃o,h.get? a=some o
 | .xd fs=>∃mA,h.Ns1 a mA/\∀f,RelO (fs.lookup f) (mA f)
 | .rng lo hi=>∃t u v,h.get? a=some {cls:= .type "range",data:= .fields #[.int lo t,.int hi u,.int 1 v]}
 | .frz o u=>h.get? a=some o/\ObjOk H h a u
 | .tbl ps=>h.get? a=some {cls:= .none,data:= .fields ps}
 | .met f x=>h.get? a=some (PySem.W.methodObj (.ref f) (.ref x))
 | .ext φ=>φ h/\(∃o,h.get? a=some o)/\∀h1 h2:Heap,φ h1->(∀o,h1.get? a=some o->h2.get? a=some o)->φ h2
def HOk(H:Hp)(h:Heap):Prop:=∀a o,H a=some o->ObjOk P w H h a o
end
section
variable{P:Program}{w:World}{H H':Hp}{h h':Heap}{a:Addr}{o:HO}
theorem ObjOk.lt(x:ObjOk P w H h a o):a<h.objs.size:=by
 cases o with
 |lst xs=>obtain⟨_,_,_,_,e⟩:=x;exact Jh e
 |tup xs=>obtain⟨_,_,_,p⟩:=x;exact p.lt
 |dK kvs=>obtain⟨_,_,_,_,o,_,_,e,_⟩:=x;exact Jh e
 |dT kvs=>obtain⟨_,_,_,_,o,_,_,e,_⟩:=x;exact Jh e
 |set S n=>obtain⟨o,_,_,_,e,_⟩:=x;exact Jh e
 |ins C dx fs=>obtain⟨_,_,_,e,_⟩:=x;exact Jh e
 |own y=>obtain⟨_,e⟩:=x;exact Jh e
 |xd fs=>obtain⟨_,⟨_,_,_,e,_⟩,_⟩:=x;exact Jh e
 |rng lo hi=>obtain⟨_,_,_,e⟩:=x;exact Jh e
 |frz ob u=>obtain⟨e,_⟩:=x;exact Jh e
 |tbl ps=>exact Jh (show h.get? a=some _ from x)
 |met f y=>exact Jh (show h.get? a=some _ from x)
 |ext φ=>obtain⟨_,⟨_,e⟩,_⟩:=x;exact Jh e
theorem Paired.mapP{α β:Type}{F G:α->β->Prop}:∀{l₁:List α} {l₂:List β},Paired F l₁ l₂->(∀a b,F a b->G a b)->Paired G l₁ l₂
 |_,_,.nil,_=> .nil
 |_,_,.cons r t,f=> .cons (f _ _ r) (Paired.mapP t f)
theorem ObjOk.stay(x:ObjOk P w H h a o)(k:∀b u,(b=a\/H b=some (.own a))->h.get? b=some u->h'.get? b=some u)
  (ho:∀b,H b=some (.own a)->H' b=some (.own a))(ht:∀b xs,H b=some (.tup xs)->H' b=some (.tup xs)):ObjOk P w H' h' a o:=by
 induction o with
 |lst xs=>obtain⟨z,its,n,r,e⟩:=x;exact⟨z,its,n,r,k _ _ (.inl rfl) e⟩
 |tup xs=>obtain⟨z,its,r,ob,e,c⟩:=x;exact⟨z,its,r,ob,k _ _ (.inl rfl) e,c⟩
 |dK kvs=>obtain⟨z,y,vs,r,ob,es,ep,e,c⟩:=x;exact⟨z,y,vs,r,ob,es,ep,k _ _ (.inl rfl) e,c⟩
 |dT kvs=>
  obtain⟨z,y,xs,r,ob,es,ep,e,c⟩:=x
  exact⟨z,y,xs,Paired.mapP r fun p q z=>⟨z.1,ht _ _ z.2.1,z.2.2⟩,ob,es,ep,k _ _ (.inl rfl) e,c⟩
 |set S n=>obtain⟨ob,es,ep,t,e,c⟩:=x;exact⟨ob,es,ep,t,k _ _ (.inl rfl) e,c⟩
 |ins C dx fs=>
  obtain⟨d,z,ne,e,mA,⟨od,es,ep,e2,c⟩,r⟩:=x
  exact⟨ho _ d,z,ne,k _ _ (.inl rfl) e,mA,⟨od,es,ep,k _ _ (.inr d) e2,c⟩,r⟩
 |own y=>obtain⟨ob,e⟩:=x;exact⟨ob,k _ _ (.inl rfl) e⟩
 |xd fs=>obtain⟨mA,⟨od,es,ep,e,c⟩,r⟩:=x;exact⟨mA,⟨od,es,ep,k _ _ (.inl rfl) e,c⟩,r⟩
 |rng lo hi=>obtain⟨t,u,v,e⟩:=x;exact⟨t,u,v,k _ _ (.inl rfl) e⟩
 |frz ob u ih=>obtain⟨e,q⟩:=x;exact⟨k _ _ (.inl rfl) e,ih q⟩
 |tbl ps=>
  have e:h.get? a=some {cls:= .none,data:= .fields ps}:=x
  show h'.get? a=some {cls:= .none,data:= .fields ps}
  exact k a _ (.inl rfl) e
 |met f y=>
  have e:h.get? a=some (W.methodObj (.ref f) (.ref y)):=x
  show h'.get? a=some (W.methodObj (.ref f) (.ref y))
  exact k a _ (.inl rfl) e
 |ext φ=>obtain⟨p,⟨o,e⟩,st⟩:=x;exact⟨st _ _ p fun o q=>k _ _ (.inl rfl) q,⟨o,k _ _ (.inl rfl) e⟩,st⟩
theorem HOk.lt(x:HOk P w H h)(e:H a=some o):a<h.objs.size:=(x a o e).lt
theorem HOk.fresh(x:HOk P w H h)(e:h.objs.size<=a):H a=none:=by
 cases q:H a with
 |none=>rfl
 |some u=>exact absurd (JB (x.lt q) e) (JU _)
theorem HOk.kept(x:HOk P w H h)(k:∀b u,h.get? b=some u->h'.get? b=some u):HOk P w H h':=fun a o e=>
 (x a o e).stay (fun b u _ q=>k b u q) (fun _ q=>q) fun _ _ q=>q
theorem HOk.laid(x:HOk P w H h)(k:∀b u,h.get? b=some u->h'.get? b=some u)(hp:h.objs.size<=a)(new:ObjOk P w (upd H a o) h' a o):HOk P w (upd H a o) h':=fun b u e=>by
 have hn:=x.fresh hp
 by_cases hb:b=a
 ·subst hb;rw[qd]at e;cases e;exact new
 ·rw[qp hb]at e
  exact(x b u e).stay (fun c v _ q=>k c v q) (fun c q=>by rw[qp (qi q hn)];exact q) fun c xs q=>by rw[qp (qi q hn)];exact q
end
def Rd(H:Hp)(a:Addr)(u:HO):Prop:=H a=some u\/∃o,H a=some (.frz o u)
theorem Rd.of{H:Hp}{a:Addr}{u:HO}(h:H a=some u):Rd H a u:= .inl h
theorem Rd.ok{P:Program}{w:World}{H:Hp}{h:Heap}{a:Addr}{u:HO}(r:Rd H a u)(x:HOk P w H h):ObjOk P w H h a u:=by
 rcases r with r|⟨o,r⟩
 ·exact x a u r
 ·obtain⟨_,q⟩:=x a _ r
  exact q
def pj:Option HO->Prop
 |some (.lst _)=>True
 |some (.dK _)=>True
 |some (.dT _)=>True
 |some (.set _ _)=>True
 |some (.ins _ _ _)=>True
 |some (.ext _)=>True
 |_=>False
section
variable{P:Program}{w:World}{H:Hp}{h h':Heap}{x e:Addr}{o':HO}
theorem HOk.write(ok:HOk P w H h)(mu:pj (H x))(he:e=x\/H e=some (.own x))(k:∀b u,b≠e->h.get? b=some u->h'.get? b=some u)(heo:∃u,h'.get? e=some u)
  (new:ObjOk P w (upd H x o') h' x o'):HOk P w (upd H x o') h':=fun b u q=>by
 have nown:∀c y,H c=some (.own y)->c≠x:=fun c y r z=>by subst z;rw[r]at mu;exact mu
 have ntup:∀c xs,H c=some (.tup xs)->c≠x:=fun c xs r z=>by subst z;rw[r]at mu;exact mu
 by_cases hb:b=x
 ·subst hb;rw[qd]at q;cases q;exact new
 ·rw[qp hb]at q
  by_cases hbe:b=e
  ·have q':H b=some (.own x):=by
    rcases he with z|z
    ·exact absurd (hbe.trans z) hb
    ·rw[hbe];exact z
   rw[q]at q';cases q'
   obtain⟨v,hv⟩:=heo
   exact⟨v,by rw[hbe];exact hv⟩
  ·refine(ok b u q).stay (fun c v hc r=>k c v ?_ r) (fun c r=>by rw[qp (nown c b r)];exact r) fun c xs r=>by rw[qp (ntup c xs r)];exact r
   rcases hc with rfl|hc
   ·exact hbe
   ·rintro rfl
    rcases he with z|z
    ·exact nown c b hc z
    ·rw[hc]at z;cases z;exact hb rfl
end
structure Un(fs ex:List Addr)(H H':Hp)(h h':Heap):Prop where
 keep:∀b o,h.get? b=some o->H b=none->b∉fs->b∉ex->h'.get? b=some o
 slot:∀b o,h.get? b=some o->H b=none->b∈fs->b∉ex->∃sl,h'.get? b=some {o with slots:=sl}
 free:∀b o,h.get? b=some o->H b=none->b∉ex->H' b=none
 there:∀b o,h.get? b=some o->b∉ex->∃o',h'.get? b=some o'
 tups:∀b xs,H b=some (.tup xs)->H' b=some (.tup xs)
 frzs:∀b o u,H b=some (.frz o u)->H' b=some (.frz o u)
 tbls:∀b ps,H b=some (.tbl ps)->∃more,H' b=some (.tbl (ps++more))
section
variable{fs fs' ex ex':List Addr}{H H1 H2:Hp}{h h1 h2 h':Heap}{a x e:Addr}{o:HO}
theorem Un.any(u:Un fs ex H H1 h h1){b:Addr}{ob:Obj}(q:h.get? b=some ob)(n:H b=none)(hx:b∉ex):∃sl,h1.get? b=some {ob with slots:=sl}:=by
 by_cases hb:b∈fs
 ·exact u.slot b ob q n hb hx
 ·exact⟨ob.slots,u.keep b ob q n hb hx⟩
theorem Un.kept(k:∀b u,h.get? b=some u->h'.get? b=some u):Un fs ex H H h h':=
 ⟨fun b ob q _ _ _=>k b ob q,fun b ob q _ _ _=>⟨ob.slots,k b ob q⟩,fun _ _ _ n _=>n,fun b ob q _=>⟨ob,k b ob q⟩,fun _ _ q=>q,fun _ _ _ q=>q,fun _ ps q=>⟨#[],by rw[q];simp⟩⟩
theorem Un.refl:Un fs ex H H h h:=Un.kept fun _ _ q=>q
theorem Un.laid(k:∀b u,h.get? b=some u->h'.get? b=some u)(hp:h.objs.size<=a)(hn:H a=none):Un fs ex H (upd H a o) h h' where
 keep:=fun b u q _ _ _=>k b u q
 slot:=fun b u q _ _ _=>⟨u.slots,k b u q⟩
 free:=fun b u q n _=>by rw[qp (Jm (JB (Jh q) hp))];exact n
 there:=fun b u q _=>⟨u,k b u q⟩
 tups:=fun b xs q=>by rw[qp (qi q hn)];exact q
 frzs:=fun b u xs q=>by rw[qp (qi q hn)];exact q
 tbls:=fun b ps q=>⟨#[],by rw[qp (qi q hn),q];simp⟩
theorem Un.write(mu:pj (H x))(he:e=x\/H e=some (.own x))(k:∀b u,b≠e->h.get? b=some u->h'.get? b=some u)(heo:∃u,h'.get? e=some u):Un fs ex H (upd H x o) h h':=by
 have hx:∀b,H b=none->b≠x:=fun b n z=>by subst z;rw[n]at mu;exact mu
 have hb:∀b,H b=none->b≠e:=fun b n z=>by
  subst z;rcases he with r|r
  ·exact hx b n r
  ·rw[n]at r;cases r
 have hm:∀b u,H b=some u->¬pj (some u)->b≠x:=fun b u q nm z=>by subst z;rw[q]at mu;exact nm mu
 refine⟨fun b u q n _ _=>k b u (hb b n) q,fun b u q n _ _=>⟨u.slots,k b u (hb b n) q⟩,fun b u q n _=>by rw[qp (hx b n)];exact n,fun b u q _=>?_,
  fun b xs q=>by rw[qp (hm b _ q fun z=>z)];exact q,fun b u xs q=>by rw[qp (hm b _ q fun z=>z)];exact q,fun b ps q=>⟨#[],by rw[qp (hm b _ q fun z=>z),q];simp⟩⟩
 by_cases hbe:b=e
 ·subst hbe;exact heo
 ·exact⟨u,k b u hbe q⟩
end
def vG(h:Heap)(H:Hp):List Addr:=(List.range h.objs.size).filter fun a=>(H a).isSome
def bp(h:Heap)(H:Hp):Heap:=PySem.W.hideAll h (vG h H)
theorem oJ(h:Heap)(H:Hp):(bp h H).objs.size=h.objs.size:=W.hideAll_size _ _
theorem uB{h:Heap}{H:Hp}{b:Addr}{o:Obj}(e:h.get? b=some o)(n:H b=none):(bp h H).get? b=some o:=
 W.hideAll_get _ e fun hm=>by
  have q:(H b).isSome=true:=(List.mem_filter.mp hm).2
  rw[n]at q;simp at q
theorem v7{h:Heap}{H:Hp}{b:Addr}{o:Obj}(e:(bp h H).get? b=some o):h.get? b=some o/\H b=none:=by
 have e':h.get? b=some o:=W.of_hideAll (vG h H) e
 refine⟨e',?_⟩
 cases q:H b with
 |none=>rfl
 |some x=>
  have hm:b∈vG h H:=List.mem_filter.mpr ⟨B6.mpr (Jh e'),by simp [q]⟩
  have z:(bp h H).get? b=none:=W.hideAll_none (vG h H) hm
  rw[z]at e;cases e
structure Mod(K:Frag)(mg:Str->Option Value)(base:Heap):Prop where
 kin:K.In base
 glob:base.Ns mainGlobals mg
 blt:∃mb,base.Ns builtinsNs mb/\∀x:Str,x≠"__name__"->mb x=bootBuiltins x
 nolimit:base.NoLimit
structure Cx where
 prog:Program
 w:World
 K:Frag
 mg:Str->Option Value
 base:Heap
 A:Around
 N:List Str
 s₀:Shared
 H₀:Hp
 env:Env
 outer:List Env
 stack:List Env
 ex:List Addr
 fn:Str->Bool
 calm:Bool
 pn:List (Addr×Obj)
 xe:Value->Shared->Prop
def aG(l:List Env):List Addr:=l.filterMap (·.frame)
abbrev Cx.fs(X:Cx):List Addr:=aG X.outer
def wZ(sc:Scope)(x:Str):Prop:=sc.names.lookup x=some .local\/sc.names.lookup x=some .cell\/sc.names.lookup x=some .free
def e9(sc:Scope)(x:Str):Prop:=sc.names.lookup x=some .local\/sc.names.lookup x=some .cell
def Bv(env:Env)(h:Heap)(m:Str->Option Value)(x:Str)(u:Value):Prop:=
 (env.kindOf x=some .local/\m x=some u)\/((env.kindOf x=some .cell\/env.kindOf x=some .free)/\∃c,env.cells.lookup x=some c/\h.IsCell c (some u))
structure Cx.Ok(X:Cx):Prop where
 mod:Mod X.K X.mg X.base
 kind:X.env.scope.kind= .function
 glob:X.env.globals=mainGlobals
 blt:X.env.builtins=builtinsNs
 above:X.s₀.heap.objs.size<=X.env.locals
 inj:∀x y c,X.env.cells.lookup x=some c->X.env.cells.lookup y=some c->x=y
 has:∀x,(X.env.kindOf x=some .cell\/X.env.kindOf x=some .free)->∃c,X.env.cells.lookup x=some c
 cab:∀x c,X.fn x=true->X.env.cells.lookup x=some c->X.s₀.heap.objs.size<=c
 hd:X.calm=true->X.A.handled=none
 frames:X.A.frames=some X.stack
 stk:X.stack=X.outer\/(X.stack=X.env::X.outer/\X.env.frame=some X.env.locals)
 exf:∀b∈X.ex,b≠X.env.locals/\∀x c,X.env.cells.lookup x=some c->c≠b
 bs:∀b o,X.base.get? b=some o->X.s₀.heap.get? b=some o/\X.H₀ b=none
 bsz:X.base.objs.size<=X.s₀.heap.objs.size
 noex:∀b o,X.base.get? b=some o->b∉X.ex
 exfs:∀b∈X.ex,b∉X.fs
 funs:X.s₀.heap.FunFrames X.base X.outer
 frf:∀b∈X.fs,X.H₀ b=none
structure Inv(X:Cx)(DK:List (Addr×Obj))(σ:List (Option V))(H:Hp)(s:Shared):Prop where
 ok:X.Ok
 os:s.os=X.s₀.os
 bare:AllBare s.gens
 base:Un X.fs X.ex X.H₀ H X.s₀.heap s.heap
 loc:∃m,s.heap.Ns X.env.locals m/\∀(i:Nat) (x:Str) (v:V),X.N[i]? =some x->σ[i]? =some (some v)->wZ X.env.scope x->∃u,RelV v u/\Bv X.env s.heap m x u
 cell:∀x c,X.env.cells.lookup x=some c->∃v,s.heap.IsCell c v
 free:H X.env.locals=none
 freeC:∀x c,X.env.cells.lookup x=some c->H c=none
 pin:∀p∈X.pn++DK,s.heap.get? p.1=some p.2/\H p.1=none/\p.1≠X.env.locals/\p.1∉X.fs/\∀v,p.2.data≠ .cell v
 hok:HOk X.prog X.w H s.heap
 len:σ.length=X.N.length
section
variable{X:Cx}{DK:List (Addr×Obj)}{σ:List (Option V)}{H H':Hp}{s:Shared}{h':Heap}
theorem Cx.Ok.nofr(ok:X.Ok){b:Addr}{o:Obj}(e:X.base.get? b=some o):b∉X.fs:=fun hb=>by
 have:=(ok.funs.mem hb).1
 rw[e]at this;cases this
theorem Inv.bs(I:Inv X DK σ H s):∀b o,X.base.get? b=some o->s.heap.get? b=some o/\H b=none:=fun b o e=>
 ⟨I.base.keep b o (I.ok.bs b o e).1 (I.ok.bs b o e).2 (I.ok.nofr e) (I.ok.noex b o e),I.base.free b o (I.ok.bs b o e).1 (I.ok.bs b o e).2 (I.ok.noex b o e)⟩
theorem Inv.bk(I:Inv X DK σ H s):∀b o,X.base.get? b=some o->s.heap.get? b=some o:=fun b o e=>(I.bs b o e).1
theorem Inv.mod(I:Inv X DK σ H s):Mod X.K X.mg X.base:=I.ok.mod
theorem Inv.kIn(I:Inv X DK σ H s):X.K.In s.heap:=I.ok.mod.kin.keeps I.bk
theorem Inv.lt(I:Inv X DK σ H s):X.env.locals<s.heap.objs.size:=let⟨_,hn,_⟩:=I.loc;hn.lt
theorem Inv.sz(I:Inv X DK σ H s):X.s₀.heap.objs.size<=s.heap.objs.size:=JA I.ok.above (C5 I.lt)
theorem Inv.nofs(I:Inv X DK σ H s){a:Addr}(h:s.heap.objs.size<=a):a∉X.fs:=fun hb=>by
 obtain⟨_,o,ho,_⟩:=I.ok.funs.mem hb;exact absurd (JB (Jh ho) (JA I.sz h)) (JU _)
theorem Inv.cne(I:Inv X DK σ H s):∀x c,X.env.cells.lookup x=some c->c≠X.env.locals:=fun x c e z=>by
 obtain⟨v,o,ho,hd⟩:=I.cell x c e;obtain⟨m,⟨o',es,ep,ho',hd',_⟩,_⟩:=I.loc;rw[z,ho']at ho;cases ho;rw[hd']at hd;cases hd
theorem Inv.funs(I:Inv X DK σ H s):s.heap.FunFrames X.base X.outer:=by
 have all:∀(l:List Env),(∀b∈aG l,b∈X.fs)->X.s₀.heap.FunFrames X.base l->s.heap.FunFrames X.base l:=by
  intro l
  induction l with
  |nil=>intro _ _;trivial
  |cons env r ih=>
   intro hs hl;obtain⟨hk,⟨L,o,hf,hn,ho,hd⟩,hr⟩:=hl;have hL:L∈X.fs:=hs L (by unfold aG;rw[CM,hf];exact JE)
   obtain⟨sl,e⟩:=I.base.slot L o ho (I.ok.frf L hL) hL fun z=>I.ok.exfs L z hL
   exact⟨hk,⟨L,_,hf,hn,e,hd⟩,ih (fun b hb=>hs b (by unfold aG;rw[CM,hf];exact JJ _ hb)) hr⟩
 exact all X.outer (fun _ hb=>hb) I.ok.funs
theorem Inv.stack(I:Inv X DK σ H s):s.heap.FunFrames X.base X.stack:=by
 rcases I.ok.stk with e|⟨e,hf⟩
 ·rw[e];exact I.funs
 ·rw[e]
  obtain⟨m,hn,_⟩:=I.loc;refine .cons (by rw[I.ok.kind];decide) hf hn ?_ I.funs
  exact Heap.get?_none_of_le (JA I.ok.bsz I.ok.above)
theorem Inv.stkSub(I:Inv X DK σ H s):∀b∈aG X.stack,b∈X.env.locals::X.fs:=fun b hb=>by
 rcases I.ok.stk with e|⟨e,hf⟩
 ·rw[e]at hb;exact JJ _ hb
 ·rw[e]at hb
  unfold aG at hb;rw[CM,hf]at hb;exact hb
theorem Inv.stkFree(I:Inv X DK σ H s):∀b∈aG X.stack,H b=none:=fun b hb=>by
 rcases Jj.mp (I.stkSub b hb)with e|hb
 ·rw[e];exact I.free
 ·obtain⟨_,o,ho,_⟩:=I.ok.funs.mem hb
  exact I.base.free b o ho (I.ok.frf b hb) fun z=>I.ok.exfs b z hb
theorem Inv.step{g':Array GenState}{t':Nat}{d':Drawn}{ch:List Addr}(I:Inv X DK σ H s)
  (hch:∀b∈ch,(b∈X.ex\/X.s₀.heap.objs.size<=b)/\b≠X.env.locals/\(∀x c,X.env.cells.lookup x=some c->c≠b)/\∀p∈X.pn++DK,p.1≠b)
  (keep:∀b o,b≠X.env.locals->b∉X.fs->b∉ch->s.heap.get? b=some o->H b=none->h'.get? b=some o)
  (slot:∀b o,b≠X.env.locals->b∈X.fs->b∉ch->s.heap.get? b=some o->H b=none->∃sl,h'.get? b=some {o with slots:=sl})(free:∀b o,b∉ch->s.heap.get? b=some o->H b=none->H' b=none)
  (there:∀b o,b∉ch->s.heap.get? b=some o->∃o',h'.get? b=some o')
  (tups:∀b xs,H b=some (.tup xs)->H' b=some (.tup xs))(frzs:∀b o u,H b=some (.frz o u)->H' b=some (.frz o u))(tbls:∀b ps,H b=some (.tbl ps)->∃more,H' b=some (.tbl (ps++more)))
  (ns:∀m,s.heap.Ns X.env.locals m->h'.Ns X.env.locals m)(hok:HOk X.prog X.w H' h')(hg:AllBare g'):
  Inv X DK σ H' {s with heap:=h',gens:=g',drawn:=d',toks:=t'}:=by
 have neL:∀b o,X.s₀.heap.get? b=some o->b≠X.env.locals:=fun b o e=>Jm (JB (Jh e) I.ok.above)
 have neC:∀b o,X.s₀.heap.get? b=some o->b∉X.ex->b∉ch:=fun b o e hx hb=>by
  rcases(hch b hb).1 with z|z
  ·exact hx z
  ·exact absurd (JB (Jh e) z) (JU _)
 have cellK:∀x c,X.env.cells.lookup x=some c->∀v,s.heap.IsCell c v->h'.IsCell c v:=fun x c e v ⟨o,ho,hd⟩=>by
  have nch:c∉ch:=fun z=>(hch c z).2.2.1 x c e rfl
  by_cases hc:c∈X.fs
  ·obtain⟨sl,q⟩:=slot c o (I.cne x c e) hc nch ho (I.freeC x c e)
   exact⟨_,q,hd⟩
  ·exact⟨o,keep c o (I.cne x c e) hc nch ho (I.freeC x c e),hd⟩
 refine⟨I.ok,I.os,hg,⟨fun b o e n hb hx=>?_,fun b o e n hb hx=>?_,fun b o e n hx=>?_,fun b o e hx=>?_,fun b xs e=>tups b xs (I.base.tups b xs e),fun b o xs e=>frzs b o xs (I.base.frzs b o xs e),fun b ps e=>?_⟩,?_,fun x c e=>?_,?_,fun x c e=>?_,fun p hp=>?_,hok,I.len⟩
 ·exact keep b o (neL b o e) hb (neC b o e hx) (I.base.keep b o e n hb hx) (I.base.free b o e n hx)
 ·obtain⟨sl,e1⟩:=I.base.slot b o e n hb hx
  obtain⟨sl',e2⟩:=slot b _ (neL b o e) hb (neC b o e hx) e1 (I.base.free b o e n hx)
  exact⟨sl',e2⟩
 ·obtain⟨o',e1⟩:=I.base.there b o e hx
  exact free b o' (neC b o e hx) e1 (I.base.free b o e n hx)
 ·obtain⟨o',e1⟩:=I.base.there b o e hx
  exact there b o' (neC b o e hx) e1
 ·obtain⟨m1,e1⟩:=I.base.tbls b ps e
  obtain⟨m2,e2⟩:=tbls b _ e1
  exact⟨m1++m2,by rw[e2,Array.append_assoc]⟩
 ·obtain⟨m,hn,hl⟩:=I.loc
  refine⟨m,ns m hn,fun i x v e1 e2 e3=>?_⟩
  obtain⟨u,r,l⟩:=hl i x v e1 e2 e3;refine⟨u,r,?_⟩
  rcases l with l|⟨k,c,e,z⟩
  ·exact .inl l
  ·exact .inr ⟨k,c,e,cellK x c e _ z⟩
 ·obtain⟨v,z⟩:=I.cell x c e
  exact⟨v,cellK x c e v z⟩
 ·obtain⟨m,⟨o,_,_,ho,_⟩,_⟩:=I.loc
  exact free _ o (fun z=>(hch _ z).2.1 rfl) ho I.free
 ·obtain⟨v,o,ho,hd⟩:=I.cell x c e
  exact free c o (fun z=>(hch c z).2.2.1 x c e rfl) ho (I.freeC x c e)
 ·obtain⟨e,n,ne,nf,d⟩:=I.pin p hp
  have nch:p.1∉ch:=fun z=>(hch p.1 z).2.2.2 p hp rfl
  exact⟨keep p.1 p.2 ne nf nch e n,free p.1 p.2 nch e n,ne,nf,d⟩
theorem Inv.un{t':Nat}(I:Inv X DK σ H s)(u:Un X.fs [] H H' s.heap h')(hok:HOk X.prog X.w H' h'):Inv X DK σ H' {s with heap:=h',toks:=t'}:=by
 obtain⟨m,⟨o,es,ep,ho,r⟩,_⟩:=id I.loc;obtain⟨sl,hL⟩:=u.any ho I.free (by simp)
 exact I.step (g':=s.gens) (d':=s.drawn) (ch:=[]) (fun _ z=>nomatch z) (fun b o _ hb _ e n=>u.keep b o e n hb (by simp)) (fun b o _ hb _ e n=>u.slot b o e n hb (by simp)) (fun b o _ e n=>u.free b o e n (by simp)) (fun b o _ e=>u.there b o e (by simp)) u.tups u.frzs u.tbls (fun m' hm=>by
  obtain⟨o',es',ep',ho',r'⟩:=hm;rw[ho]at ho';cases ho'
  exact⟨_,es',ep',hL,r'⟩) hok I.bare
theorem Inv.call{g':Array GenState}{t':Nat}{d':Drawn}{ch:List Addr}(I:Inv X DK σ H s)(u:Un (aG X.stack) ch H H' s.heap h')(hok:HOk X.prog X.w H' h')(hg:AllBare g')
  (hch:∀b∈ch,(b∈X.ex\/X.s₀.heap.objs.size<=b)/\b≠X.env.locals/\(∀x c,X.env.cells.lookup x=some c->c≠b)/\∀p∈X.pn++DK,p.1≠b):
  Inv X DK σ H' {s with heap:=h',gens:=g',drawn:=d',toks:=t'}:=by
 obtain⟨m,⟨o,es,ep,ho,r⟩,_⟩:=id I.loc;obtain⟨sl,hL⟩:=u.any ho I.free fun z=>(hch _ z).2.1 rfl
 exact I.step (ch:=ch) hch (fun b o hL hb hc e n=>u.keep b o e n (fun z=>(Jj.mp (I.stkSub b z)).elim hL hb) hc) (fun b o _ _ hc e n=>u.any e n hc) (fun b o hc e n=>u.free b o e n hc) (fun b o hc e=>u.there b o e hc) u.tups u.frzs u.tbls (fun m' hm=>by
  obtain⟨o',es',ep',ho',r'⟩:=hm;rw[ho]at ho';cases ho'
  exact⟨_,es',ep',hL,r'⟩) hok hg
theorem Inv.turned{t':Nat}{it:Addr}(I:Inv X DK σ H s)(k:∀b o,b≠it->s.heap.get? b=some o->h'.get? b=some o)(hn:H it=none)(hL:it≠X.env.locals)
  (h1:it∈X.ex\/X.s₀.heap.objs.size<=it)(h2:∀x c,X.env.cells.lookup x=some c->c≠it)(h3:∀p∈X.pn++DK,p.1≠it):Inv X DK σ H {s with heap:=h',toks:=t'}:=by
 have nit:∀b u,H b=some u->b≠it:=fun b u e z=>by rw[z,hn]at e;cases e
 refine I.step (g':=s.gens) (d':=s.drawn) (ch:=[it]) (fun b hb=>?_) (fun b o _ _ hc e _=>k b o (fun z=>hc (by simp [z])) e) (fun b o _ _ hc e _=>⟨o.slots,k b o (fun z=>hc (by simp [z])) e⟩) (fun _ _ _ _ n=>n)
  (fun b o hc e=>⟨o,k b o (fun z=>hc (by simp [z])) e⟩) (fun _ _ e=>e) (fun _ _ _ e=>e) (fun b ps e=>⟨#[],by rw[e];simp⟩) (fun m hm=>?_) (fun b u e=>?_) I.bare
 ·have e:b=it:=by simpa using hb
  subst e
  exact⟨h1,hL,h2,h3⟩
 ·obtain⟨o,es,ep,ho,r⟩:=hm
  exact⟨o,es,ep,k _ o (Ne.symm hL) ho,r⟩
 ·refine(I.hok b u e).stay (fun c v hc q=>k c v ?_ q) (fun _ q=>q) fun _ _ q=>q
  rcases hc with z|z
  ·rw[z];exact nit b u e
  ·exact nit c _ z
theorem Inv.tok(I:Inv X DK σ H s)(t:Nat):Inv X DK σ H {s with toks:=t}:=I.un (h':=s.heap) (t':=t) Un.refl I.hok
theorem Inv.kept{t':Nat}(I:Inv X DK σ H s)(k:∀b u,s.heap.get? b=some u->h'.get? b=some u):Inv X DK σ H {s with heap:=h',toks:=t'}:=I.un (Un.kept k) (I.hok.kept k)
theorem Inv.laid{a:Addr}{o:HO}{t':Nat}(I:Inv X DK σ H s)(k:∀b u,s.heap.get? b=some u->h'.get? b=some u)(hp:s.heap.objs.size<=a)(new:ObjOk X.prog X.w (upd H a o) h' a o):
  Inv X DK σ (upd H a o) {s with heap:=h',toks:=t'}:=I.un (Un.laid k hp (I.hok.fresh hp)) (I.hok.laid k hp new)
theorem Inv.write{x e:Addr}{o:HO}{t':Nat}(I:Inv X DK σ H s)(mu:pj (H x))(he:e=x\/H e=some (.own x))(k:∀b u,b≠e->s.heap.get? b=some u->h'.get? b=some u)(heo:∃u,h'.get? e=some u)
  (new:ObjOk X.prog X.w (upd H x o) h' x o):Inv X DK σ (upd H x o) {s with heap:=h',toks:=t'}:=I.un (Un.write mu he k heo) (I.hok.write mu he k heo new)
theorem Inv.pins_of{pins':List (Addr×Obj)}(I:Inv X DK σ H s)(h:∀p∈pins',s.heap.get? p.1=some p.2/\H p.1=none/\p.1≠X.env.locals/\p.1∉X.fs/\∀v,p.2.data≠ .cell v):Inv X pins' σ H s:=
 ⟨I.ok,I.os,I.bare,I.base,I.loc,I.cell,I.free,I.freeC,fun p hp=>(JO.mp hp).elim (fun z=>I.pin p (Ck _ z)) (h p),I.hok,I.len⟩
theorem kD{N:List Str}(hN:N.Nodup){i j:Nat}{x:Str}(a:N[i]? =some x)(b:N[j]? =some x):i=j:=by
 obtain⟨h1,e1⟩:=Js.mp a;obtain⟨h2,e2⟩:=Js.mp b
 exact(List.getElem_inj hN).mp (e1.trans e2.symm)
theorem bM{M:Model}{A:Around}{E:Value->Shared->Prop}{i:Nat}{x:Str}{v:V}{u:Value}{Q:Unit->Shared->Prop}(I:Inv X DK σ H s)(hN:X.N.Nodup)(hi:X.N[i]? =some x)(hx:e9 X.env.scope x)(r:RelV v u)
  (h:∀s',Inv X DK (σ.set i (some v)) H s'->(∃a,Heap.SameBut a s.heap s'.heap/\(a=X.env.locals\/X.env.cells.lookup x=some a))->Q () s')(hf:X.fn x=true\/X.env.scope.names.lookup x=some .local:=by first|exact .inl rfl|exact .inr rfl|assumption):wpAny M A (storeName X.env x u) Q E s:=by
 obtain⟨m,hn,hl⟩:=id I.loc;have hcls:(X.env.scope.kind== .class||(X.env.scope.kind== .module&&X.env.locals != X.env.globals))=false:=by rw[I.ok.kind];rfl
 have hiσ:i<σ.length:=by rw[I.len];exact(Js.mp hi).1
 have cne:=I.cne;have tracked:∀{a:Addr} {h':Heap},(∃o,s.heap.get? a=some o/\H a=none)->Heap.SameBut a s.heap h'->HOk X.prog X.w H h':=fun{a h'} ha hs b ob e=>by
  obtain⟨_,_,hfree⟩:=ha;refine(I.hok b ob e).stay (fun c w' hc q=>(hs.2 c ?_).trans q) (fun _ q=>q) fun _ _ q=>q
  rintro rfl
  rcases hc with rfl|hc
  ·rw[hfree]at e;cases e
  ·rw[hfree]at hc;cases hc
 rcases hx with hk|hk
 ·refine wpAny_storeName_local hk hn (fun h' hn' hs=>?_) hcls
  obtain⟨oL,_,_,hoL,_⟩:=id hn;refine h _ ⟨I.ok,I.os,I.bare,⟨fun b o e n hb hx=>?_,fun b o e n hb hx=>?_,I.base.free,fun b o e hx=>?_,I.base.tups,I.base.frzs,I.base.tbls⟩,⟨_,hn',fun j y v' e1 e2 e3=>?_⟩,fun y c e=>?_,I.free,I.freeC,fun p hp=>?_,tracked ⟨oL,hoL,I.free⟩ hs,by simpa using I.len⟩ ⟨_,hs,.inl rfl⟩
  ·exact(hs.2 b (Jm (JB (Jh e) I.ok.above))).trans (I.base.keep b o e n hb hx)
  ·obtain⟨sl,e1⟩:=I.base.slot b o e n hb hx
   exact⟨sl,(hs.2 b (Jm (JB (Jh e) I.ok.above))).trans e1⟩
  ·obtain⟨o',e1⟩:=I.base.there b o e hx
   exact⟨o',(hs.2 b (Jm (JB (Jh e) I.ok.above))).trans e1⟩
  ·by_cases hj:j=i
   ·subst hj
    rw[hi]at e1;cases e1
    rw[Dn hiσ]at e2;cases e2
    exact⟨u,r,.inl ⟨hk,by simp⟩⟩
   ·rw[Do (Ne.symm hj)]at e2
    obtain⟨u',r',q⟩:=hl j y v' e1 e2 e3;refine⟨u',r',?_⟩
    rcases q with⟨k,e⟩|⟨k,c,e,z⟩
    ·refine .inl ⟨k,?_⟩
     have:y≠x:=fun e=>hj (kD hN e1 (e▸hi))
     simp [this,e]
    ·exact .inr ⟨k,c,e,z.sameBut hs (cne y c e)⟩
  ·obtain⟨w',z⟩:=I.cell y c e
   exact⟨w',z.sameBut hs (cne y c e)⟩
  ·obtain⟨e,n,ne,nf,d⟩:=I.pin p hp
   exact⟨(hs.2 p.1 ne).trans e,n,ne,nf,d⟩
 ·have hfn:X.fn x=true:=by
   rcases hf with z|z
   ·exact z
   ·rw[z]at hk;cases hk
  obtain⟨c,hc⟩:=I.ok.has x (.inl hk)
  obtain⟨w',z⟩:=I.cell x c hc;refine wpAny_storeName_cell I.ok.kind hk hc z (fun h' hc' hs=>?_)
  obtain⟨oc,hoc,hocd⟩:=id z;refine h {s with heap:=h'} ⟨I.ok,I.os,I.bare,⟨fun b o e n hb hx=>?_,fun b o e n hb hx=>?_,I.base.free,fun b o e hx=>?_,I.base.tups,I.base.frzs,I.base.tbls⟩,⟨m,hn.sameBut hs (Ne.symm (cne x c hc)),fun j y v' e1 e2 e3=>?_⟩,fun y c' e=>?_,I.free,I.freeC,fun p hp=>?_,tracked ⟨oc,hoc,I.freeC x c hc⟩ hs,by simpa using I.len⟩ ⟨c,hs,.inr hc⟩
  ·exact(hs.2 b (Jm (JB (Jh e) (I.ok.cab x c hfn hc)))).trans (I.base.keep b o e n hb hx)
  ·obtain⟨sl,e1⟩:=I.base.slot b o e n hb hx
   exact⟨sl,(hs.2 b (Jm (JB (Jh e) (I.ok.cab x c hfn hc)))).trans e1⟩
  ·obtain⟨o',e1⟩:=I.base.there b o e hx
   exact⟨o',(hs.2 b (Jm (JB (Jh e) (I.ok.cab x c hfn hc)))).trans e1⟩
  ·by_cases hj:j=i
   ·subst hj
    rw[hi]at e1;cases e1
    rw[Dn hiσ]at e2;cases e2
    exact⟨u,r,.inr ⟨.inl hk,c,hc,hc'⟩⟩
   ·rw[Do (Ne.symm hj)]at e2
    obtain⟨u',r',q⟩:=hl j y v' e1 e2 e3;refine⟨u',r',?_⟩
    rcases q with q|⟨k,c',e,z'⟩
    ·exact .inl q
    ·refine .inr ⟨k,c',e,z'.sameBut hs ?_⟩
     rintro rfl
     exact hj (kD hN e1 (I.ok.inj _ _ _ e hc▸hi))
  ·by_cases hcc:c'=c
   ·subst hcc;exact⟨_,hc'⟩
   ·obtain⟨w2,z2⟩:=I.cell y c' e
    exact⟨w2,z2.sameBut hs hcc⟩
  ·obtain⟨e,n,ne,nf,d⟩:=I.pin p hp
   refine⟨(hs.2 p.1 ?_).trans e,n,ne,nf,d⟩
   intro q;rw[q,hoc]at e;have q':oc=p.2:=Jv e
   exact d w' (by rw[<- q'];exact hocd)
theorem aZ{M:Model}{A:Around}{E:Value->Shared->Prop}{i:Nat}{x:Str}{v:V}{u:Value}{Q:Unit->Shared->Prop}(I:Inv X DK σ H s)(hN:X.N.Nodup)(hi:X.N[i]? =some x)(hx:e9 X.env.scope x)(r:RelV v u)
  (h:∀s',Inv X DK (σ.set i (some v)) H s'->Q () s')(hf:X.fn x=true\/X.env.scope.names.lookup x=some .local:=by first|exact .inl rfl|exact .inr rfl|assumption):wpAny M A (storeName X.env x u) Q E s:=
 bM I hN hi hx r (fun s' I' _=>h s' I') hf
theorem Inv.call'{s':Shared}{ch:List Addr}(I:Inv X DK σ H s)(ho:s'.os=s.os)(u:Un (aG X.stack) ch H H' s.heap s'.heap)(hok:HOk X.prog X.w H' s'.heap)(hg:AllBare s'.gens)
  (hch:∀b∈ch,(b∈X.ex\/X.s₀.heap.objs.size<=b)/\b≠X.env.locals/\(∀x c,X.env.cells.lookup x=some c->c≠b)/\∀p∈X.pn++DK,p.1≠b):Inv X DK σ H' s':=by
 obtain⟨h',g',d',t',o'⟩:=s';have e:o'=s.os:=ho
 subst e;exact I.call (g':=g') (t':=t') (d':=d') u hok hg hch
end
abbrev XK:=Value->Option Addr->Hp->Prop
abbrev St:=List (Option V)
abbrev VK:=V->Hp->Prop
abbrev TE:=St->Hp->VK->Prop
abbrev TT:=St->Hp->(Bool->Hp->Prop)->Prop
abbrev TA:=St->Hp->(List V->Hp->Prop)->Prop
structure Ends where
 nx:St->Hp->Prop
 rt:VK
 bk:St->Hp->Prop:=fun _ _=>False
 ct:St->Hp->Prop:=fun _ _=>False
abbrev TS:=Ends->St->Hp->Prop
def EP(X:Cx)(DK:List (Addr×Obj))(σ:St)(Q:VK)(u:Value)(s':Shared):Prop:=∃v H',Inv X DK σ H' s'/\RelV v u/\Q v H'
def TP(X:Cx)(DK:List (Addr×Obj))(σ:St)(Q:Bool->Hp->Prop)(b:Bool)(s':Shared):Prop:=∃H',Inv X DK σ H' s'/\Q b H'
def AP(X:Cx)(DK:List (Addr×Obj))(σ:St)(Q:List V->Hp->Prop)(us:List Value)(s':Shared):Prop:=∃vs H',Inv X DK σ H' s'/\Vals vs us/\Q vs H'
def SP(X:Cx)(DK:List (Addr×Obj))(D:Ends)(f:Flow)(s':Shared):Prop:=
 match f with
 | .next=>∃σ' H',Inv X DK σ' H' s'/\D.nx σ' H'
 | .brk=>∃σ' H',Inv X DK σ' H' s'/\D.bk σ' H'
 | .cont=>∃σ' H',Inv X DK σ' H' s'/\D.ct σ' H'
 | .ret u=>∃v σ' H',Inv X DK σ' H' s'/\RelV v u/\D.rt v H'
def PE(X:Cx)(e:Expr)(t:TE):Prop:=
 ∀(DK:List (Addr×Obj)) (s:Shared) (σ:St) (H:Hp) (Q:VK),Inv X DK σ H s->t σ H Q->wpAny (model X.prog X.w) X.A (eval e X.env) (EP X DK σ Q) X.xe s
def PT(X:Cx)(e:Expr)(t:TT):Prop:=
 ∀(DK:List (Addr×Obj)) (s:Shared) (σ:St) (H:Hp) (Q:Bool->Hp->Prop),Inv X DK σ H s->t σ H Q->wpAny (model X.prog X.w) X.A (isTrue e X.env (eval e X.env)) (TP X DK σ Q) X.xe s
def PW(X:Cx)(e:Expr)(t:TT):Prop:=
 ∀(whole:Sem Value) (DK:List (Addr×Obj)) (s:Shared) (σ:St) (H:Hp) (Q:Bool->Hp->Prop),Inv X DK σ H s->t σ H Q->wpAny (model X.prog X.w) X.A (isTrue e X.env whole) (TP X DK σ Q) X.xe s
theorem PW.pt{X:Cx}{e:Expr}{t:TT}(h:PW X e t):PT X e t:=h _
def PA(X:Cx)(es:List Expr)(t:TA):Prop:=
 ∀(pos:Pos) (DK:List (Addr×Obj)) (s:Shared) (σ:St) (H:Hp) (Q:List V->Hp->Prop),Inv X DK σ H s->t σ H Q->wpAny (model X.prog X.w) X.A (spliced (backTo pos (starEach es X.env))) (AP X DK σ Q) X.xe s
def PS(X:Cx)(st:Stmt)(t:TS):Prop:=
 ∀(DK:List (Addr×Obj)) (s:Shared) (σ:St) (H:Hp) (D:Ends),Inv X DK σ H s->t D σ H->wpAny (model X.prog X.w) X.A (exec st X.env) (SP X DK D) X.xe s
def PSs(X:Cx)(st:List Stmt)(t:TS):Prop:=
 ∀(DK:List (Addr×Obj)) (s:Shared) (σ:St) (H:Hp) (D:Ends),Inv X DK σ H s->t D σ H->wpAny (model X.prog X.w) X.A (execs st X.env) (SP X DK D) X.xe s
theorem qD{α:Type}{t:Sem α}{Q Q':α->Shared->Prop}{M:Model}{A:Around}{E:Value->Shared->Prop}{s:Shared}(h:wpAny M A t Q E s)(hQ:∀a s,Q a s->Q' a s):wpAny M A t Q' E s:=JG h hQ fun _ _ x=>x
section
variable{X:Cx}
def Aa(i:Nat):TE:=fun σ H Q=>∃v,σ[i]? =some (some v)/\Q v H
def tC(v:V):TE:=fun _ H Q=>Q v H
theorem yt{i:Nat}{x:Str}{pos:Pos}(hN:X.N[i]? =some x)(hv:wZ X.env.scope x)(hd:(x==("__debug__":Str))=false:=by decide)(hcd:(x==("__classdict__":Str))=false:=by decide):PE X (.Name x pos) (Aa i):=by
 intro DK s σ H Q I h;obtain⟨v,e,h⟩:=h;obtain⟨m,hn,hl⟩:=I.loc;obtain⟨u,r,l⟩:=hl i x v hN e hv;have fin:EP X DK σ Q u s:=⟨v,H,I,r,h⟩
 rcases l with⟨hk,hm⟩|⟨hk,c,hc,hcell⟩
 ·exact wpAny_Name (wpAny_loadName_local I.ok.kind hk hn hm fin) hd
 ·rcases hk with hk|hk
  ·exact wpAny_Name (wpAny_loadName_cell I.ok.kind hk hc hcell fin) hd
  ·exact wpAny_Name (wpAny_loadName_free I.ok.kind hk hc hcell fin hcd) hd
theorem yL{i j pos}:PE X (.Constant (.int i) j pos) (tC (.int i)):=fun _ _ _ H _ I h=>wpAny_Constant_int ⟨.int i,H,I.tok _,⟨_,rfl⟩,h⟩
theorem AJ{b j pos}:PE X (.Constant (.bool b) j pos) (tC (.bl b)):=fun _ _ _ H _ I h=>Constant_bool ⟨.bl b,H,I,rfl,h⟩
theorem Am{j pos}:PE X (.Constant .none j pos) (tC .non):=fun _ _ _ H _ I h=>Constant_none ⟨.non,H,I,rfl,h⟩
theorem yT{x j pos}:PE X (.Constant (.str x) j pos) (tC (.str x)):=fun _ _ _ H _ I h=>Calls.Constant_str ⟨.str x,H,I.tok _,⟨_,rfl⟩,h⟩
def Gl(X:Cx)(x:Str):Prop:=X.env.kindOf x=some .globalImplicit
theorem gC{E:Value->Shared->Prop}{DK:List (Addr×Obj)}{s:Shared}{σ:St}{H:Hp}{x:Str}{u:Value}{pos:Pos}{Q:Value->Shared->Prop}(I:Inv X DK σ H s)(hg:Gl X x)(hm:X.mg x=some u)(h:Q u s)
  (hd:(x==("__debug__":Str))=false:=by decide):wpAny (model X.prog X.w) X.A (eval (.Name x pos) X.env) Q E s:=
 Calls.Name_function_global I.ok.kind hg (Calls.loadGlobal_global (by rw[I.ok.glob];exact I.mod.glob.keeps I.bk) hm h) hd
theorem QX{E:Value->Shared->Prop}{DK:List (Addr×Obj)}{s:Shared}{σ:St}{H:Hp}{x:Str}{u:Value}{pos:Pos}{Q:Value->Shared->Prop}(I:Inv X DK σ H s)(hg:Gl X x)(hm:X.mg x=none)(hv:bootBuiltins x=some u)(h:Q u s)
  (hn:x≠"__name__":=by decide)(hd:(x==("__debug__":Str))=false:=by decide):wpAny (model X.prog X.w) X.A (eval (.Name x pos) X.env) Q E s:=by
 obtain⟨mb,h1,h2⟩:=I.mod.blt;exact Calls.Name_function_global I.ok.kind hg (Calls.loadGlobal_builtin (by rw[I.ok.glob];exact I.mod.glob.keeps I.bk) hm (by rw[I.ok.blt];exact h1.keeps I.bk) ((h2 x hn).trans hv) h) hd
theorem wE{x:Str}{v:V}{u:Value}{pos:Pos}(hg:Gl X x)(hm:X.mg x=some u)(r:RelV v u)(hd:(x==("__debug__":Str))=false:=by decide):PE X (.Name x pos) (tC v):=
 fun _ _ _ H _ I h=>gC I hg hm ⟨v,H,I,r,h⟩ hd
theorem vK{x:Str}{v:V}{u:Value}{pos:Pos}(hg:Gl X x)(hm:X.mg x=none)(hv:bootBuiltins x=some u)(r:RelV v u)(hn:x≠"__name__":=by decide)(hd:(x==("__debug__":Str))=false:=by decide):PE X (.Name x pos) (tC v):=
 fun _ _ _ H _ I h=>QX I hg hm hv ⟨v,H,I,r,h⟩ hn hd
variable{a b:Expr}{ta tb:TE}{pos:Pos}
def PC(X:Cx)(op:CmpOp)(a b:Expr)(t:TE):Prop:=
 ∀(DK:List (Addr×Obj)) (s:Shared) (σ:St) (H:Hp) (Q:VK),Inv X DK σ H s->t σ H Q->
  wpAny (model X.prog X.w) X.A (eval a X.env) (fun v s₁=>wpAny (model X.prog X.w) X.A (eval b X.env) (fun u s₂=>wpAny (model X.prog X.w) X.A (compareOp op v u) (EP X DK σ Q) X.xe s₂) X.xe s₁) X.xe s
def tB(t:TE):TT:=fun σ H Q=>t σ H fun x H1=>∃c,x= .bl c/\Q c H1
theorem AA{op:CmpOp}{t:TE}(h:PC X op a b t)(h1:behindInMarks op b=false:=by first|exact nobehind _ (by decide) (by decide)|rfl):PT X (.Compare a [op] [b] pos) (tB t):=by
 intro DK s σ H Q I hw;refine wpAny_isTrue_Compare1 (qD (h DK s σ H _ I hw) fun v s1 h1=>qD h1 fun u s2 h2=>qD h2 fun c s3 zq=>?_) h1
 obtain⟨x,H1,I1,r1,q1⟩:=zq;obtain⟨d,rfl,q⟩:=q1;cases r1;exact B7 ⟨H1,I1,q⟩
theorem Aq{e:Expr}{t:TE}(h:PE X e t)(he:∀whole,isTrue e X.env whole=(do let v <- whole;standAt e.pos;holding [v] (truthy v)):=by intro _;rfl):PT X e (tB t):=by
 intro DK s σ H Q I hw;refine isTrue_plain (qD (h DK s σ H _ I hw) fun v s1 zq=>?_) (he _)
 obtain⟨x,H1,I1,r1,q1⟩:=zq;obtain⟨d,rfl,q⟩:=q1;cases r1;exact B7 ⟨H1,I1,q⟩
variable{tA tB':TT}{rest:List Expr}
def yq(t u:TT):TT:=fun σ H Q=>t σ H fun c H1=>if c=true then u σ H1 Q else Q false H1
def Bf(t u:TT):TT:=fun σ H Q=>t σ H fun c H1=>if c=true then Q true H1 else u σ H1 Q
def yj(t:TT):TT:=fun σ H Q=>t σ H fun c H1=>Q (!c) H1
theorem vM(ha:PT X a tA):PW X (.BoolOp .And [a] pos) tA:=by
 intro wh DK s σ H Q I h;refine isTrue_and (qD (ha DK s σ H Q I h) fun c s1 e=>?_)
 cases c with
 |true=>exact isTrue_and_nil e
 |false=>exact e
theorem xn(ha:PT X a tA):PW X (.BoolOp .Or [a] pos) tA:=by
 intro wh DK s σ H Q I h;refine isTrue_or (qD (ha DK s σ H Q I h) fun c s1 e=>?_)
 cases c with
 |false=>exact isTrue_or_nil e
 |true=>exact e
theorem y7(ha:PT X a tA)(hb:PW X (.BoolOp .And (b::rest) pos) tB'):PW X (.BoolOp .And (a::b::rest) pos) (yq tA tB'):=by
 intro wh DK s σ H Q I h;refine isTrue_and (qD (ha DK s σ H _ I h) fun c s1 zq=>?_)
 obtain⟨H1,I1,q1⟩:=zq;cases c with
 |true=>exact hb wh DK s1 σ H1 Q I1 q1
 |false=>exact⟨H1,I1,q1⟩
theorem AU(ha:PT X a tA)(hb:PW X (.BoolOp .Or (b::rest) pos) tB'):PW X (.BoolOp .Or (a::b::rest) pos) (Bf tA tB'):=by
 intro wh DK s σ H Q I h;refine isTrue_or (qD (ha DK s σ H _ I h) fun c s1 zq=>?_)
 obtain⟨H1,I1,q1⟩:=zq;cases c with
 |true=>exact⟨H1,I1,q1⟩
 |false=>exact hb wh DK s1 σ H1 Q I1 q1
theorem Ak(ha:PT X a tA):PT X (.UnaryOp .Not a pos) (yj tA):=by
 intro DK s σ H Q I h;exact isTrue_not (ha DK s σ H (fun c H1=>Q (!c) H1) I h)
def vI(ta tb:TE):TE:=fun σ H Q=>ta σ H fun x H1=>∃c,x= .bl c/\if c=true then tb σ H1 Q else Q (.bl false) H1
def vh(ta:TE):TE:=fun σ H Q=>ta σ H fun x H1=>∃c,x= .bl c/\Q (.bl (!c)) H1
theorem xm{op}{t:TE}(h:PE X a t):PE X (.BoolOp op [a] pos) t:=fun DK s σ H Q I hw=>BoolOp_one (h DK s σ H Q I hw)
theorem yP(ha:PE X a ta)(hb:PE X (.BoolOp .And (b::rest) pos) tb):PE X (.BoolOp .And (a::b::rest) pos) (vI ta tb):=by
 intro DK s σ H Q I h;refine BoolOp_and (qD (ha DK s σ H _ I h) fun v s1 zq=>?_)
 obtain⟨x,H1,I1,r1,q1⟩:=zq;obtain⟨c,rfl,q1⟩:=q1;cases r1;refine B7 ?_
 cases c with
 |true=>exact hb DK s1 σ H1 Q I1 q1
 |false=>exact⟨.bl false,H1,I1,rfl,q1⟩
theorem Ap(ha:PE X a ta):PE X (.UnaryOp .Not a pos) (vh ta):=by
 intro DK s σ H Q I h;refine UnaryOp_ (qD (ha DK s σ H _ I h) fun v s1 zq=>?_)
 obtain⟨x,H1,I1,r1,q1⟩:=zq;obtain⟨c,rfl,q1⟩:=q1;cases r1;exact not_of (B7 ⟨.bl (!c),H1,I1,rfl,q1⟩)
def Bh(t:TT)(ta tb:TE):TE:=fun σ H Q=>t σ H fun c H1=>if c=true then ta σ H1 Q else tb σ H1 Q
theorem uf{c:Expr}(hc:PT X c tA)(ha:PE X a ta)(hb:PE X b tb):PE X (.IfExp c a b pos) (Bh tA ta tb):=by
 intro DK s σ H Q I h;refine wpAny_IfExp (qD (hc DK s σ H _ I h) fun d s1 zq=>?_)
 obtain⟨H1,I1,q1⟩:=zq;cases d with
 |true=>exact ha DK s1 σ H1 Q I1 q1
 |false=>exact hb DK s1 σ H1 Q I1 q1
end
def SqL(K:Frag)(H:Hp)(a:Addr)(xs:List V):Prop:=
 Rd H a (.lst xs)\/
  ∃(o:Obj) (its:Array Value) (n:Nat),K.lookup a=some o/\o.cls= .type "list"/\o.dict=none/\o.data= .seq its n/\its.size<=sizeLine/\Vals xs its.toList
def SqT(K:Frag)(H:Hp)(a:Addr)(xs:List V):Prop:=
 Rd H a (.tup xs)\/
  ∃(o:Obj) (its:Array Value) (n:Nat),K.lookup a=some o/\o.cls= .type "tuple"/\o.data= .seq its n/\its.size<=sizeLine/\Vals xs its.toList
def Bp:Value->Option V
 | .none=>some .non
 | .bool b=>some (.bl b)
 | .int i _=>some (.int i)
 | .str x _=>some (.str x)
 | .bytes b _=>some (.byt b)
 | .float b _=>some (.flt b)
 | .ref a=>some (.ref a)
 | .type n=>some (.ty n)
 |_=>none
theorem RelV.abs{x:V}{u:Value}(r:RelV x u):Bp u=some x:=by
 cases x with
 |non=>cases r;rfl
 |bl _=>cases r;rfl
 |int _=>obtain⟨t,rfl⟩:=r;rfl
 |str _=>obtain⟨t,rfl⟩:=r;rfl
 |byt _=>obtain⟨t,rfl⟩:=r;rfl
 |flt _=>obtain⟨t,rfl⟩:=r;rfl
 |ref _=>cases r;rfl
 |ty _=>cases r;rfl
theorem RelV.inj{x y:V}{u:Value}(r:RelV x u)(q:RelV y u):x=y:=Jv (r.abs.symm.trans q.abs)
theorem Vals.inj:∀{xs ys:List V} {us:List Value},Vals xs us->Vals ys us->xs=ys
 :=by
 intro xs ys us h
 induction h generalizing ys with
 |nil=>intro g;cases g;rfl
 |cons r t ih=>intro g;cases g with
  |cons r' t'=>rw[r.inj r',ih t']
section
variable{X:Cx}{DK:List (Addr×Obj)}{σ:St}{H:Hp}{s:Shared}{a:Addr}{xs ys:List V}
theorem SqL.of{K:Frag}(h:H a=some (.lst xs)):SqL K H a xs:= .inl (.inl h)
theorem SqT.of{K:Frag}(h:H a=some (.tup xs)):SqT K H a xs:= .inl (.inl h)
theorem Inv.list(I:Inv X DK σ H s)(h:SqL X.K H a xs):∃its:List Value,Vals xs its/\PlainL s.heap a its.toArray/\xs.length<=sizeLine:=by
 rcases h with h|⟨o,its,n,hk,hc,hd,hs,hz,r⟩
 ·obtain⟨z,its,n,r,e⟩:=h.ok I.hok
  exact⟨its,r,⟨_,n,e,rfl,rfl,rfl⟩,z⟩
 ·refine⟨its.toList,r,⟨o,n,I.kIn a o hk,hc,hd,by simpa using hs⟩,?_⟩
  have e:=r.length;simp only[J1]at e;omega
theorem Inv.tuple(I:Inv X DK σ H s)(h:SqT X.K H a xs):∃its:List Value,Vals xs its/\IsTup s.heap a its.toArray/\xs.length<=sizeLine:=by
 rcases h with h|⟨o,its,n,hk,hc,hs,hz,r⟩
 ·obtain⟨z,its,r,p⟩:=h.ok I.hok
  exact⟨its,r,p,z⟩
 ·refine⟨its.toList,r,⟨o,I.kIn a o hk,hc,n,by simpa using hs⟩,?_⟩
  have e:=r.length;simp only[J1]at e;omega
theorem Inv.list_inj(I:Inv X DK σ H s)(h:SqL X.K H a xs)(h':SqL X.K H a ys):xs=ys:=by
 obtain⟨its,r,⟨o,n,e,_,_,d⟩,_⟩:=I.list h;obtain⟨its',r',⟨o',n',e',_,_,d'⟩,_⟩:=I.list h';rw[e]at e';cases e'
 rw[d]at d';injection d' with d1 _
 have:its=its':=by simpa using JP Array.toList d1
 subst this;exact r.inj r'
theorem Inv.tuple_inj(I:Inv X DK σ H s)(h:SqT X.K H a xs)(h':SqT X.K H a ys):xs=ys:=by
 obtain⟨its,r,⟨o,e,_,n,d⟩,_⟩:=I.tuple h;obtain⟨its',r',⟨o',e',_,n',d'⟩,_⟩:=I.tuple h';rw[e]at e';cases e'
 rw[d]at d';injection d' with d1 _
 have:its=its':=by simpa using JP Array.toList d1
 subst this;exact r.inj r'
end
abbrev Cx.wish(X:Cx)(E:Value->Shared->Prop):Cx:={X with xe:=E}
abbrev Cx.nox(X:Cx):Cx:=X.wish fun _ _=>False
theorem Cx.Ok.wish{X:Cx}(ok:X.Ok)(E:Value->Shared->Prop):(X.wish E).Ok:=
 ⟨ok.mod,ok.kind,ok.glob,ok.blt,ok.above,ok.inj,ok.has,ok.cab,ok.hd,ok.frames,ok.stk,ok.exf,ok.bs,ok.bsz,ok.noex,ok.exfs,ok.funs,ok.frf⟩
theorem Cx.Ok.unwish{X:Cx}{E:Value->Shared->Prop}(ok:(X.wish E).Ok):X.Ok:=
 ⟨ok.mod,ok.kind,ok.glob,ok.blt,ok.above,ok.inj,ok.has,ok.cab,ok.hd,ok.frames,ok.stk,ok.exf,ok.bs,ok.bsz,ok.noex,ok.exfs,ok.funs,ok.frf⟩
section
variable{X:Cx}{DK:List (Addr×Obj)}{σ:St}{H:Hp}{s:Shared}{E:Value->Shared->Prop}
theorem Inv.wish(I:Inv X DK σ H s)(E:Value->Shared->Prop):Inv (X.wish E) DK σ H s:=⟨I.ok.wish E,I.os,I.bare,I.base,I.loc,I.cell,I.free,I.freeC,I.pin,I.hok,I.len⟩
theorem Inv.unwish(I:Inv (X.wish E) DK σ H s):Inv X DK σ H s:=⟨I.ok.unwish,I.os,I.bare,I.base,I.loc,I.cell,I.free,I.freeC,I.pin,I.hok,I.len⟩
theorem SP.unwish{D:Ends}{f:Flow}{s':Shared}(h:SP (X.wish E) DK D f s'):SP X DK D f s':=by
 cases f with
 |next=>obtain⟨σ',H',I,q⟩:=h;exact⟨σ',H',I.unwish,q⟩
 |brk=>obtain⟨σ',H',I,q⟩:=h;exact⟨σ',H',I.unwish,q⟩
 |cont=>obtain⟨σ',H',I,q⟩:=h;exact⟨σ',H',I.unwish,q⟩
 |ret u=>obtain⟨v,σ',H',I,r,q⟩:=h;exact⟨v,σ',H',I.unwish,r,q⟩
theorem PSs.nox{st:List Stmt}{t:TS}(h:PSs X.nox st t):PSs X st t:=fun DK s σ H D I hw=>
 JG (h DK s σ H D (I.wish _) hw) (fun _ _ q=>q.unwish) fun _ _ z=>False.elim z
end
section
variable{X:Cx}{st:Stmt}{rest:List Stmt}{t u:TS}{e:Expr}{te:TE}{pos:Pos}
def uY:TS:=fun D σ H=>D.nx σ H
def ja(t u:TS):TS:=fun D σ H=>t {D with nx:=u D} σ H
theorem wf:PSs X [] uY:=fun _ _ σ H _ I h=>wpAny_execs_nil ⟨σ,H,I,h⟩
theorem sZ(h1:PS X st t)(h2:PSs X rest u):PSs X (st::rest) (ja t u):=by
 intro DK s σ H D I h;refine wpAny_execs_cons (qD (h1 DK s σ H {D with nx:=u D} I h) fun f s1 q=>?_)
 cases f with
 |next=>
  obtain⟨σ',H',I',q⟩:=q;exact h2 DK s1 σ' H' D I' q
 |ret v=>exact q
 |brk=>exact q
 |cont=>exact q
theorem wJ(h1:PS X st t):PSs X [st] t:=by
 intro DK s σ H D I h;refine wpAny_execs_cons (qD (h1 DK s σ H D I h) fun f s1 q=>?_)
 cases f with
 |next=>exact wpAny_execs_nil q
 |ret v=>exact q
 |brk=>exact q
 |cont=>exact q
theorem Inv.quiet{DK:List (Addr×Obj)}{σ:St}{H:Hp}{s:Shared}(I:Inv X DK σ H s):interactive X.env=false:=by simp [interactive,I.ok.kind]
def uV(te:TE):TS:=fun D σ H=>te σ H fun _ H1=>D.nx σ H1
theorem v9(he:PE X e te)(hs:swapsWith e none pos.line X.env=pure false:=by rfl):PS X (.Expr e pos) (uV te):=by
 intro DK s σ H D I h;exact wpAny_Expr_any (qD (he DK s σ H _ I h) fun v s1 ⟨x,H1,I1,r1,q1⟩=>⟨σ,H1,I1,q1⟩) I.quiet hs
def yU(te:TE):TS:=fun D σ H=>te σ H D.rt
theorem yN(he:PE X e te):PS X (.Return (some e) pos) (yU te):=by
 intro DK s σ H D I h;exact wpAny_Return_some (qD (he DK s σ H _ I h) fun v s1 ⟨x,H1,I1,r1,q1⟩=>⟨x,σ,H1,I1,r1,q1⟩)
def xy(c:TT)(t u:TS):TS:=fun D σ H=>c σ H fun b H1=>if b=true then t D σ H1 else u D σ H1
theorem AZ{c:Expr}{a b:List Stmt}{tc:TT}(hc:PT X c tc)(ha:PSs X a t)(hb:PSs X b u):PS X (.If c a b pos) (xy tc t u):=by
 intro DK s σ H D I h;refine wpAny_If (qD (hc DK s σ H _ I h) fun d s1 zq=>?_)
 obtain⟨H1,I1,q1⟩:=zq;cases d with
 |true=>exact ha DK s1 σ H1 D I1 q1
 |false=>exact hb DK s1 σ H1 D I1 q1
def sF:TS:=fun _ _ _=>False
theorem sj{sts:List Stmt}:PSs X sts sF:=fun _ _ _ _ _ _ h=>h.elim
end
abbrev TG:=V->St->Hp->(St->Hp->Prop)->Prop
abbrev ae:=List V->St->Hp->(St->Hp->Prop)->Prop
def PG(X:Cx)(target:Expr)(t:TG):Prop:=
 ∀(DK:List (Addr×Obj)) (s:Shared) (σ:St) (H:Hp) (v:V) (u:Value) (Q:St->Hp->Prop),Inv X DK σ H s->RelV v u->t v σ H Q->
  wpAny (model X.prog X.w) X.A (assign target X.env u) (fun _ s'=>∃σ' H',Inv X DK σ' H' s'/\Q σ' H') X.xe s
def lP(X:Cx)(ts:List Expr)(t:ae):Prop:=
 ∀(DK:List (Addr×Obj)) (s:Shared) (σ:St) (H:Hp) (vs:List V) (us:List Value) (Q:St->Hp->Prop),Inv X DK σ H s->Vals vs us->t vs σ H Q->
  wpAny (model X.prog X.w) X.A (assignInOrder ((assignEach ts X.env).map (·.2)) us) (fun _ s'=>∃σ' H',Inv X DK σ' H' s'/\Q σ' H') X.xe s
abbrev eC:=V->V->V->Hp->(Hp->Prop)->Prop
def jA(X:Cx)(t:eC):Prop:=
 ∀(DK:List (Addr×Obj)) (s:Shared) (σ:St) (H:Hp) (o i v:V) (ov iv u:Value) (Q:Hp->Prop),Inv X DK σ H s->RelV o ov->RelV i iv->RelV v u->t o i v H Q->
  wpAny (model X.prog X.w) X.A (setItem ov iv u) (fun _ s'=>∃H',Inv X DK σ H' s'/\Q H') X.xe s
abbrev oN:=V->V->Hp->VK->Prop
def xk(X:Cx)(op:Operator)(t:oN):Prop:=
 ∀(DK:List (Addr×Obj)) (s:Shared) (σ:St) (H:Hp) (x y:V) (v u:Value) (Q:VK),Inv X DK σ H s->RelV x v->RelV y u->t x y H Q->
  wpAny (model X.prog X.w) X.A (inplaceOp op v u) (EP X DK σ Q) X.xe s
section
variable{X:Cx}{pos:Pos}
def Qu(i:Nat):TG:=fun v σ H Q=>Q (σ.set i (some v)) H
theorem wk{i:Nat}{x:Str}(hN:X.N.Nodup)(hi:X.N[i]? =some x)(hx:e9 X.env.scope x)(hf:X.fn x=true\/X.env.scope.names.lookup x=some .local:=by first|exact .inl rfl|exact .inr rfl|assumption):PG X (.Name x pos) (Qu i):=by
 intro DK s σ H v u Q I r h;exact wpAny_assign_Name (aZ I hN hi hx r (fun s' I'=>⟨_,H,I',h⟩) hf)
def mY:ae:=fun vs σ H Q=>vs=[]/\Q σ H
def cI(t:TG)(u:ae):ae:=fun vs σ H Q=>∃v r,vs=v::r/\t v σ H fun σ' H'=>u r σ' H' Q
theorem wz:lP X [] mY:=by
 intro DK s σ H vs us Q I r h;obtain⟨e,h⟩:=h;subst e;cases r;exact assignInOrder_nil ⟨σ,H,I,h⟩
theorem uR{e:Expr}{es:List Expr}{t:TG}{u:ae}(h1:PG X e t)(h2:lP X es u)
  (hs:(assignEach (e::es) X.env).map (·.2)=assign e X.env::(assignEach es X.env).map (·.2):=by rfl):lP X (e::es) (cI t u):=by
 intro DK s σ H vs us Q I r h;obtain⟨v,vr,e1,h⟩:=h;subst e1;cases r with
 |cons r rr=>
  rw[hs];refine assignInOrder_cons (qD (h1 DK s σ H _ _ _ I r h) fun _ s1 zq=>?_)
  obtain⟨σ1,H1,I1,q1⟩:=zq;exact h2 DK s1 σ1 H1 _ _ Q I1 rr q1
def ji(K:Frag)(n:Nat)(t:ae):TG:=fun v σ H Q=>∃a xs,v= .ref a/\SqT K H a xs/\xs.length=n/\t xs σ H Q
theorem kA{es:List Expr}{k:Nat}{t:ae}{n:Nat}(hc:X.calm=true)(h:lP X es t)
  (hn:(assignEach es X.env).length=n:=by rfl)(hst:(assignEach es X.env).findIdx? (·.1)=none:=by rfl):PG X (.Tuple es k pos) (ji X.K n t):=by
 intro DK s σ H v u Q I r hw;obtain⟨a,xs,e1,hq,hl,hw⟩:=hw;subst e1;cases r;obtain⟨its,rv,ht,hz⟩:=I.tuple hq;refine assign_Tuple_tuple (I.ok.hd hc) ht (by simp [hn,<- hl,rv.length]) hst fun h' hx=>?_
 have I1:Inv X DK σ H {s with heap:=h'}:=I.kept (t':=s.toks) fun b o e=>hx b o (Jm (Jh e)) e
 exact h DK _ σ H xs _ Q I1 (by simpa using rv) hw
def xu(to ti:TE)(t:eC):TG:=fun v σ H Q=>to σ H fun o H1=>ti σ H1 fun i H2=>t o i v H2 fun H3=>Q σ H3
theorem xr{o i:Expr}{to ti:TE}{t:eC}(ho:PE X o to)(hi:PE X i ti)(hs:jA X t)
  (ha:∀v,assign (.Subscript o i pos) X.env v=(do
   let ov <- holding [v] (eval o X.env)
   let iv <- holding [v,ov] (eval i X.env)
   standAt pos
   holding [v,ov,iv] (setItem ov iv v)
   release [v,ov,iv] []):=by intro _;rfl):PG X (.Subscript o i pos) (xu to ti t):=by
 intro DK s σ H v u Q I r h;rw[ha];refine Ja (JV (qD (ho DK s σ H _ I h) fun ov s1 zq=>?_))
 obtain⟨x,H1,I1,r1,q1⟩:=zq;refine Ja (JV (qD (hi DK s1 σ H1 _ I1 q1) fun iv s2 zq=>?_))
 obtain⟨y,H2,I2,r2,q2⟩:=zq;refine Ja (CB (Ja (JV (qD (hs DK s2 σ H2 x y v ov iv u _ I2 r1 r2 r q2) fun _ s3 zq=>?_))))
 obtain⟨H3,I3,q3⟩:=zq;exact wpAny_release ⟨σ,H3,I3,q3⟩
def dv(te:TE)(g:TG):TS:=fun D σ H=>te σ H fun x H1=>g x σ H1 D.nx
theorem yZ{tg e:Expr}{te:TE}{g:TG}(he:PE X e te)(hg:PG X tg g)(hs:swapsWithSole [tg] e pos.line X.env=pure false:=by rfl)(hw:swappedStores [tg] e X.env=pure none:=by rfl)
  (h1:(assignEach [tg] X.env).map (·.2)=[assign tg X.env]:=by rfl):PS X (.Assign [tg] e pos) (dv te g):=by
 intro DK s σ H D I h;refine wpAny_Assign_stores (qD (he DK s σ H _ I h) fun v s1 zq=>?_) hs hw
 obtain⟨x,H1,I1,r1,q1⟩:=zq;rw[h1];exact qD (hg DK s1 σ H1 x v _ I1 r1 q1) fun _ s2 q=>q
theorem An{i:Nat}{x:Str}{e:Expr}{te:TE}{pos':Pos}(hN:X.N.Nodup)(hi:X.N[i]? =some x)(hx:e9 X.env.scope x)(he:PE X e te)(hs:swapsWith e (some (.Name x pos')) pos.line X.env=pure false:=by rfl)(hf:X.fn x=true\/X.env.scope.names.lookup x=some .local:=by first|exact .inl rfl|exact .inr rfl|assumption):
  PS X (.Assign [.Name x pos'] e pos) (dv te (Qu i)):=by
 intro DK s σ H D I h;refine wpAny_Assign_Name (qD (he DK s σ H _ I h) fun v s1 zq=>?_) hs
 obtain⟨y,H1,I1,r1,q1⟩:=zq;exact aZ I1 hN hi hx r1 (fun s2 I2=>⟨_,H1,I2,q1⟩) hf
def Ag(i j:Nat)(ta:TA):TS:=fun D σ H=>ta σ H fun vs H1=>∃v w,vs=[v,w]/\D.nx ((σ.set i (some v)).set j (some w)) H1
theorem yS{i j:Nat}{x y:Str}{a b:Expr}{ta:TA}{px py pt:Pos}{kt k2 pt2}(hc:X.calm=true)(hN:X.N.Nodup)(hi:X.N[i]? =some x)(hj:X.N[j]? =some y)(hij:i≠j)
  (hx:X.env.scope.names.lookup x=some .local)(hy:X.env.scope.names.lookup y=some .local)(ha:PA X [a,b] ta)
  (hw:swappedStores [.Tuple [.Name x px,.Name y py] kt pt] (.Tuple [a,b] k2 pt2) X.env=pure (some [x,y]))
  (hs:swapsWithSole [.Tuple [.Name x px,.Name y py] kt pt] (.Tuple [a,b] k2 pt2) pos.line X.env=pure false:=by rfl):
  PS X (.Assign [.Tuple [.Name x px,.Name y py] kt pt] (.Tuple [a,b] k2 pt2) pos) (Ag i j ta):=by
 intro DK s σ H D I h;rw[exec_Assign_arm];refine Ja (CB ?_)
 rw[hs];refine Ja (Jb ?_)
 rw[Jc (by decide)]
 refine Ja (Tuple_ (qD (ha _ DK s σ H _ I h) fun us s1 zq=>?_))
 obtain⟨vs,H1,I1,r1,q1⟩:=zq;obtain⟨v,w,e1,q1⟩:=q1;subst e1;obtain⟨u1,u2,rfl,rv,rw'⟩:∃u1 u2,us=[u1,u2]/\RelV v u1/\RelV w u2:=by
  cases r1 with
  |cons p q=>
   cases q with
   |cons p' q'=>
    cases q'
    exact⟨_,_,rfl,p,p'⟩
 refine J3 ?_ (by show 2<=sizeLine;decide)
 have I2:Inv X DK σ H1 {s1 with heap:=s1.heap.push {cls:= .type "tuple",data:= .seq [u1,u2].toArray}}:=I1.kept (t':=s1.toks) fun b o e=>Ji _ e
 rw[hw];refine Ja (Jb ?_)
 show wpAny (model X.prog X.w) X.A (do rule "assign.swapped-stores";let items <- unpackItems (.ref s1.heap.objs.size) 2 none;assignInOrder [fun v=>bindName X.env y v,fun v=>bindName X.env x v] items.reverse;pure Flow.next) _ _ _
 refine Ja (BW (Ja (unpackItems_tuple (items:= #[u1,u2]) (I.ok.hd hc) (IsTup.new s1.heap _) fun h' hx'=>?_)))
 have I3:=I2.kept (h':=h') (t':=s1.toks) fun b o e=>hx' b o (Jm (Jh e)) e
 show wpAny _ _ (assignInOrder [fun v=>bindName X.env y v,fun v=>bindName X.env x v] [u2,u1] >>= fun _=>pure Flow.next) _ _ _
 refine Ja (assignInOrder_cons (wpAny_bindName (aZ I3 hN hj (.inl hy) rw' (fun s2 I4=>?_) (.inr hy))))
 refine assignInOrder_cons (wpAny_bindName (aZ I4 hN hi (.inl hx) rv (fun s3 I5=>assignInOrder_nil (Jb ?_)) (.inr hx)))
 rw[List.set_comm _ _ (Ne.symm hij)]at I5
 exact⟨_,H1,I5,q1⟩
def vB(to ti te:TE)(tget:V->V->Hp->VK->Prop)(tip:oN)(tset:eC):TS:=fun D σ H=>to σ H fun o H1=>ti σ H1 fun i H2=>tget o i H2 fun x H3=>te σ H3 fun y H4=>tip x y H4 fun z H5=>tset o i z H5 fun H6=>D.nx σ H6
def sP(X:Cx)(t:V->V->Hp->VK->Prop):Prop:=
 ∀(DK:List (Addr×Obj)) (s:Shared) (σ:St) (H:Hp) (o i:V) (ov iv:Value) (Q:VK),Inv X DK σ H s->RelV o ov->RelV i iv->t o i H Q->
  wpAny (model X.prog X.w) X.A (getItem ov iv) (EP X DK σ Q) X.xe s
theorem wK{o i e:Expr}{to ti te:TE}{tget:V->V->Hp->VK->Prop}{tip:oN}{tset:eC}{op:Operator}{tpos:Pos}(ho:PE X o to)(hi:PE X i ti)(hg:sP X tget)(he:PE X e te)(hp:xk X op tip)(hs:jA X tset)
  (ha:∀ov iv new,augStore i ov iv new=(do holding [new,ov,iv] (setItem ov iv new);release [new,ov,iv] [];pure .next):=by intros;rfl):PS X (.AugAssign (.Subscript o i tpos) op e pos) (vB to ti te tget tip tset):=by
 intro DK s σ H D I h;refine wpAny_AugAssign_SubscriptAny (qD (ho DK s σ H _ I h) fun ov s1 zq=>?_) ha
 obtain⟨x1,H1,I1,r1,q1⟩:=zq;refine qD (hi DK s1 σ H1 _ I1 q1) fun iv s2 zq=>?_
 obtain⟨x2,H2,I2,r2,q2⟩:=zq;refine qD (hg DK s2 σ H2 x1 x2 ov iv _ I2 r1 r2 q2) fun old s3 zq=>?_
 obtain⟨x3,H3,I3,r3,q3⟩:=zq;refine qD (he DK s3 σ H3 _ I3 q3) fun v s4 zq=>?_
 obtain⟨x4,H4,I4,r4,q4⟩:=zq;refine qD (hp DK s4 σ H4 x3 x4 old v _ I4 r3 r4 q4) fun new s5 zq=>?_
 obtain⟨x5,H5,I5,r5,q5⟩:=zq;exact qD (hs DK s5 σ H5 x1 x2 x5 ov iv new _ I5 r1 r2 r5 q5) fun _ s6 ⟨H6,I6,q6⟩=>⟨σ,H6,I6,q6⟩
def BE(f:Int->Int->Int):oN:=fun x y H Q=>∃i j,x= .int i/\y= .int j/\Q (.int (f i j)) H
theorem AB:xk X .Add (BE fun i j=>i+j):=by
 intro DK s σ H x y v u Q I r1 r2 h;obtain⟨i,j,e1,e2,q⟩:=h;subst e1;subst e2
 obtain⟨t,rfl⟩:=r1;obtain⟨t',rfl⟩:=r2;exact iadd_int ⟨.int _,H,I.tok _,⟨_,rfl⟩,q⟩
end
structure It where
 go:Nat->Hp->Prop
 yld:Nat->Hp->V->Hp->Prop
 stop:Nat->Hp->Prop
def Zs(X:Cx)(DK:List (Addr×Obj))(H:Hp)(b:Addr):Prop:=
 H b=none/\b≠X.env.locals/\b∉X.fs/\(b∈X.ex\/X.s₀.heap.objs.size<=b)/\(∀x c,X.env.cells.lookup x=some c->c≠b)/\∀p∈X.pn++DK,p.1≠b
theorem Inv.fpOk{X:Cx}{DK:List (Addr×Obj)}{σ:St}{H H':Hp}{s:Shared}{b:Addr}(I:Inv X DK σ H s)(hb:s.heap.objs.size<=b)(hn:H' b=none):Zs X DK H' b:=by
 refine⟨hn,JQ (JB I.lt hb),I.nofs hb,.inr (JA I.sz hb),fun x c e z=>?_,fun p hp z=>?_⟩
 ·obtain⟨v,q⟩:=I.cell x c e
  exact absurd (JB q.lt (by rw[z];exact hb)) (JU _)
 ·exact absurd (JB (Jh (I.pin p hp).1) (by rw[z];exact hb)) (JU _)
structure Turn(P:Program)(w:World)(K:Frag)(tg:Expr)(J:It)(fp:List Addr)(it:Addr)(tn:Nat->Heap->Prop):Prop where
 mem:it∈fp
 obj:∀i h,tn i h->∀b∈fp,∃o,h.get? b=some o/\∀v,o.data≠ .cell v
 keep:∀i h h',tn i h->(∀b∈fp,∀o,h.get? b=some o->h'.get? b=some o)->tn i h'
 item:∀(X:Cx),X.prog=P->X.w=w->X.K=K->X.calm=true->∀(i:Nat) (DK:List (Addr×Obj)) (s:Shared) (σ:St) (H:Hp) (E:Value->Shared->Prop),Inv X DK σ H s->(∀b∈fp,Zs X DK H b)->tn i s.heap->J.go i H->
  wpAny (model P w) X.A (pyNext (.ref it)) (fun r s1=>∃u,r=some u/\
   wpAny (model P w) X.A (letOwnedTupleGo tg (.ref it) u) (fun _ s2=>∃x H',Inv X DK σ H' s2/\RelV x u/\J.yld i H x H'/\tn (i+1) s2.heap/\∀b∈fp,H' b=none) E s1) E s
 done:∀(X:Cx),X.prog=P->X.w=w->X.K=K->X.calm=true->∀(i:Nat) (DK:List (Addr×Obj)) (s:Shared) (σ:St) (H:Hp) (E:Value->Shared->Prop),Inv X DK σ H s->(∀b∈fp,Zs X DK H b)->tn i s.heap->J.stop i H->
  wpAny (model P w) X.A (pyNext (.ref it)) (fun r s1=>r=none/\Inv X DK σ H s1) E s
 self:∀(A:Around) (i:Nat) (s:Shared) (Q:Value->Shared->Prop) (E:Value->Shared->Prop),tn i s.heap->Q (.ref it) s->wpAny (model P w) A (pyIter (.ref it)) Q E s
abbrev TI:=St->Hp->(It->Hp->Prop)->Prop
def Bi(X:Cx)(DK:List (Addr×Obj))(σ:St)(tg:Expr)(R:It->Hp->Prop)(itv:Value)(s2:Shared):Prop:=
 ∃(it:Addr) (fp:List Addr) (tn:Nat->Heap->Prop) (J:It) (H':Hp),itv= .ref it/\Inv X DK σ H' s2/\Turn X.prog X.w X.K tg J fp it tn/\tn 0 s2.heap/\(∀b∈fp,Zs X DK H' b)/\R J H'
def PI(X:Cx)(tg iter:Expr)(wi:TI):Prop:=
 ∀(DK:List (Addr×Obj)) (s:Shared) (σ:St) (H:Hp) (R:It->Hp->Prop),Inv X DK σ H s->wi σ H R->
  wpAny (model X.prog X.w) X.A (eval iter X.env) (fun v s1=>wpAny (model X.prog X.w) X.A (pyIter v) (Bi X DK σ tg R) X.xe s1) X.xe s
theorem aJ{M:Model}{A:Around}{E:Value->Shared->Prop}{s:Shared}{tg:Expr}{it:Addr}{u:Value}{o:Obj}{n:String}{vs:Array Value}{Q:Unit->Shared->Prop}(ho:s.heap.get? it=some o)(hc:o.cls= .type n)(hd:o.data= .fields vs)
    (hn:["enumerate","zip","dict_itemiterator","dict_reverseitemiterator","odict_iterator","itertools.zip_longest","itertools.pairwise"].contains n=false)(hQ:Q () s):wpAny M A (letOwnedTupleGo tg (.ref it) u) Q E s:=by
  unfold letOwnedTupleGo;cases tg<;>first
    |exact Jb hQ
    |(cases u<;>first
        |exact Jb hQ
        | (refine Ja (wpAny_load ho ?_)
           rw[hc,hd]
           show wpAny M A (if(["enumerate","zip","dict_itemiterator","dict_reverseitemiterator","odict_iterator","itertools.zip_longest","itertools.pairwise"].contains n&&vs[0]? ==some (rawInt _))=true then _ else _) Q E s
           rw[Jc (by intro h;rw[hn,BL]at h;cases h)]
           exact Jb hQ))
def fU(K:Frag)(a:Addr):It:=
 ⟨fun i H=>∃xs x,SqL K H a xs/\xs[i]? =some x,fun i H x H'=>H'=H/\∀xs,SqL K H a xs->xs[i]? =some x,fun i H=>∃xs,SqL K H a xs/\xs.length<=i⟩
def ig(K:Frag)(a:Addr):It:=
 ⟨fun i H=>∃xs x,SqT K H a xs/\xs[i]? =some x,fun i H x H'=>H'=H/\∀xs,SqT K H a xs->xs[i]? =some x,fun i H=>∃xs,SqT K H a xs/\xs.length<=i⟩
def fq(lo:Int)(n:Nat):It:=⟨fun i _=>i<n,fun i H x H'=>H'=H/\x= .int (lo+i),fun i _=>n<=i⟩
theorem iu{P:Program}{w:World}{K:Frag}{tg:Expr}(a it:Addr):Turn P w K tg (fU K a) [it] it (fun i h=>h.IsListIter it a i) where
 mem:=by simp
 obj:=fun i h st b hb=>by
  have e:b=it:=by simpa using hb
  subst e;obtain⟨o,e,c,d⟩:=st
  exact⟨o,e,fun v z=>by rw[d]at z;cases z⟩
 keep:=fun i h h' st k=>st.at fun o e=>k it (by simp) o e
 item:=by
  intro X hP hw hK hc i DK s σ H E I hf st hg;subst hP hw hK;obtain⟨xs,x,hq,hx⟩:=hg;obtain⟨its,rv,p,hz⟩:=I.list hq;obtain⟨u,hu,ru⟩:=rv.get hx;obtain⟨f0,f1,f2,f3,f4,f5⟩:=hf it (by simp)
  refine wpAny_pyNext_list_item st p.isList (x:=u) (by simpa using hu) fun h' st' sb=>?_
  have I1:Inv X DK σ H {s with heap:=h'}:=I.turned (t':=s.toks) (fun b o hb e=>(sb.2 b hb).trans e) f0 f1 f3 f4 f5
  obtain⟨o,e,c,d⟩:=id st'
  exact⟨u,rfl,aJ (s:={s with heap:=h'}) e c d (by decide) ⟨x,H,I1,ru,⟨rfl,fun ys hy=>by rw[I.list_inj hy hq];exact hx⟩,st',fun b hb=>(hf b hb).1⟩⟩
 done:=by
  intro X hP hw hK hc i DK s σ H E I hf st hg;subst hP hw hK;obtain⟨xs,hq,hx⟩:=hg;obtain⟨its,rv,p,hz⟩:=I.list hq;obtain⟨f0,f1,f2,f3,f4,f5⟩:=hf it (by simp)
  have hl:=rv.length;exact wpAny_pyNext_list_end (I.ok.hd hc) st p.isList (by simp;omega) fun h' eb=>⟨rfl,I.turned (t':=s.toks) (fun b o hb e=>eb b o hb e) f0 f1 f3 f4 f5⟩
 self:=fun _ _ _ _ _ st h=>wpAny_pyIter_listiter st h
theorem eY{P:Program}{w:World}{K:Frag}{tg:Expr}(a it:Addr):Turn P w K tg (ig K a) [it] it (fun i h=>h.IsTupleIter it a i) where
 mem:=by simp
 obj:=fun i h st b hb=>by
  have e:b=it:=by simpa using hb
  subst e;obtain⟨o,e,c,d⟩:=st
  exact⟨o,e,fun v z=>by rw[d]at z;cases z⟩
 keep:=fun i h h' st k=>st.at fun o e=>k it (by simp) o e
 item:=by
  intro X hP hw hK hc i DK s σ H E I hf st hg;subst hP hw hK;obtain⟨xs,x,hq,hx⟩:=hg;obtain⟨its,rv,p,hz⟩:=I.tuple hq;obtain⟨u,hu,ru⟩:=rv.get hx;obtain⟨f0,f1,f2,f3,f4,f5⟩:=hf it (by simp)
  refine wpAny_pyNext_tuple_item st (show s.heap.IsTuple a its.toArray from p) (x:=u) (by simpa using hu) fun h' st' sb=>?_
  have I1:Inv X DK σ H {s with heap:=h'}:=I.turned (t':=s.toks) (fun b o hb e=>(sb.2 b hb).trans e) f0 f1 f3 f4 f5
  obtain⟨o,e,c,d⟩:=id st'
  exact⟨u,rfl,aJ (s:={s with heap:=h'}) e c d (by decide) ⟨x,H,I1,ru,⟨rfl,fun ys hy=>by rw[I.tuple_inj hy hq];exact hx⟩,st',fun b hb=>(hf b hb).1⟩⟩
 done:=by
  intro X hP hw hK hc i DK s σ H E I hf st hg;subst hP hw hK;obtain⟨xs,hq,hx⟩:=hg;obtain⟨its,rv,p,hz⟩:=I.tuple hq;obtain⟨f0,f1,f2,f3,f4,f5⟩:=hf it (by simp)
  have hl:=rv.length;exact wpAny_pyNext_tuple_end (I.ok.hd hc) st (show s.heap.IsTuple a its.toArray from p) (by simp;omega) fun h' eb=>⟨rfl,I.turned (t':=s.toks) (fun b o hb e=>eb b o hb e) f0 f1 f3 f4 f5⟩
 self:=fun _ _ _ _ _ st h=>wpAny_pyIter_tupleiter st h
theorem nJ{P:Program}{w:World}{K:Frag}{tg:Expr}(it:Addr)(lo:Int)(n:Nat):Turn P w K tg (fq lo n) [it] it (fun i h=>IsRangeIter h it (lo+(i:Nat)*1) ((n:Int)-(i:Nat)) 1) where
 mem:=by simp
 obj:=fun i h st b hb=>by
  have e:b=it:=by simpa using hb
  subst e
  exact⟨_,st,fun v z=>by
   have z':Data.fields _=Data.cell v:=z
   cases z'⟩
 keep:=fun i h h' st k=>k it (by simp) _ st
 item:=by
  intro X hP hw hK hc i DK s σ H E I hf st hg;subst hP hw hK;obtain⟨f0,f1,f2,f3,f4,f5⟩:=hf it (by simp)
  have W:=Walks.range (prog:=X.prog) (w:=X.w) (I.ok.hd hc) it lo 1 n
  refine W.item i s _ _ hg st fun v h' tk hv st' kk=>?_
  obtain⟨t,rfl⟩:=hv;have I1:Inv X DK σ H {s with heap:=h',toks:=tk}:=I.turned (fun b o hb e=>kk b o (by simpa using hb) e) f0 f1 f3 f4 f5
  refine⟨_,rfl,aJ (s:={s with heap:=h',toks:=tk}) (n:="range_iterator") st' rfl rfl (by decide) ⟨.int (lo+i),H,I1,⟨t,?_⟩,⟨rfl,rfl⟩,st',fun b hb=>(hf b hb).1⟩⟩
  rw[Int.mul_one]
 done:=by
  intro X hP hw hK hc i DK s σ H E I hf st hg;subst hP hw hK;obtain⟨f0,f1,f2,f3,f4,f5⟩:=hf it (by simp)
  exact wpAny_pyNext_range_end (I.ok.hd hc) st (by have:n<=i:=hg;omega) fun h' eb=>⟨rfl,I.turned (t':=s.toks) (fun b o hb e=>eb b o hb e) f0 f1 f3 f4 f5⟩
 self:=fun _ _ _ _ _ st h=>DB st h
section
variable{X:Cx}{tg:Expr}
def vc(K:Frag)(tl:TE):TI:=fun σ H R=>tl σ H fun x H1=>∃a,x= .ref a/\(∃xs,SqL K H1 a xs)/\R (fU K a) H1
def xw(K:Frag)(tl:TE):TI:=fun σ H R=>tl σ H fun x H1=>∃a,x= .ref a/\(∃xs,SqT K H1 a xs)/\R (ig K a) H1
theorem wB{l:Expr}{tl:TE}(hl:PE X l tl):PI X tg l (vc X.K tl):=by
 intro DK s σ H R I h;refine qD (hl DK s σ H _ I h) fun v s1 zq=>?_
 obtain⟨x,H1,I1,r1,q1⟩:=zq;obtain⟨a,e,⟨xs,hq⟩,q⟩:=q1;subst e;cases r1;obtain⟨its,rv,p,hz⟩:=I1.list hq;refine CN p.isList ?_
 refine⟨s1.heap.objs.size,[s1.heap.objs.size],_,_,H1,rfl,I1.kept (t':=s1.toks) fun b o e=>Ji _ e,iu a _,⟨_,Jn _ rfl,rfl,rfl⟩,fun b hb=>?_,q⟩
 have e:b=s1.heap.objs.size:=by simpa using hb
 subst e;exact I1.fpOk (Jf _) (I1.hok.fresh (Jf _))
theorem yG{l:Expr}{tl:TE}(hl:PE X l tl):PI X tg l (xw X.K tl):=by
 intro DK s σ H R I h;refine qD (hl DK s σ H _ I h) fun v s1 zq=>?_
 obtain⟨x,H1,I1,r1,q1⟩:=zq;obtain⟨a,e,⟨xs,hq⟩,q⟩:=q1;subst e;cases r1;obtain⟨its,rv,p,hz⟩:=I1.tuple hq;refine Cm (show s1.heap.IsTuple a its.toArray from p) ?_
 refine⟨s1.heap.objs.size,[s1.heap.objs.size],_,_,H1,rfl,I1.kept (t':=s1.toks) fun b o e=>Ji _ e,eY a _,⟨_,Jn _ rfl,rfl,rfl⟩,fun b hb=>?_,q⟩
 have e:b=s1.heap.objs.size:=by simpa using hb
 subst e;exact I1.fpOk (Jf _) (I1.hok.fresh (Jf _))
theorem iW{DK:List (Addr×Obj)}{σ:St}{H:Hp}{s:Shared}{R:It->Hp->Prop}{E:Value->Shared->Prop}{lo hi:Int}{t u v:Tok}{tk:Nat}(I:Inv X DK σ H s)(h1: -(2 ^ 62)<=lo)(h2:lo<2 ^ 62)(h3: -(2 ^ 62)<=hi)(h4:hi<2 ^ 62)
  (q:R (fq lo (hi-lo).toNat) H):wpAny (model X.prog X.w) X.A (pyIter (.ref s.heap.objs.size)) (Bi X DK σ tg R) E {s with heap:=s.heap.push {cls:= .type "range",data:= .fields #[.int lo t,.int hi u,.int 1 v]},toks:=tk}:=by
 refine wpAny_pyIter_range (IsRange.new ..) (small_one h1 h2 h3 h4) ?_
 have I1:Inv X DK σ H {s with heap:=s.heap.push {cls:= .type "range",data:= .fields #[.int lo t,.int hi u,.int 1 v]},toks:=tk}:=I.kept fun b o e=>Ji _ e
 refine⟨(s.heap.push {cls:= .type "range",data:= .fields #[.int lo t,.int hi u,.int 1 v]}).objs.size,[(s.heap.push {cls:= .type "range",data:= .fields #[.int lo t,.int hi u,.int 1 v]}).objs.size],_,_,H,rfl,
  I1.kept (t':=tk) fun b o e=>Ji _ e,nJ _ lo (hi-lo).toNat,?_,fun b hb=>?_,q⟩
 ·have e1:lo+((0:Nat):Int)*1=lo:=by simp
  have e2:(((hi-lo).toNat:Nat):Int)-((0:Nat):Int)=Builtin.Range.rangeSize lo hi 1:=by rw[rangeSize_one];split<;>omega
  show IsRangeIter _ _ (lo+((0:Nat):Int)*1) ((((hi-lo).toNat:Nat):Int)-((0:Nat):Int)) 1
  rw[e1,e2];exact Jn _ rfl
 ·have e:b=(s.heap.push {cls:= .type "range",data:= .fields #[.int lo t,.int hi u,.int 1 v]}).objs.size:=by simpa using hb
  subst e;exact I1.fpOk (Jf _) (I1.hok.fresh (Jf _))
def ve(ta:TA):TI:=fun σ H R=>ta σ H fun vs H1=>∃j:Int,vs=[.int j]/\ -(2 ^ 62)<=j/\j<2 ^ 62/\R (fq 0 j.toNat) H1
def va(ta:TA):TI:=fun σ H R=>ta σ H fun vs H1=>∃i j:Int,vs=[.int i,.int j]/\(-(2 ^ 62)<=i/\i<2 ^ 62/\ -(2 ^ 62)<=j/\j<2 ^ 62)/\R (fq i (j-i).toNat) H1
theorem pU{a:Expr}{ta:TA}{p pos:Pos}(hg:Gl X "range")(hm:X.mg "range"=none)(ha:PA X [a] ta)(hs:starEach [a] X.env=[(false,eval a X.env)]:=by rfl):PI X tg (.Call (.Name "range" p) [a] [] pos) (ve ta):=by
 intro DK s σ H R I h;refine Call_ (QX I hg hm boot_range (Cn (qD (ha pos DK s σ H _ I h) fun us s1 zq=>?_) hs rfl))
 obtain⟨vs,H1,I1,r1,q1⟩:=zq;obtain⟨j,e,q1,q2,q⟩:=q1;subst e;cases r1 with
 |cons r rr=>
  cases rr;obtain⟨t,rfl⟩:=r;exact call_range_1 (iW I1 (by omega) (by omega) q1 q2 (by simpa using q))
theorem oR{a b:Expr}{ta:TA}{p pos:Pos}(hg:Gl X "range")(hm:X.mg "range"=none)(ha:PA X [a,b] ta)(hs:starEach [a,b] X.env=[(false,eval a X.env),(false,eval b X.env)]:=by rfl)(hs2:starEach [b] X.env=[(false,eval b X.env)]:=by rfl):
  PI X tg (.Call (.Name "range" p) [a,b] [] pos) (va ta):=by
 intro DK s σ H R I h;refine Call_ (QX I hg hm boot_range (Cn (qD (ha pos DK s σ H _ I h) fun us s1 zq=>?_) (by rw[hs,hs2]) (by rw[hs2];rfl)))
 obtain⟨vs,H1,I1,r1,q1⟩:=zq;obtain⟨i,j,e,⟨q1,q2,q3,q4⟩,q⟩:=q1;subst e;cases r1 with
 |cons r rr=>
  cases rr with
  |cons r' rr=>
   cases rr;obtain⟨t,rfl⟩:=r;obtain⟨t',rfl⟩:=r';exact call_range_2 (iW I1 q1 q2 q3 q4 q)
def yh(wi:TI)(g:TG)(tb:TS):TS:=fun D σ H=>wi σ H fun J H1=>∃W:Nat->Nat->St->Hp->Prop,(∃m,W 0 m σ H1)/\∀i m σ H,W i m σ H->
 (J.stop i H/\D.nx σ H)\/(J.go i H/\∃N:St->Hp->Prop,(∀σ' H',N σ' H'->∃m',m'<m/\W (i+1) m' σ' H')/\∀x H',J.yld i H x H'->g x σ H' fun σ2 H2=>tb {D with nx:=N,ct:=N,bk:=D.nx} σ2 H2)
def fu(fp:List Addr)(h:Heap):List (Addr×Obj):=fp.filterMap fun b=>(h.get? b).map fun o=>(b,o)
theorem Zl{fp:List Addr}{h:Heap}{b:Addr}{o:Obj}(hb:b∈fp)(e:h.get? b=some o):(b,o)∈fu fp h:=List.mem_filterMap.mpr ⟨b,hb,by rw[e];rfl⟩
theorem sv{fp:List Addr}{h:Heap}{p:Addr×Obj}(hp:p∈fu fp h):p.1∈fp/\h.get? p.1=some p.2:=by
 obtain⟨b,hb,e⟩:=List.mem_filterMap.mp hp;cases q:h.get? b with
 |none=>rw[q]at e;cases e
 |some o=>
  rw[q]at e;have e':(b,o)=p:=Jv e
  subst e'
  exact⟨hb,q⟩
theorem Inv.pinned{DK:List (Addr×Obj)}{σ:St}{H:Hp}{s:Shared}{fp:List Addr}(I:Inv X DK σ H s)(hf:∀b∈fp,Zs X DK H b)(ho:∀b∈fp,∃o,s.heap.get? b=some o/\∀v,o.data≠ .cell v):Inv X (DK++fu fp s.heap) σ H s:=
 I.pins_of fun p hp=>(JO.mp hp).elim (fun z=>I.pin p (J2 _ z)) fun z=>by
  obtain⟨hb,e⟩:=sv z;obtain⟨f0,f1,f2,_⟩:=hf p.1 hb;obtain⟨o,e',d⟩:=ho p.1 hb;rw[e]at e';cases e'
  exact⟨e,f0,f1,f2,d⟩
theorem Inv.unpinned{DK pl:List (Addr×Obj)}{σ:St}{H:Hp}{s:Shared}(I:Inv X (DK++pl) σ H s):Inv X DK σ H s:=I.pins_of fun p hp=>I.pin p (J2 _ (Ck _ hp))
theorem yM{iter:Expr}{body:List Stmt}{wi:TI}{g:TG}{tb:TS}{pos:Pos}(hp:PassesOwn (model X.prog X.w) X.A X.env X.xe)(hc:X.calm=true)(hi:PI X tg iter wi)(hg:PG X tg g)(hb:PSs X body tb)
  (hs:∀x,foldedSetIterable iter X.env x=pure x:=by intro _;rfl):PS X (.For tg iter body [] pos) (yh wi g tb):=by
 intro DK s σ H D I h;refine wpAny_For (qD (hi DK s σ H _ I h) fun v s1 h1=>qD h1 fun itv s2 h2=>?_) hs
 obtain⟨it,fp,tn,J,H2,e,I2,T,st2,f2,W,⟨m0,w0⟩,turn⟩:=h2;subst e;have stat:∀{H':Hp},(∀b∈fp,H' b=none)->∀b∈fp,Zs X DK H' b:=fun hn b hb=>⟨hn b hb,(f2 b hb).2⟩
 refine codeAny_forLoop_any (fun n s'=>∃i σ' H',Inv X DK σ' H' s'/\tn i s'.heap/\(∀b∈fp,H' b=none)/\W i n σ' H') ?_ m0 ⟨0,σ,H2,I2,st2,fun b hb=>(f2 b hb).1,w0⟩
 rintro n s3 ⟨i,σ3,H3,I3,st3,fr3,w3⟩
 rcases turn i n σ3 H3 w3 with⟨stop,qn⟩|⟨go,N,hN,step⟩
 ·refine C6 hp (qD (T.done X rfl rfl rfl hc i DK s3 σ3 H3 X.xe I3 (stat fr3) st3 stop) fun r s4 zq=>?_)
  obtain⟨hr,I4⟩:=zq;subst hr;exact wpAny_execs_nil ⟨σ3,H3,I4,qn⟩
 ·refine C6 hp (qD (T.item X rfl rfl rfl hc i DK s3 σ3 H3 X.xe I3 (stat fr3) st3 go) fun r s4 zq=>?_)
  obtain⟨u,hr,h4⟩:=zq;subst hr;refine C6 hp (qD h4 fun _ s5 zq=>?_)
  obtain⟨x,H5,I5,r5,y5,st5,fr5⟩:=zq;have I5':=I5.pinned (stat fr5) (T.obj _ _ st5);refine C6 hp (qD (hg _ s5 σ3 H5 x u _ I5' r5 (step x H5 y5)) fun _ s6 zq=>?_)
  obtain⟨σ6,H6,I6,q6⟩:=zq;refine C6 hp (qD (hb _ s6 σ6 H6 _ I6 q6) fun f s7 q7=>?_)
  have again:∀{σ7:St} {H7:Hp},Inv X (DK++fu fp s5.heap) σ7 H7 s7->N σ7 H7->∃m,m<n/\∃i σ' H',Inv X DK σ' H' s7/\tn i s7.heap/\(∀b∈fp,H' b=none)/\W i m σ' H':=fun{σ7 H7} I7 n7=>by
   obtain⟨m',hm,w7⟩:=hN σ7 H7 n7;refine⟨m',hm,i+1,σ7,H7,I7.unpinned,T.keep _ _ _ st5 fun b hb o e=>(I7.pin (b,o) (J2 _ (J2 _ (Zl hb e)))).1,fun b hb=>?_,w7⟩
   obtain⟨o,e,d⟩:=T.obj _ _ st5 b hb
   exact(I7.pin (b,o) (J2 _ (J2 _ (Zl hb e)))).2.1
  cases f with
  |next=>obtain⟨σ7,H7,I7,n7⟩:=q7;exact again I7 n7
  |cont=>obtain⟨σ7,H7,I7,n7⟩:=q7;exact again I7 n7
  |brk=>obtain⟨σ7,H7,I7,q7⟩:=q7;exact⟨σ7,H7,I7.unpinned,q7⟩
  |ret v=>obtain⟨x7,σ7,H7,I7,r7,q7⟩:=q7;exact⟨x7,σ7,H7,I7.unpinned,r7,q7⟩
end
theorem zN{K:Frag}{a:Addr}{xs:List V}{g:TG}{tb:TS}{D:Ends}{σ:St}{H:Hp}(Pv:Nat->St->Hp->Prop)(h0:Pv 0 σ H)(hl:∀i σ H,i<=xs.length->Pv i σ H->SqL K H a xs)
  (hs:∀i x σ H,xs[i]? =some x->Pv i σ H->g x σ H fun σ2 H2=>tb {D with nx:=Pv (i+1),ct:=Pv (i+1),bk:=D.nx} σ2 H2)(hd:∀σ H,Pv xs.length σ H->D.nx σ H):
  ∃W:Nat->Nat->St->Hp->Prop,(∃m,W 0 m σ H)/\∀i m σ H,W i m σ H->
   ((fU K a).stop i H/\D.nx σ H)\/((fU K a).go i H/\∃N:St->Hp->Prop,(∀σ' H',N σ' H'->∃m',m'<m/\W (i+1) m' σ' H')/\∀x H',(fU K a).yld i H x H'->g x σ H' fun σ2 H2=>tb {D with nx:=N,ct:=N,bk:=D.nx} σ2 H2):=by
 refine⟨fun i m σ H=>m=xs.length-i/\i<=xs.length/\Pv i σ H,⟨xs.length,by simp,JC _,h0⟩,?_⟩
 rintro i m σ H ⟨rfl,hi,p⟩
 have q:=hl i σ H hi p
 by_cases hlt:i<xs.length
 ·refine .inr ⟨⟨xs,xs[i],q,by simp [hlt]⟩,Pv (i+1),fun σ' H' p'=>⟨xs.length-(i+1),by omega,rfl,hlt,p'⟩,fun x H' y=>?_⟩
  obtain⟨e,y⟩:=y;subst e;exact hs i x σ _ (y xs q) p
 ·have e:i=xs.length:=by omega
  subst e;exact .inl ⟨⟨xs,q,Jf _⟩,hd σ H p⟩
theorem lC{K:Frag}{a:Addr}{xs:List V}{g:TG}{tb:TS}{D:Ends}{σ:St}{H:Hp}(Pv:Nat->St->Hp->Prop)(h0:Pv 0 σ H)(hl:∀i σ H,i<=xs.length->Pv i σ H->SqT K H a xs)
  (hs:∀i x σ H,xs[i]? =some x->Pv i σ H->g x σ H fun σ2 H2=>tb {D with nx:=Pv (i+1),ct:=Pv (i+1),bk:=D.nx} σ2 H2)(hd:∀σ H,Pv xs.length σ H->D.nx σ H):
  ∃W:Nat->Nat->St->Hp->Prop,(∃m,W 0 m σ H)/\∀i m σ H,W i m σ H->
   ((ig K a).stop i H/\D.nx σ H)\/((ig K a).go i H/\∃N:St->Hp->Prop,(∀σ' H',N σ' H'->∃m',m'<m/\W (i+1) m' σ' H')/\∀x H',(ig K a).yld i H x H'->g x σ H' fun σ2 H2=>tb {D with nx:=N,ct:=N,bk:=D.nx} σ2 H2):=by
 refine⟨fun i m σ H=>m=xs.length-i/\i<=xs.length/\Pv i σ H,⟨xs.length,by simp,JC _,h0⟩,?_⟩
 rintro i m σ H ⟨rfl,hi,p⟩
 have q:=hl i σ H hi p
 by_cases hlt:i<xs.length
 ·refine .inr ⟨⟨xs,xs[i],q,by simp [hlt]⟩,Pv (i+1),fun σ' H' p'=>⟨xs.length-(i+1),by omega,rfl,hlt,p'⟩,fun x H' y=>?_⟩
  obtain⟨e,y⟩:=y;subst e;exact hs i x σ _ (y xs q) p
 ·have e:i=xs.length:=by omega
  subst e;exact .inl ⟨⟨xs,q,Jf _⟩,hd σ H p⟩
theorem QF{lo:Int}{n:Nat}{g:TG}{tb:TS}{D:Ends}{σ:St}{H:Hp}(Pv:Nat->St->Hp->Prop)(h0:Pv 0 σ H)
  (hs:∀i σ H,i<n->Pv i σ H->g (.int (lo+i)) σ H fun σ2 H2=>tb {D with nx:=Pv (i+1),ct:=Pv (i+1),bk:=D.nx} σ2 H2)(hd:∀σ H,Pv n σ H->D.nx σ H):
  ∃W:Nat->Nat->St->Hp->Prop,(∃m,W 0 m σ H)/\∀i m σ H,W i m σ H->
   ((fq lo n).stop i H/\D.nx σ H)\/((fq lo n).go i H/\∃N:St->Hp->Prop,(∀σ' H',N σ' H'->∃m',m'<m/\W (i+1) m' σ' H')/\∀x H',(fq lo n).yld i H x H'->g x σ H' fun σ2 H2=>tb {D with nx:=N,ct:=N,bk:=D.nx} σ2 H2):=by
 refine⟨fun i m σ H=>m=n-i/\i<=n/\Pv i σ H,⟨n,by simp,JC _,h0⟩,?_⟩
 rintro i m σ H ⟨rfl,hi,p⟩
 by_cases hlt:i<n
 ·refine .inr ⟨hlt,Pv (i+1),fun σ' H' p'=>⟨n-(i+1),by omega,rfl,hlt,p'⟩,fun x H' y=>?_⟩
  obtain⟨e,y⟩:=y;subst e y;exact hs i σ _ hlt p
 ·have e:i=n:=by omega
  subst e;exact .inl ⟨Jf _,hd σ H p⟩
abbrev R2:=V->V->Hp->VK->Prop
def zv(X:Cx)(f:Value->Value->Sem Value)(r:R2):Prop:=
 ∀(DK:List (Addr×Obj)) (s:Shared) (σ:St) (H:Hp) (x y:V) (v u:Value) (Q:VK),Inv X DK σ H s->RelV x v->RelV y u->r x y H Q->
  wpAny (model X.prog X.w) X.A (f v u) (EP X DK σ Q) X.xe s
def zg(X:Cx)(f:Value)(r:List V->Hp->VK->Prop):Prop:=
 ∀(DK:List (Addr×Obj)) (s:Shared) (σ:St) (H:Hp) (xs:List V) (us:List Value) (Q:VK),Inv X DK σ H s->Vals xs us->r xs H Q->
  wpAny (model X.prog X.w) X.A (call f us) (EP X DK σ Q) X.xe s
def im(r:R2)(ta tb:TE):TE:=fun σ H Q=>ta σ H fun x H1=>tb σ H1 fun y H2=>r x y H2 Q
def rI(C:Int->Int->Prop)(g:Int->Int->V):R2:=fun x y H Q=>∃i j,x= .int i/\y= .int j/\C i j/\Q (g i j) H
def ii(g:Int->Int->V):R2:=fun x y H Q=>∃i j,x= .int i/\y= .int j/\Q (g i j) H
section
variable{X:Cx}{a b c:Expr}{ta tb tc:TE}{pos:Pos}
theorem ui(ha:PE X a ta)(hb:PE X b tb){DK:List (Addr×Obj)}{s:Shared}{σ:St}{H:Hp}{R:V->V->Hp->Prop}(I:Inv X DK σ H s)
  (h:ta σ H fun x H1=>tb σ H1 fun y H2=>R x y H2){Q:Value->Shared->Prop}{f:Value->Value->Sem Value}
  (hf:∀v u s2 x y H2,Inv X DK σ H2 s2->RelV x v->RelV y u->R x y H2->wpAny (model X.prog X.w) X.A (f v u) Q X.xe s2):
  wpAny (model X.prog X.w) X.A (eval a X.env) (fun v s₁=>wpAny (model X.prog X.w) X.A (eval b X.env) (fun u s₂=>wpAny (model X.prog X.w) X.A (f v u) Q X.xe s₂) X.xe s₁) X.xe s:=by
 refine qD (ha DK s σ H _ I h) fun v s1 zq=>?_
 obtain⟨x,H1,I1,r1,q1⟩:=zq;refine qD (hb DK s1 σ H1 _ I1 q1) fun u s2 zq=>?_
 obtain⟨y,H2,I2,r2,q2⟩:=zq;exact hf v u s2 x y H2 I2 r1 r2 q2
theorem Ba{op:Operator}{r:R2}(ho:zv X (binaryOp op) r)(ha:PE X a ta)(hb:PE X b tb):PE X (.BinOp a op b pos) (im r ta tb):=by
 intro DK s σ H Q I h;exact wpAny_BinOp (ui ha hb I h fun v u s2 x y H2 I2 rx ry q=>ho DK s2 σ H2 x y v u Q I2 rx ry q)
theorem vD{f:Value->Value->Sem Value}{C:Int->Int->Prop}{g:Int->Int->Int}
  (rule:∀(i j:Int) (t u:Tok) (s:Shared) (Q:Value->Shared->Prop) (E:Value->Shared->Prop),C i j->Q (.int (g i j) s.toks) {s with toks:=s.toks+1}->wpAny (model X.prog X.w) X.A (f (.int i t) (.int j u)) Q E s):
  zv X f (rI C fun i j=> .int (g i j)):=by
 intro DK s σ H x y v u Q I rx ry h;obtain⟨i,j,rfl,rfl,hc,q⟩:=h;obtain⟨t,rfl⟩:=rx;obtain⟨t',rfl⟩:=ry;exact rule i j t t' s _ _ hc ⟨.int (g i j),H,I.tok _,⟨_,rfl⟩,q⟩
theorem yY{f:Value->Value->Sem Value}{g:Int->Int->Int}
  (rule:∀(i j:Int) (t u:Tok) (s:Shared) (Q:Value->Shared->Prop) (E:Value->Shared->Prop),Q (.int (g i j) s.toks) {s with toks:=s.toks+1}->wpAny (model X.prog X.w) X.A (f (.int i t) (.int j u)) Q E s):
  zv X f (ii fun i j=> .int (g i j)):=by
 intro DK s σ H x y v u Q I rx ry h;obtain⟨i,j,rfl,rfl,q⟩:=h;obtain⟨t,rfl⟩:=rx;obtain⟨t',rfl⟩:=ry;exact rule i j t t' s _ _ ⟨.int (g i j),H,I.tok _,⟨_,rfl⟩,q⟩
theorem mW{f:Value->Value->Sem Value}{g:Int->Int->Bool}
  (rule:∀(i j:Int) (t u:Tok) (s:Shared) (Q:Value->Shared->Prop) (E:Value->Shared->Prop),Q (.bool (g i j)) s->wpAny (model X.prog X.w) X.A (f (.int i t) (.int j u)) Q E s):
  zv X f (ii fun i j=> .bl (g i j)):=by
 intro DK s σ H x y v u Q I rx ry h;obtain⟨i,j,rfl,rfl,q⟩:=h;obtain⟨t,rfl⟩:=rx;obtain⟨t',rfl⟩:=ry;exact rule i j t t' s _ _ ⟨.bl (g i j),H,I,rfl,q⟩
def Bt(i j:Int):Prop:=0<j/\j<1073741824
def BB(i j:Int):Prop:=0<=j/\j<=1000000/\i.natAbs<2 ^ 64
def CMul(i j:Int):Prop:=(-(2 ^ 64)<i/\i<2 ^ 64)\/(-(2 ^ 64)<j/\j<2 ^ 64)
theorem CMul.ok{i j:Int}(h:CMul i j):IntMulOk i j:=by
 rcases h with⟨h1,h2⟩|⟨h1,h2⟩
 ·exact .of_left (intBits_le_64 h1 h2)
 ·exact .of_right (intBits_le_64 h1 h2)
theorem qH:zv X (binaryOp .Add) (ii fun i j=> .int (i+j)):=yY fun _ _ _ _ _ _ _ q=>add_int q
theorem zG:zv X (binaryOp .Sub) (ii fun i j=> .int (i-j)):=yY fun _ _ _ _ _ _ _ q=>sub_int q
theorem Qm:zv X (binaryOp .Mult) (rI CMul fun i j=> .int (i*j)):=vD fun _ _ _ _ _ _ _ hc q=>mul_int q hc.ok
theorem aC:zv X (binaryOp .FloorDiv) (rI Bt fun i j=> .int (i/j)):=vD fun i j _ _ _ _ _ hc q=>by
 have h1:(0:Int)<j:=hc.1
 have h2:j<1073741824:=hc.2
 exact floordiv_int (by omega) (by rw[Int.fdiv_eq_ediv_of_nonneg i (by omega)];exact q) (.inl (PyProof.noPylong_small (by omega)))
theorem zO:zv X (binaryOp .Mod) (rI (fun _ j=>0<j) fun i j=> .int (i%j)):=vD fun i j _ _ _ _ _ hc q=>by
 have h1:(0:Int)<j:=hc
 exact mod_int' (by omega) (by rw[Int.fmod_eq_emod_of_nonneg i (by omega)];exact q)
theorem yJ:zv X (binaryOp .Pow) (rI BB fun i j=> .int (i ^ j.toNat)):=vD fun _ _ _ _ _ _ _ hc q=>pow_int_small hc.1 hc.2.1 hc.2.2 q
end
def yn:V->V->Bool
 | .non,.non=>true| .non,.int _=>true| .int _,.non=>true| .non,.bl _=>true| .bl _,.non=>true| .non,.str _=>true| .str _,.non=>true
 | .int _,.int _=>true| .bl _,.bl _=>true| .str _,.str _=>true| .byt _,.byt _=>true
 | .int _,.str _=>true| .str _,.int _=>true| .bl _,.str _=>true| .str _,.bl _=>true
 |_,_=>false
def BH:R2:=fun x y H Q=>yn x y=true/\Q (.bl (decide (x=y))) H
def BF:R2:=fun x y H Q=>yn x y=true/\Q (.bl (!decide (x=y))) H
theorem lO{i j:Int}:decide (V.int i=V.int j)=(i==j):=by
 rw[CO];simp
theorem rF{i j:Bool}:decide (V.bl i=V.bl j)=(i==j):=by
 rw[CO];simp
theorem lH{i j:Str}:decide (V.str i=V.str j)=(i==j):=by
 rw[CO];simp
theorem lM{i j:Array UInt8}:decide (V.byt i=V.byt j)=(i.toList==j.toList):=by
 rw[CO];cases i;cases j;simp
section
variable{X:Cx}{a b c:Expr}{ta tb tc:TE}{pos:Pos}
theorem qO{DK:List (Addr×Obj)}{σ:St}{H:Hp}{s:Shared}{Q:VK}{k k':Bool}(I:Inv X DK σ H s)(q:Q (.bl k) H)(e:k=k'):EP X DK σ Q (.bool k') s:=by
 subst e
 exact⟨.bl k,H,I,rfl,q⟩
theorem zp:zv X (compareOp .Eq) BH:=by
 intro DK s σ H x y v u Q I rx ry h;obtain⟨hs,q⟩:=h;cases x with
 |non=>
  cases rx;cases y with
  |non=>cases ry;exact PySem.EqNone.eq_none_none (qO I q (by simp))
  |bl j=>cases ry;exact PySem.EqNone.eq_none_bool (qO I q (by simp))
  |int j=>obtain⟨t',rfl⟩:=ry;exact PySem.EqNone.eq_none_int (qO I q (by simp))
  |str j=>obtain⟨t',rfl⟩:=ry;exact PySem.EqNone.eq_none_str (qO I q (by simp))
  |_=>exact absurd (show false=true from hs) JK
 |bl i=>
  cases rx;cases y with
  |non=>cases ry;exact PySem.EqNone.eq_bool_none (qO I q (by simp))
  |bl j=>cases ry;exact eq_bool (qO I q rF)
  |str j=>obtain⟨t',rfl⟩:=ry;exact PySem.EqMixed.eq_bool_str (qO I q (by simp))
  |_=>exact absurd (show false=true from hs) JK
 |int i=>
  obtain⟨t,rfl⟩:=rx;cases y with
  |non=>cases ry;exact PySem.EqNone.eq_int_none (qO I q (by simp))
  |int j=>obtain⟨t',rfl⟩:=ry;exact eq_int (qO I q lO)
  |str j=>obtain⟨t',rfl⟩:=ry;exact PySem.EqMixed.eq_int_str (qO I q (by simp))
  |_=>exact absurd (show false=true from hs) JK
 |str i=>
  obtain⟨t,rfl⟩:=rx;cases y with
  |non=>cases ry;exact PySem.EqNone.eq_str_none (qO I q (by simp))
  |bl j=>cases ry;exact PySem.EqMixed.eq_str_bool (qO I q (by simp))
  |int j=>obtain⟨t',rfl⟩:=ry;exact PySem.EqMixed.eq_str_int (qO I q (by simp))
  |str j=>obtain⟨t',rfl⟩:=ry;exact eq_str (qO I q lH)
  |_=>exact absurd (show false=true from hs) JK
 |byt i=>
  obtain⟨t,rfl⟩:=rx;cases y with
  |byt j=>obtain⟨t',rfl⟩:=ry;exact W.eq_bytes (qO I q lM)
  |_=>exact absurd (show false=true from hs) JK
 |_=>cases y<;>exact absurd (show false=true from hs) JK
theorem Zi:zv X (compareOp .NotEq) BF:=by
 intro DK s σ H x y v u Q I rx ry h;obtain⟨hs,q⟩:=h;cases x with
 |non=>
  cases rx;cases y with
  |non=>cases ry;exact PySem.EqNone.ne_none_none (qO I q (by simp))
  |bl j=>cases ry;exact PySem.EqNone.ne_none_bool (qO I q (by simp))
  |int j=>obtain⟨t',rfl⟩:=ry;exact PySem.EqNone.ne_none_int (qO I q (by simp))
  |str j=>obtain⟨t',rfl⟩:=ry;exact PySem.EqNone.ne_none_str (qO I q (by simp))
  |_=>exact absurd (show false=true from hs) JK
 |bl i=>
  cases rx;cases y with
  |non=>cases ry;exact PySem.EqNone.ne_bool_none (qO I q (by simp))
  |bl j=>cases ry;exact ne_bool (qO I q (JP not rF))
  |str j=>obtain⟨t',rfl⟩:=ry;exact PySem.EqMixed.ne_bool_str (qO I q (by simp))
  |_=>exact absurd (show false=true from hs) JK
 |int i=>
  obtain⟨t,rfl⟩:=rx;cases y with
  |non=>cases ry;exact PySem.EqNone.ne_int_none (qO I q (by simp))
  |int j=>obtain⟨t',rfl⟩:=ry;exact ne_int (qO I q (JP not lO))
  |str j=>obtain⟨t',rfl⟩:=ry;exact PySem.EqMixed.ne_int_str (qO I q (by simp))
  |_=>exact absurd (show false=true from hs) JK
 |str i=>
  obtain⟨t,rfl⟩:=rx;cases y with
  |non=>cases ry;exact PySem.EqNone.ne_str_none (qO I q (by simp))
  |bl j=>cases ry;exact PySem.EqMixed.ne_str_bool (qO I q (by simp))
  |int j=>obtain⟨t',rfl⟩:=ry;exact PySem.EqMixed.ne_str_int (qO I q (by simp))
  |str j=>obtain⟨t',rfl⟩:=ry;exact ne_str (qO I q (JP not lH))
  |_=>exact absurd (show false=true from hs) JK
 |byt i=>
  obtain⟨t,rfl⟩:=rx;cases y with
  |byt j=>obtain⟨t',rfl⟩:=ry;exact W.ne_bytes (qO I q (JP not lM))
  |_=>exact absurd (show false=true from hs) JK
 |_=>cases y<;>exact absurd (show false=true from hs) JK
theorem eO:zv X (compareOp .Lt) (ii fun i j=> .bl (decide (i<j))):=mW fun _ _ _ _ _ _ _ q=>lt_int q
theorem ZK:zv X (compareOp .LtE) (ii fun i j=> .bl (decide (i<=j))):=mW fun _ _ _ _ _ _ _ q=>le_int q
theorem nQ:zv X (compareOp .Gt) (ii fun i j=> .bl (decide (j<i))):=mW fun _ _ _ _ _ _ _ q=>gt_int q
theorem oF:zv X (compareOp .GtE) (ii fun i j=> .bl (decide (j<=i))):=mW fun _ _ _ _ _ _ _ q=>ge_int q
theorem Qz:zv X (compareOp .Is) (fun x y H Q=>y= .non/\Q (.bl (decide (x= .non))) H):=by
 intro DK s σ H x y v u Q I rx ry h;obtain⟨rfl,q⟩:=h;cases ry;refine is_none_gen (qO I q ?_)
 cases x<;>first
  |(cases rx;rfl)
  |(obtain⟨t,rfl⟩:=rx;rfl)
theorem lU:zv X (compareOp .IsNot) (fun x y H Q=>y= .non/\Q (.bl (!decide (x= .non))) H):=by
 intro DK s σ H x y v u Q I rx ry h;obtain⟨rfl,q⟩:=h;cases ry;refine isnot_none_gen (qO I q ?_)
 cases x<;>first
  |(cases rx;rfl)
  |(obtain⟨t,rfl⟩:=rx;rfl)
theorem qA(b:Expr){op:CmpOp}(h:op≠ .In:=by decide)(h2:op≠ .NotIn:=by decide):behindInMarks op b=false:=by
 have e1:(op==CmpOp.In)=false:=by cases op<;>first|rfl|exact absurd rfl h
 have e2:(op==CmpOp.NotIn)=false:=by cases op<;>first|rfl|exact absurd rfl h2
 cases b<;>simp [behindInMarks,e1,e2]
theorem wC{op:CmpOp}{r:R2}(ho:zv X (compareOp op) r)(ha:PE X a ta)(hb:PE X b tb)(hm:behindInMarks op b=false):PE X (.Compare a [op] [b] pos) (im r ta tb):=by
 intro DK s σ H Q I h;exact wpAny_Compare1 (ui ha hb I h fun v u s2 x y H2 I2 rx ry q=>ho DK s2 σ H2 x y v u Q I2 rx ry q) hm
def fN(t:TE):TT:=fun σ H Q=>t σ H fun x H'=>∃k,x= .bl k/\Q k H'
theorem vQ{op:CmpOp}{r:R2}(ho:zv X (compareOp op) r)(ha:PE X a ta)(hb:PE X b tb)(hm:behindInMarks op b=false):PT X (.Compare a [op] [b] pos) (fN (im r ta tb)):=by
 intro DK s σ H Q I h;refine wpAny_isTrue_Compare1 (qD (ha DK s σ H _ I h) fun v s1 ⟨x,H1,I1,r1,q1⟩=>qD (hb DK s1 σ H1 _ I1 q1) fun u s2 ⟨y,H2,I2,r2,q2⟩=>
  qD (ho DK s2 σ H2 x y v u _ I2 r1 r2 q2) fun c s3 ⟨z,H3,I3,r3,k,e,q3⟩=>?_) hm
 subst e;cases r3;exact B7 ⟨H3,I3,q3⟩
def fJ(r r':R2)(ta tb tc:TE):TE:=fun σ H Q=>ta σ H fun x H1=>tb σ H1 fun y H2=>r x y H2 fun z H3=>∃k,z= .bl k/\
 (if k=true then tc σ H3 fun w' H4=>r' y w' H4 Q else Q (.bl false) H3)
theorem uG{op op':CmpOp}{r r':R2}(ho:zv X (compareOp op) r)(ho':zv X (compareOp op') r')(ha:PE X a ta)(hb:PE X b tb)(hc:PE X c tc)
  (hm:lastMarks [op,op'] [b,c]=false:=by with_unfolding_all rfl):PE X (.Compare a [op,op'] [b,c] pos) (fJ r r' ta tb tc):=by
 intro DK s σ H Q I h;refine Compare_chain (qD (ha DK s σ H _ I h) fun v s1 ⟨x,H1,I1,r1,q1⟩=>chain_link (qD (hb DK s1 σ H1 _ I1 q1) fun u s2 ⟨y,H2,I2,r2,q2⟩=>
  qD (ho DK s2 σ H2 x y v u _ I2 r1 r2 q2) fun d s3 ⟨z,H3,I3,r3,k,e,q3⟩=>?_)) hm
 subst e;cases r3;refine B7 ?_
 cases k with
 |false=>exact ite_ff ⟨.bl false,H3,I3,rfl,q3⟩
 |true=>exact ite_tt (chain_last (qD (hc DK s3 σ H3 _ I3 q3) fun w' s4 ⟨z',H4,I4,r4,q4⟩=>ho' DK s4 σ H4 y z' u w' Q I4 r2 r4 q4))
theorem t9{op op':CmpOp}{r r':R2}(ho:zv X (compareOp op) r)(ho':zv X (compareOp op') r')(ha:PE X a ta)(hb:PE X b tb)(hc:PE X c tc)
  (hm:lastMarks [op,op'] [b,c]=false:=by with_unfolding_all rfl):PT X (.Compare a [op,op'] [b,c] pos) (fN (fJ r r' ta tb tc)):=by
 intro DK s σ H Q I h;refine isTrue_chain (qD (ha DK s σ H _ I h) fun v s1 ⟨x,H1,I1,r1,q1⟩=>test_link (qD (hb DK s1 σ H1 _ I1 q1) fun u s2 ⟨y,H2,I2,r2,q2⟩=>
  qD (ho DK s2 σ H2 x y v u _ I2 r1 r2 q2) fun d s3 ⟨z,H3,I3,r3,k,e,q3⟩=>?_)) hm
 subst e;cases r3;refine B7 ?_
 cases k with
 |false=>
  obtain⟨k',e',q'⟩:=q3;cases e';exact ite_ff ⟨H3,I3,q'⟩
 |true=>
  refine ite_tt (test_last (qD (hc DK s3 σ H3 _ I3 q3) fun w' s4 ⟨z',H4,I4,r4,q4⟩=>qD (ho' DK s4 σ H4 y z' u w' _ I4 r2 r4 q4) fun d' s5 zq=>?_))
  obtain⟨z2,H5,I5,r5,k2,e2,q5⟩:=zq;subst e2;cases r5;exact B7 ⟨H5,I5,q5⟩
theorem ZC:(sizeLine:Nat)<2 ^ 63:=by rw[Jz];decide
theorem zW{x:V}{us:List Value}(r:Vals [x] us):∃u,us=[u]/\RelV x u:=by
 cases r with
 |cons r1 r2=>cases r2;exact⟨_,rfl,r1⟩
theorem fj{x y:V}{us:List Value}(r:Vals [x,y] us):∃u w',us=[u,w']/\RelV x u/\RelV y w':=by
 cases r with
 |cons r1 r2=>
  cases r2 with
  |cons r3 r4=>cases r4;exact⟨_,_,rfl,r1,r3⟩
theorem ke:zg X (.builtin "abs") (fun xs H Q=>∃i,xs=[.int i]/\Q (.int (if i<0 then -i else i)) H):=by
 intro DK s σ H xs us Q I r h;obtain⟨i,rfl,q⟩:=h;obtain⟨u,rfl,t,rfl⟩:=zW r;exact call_abs_int fun u tk=>⟨.int (if i<0 then -i else i),H,I.tok _,⟨_,rfl⟩,q⟩
theorem QH(hc:X.calm=true):zg X (.builtin "max") (fun xs H Q=>∃i j,xs=[.int i,.int j]/\Q (.int (if j>i then j else i)) H):=by
 intro DK s σ H xs us Q I r h;obtain⟨i,j,rfl,q⟩:=h;obtain⟨u,w',rfl,⟨t,rfl⟩,⟨t',rfl⟩⟩:=fj r;refine max_two_ints (I.ok.hd hc) fun h' tk k=>⟨_,H,I.kept k,?_,q⟩
 by_cases hj:j>i
 ·rw[Jd hj,Jd hj];exact⟨_,rfl⟩
 ·rw[Jc hj,Jc hj];exact⟨_,rfl⟩
theorem Qj(hc:X.calm=true):zg X (.builtin "min") (fun xs H Q=>∃i j,xs=[.int i,.int j]/\Q (.int (if j<i then j else i)) H):=by
 intro DK s σ H xs us Q I r h;obtain⟨i,j,rfl,q⟩:=h;obtain⟨u,w',rfl,⟨t,rfl⟩,⟨t',rfl⟩⟩:=fj r;refine min_two_ints (I.ok.hd hc) fun h' tk k=>⟨_,H,I.kept k,?_,q⟩
 by_cases hj:j<i
 ·rw[Jd hj,Jd hj];exact⟨_,rfl⟩
 ·rw[Jc hj,Jc hj];exact⟨_,rfl⟩
theorem cq:zg X (.type "int") (fun xs H Q=>(∃i,xs=[.int i]/\Q (.int i) H)\/∃k,xs=[.bl k]/\Q (.int (if k then 1 else 0)) H):=by
 intro DK s σ H xs us Q I r h;rcases h with⟨i,rfl,q⟩|⟨k,rfl,q⟩
 ·obtain⟨u,rfl,t,rfl⟩:=zW r
  exact call_int_int ⟨.int i,H,I,⟨_,rfl⟩,q⟩
 ·obtain⟨u,rfl,r1⟩:=zW r
  cases r1;exact call_int_bool ⟨.int (if k then 1 else 0),H,I.tok _,⟨_,rfl⟩,q⟩
theorem iY:zg X (.builtin "ord") (fun xs H Q=>∃x,xs=[.str x]/\x.length=1/\Q (.int (x.cps.getD 0 0:Nat)) H):=by
 intro DK s σ H xs us Q I r h;obtain⟨x,rfl,hz,q⟩:=h;obtain⟨u,rfl,t,rfl⟩:=zW r;exact ord_of_one hz ⟨.int _,H,I.tok _,⟨_,rfl⟩,q⟩
end
structure ObjM(h:Heap)(x dx C:Addr)(mA:Str->Option Value):Prop where
 obj:h.get? x=some (PySem.W.instObj C dx)
 ns:h.Ns1 dx mA
 ne:dx≠x
theorem sD{h:Heap}{dx:Addr}{mA:Str->Option Value}(n:h.Ns1 dx mA):∃od,h.get? dx=some od/\∀name,W.lookIn name od=some (mA name):=by
 obtain⟨o,es,ep,ho,hd,hk,_,hm⟩:=n;refine⟨o,ho,fun name=>?_⟩
 have e:=hm name;unfold nsFind findBy at e;rw[<- Array.find?_toList]at e;unfold W.lookIn;rw[hd]
 dsimp only
 split
 ·rename_i y q
  rw[q]at e;exact JP some e
 ·rename_i q
  rw[q]at e;have a:es.toList.any (·.refKey)=false:=by
   rw[List.any_eq_false];intro y hy;obtain⟨z,t,hkey⟩:=hk y (Array.mem_toList_iff.mp hy)
   simp [DictEntry.refKey,hkey]
  have a':¬es.toList.any (·.refKey)=true:=by rw[a];exact JK
  rw[Jc a'];exact JP some e
theorem ObjM.look{h:Heap}{x dx C:Addr}{mA:Str->Option Value}(I:ObjM h x dx C mA):∃od,W.InstAt h x (W.instObj C dx) C (some od)/\∀name,W.lookIn name od=some (mA name):=
 let⟨od,ho,hl⟩:=sD I.ns
 ⟨od,⟨I.obj,rfl,rfl,ho⟩,hl⟩
section
variable{prog:Program}{w:World}{A:Around}{E:Value->Shared->Prop}{s:Shared}{K:Frag}{x dx C f:Addr}{mA:Str->Option Value}{name:Str}{v:Value}
theorem wo{expr:Bool}{Q:Value->Shared->Prop}(X:K.In s.heap)(I:ObjM s.heap x dx C mA)(hg:W.plainGet K C name=true)(hh:W.hasDictIn K C=true)
  (ha:W.findIn K (.ref C) name=some none)(hv:mA name=some v)(hv':W.handedIn v=true)(h:Q v {s with toks:=s.toks+1}):
  wpAny (model prog w) A (getAttr (.ref x) name expr) Q E s:=by
 obtain⟨od,J,hl⟩:=I.look;exact W.get_value X J (W.plainGet_of hg).1 (W.findObj_own hh ha rfl (by rw[hl,hv])) hv' h
theorem tI{pl:Sem Bool}{Q:Value×List Value->Shared->Prop}(X:K.In s.heap)(I:ObjM s.heap x dx C mA)(hg:W.plainGet K C name=true)
  (hf:W.findIn K (.ref C) name=some (some (.ref f)))(ht:W.isFn K (.ref f)=true)(hv:mA name=none)(h:Q (.ref f,[.ref x]) s):
  wpAny (model prog w) A (getMethod (.ref x) name pl) Q E s:=by
 obtain⟨od,J,hl⟩:=I.look;exact W.method_fn X J (W.plainGet_of hg).1 (W.plainGet_of hg).2 hf (B2.mp ht) (by show(W.lookIn name od).map (·.isSome)=some false;rw[hl,hv];rfl) h
theorem wN{ns:List Str}{Q:Unit->Shared->Prop}(X:K.In s.heap)(I:ObjM s.heap x dx C mA)
  (hs:W.findIn K (.ref C) "__setattr__"=some (some (.builtin "object.__setattr__")))(hp:W.plainOver K C=true)(ht:W.takerIn K C name=some none)(hh:W.hasDictIn K C=true)
  (hw:PySem.Within mA ns)(hsz:ns.length<=sizeLine)
  (h:∀h',ObjM h' x dx C (fun y=>if y=name then some v else mA y)->Heap.SameBut dx s.heap h'->Q () {s with heap:=h',toks:=s.toks+2}):
  wpAny (model prog w) A (setAttr (.ref x) name v) Q E s:=by
 obtain⟨od,J,hl⟩:=I.look;refine W.set_plain X J hs (W.osa_open (s:={s with toks:=s.toks+1}) (r:=none) X J hp ht fun b=>?_)
 obtain⟨cd,hc,hd'⟩:=W.any_some hh;have hx:s.heap.get? x=some ⟨.ref C,some dx,.plain,#[]⟩:=I.obj
 refine Ja (Jb (Ja (Ja (wpAny_loadPart hx (Ja (W.Looks.here (s:={s with toks:=s.toks+1}) (W.looks_clsIn X hc) ?_))))))
 rw[hd'];refine Jb (a:=some dx) (Ja (Jb (Ja ?_)))
 refine wpAny_nsSet1 (s:={s with toks:=s.toks+1}) I.ns fun h' hn2 hs2=>?_
 obtain⟨oD,esD,epD,hoD,hdD,hcD⟩:=hn2.count (PySem.Within.cons name v hw)
 refine Ja (wpAny_lookBehind hoD (by rw[hdD];exact pastItsLine_dict (JA hcD (by rw[BM];omega))) ?_)
 exact Jb (h _ ⟨(hs2.2 _ (Ne.symm I.ne)).trans I.obj,hn2,I.ne⟩ hs2)
theorem tN{R:Result->Shared->Prop}{vs:List Value}{kw:List (Str×Value)}(X:K.In s.heap)(hm:W.makesIn K C=true)
  (hi:W.findIn K (.ref C) "__init__"=some (some (.ref f)))(hf:W.typeIn K (.ref f)=some (.type "function"))
  (h:codeAny (model prog w) (A.under (.builtin "type.__call__" ⟨.ref C::vs,kw⟩)) (.call (.ref f) ⟨.ref (s.heap.objs.size+1)::vs,kw⟩) (W.InitBack (s.heap.objs.size+1) R)
   {s with heap:=(s.heap.push W.emptyDict).push (W.instObj C s.heap.objs.size)}):
  codeAny (model prog w) A (.call (.ref C) ⟨vs,kw⟩) R s:=by
 obtain⟨hh,g,d,t,os⟩:=s;exact W.make_core (W.makes_of X hm) (W.looks_findIn X hi) (fun self=>W.bind_fn X self hf) (.inl rfl) h
end
def Qg(f:Str)(v:V):List (Str×V)->List (Str×V)
 | []=>[(f,v)]
 |(g,x)::r=>if g=f then(g,v)::r else(g,x)::Qg f v r
theorem cZ(f g:Str)(v:V):∀fs:List (Str×V),(Qg f v fs).lookup g=if g=f then some v else fs.lookup g
 | []=>by
  show List.lookup g [(f,v)]=_
  by_cases h:g=f
  ·have hb:(g==f)=true:=B2.mpr h
   simp only[List.lookup,hb,Jd h]
  ·have hb:(g==f)=false:=CA.mpr h
   simp only[List.lookup,hb,Jc h]
 |(k,x)::r=>by
  have ih:=cZ f g v r;rw[show Qg f v ((k,x)::r)=(if k=f then(k,v)::r else(k,x)::Qg f v r)from rfl]
  by_cases hk:k=f
  ·rw[Jd hk]
   by_cases h:g=k
   ·have hb:(g==k)=true:=B2.mpr h
    simp only[List.lookup,hb,Jd (h.trans hk)]
   ·have hb:(g==k)=false:=CA.mpr h
    simp only[List.lookup,hb,Jc (fun e:g=f=>h (e.trans hk.symm))]
  ·rw[Jc hk]
   by_cases h:g=k
   ·have hb:(g==k)=true:=B2.mpr h
    simp only[List.lookup,hb,Jc (fun e:g=f=>hk (h.symm.trans e))]
   ·have hb:(g==k)=false:=CA.mpr h
    simp only[List.lookup,hb];exact ih
theorem bR(f:Str)(v:V):∀fs:List (Str×V),f∈(Qg f v fs).map (·.1)/\∀g,g∈fs.map (·.1)->g∈(Qg f v fs).map (·.1)
 | []=>⟨by simp [Qg],fun g h=>by simp at h⟩
 |(k,x)::r=>by
  obtain⟨i1,i2⟩:=bR f v r;rw[show Qg f v ((k,x)::r)=(if k=f then(k,v)::r else(k,x)::Qg f v r)from rfl]
  by_cases hk:k=f
  ·rw[Jd hk]
   subst hk
   exact⟨by simp,fun g h=>by simpa using h⟩
  ·rw[Jc hk]
   refine⟨?_,fun g h=>?_⟩
   ·rw[JW]
    exact JJ _ i1
   ·rw[JW]at h⊢
    rcases Jj.mp h with e|e
    ·exact Jj.mpr (.inl e)
    ·exact JJ _ (i2 g e)
theorem cW(f:Str)(v:V):∀fs:List (Str×V),(Qg f v fs).length<=fs.length+1
 | []=>by simp [Qg]
 |(k,x)::r=>by
  have ih:=cW f v r;rw[show Qg f v ((k,x)::r)=(if k=f then(k,v)::r else(k,x)::Qg f v r)from rfl]
  by_cases hk:k=f
  ·rw[Jd hk,BM,BM];omega
  ·rw[Jc hk,BM,BM];omega
theorem RelO.some_of{v:V}{o:Option Value}(r:RelO (some v) o):∃u,o=some u/\RelV v u:=by
 cases o with
 |none=>exact(show False from r).elim
 |some u=>exact⟨u,rfl,r⟩
theorem RelO.none_of{o:Option Value}(r:RelO none o):o=none:=by
 cases o with
 |none=>rfl
 |some u=>exact(show False from r).elim
theorem rl{v:V}{u:Value}(r:RelV v u):W.handedIn u=true:=by
 cases v with
 |non=>cases(show u=Value.none from r);rfl
 |bl b=>cases(show u=Value.bool b from r);rfl
 |int i=>obtain⟨t,e⟩:=(show∃t,u=Value.int i t from r);cases e;rfl
 |str x=>obtain⟨t,e⟩:=(show∃t,u=Value.str x t from r);cases e;rfl
 |byt b=>obtain⟨t,e⟩:=(show∃t,u=Value.bytes b t from r);cases e;rfl
 |flt b=>obtain⟨t,e⟩:=(show∃t,u=Value.float b t from r);cases e;rfl
 |ref a=>cases(show u=Value.ref a from r);rfl
 |ty n=>cases(show u=Value.type n from r);rfl
section
variable{P:Program}{w:World}{H H':Hp}{h h':Heap}{a C dx:Addr}{fs fs':List (Str×V)}
theorem cD(hok:HOk P w H h)(e:H a=some (.ins C dx fs)):∃mA,ObjM h a dx C mA/\(∀f,RelO (fs.lookup f) (mA f))/\PySem.Within mA (fs.map (·.1))/\fs.length<=1000/\H dx=some (.own a):=by
 obtain⟨d,z,ne,ob,mA,n,r,q⟩:=(show ObjOk P w H h a (.ins C dx fs)from hok a _ e)
 exact⟨mA,⟨ob,n,ne⟩,r,q,z,d⟩
end
structure Cls(K:Frag)(C:Addr):Prop where
 pg:PySem.W.plainGet K C Str.empty=true
 hd:PySem.W.hasDictIn K C=true
 po:PySem.W.plainOver K C=true
 sa:PySem.W.findIn K (.ref C) "__setattr__"=some (some (.builtin "object.__setattr__"))
theorem Cls.get{K:Frag}{C:Addr}(c:Cls K C)(f:Str):W.plainGet K C f=true:=c.pg
def NoAttr(K:Frag)(C:Addr)(f:Str):Prop:=PySem.W.findIn K (.ref C) f=some none
theorem NoAttr.taker{K:Frag}{C:Addr}{f:Str}(n:NoAttr K C f):W.takerIn K C f=some none:=by
 unfold W.takerIn;rw[show W.findIn K (.ref C) f=some none from n]
 rfl
structure Meth(K:Frag)(C:Addr)(m:Str)(f:Addr):Prop where
 at_:PySem.W.findIn K (.ref C) m=some (some (.ref f))
 fn:PySem.W.isFn K (.ref f)=true
 kp:PySem.W.keepIn K (.ref f)=true
section
variable{X:Cx}{DK:List (Addr×Obj)}{σ:St}{H:Hp}{s:Shared}{a C dx:Addr}{fs:List (Str×V)}{f:Str}{v:V}{A:Around}{E:Value->Shared->Prop}
theorem mM{b:Bool}{Q:Value->Shared->Prop}(I:Inv X DK σ H s)(e:H a=some (.ins C dx fs))(c:Cls X.K C)(n:NoAttr X.K C f)(l:fs.lookup f=some v)
  (h:∀u s',Inv X DK σ H s'->RelV v u->Q u s'):wpAny (model X.prog X.w) A (getAttr (.ref a) f b) Q E s:=by
 obtain⟨mA,O,r,_,_,_⟩:=cD I.hok e;obtain⟨u,hu,ru⟩:=RelO.some_of (v:=v) (o:=mA f) (by rw[<- l];exact r f)
 exact wo I.kIn O (c.get f) c.hd n hu (rl ru) (h u _ (I.tok _) ru)
theorem eP{m:Str}{g:Addr}{pl:Sem Bool}{Q:Value×List Value->Shared->Prop}(I:Inv X DK σ H s)(e:H a=some (.ins C dx fs))(c:Cls X.K C)(k:Meth X.K C m g)(l:fs.lookup m=none)
  (h:Q (.ref g,[.ref a]) s):wpAny (model X.prog X.w) A (getMethod (.ref a) m pl) Q E s:=by
 obtain⟨mA,O,r,_,_,_⟩:=cD I.hok e;have hn:mA m=none:=RelO.none_of (by rw[<- l];exact r m)
 exact tI I.kIn O (c.get m) k.at_ k.fn hn h
theorem oC{y:V}{u:Value}{Q:Unit->Shared->Prop}(I:Inv X DK σ H s)(e:H a=some (.ins C dx fs))(c:Cls X.K C)(n:NoAttr X.K C f)(hl:fs.length<1000)(ry:RelV y u)
  (h:∀s',Inv X DK σ (upd H a (.ins C dx (Qg f y fs))) s'->Q () s'):wpAny (model X.prog X.w) A (setAttr (.ref a) f u) Q E s:=by
 obtain⟨mA,O,r,wi,_,ho⟩:=cD I.hok e;have hz:(fs.map (·.1)).length<=sizeLine:=by rw[Je,Jz];omega
 refine wN I.kIn O c.sa c.po n.taker c.hd wi hz fun h' O' sb=>h _ ?_
 have hd:∃o,h'.get? dx=some o:=let⟨o,_,_,e',_⟩:=O'.ns;⟨o,e'⟩
 refine I.write (x:=a) (e:=dx) (by rw[e];exact True.intro) (.inr ho) (fun b q hb z=>(sb.2 b hb).trans z) hd ?_
 refine⟨by rw[qp O.ne];exact ho,?_,O.ne,O'.obj,_,O'.ns,fun g=>?_,fun g hg=>?_⟩
 ·have:=cW f y fs;omega
 ·show RelO ((Qg f y fs).lookup g) (if g=f then some u else mA g)
  rw[cZ]
  by_cases q:g=f
  ·rw[Jd q,Jd q];exact ry
  ·rw[Jc q,Jc q];exact r g
 ·by_cases q:g=f
  ·rw[q];exact(bR f y fs).1
  ·refine(bR f y fs).2 g (wi g fun z=>hg ?_)
   show(if g=f then some u else mA g)=none
   rw[Jc q];exact z
theorem Inv.made(I:Inv X DK σ H s):Inv X DK σ (upd (upd H s.heap.objs.size (.own (s.heap.objs.size+1))) (s.heap.objs.size+1) (.ins C s.heap.objs.size []))
  {s with heap:=(s.heap.push W.emptyDict).push (W.instObj C s.heap.objs.size)}:=by
 have e1:(s.heap.push W.emptyDict).get? s.heap.objs.size=some W.emptyDict:=Jn s.heap rfl
 have e2:((s.heap.push W.emptyDict).push (W.instObj C s.heap.objs.size)).get? (s.heap.objs.size+1)=some (W.instObj C s.heap.objs.size):=by
  have:=Jn (s.heap.push W.emptyDict) (o:=W.instObj C s.heap.objs.size) rfl
  rwa [JR]at this
 have e3:(s.heap.push W.emptyDict).Ns s.heap.objs.size (fun _=>none):=⟨W.emptyDict,#[],_,e1,rfl,(fun e he=>absurd he (by simp)),fun _=>rfl⟩
 have I1:=I.laid (a:=s.heap.objs.size) (o:= .own (s.heap.objs.size+1)) (h':=s.heap.push W.emptyDict) (t':=s.toks) (fun b u q=>Ji _ q) (Jf _) ⟨_,e1⟩
 refine I1.laid (a:=s.heap.objs.size+1) (o:= .ins C s.heap.objs.size []) (t':=s.toks) (fun b u q=>Ji _ q) (Nat.le_of_eq (JR _ _)) ?_
 have ne:s.heap.objs.size≠s.heap.objs.size+1:=Jm (BX _)
 refine⟨by rw[qp ne,qd],JC _,ne,e2,fun _=>none,(Heap.Ns1.of_empty e3).at fun o q=>Ji _ q,fun _=>True.intro,fun y hy=>absurd rfl hy⟩
theorem wS{prog:Program}{w:World}{env:Env}{e:Expr}{f:Str}{pos:Pos}{s:Shared}{Q:Value->Shared->Prop}(hb:attributeBase e f env (eval e env)=eval e env)
  (h:wpAny (model prog w) A (eval e env) (fun o s₁=>wpAny (model prog w) A (getAttr o f true) Q E s₁) E s):wpAny (model prog w) A (eval (.Attribute e f pos) env) Q E s:=
 Attribute_any_ h (by rw[arm_eval_Attribute,hb])
end
section
variable{X:Cx}{DK:List (Addr×Obj)}{σ:St}{H:Hp}{s:Shared}{A:Around}{E:Value->Shared->Prop}{Q:Value->Shared->Prop}{c:Value}{b:Bool}
inductive TyOf (K:Frag) (H:Hp):V->Value->Prop where
 |non:TyOf K H .non (.type "NoneType")
 |bl (x:Bool):TyOf K H (.bl x) (.type "bool")
 |int (i:Int):TyOf K H (.int i) (.type "int")
 |str (x:Str):TyOf K H (.str x) (.type "str")
 |flt (x:UInt64):TyOf K H (.flt x) (.type "float")
 |lst {a:Addr} {xs:List V} (e:H a=some (.lst xs)):TyOf K H (.ref a) (.type "list")
 |frz {a:Addr} {o:Obj} {xs:List V} (e:H a=some (.frz o (.lst xs))):TyOf K H (.ref a) (.type "list")
 |tup {a:Addr} {xs:List V} (e:H a=some (.tup xs)):TyOf K H (.ref a) (.type "tuple")
 |dK {a:Addr} {kvs:List (qL×V)} (e:H a=some (.dK kvs)):TyOf K H (.ref a) (.type "dict")
 |dT {a:Addr} {kvs:List (List qL×V)} (e:H a=some (.dT kvs)):TyOf K H (.ref a) (.type "dict")
 | ins {a C dx:Addr} {fs:List (Str×V)} (e:H a=some (.ins C dx fs)) (cl:Cls K C) (ha:PySem.W.findIn K (.ref C) "__class__"=some (some (.builtin "object.__class__")))
   (hn:PySem.W.specialIn K (.builtin "object.__class__") "__get__"=some (some (.builtin "getset_descriptor.__get__"))) (htk:PySem.W.takesIn K (.builtin "object.__class__")=some true)
   (hm:PySem.W.mroIn K C (.type "object")=some true):TyOf K H (.ref a) (.ref C)
theorem rR{x:V}{u t:Value}(I:Inv X DK σ H s)(rx:RelV x u)(ty:TyOf X.K H x t)(e:W.kitOne X.K t c=some b)(h:∀tk,Q (.bool b) {s with toks:=tk}):
  wpAny (model X.prog X.w) A (call (.builtin "isinstance") [u,c]) Q E s:=by
 cases ty with
 |non=>cases(show u=Value.none from rx);exact JZ W.kitx_none I.kIn True.intro e (fun z=>nomatch z) h
 |bl y=>cases(show u=Value.bool y from rx);exact JZ W.kitx_bool I.kIn True.intro e (fun z=>nomatch z) h
 |int i=>obtain⟨t,q⟩:=(show∃t,u=Value.int i t from rx);cases q;exact JZ W.kitx_int I.kIn True.intro e (fun z=>nomatch z) h
 |str y=>obtain⟨t,q⟩:=(show∃t,u=Value.str y t from rx);cases q;exact JZ W.kitx_str I.kIn True.intro e (fun z=>nomatch z) h
 |flt y=>obtain⟨t,q⟩:=(show∃t,u=Value.float y t from rx);cases q;exact JZ W.kitx_float I.kIn True.intro e (fun z=>nomatch z) h
 | @lst a xs ea=>
  cases(show u=Value.ref a from rx)
  obtain⟨_,_,n,_,h1⟩:=(show ObjOk X.prog X.w H s.heap a (.lst xs)from I.hok a _ ea)
  exact JZ W.kitx_list I.kIn ⟨_,h1,rfl⟩ e (fun z=>nomatch z) h
 | @frz a ob xs ea=>
  cases(show u=Value.ref a from rx)
  obtain⟨_,_,_,n,_,h1⟩:=(show ObjOk X.prog X.w H s.heap a (.frz ob (.lst xs))from I.hok a _ ea)
  exact JZ W.kitx_list I.kIn ⟨_,h1,rfl⟩ e (fun z=>nomatch z) h
 | @tup a xs ea=>
  cases(show u=Value.ref a from rx)
  obtain⟨_,_,_,p⟩:=(show ObjOk X.prog X.w H s.heap a (.tup xs)from I.hok a _ ea)
  obtain⟨o,h1,h2,_⟩:=p;exact JZ W.kitx_tuple I.kIn ⟨o,h1,h2⟩ e (fun z=>nomatch z) h
 | @dK a kvs ea=>
  cases(show u=Value.ref a from rx)
  obtain⟨_,_,vs,_,p⟩:=(show ObjOk X.prog X.w H s.heap a (.dK kvs)from I.hok a _ ea)
  obtain⟨o,es,ep,h1,h2,_⟩:=p;exact JZ W.kitx_dict I.kIn ⟨o,h1,h2.1⟩ e (fun z=>nomatch z) h
 | @dT a kvs ea=>
  cases(show u=Value.ref a from rx)
  obtain⟨_,_,xs,_,o,es,ep,h1,h2,_⟩:=(show ObjOk X.prog X.w H s.heap a (.dT kvs)from I.hok a _ ea)
  exact JZ W.kitx_dict I.kIn ⟨o,h1,h2.1⟩ e (fun z=>nomatch z) h
 | @ins a C dx fs ea cl ha hn htk hm=>
  cases(show u=Value.ref a from rx)
  obtain⟨mA,O,_⟩:=cD I.hok ea;obtain⟨od,J,_⟩:=O.look;exact JZ (W.kitx_own (cl.get _) cl.hd ha hn htk hm) I.kIn J e (fun z=>nomatch z) h
end
structure Room(k:Nat)(A:Around):Prop where
 hd:A.handled=none
 dp:A.depth+3*k+5<recursionLimit
 un:A.units+16*k+200<cLine
theorem Room.mono{j k:Nat}{A:Around}(r:Room k A)(h:j<=k):Room j A:=⟨r.hd,by have:=r.dp;omega,by have:=r.un;omega⟩
theorem Room.mo{j k:Nat}{A:Around}(r:Room k A)(h:j<=k:=by first|decide|omega):Room j A:=r.mono h
theorem Room.deeper{k:Nat}{A:Around}(r:Room (k+1) A)(env:Env):Room k (A.deeper env):=
 ⟨r.hd,by have:=r.dp;show A.depth+1+3*k+5<_;omega,by have:=r.un;show A.units+3+16*k+200<_;omega⟩
theorem mK{A:Around}{C:Addr}{us:List Value}{kw:List (Str×Value)}:(A.under (.builtin "type.__call__" ⟨.ref C::us,kw⟩)).depth=A.depth+1:=by
 first|rfl|simp [Around.under,Code.weight,Code.isCreation,Code.isGuard,Code.isCaller,Code.frames,Code.isFrame,guardIds]
theorem nn{A:Around}{C:Addr}{us:List Value}{kw:List (Str×Value)}:(A.under (.builtin "type.__call__" ⟨.ref C::us,kw⟩)).units=A.units+1:=by
 first|rfl|simp [Around.under,Code.cUnits,Code.frames,Code.isFrame]
theorem Room.make{k:Nat}{A:Around}(r:Room (k+1) A)(C:Addr)(us:List Value)(kw:List (Str×Value)):Room k (A.under (.builtin "type.__call__" ⟨.ref C::us,kw⟩)):=
 ⟨r.hd,by have:=r.dp;rw[mK];omega,by have:=r.un;rw[nn];omega⟩
theorem Room.depth{k:Nat}{A:Around}(r:Room k A):A.depth<recursionLimit:=by have:=r.dp;omega
def tU:TA:=fun _ H Q=>Q [] H
def mT(ta:TE)(tr:TA):TA:=fun σ H Q=>ta σ H fun x H1=>tr σ H1 fun xs H2=>Q (x::xs) H2
section
variable{X:Cx}{e:Expr}{es:List Expr}{te:TE}{t:TA}{pos:Pos}
theorem AC:PA X [] tU:=fun _ _ _ _ H Q I h=>Calls.spliced_nil ⟨[],H,I,.nil,h⟩
theorem vV(ha:PE X e te)(hr:PA X es t)(hs:starEach (e::es) X.env=(false,eval e X.env)::starEach es X.env:=by rfl):PA X (e::es) (mT te t):=by
 intro pos DK s σ H Q I h;rw[hs]
 show wpAny _ _ (spliced ((false,eval e X.env)::backTo pos (starEach es X.env))) _ _ s
 refine Calls.spliced_cons (qD (ha DK s σ H _ I h) fun u s1 zq=>?_)
 obtain⟨x,H1,I1,r1,q1⟩:=zq;exact qD (hr pos DK s1 σ H1 _ I1 q1) fun us s2 ⟨xs,H2,I2,r2,q2⟩=>⟨x::xs,H2,I2,.cons r1 r2,q2⟩
def y4(t:TA):TE:=fun σ H Q=>t σ H fun xs H1=>xs.length<=sizeLine/\∀p,H1 p=none->Q (.ref p) (upd H1 p (.tup xs))
def Aw(t:TA):TE:=fun σ H Q=>t σ H fun xs H1=>xs.length<=sizeLine/\∀p,H1 p=none->Q (.ref p) (upd H1 p (.lst xs))
theorem xj{x1}(h:PA X es t):PE X (.Tuple es x1 pos) (y4 t):=by
 intro DK s σ H Q I hq;refine wpAny_Tuple_spliced (qD (h pos DK s σ H _ I hq) fun us s1 ⟨xs,H1,I1,r,z,q⟩=>⟨by rw[<- r.length];exact z,?_⟩)
 have hf:H1 s1.heap.objs.size=none:=I1.hok.fresh (Jf _)
 refine⟨.ref s1.heap.objs.size,upd H1 s1.heap.objs.size (.tup xs),I1.laid (t':=s1.toks) (fun b u e=>Ji _ e) (Jf _) ?_,rfl,q _ hf⟩
 exact⟨z,us,r,⟨_,Jn _ rfl,rfl,_,rfl⟩⟩
theorem Av(h:PA X es t):PE X (.List es pos) (Aw t):=by
 intro DK s σ H Q I hq;refine wpAny_List_spliced (qD (h pos DK s σ H _ I hq) fun us s1 ⟨xs,H1,I1,r,z,q⟩=>⟨by rw[<- r.length];exact z,?_⟩)
 have hf:H1 s1.heap.objs.size=none:=I1.hok.fresh (Jf _)
 refine⟨.ref s1.heap.objs.size,upd H1 s1.heap.objs.size (.lst xs),I1.laid (t':=s1.toks) (fun b u e=>Ji _ e) (Jf _) ?_,rfl,q _ hf⟩
 exact⟨z,us,0,r,Jn _ rfl⟩
end
abbrev Sp:=List V->Hp->VK->XK->Prop
abbrev cV:=List Env->Hp->Shared->XK->Value->Shared->Prop
structure Env0(P:Program)(w:World)(K:Frag)(mg:Str->Option Value)(base:Heap)(A:Around)(outer:List Env)(s:Shared)(H:Hp):Prop where
 frames:A.frames=some outer
 mod:Mod K mg base
 bs:∀b o,base.get? b=some o->s.heap.get? b=some o/\H b=none
 bsz:base.objs.size<=s.heap.objs.size
 funs:s.heap.FunFrames base outer
 frf:∀b∈aG outer,H b=none
 hok:HOk P w H s.heap
 bare:AllBare s.gens
def CE(outer:List Env)(P:Program)(w:World)(H:Hp)(s:Shared)(Q:VK)(u:Value)(s':Shared):Prop:=
 ∃v H',s'.os=s.os/\AllBare s'.gens/\Un (aG outer) [] H H' s.heap s'.heap/\HOk P w H' s'.heap/\RelV v u/\Q v H'
def CR(CX:cV)(outer:List Env)(P:Program)(w:World)(H:Hp)(s:Shared)(Q:VK)(E:XK)(r:Result)(s':Shared):Prop:=
 match r with
 | .ok (.ret u)=>CE outer P w H s Q u s'
 | .ok _=>False
 | .error e=>CX outer H s E e s'
structure FnOk(P:Program)(w:World)(K:Frag)(mg:Str->Option Value)(base:Heap)(CX:cV)(k:Nat)(f:Addr)(fd:FuncData)(ps:List Str)(sp:Sp):Prop where
 len:∀vs H Q E,sp vs H Q E->vs.length=ps.length
 run:∀(A:Around) (outer:List Env) (s:Shared) (H:Hp) (args:Args) (us:List Value) (vs:List V) (Q:VK) (E:XK),Room k A->Env0 P w K mg base A outer s H->BindsTo s fd args (ps.zip us)->Vals vs us->sp vs H Q E->
  codeAny (model P w) A (.call (.ref f) args) (CR CX outer P w H s Q E) s
theorem Env0.make{P:Program}{w:World}{K:Frag}{mg:Str->Option Value}{base:Heap}{A:Around}{outer:List Env}{s:Shared}{H:Hp}(e:Env0 P w K mg base A outer s H)(C:Addr)(us:List Value)(kw:List (Str×Value)):
  Env0 P w K mg base (A.under (.builtin "type.__call__" ⟨.ref C::us,kw⟩)) outer s H:=⟨by first|exact e.frames|(simpa [Around.under,Code.envs,Code.isFrame,pushEnvs]using e.frames),e.mod,e.bs,e.bsz,e.funs,e.frf,e.hok,e.bare⟩
section
variable{X:Cx}{DK:List (Addr×Obj)}{σ:St}{H:Hp}{s s':Shared}
theorem Inv.env0(I:Inv X DK σ H s):Env0 X.prog X.w X.K X.mg X.base X.A X.stack s H:=
 ⟨I.ok.frames,I.ok.mod,I.bs,JA I.ok.bsz I.sz,I.stack,I.stkFree,I.hok,I.bare⟩
theorem Inv.after{Q:VK}{u:Value}(I:Inv X DK σ H s)(h:CE X.stack X.prog X.w H s Q u s'):EP X DK σ Q u s':=by
 obtain⟨v,H',os,bare,un,hok,r,q⟩:=h;obtain⟨hh,g,d,t,os'⟩:=s'
 obtain rfl:os'=s.os:=os
 exact⟨v,H',I.call (h':=hh) (g':=g) (d':=d) (t':=t) (ch:=[]) un hok bare (fun b z=>absurd z (by simp)),r,q⟩
end
def nE(sp:Sp)(dvs:List V)(E:XK)(t:TA):TE:=fun σ H Q=>t σ H fun vs H1=>sp (vs++dvs) H1 Q E
def vE(C:Addr)(sp:Sp)(dvs:List V)(E:XK)(t:TA):TE:=fun σ H Q=>t σ H fun vs H1=>∀x dx,H1 x=none->H1 dx=none->dx≠x->
 sp (.ref x::(vs++dvs)) (upd (upd H1 dx (.own x)) x (.ins C dx [])) (fun v H2=>v= .non/\Q (.ref x) H2) E
def Binds(K:Frag)(fd:FuncData)(ps:List Str)(ds:List Value):Prop:=
 ∀(s:Shared) (us:List Value),K.In s.heap->(us++ds).length=ps.length->BindsTo s fd ⟨us,[]⟩ (ps.zip (us++ds))
theorem Binds.all{K:Frag}{fd:FuncData}{ps:List Str}(h:∀us:List Value,us.length=ps.length->bindArgs fd ⟨us,[]⟩=pure (ps.zip us)):Binds K fd ps []:=fun s us _ hl=>by
 rw[CP]at hl⊢;exact .of_eq (h us hl)
def cp(CX:cV)(X:Cx)(E:XK):Prop:=∀(DK:List (Addr×Obj)) (σ:St) (H:Hp) (s:Shared) (e:Value) (s':Shared),Inv X DK σ H s->CX X.stack H s E e s'->X.xe e s'
section
variable{X:Cx}{CX:cV}{k:Nat}{f C:Addr}{fd:FuncData}{ps:List Str}{sp:Sp}{dvs:List V}{ds:List Value}{E:XK}{x m:Str}{p pos apos:Pos}{e o:Expr}{es:List Expr}{ta:TE}{t:TA}
theorem jQ{DK:List (Addr×Obj)}{σ:St}{H:Hp}{s:Shared}{Q:VK}{us:List Value}{vs:List V}(F:FnOk X.prog X.w X.K X.mg X.base CX k f fd ps sp)(hr:Room k X.A)(hb:Binds X.K fd ps ds)(hd:Vals dvs ds)(hx:cp CX X E)
  (I:Inv X DK σ H s)(r:Vals vs us)(h:sp (vs++dvs) H Q E):wpAny (model X.prog X.w) X.A (call (.ref f) us) (EP X DK σ Q) X.xe s:=by
 have r2:Vals (vs++dvs) (us++ds):=r.append hd
 have hl:(us++ds).length=ps.length:=by rw[<- r2.length];exact F.len _ _ _ _ h
 refine wpAny_call (CQ (F.run X.A X.stack s H ⟨us,[]⟩ (us++ds) (vs++dvs) Q E hr I.env0 (hb s us I.kIn hl) r2 h) fun r s' hq=>?_)
 cases r with
 |error e=>exact hx DK σ H s e s' I hq
 |ok fl=>
  cases fl with
  |ret u=>exact I.after hq
  |next=>exact False.elim hq
  |brk=>exact False.elim hq
  |cont=>exact False.elim hq
theorem wH(F:FnOk X.prog X.w X.K X.mg X.base CX k f fd ps sp)(hr:Room k X.A)(hg:Gl X x)(hm:X.mg x=some (.ref f))(hk:W.keepIn X.K (.ref f)=true)(hb:Binds X.K fd ps ds)(hd:Vals dvs ds)(hx:cp CX X E)
  (ha:PA X (e::es) t)(hdb:(x==("__debug__":Str))=false:=by decide)(he:starEach (e::es) X.env=(false,eval e X.env)::starEach es X.env:=by rfl)(hpl:(backTo pos (starEach es X.env)).any (·.1)=false:=by rfl):
  PE X (.Call (.Name x p) (e::es) [] pos) (nE sp dvs E t):=by
 intro DK s σ H Q I h;refine Dp (gC I hg hm ?_ hdb)
 refine W.callWith_K (h₀:=X.base) I.ok.mod.kin hk (qD (ha pos DK s σ H _ I h) fun us s1 ⟨vs,H1,I1,r,q⟩=>⟨I1.kIn,?_⟩) he hpl
 exact jQ F hr hb hd hx I1 r q
structure Mk(K:Frag)(C f:Addr):Prop where
 makes:PySem.W.makesIn K C=true
 init:PySem.W.findIn K (.ref C) "__init__"=some (some (.ref f))
 fn:PySem.W.isFn K (.ref f)=true
 kp:PySem.W.keepIn K (.ref C)=true
theorem uL{DK:List (Addr×Obj)}{σ:St}{H:Hp}{s:Shared}{Q:VK}{us:List Value}{vs:List V}(M:Mk X.K C f)(F:FnOk X.prog X.w X.K X.mg X.base CX k f fd ps sp)(hr:Room (k+1) X.A)(hb:Binds X.K fd ps ds)(hd:Vals dvs ds)
  (hx:cp CX X E)(I:Inv X DK σ H s)(r:Vals vs us)
  (h:∀x dx,H x=none->H dx=none->dx≠x->sp (.ref x::(vs++dvs)) (upd (upd H dx (.own x)) x (.ins C dx [])) (fun v H2=>v= .non/\Q (.ref x) H2) E):
  wpAny (model X.prog X.w) X.A (call (.ref C) us) (EP X DK σ Q) X.xe s:=by
 have hq:=h (s.heap.objs.size+1) s.heap.objs.size (I.hok.fresh (Co _)) (I.hok.fresh (Jf _)) (Jm (BX _));have I2:=Inv.made (C:=C) I
 have r2:Vals (V.ref (s.heap.objs.size+1)::(vs++dvs)) (Value.ref (s.heap.objs.size+1)::(us++ds)):= .cons rfl (r.append hd)
 have hl:(Value.ref (s.heap.objs.size+1)::us++ds).length=ps.length:=by
  have e:=r2.length;rw[F.len _ _ _ _ hq]at e;exact e.symm
 refine wpAny_call (tN (f:=f) I.kIn M.makes M.init (B2.mp M.fn) (CQ (F.run _ X.stack _ _ ⟨Value.ref (s.heap.objs.size+1)::us,[]⟩ (Value.ref (s.heap.objs.size+1)::(us++ds)) _ _ E (hr.make C us [])
  (I2.env0.make C us []) (hb _ (Value.ref (s.heap.objs.size+1)::us) I2.kIn hl) r2 hq) fun r s' hq'=>?_))
 cases r with
 |error e=>exact hx DK σ _ _ e s' I2 hq'
 |ok fl=>
  cases fl with
  |ret u=>
   obtain⟨v,H',I3,rv,ev,q3⟩:=I2.after hq';subst ev
   exact⟨rv,⟨V.ref (s.heap.objs.size+1),H',I3,rfl,q3⟩⟩
  |next=>exact False.elim hq'
  |brk=>exact False.elim hq'
  |cont=>exact False.elim hq'
theorem wI(M:Mk X.K C f)(F:FnOk X.prog X.w X.K X.mg X.base CX k f fd ps sp)(hr:Room (k+1) X.A)(hg:Gl X x)(hm:X.mg x=some (.ref C))(hb:Binds X.K fd ps ds)(hd:Vals dvs ds)(hx:cp CX X E)
  (ha:PA X (e::es) t)(hdb:(x==("__debug__":Str))=false:=by decide)(he:starEach (e::es) X.env=(false,eval e X.env)::starEach es X.env:=by rfl)(hpl:(backTo pos (starEach es X.env)).any (·.1)=false:=by rfl):
  PE X (.Call (.Name x p) (e::es) [] pos) (vE C sp dvs E t):=by
 intro DK s σ H Q I h;refine Dp (gC I hg hm ?_ hdb)
 refine W.callWith_K (h₀:=X.base) I.ok.mod.kin M.kp (qD (ha pos DK s σ H _ I h) fun us s1 ⟨vs,H1,I1,r,q⟩=>⟨I1.kIn,?_⟩) he hpl
 exact uL M F hr hb hd hx I1 r q
end
structure FnScope(N P:List Str)(sc:Scope):Prop where
 kind:sc.kind= .function
 co:sc.isCoroutine=false
 gen:sc.isGenerator=false
 nd:N.Nodup
 pre:N.take P.length=P
 par:∀x∈P,sc.names.lookup x=some .local\/sc.names.lookup x=some .cell
 nofree:∀y∈sc.names,y.2≠ .free
theorem iB{kindOf:Str->Option NameKind}{x:Str}:∀{binds:List (Str×Value)} {m:Str->Option Value},(∀v,(x,v)∉binds)->bindL kindOf binds m x=m x
 | [],_,_=>rfl
 |(n,v)::r,m,h=>by
  unfold bindL;rw[iB fun w hw=>h w (JJ _ hw)]
  split
  ·have:x≠n:=by rintro rfl;exact h v JE
   simp [this]
  ·rfl
theorem hJ{kindOf:Str->Option NameKind}{x:Str}:∀{binds:List (Str×Value)} {m:Str->Option Value},(∀v,(x,v)∉binds)->bindC kindOf binds m x=m x
 | [],_,_=>rfl
 |(n,v)::r,m,h=>by
  unfold bindC;rw[hJ fun w hw=>h w (JJ _ hw)]
  split
  ·rfl
  ·have:x≠n:=by rintro rfl;exact h v JE
   simp [this]
theorem hW{kindOf:Str->Option NameKind}{x:Str}{v:Value}:∀{P:List Str} {vs:List Value} {i:Nat} {m:Str->Option Value},P.Nodup->P[i]? =some x->vs[i]? =some v->kindOf x=some .local->
  bindL kindOf (P.zip vs) m x=some v
 | [],_,_,_,_,h,_,_=>by simp at h
 |_::_,[],_,_,_,_,h,_=>by simp at h
 |p::P,w::vs,0,m,nd,h1,h2,hk=>by
  simp at h1 h2;subst h1;subst h2
  show bindL kindOf ((p,w)::P.zip vs) m p=_
  unfold bindL;rw[iB fun v hv=>(BN.mp nd).1 (List.of_mem_zip hv).1,Jd hk]
  simp
 |p::P,w::vs,i+1,m,nd,h1,h2,hk=>by
  show bindL kindOf ((p,w)::P.zip vs) m x=_
  unfold bindL;exact hW (i:=i) (BN.mp nd).2 (by simpa using h1) (by simpa using h2) hk
theorem gV{kindOf:Str->Option NameKind}{x:Str}{v:Value}:∀{P:List Str} {vs:List Value} {i:Nat} {m:Str->Option Value},P.Nodup->P[i]? =some x->vs[i]? =some v->kindOf x≠some .local->
  bindC kindOf (P.zip vs) m x=some v
 | [],_,_,_,_,h,_,_=>by simp at h
 |_::_,[],_,_,_,_,h,_=>by simp at h
 |p::P,w::vs,0,m,nd,h1,h2,hk=>by
  simp at h1 h2;subst h1;subst h2
  show bindC kindOf ((p,w)::P.zip vs) m p=_
  unfold bindC;rw[hJ fun v hv=>(BN.mp nd).1 (List.of_mem_zip hv).1,Jc hk]
  simp
 |p::P,w::vs,i+1,m,nd,h1,h2,hk=>by
  show bindC kindOf ((p,w)::P.zip vs) m x=_
  unfold bindC;exact gV (i:=i) (BN.mp nd).2 (by simpa using h1) (by simpa using h2) hk
def QZ(N:List Str)(vs:List V):St:=vs.map some++List.replicate (N.length-vs.length) none
def aB(CX:cV)(P:Program)(w:World)(K:Frag)(mg:Str->Option Value)(base:Heap)(N:List Str)(DL:Str)(scope:Scope)(f:Addr)(cd:Value)(A:Around)(outer:List Env)(s:Shared)(H:Hp)(E:XK):Cx where
 prog:=P
 w:=w
 K:=K
 mg:=mg
 base:=base
 A:=A.deeper (envOfC DL scope s.heap.objs.size f cd)
 N:=N
 s₀:=s
 H₀:=H
 env:=envOfC DL scope s.heap.objs.size f cd
 outer:=outer
 stack:=envOfC DL scope s.heap.objs.size f cd::outer
 ex:=[]
 calm:=true
 fn:=fun _=>true
 pn:=[]
 xe:=fun e s'=>wpAny (model P w) (A.deeper (envOfC DL scope s.heap.objs.size f cd)) (leaving (envOfC DL scope s.heap.objs.size f cd) e) (fun _ s''=>CX outer H s E e s'') (fun e' s''=>CX outer H s E e' s'') s'
theorem jV{sc:Scope}{n:Nat}{x:Str}(h:sc.names.lookup x=some .cell):∃c,(cellsFrom n sc.names []).lookup x=some c:=by
 have q:=W.cellsFrom_some sc.names n [] (.inl h);exact DC.mp q
theorem rE{CX:cV}{P:Program}{w:World}{K:Frag}{mg:Str->Option Value}{base:Heap}{N ps:List Str}{DL:Str}{scope:Scope}{f:Addr}{cd:Value}{A:Around}{outer:List Env}{s s1:Shared}{H:Hp}{E:XK}{us:List Value}{vs:List V}
  (S:FnScope N ps scope)(hd:A.handled=none)(e0:Env0 P w K mg base A outer s H)(hl:vs.length=ps.length)(r:Vals vs us)
  (x:InCallC s s.heap.objs.size (bindL (envOfC DL scope s.heap.objs.size f cd).kindOf (ps.zip us) fun _=>none) (cellsFrom (s.heap.objs.size+1) scope.names []) (bindC (envOfC DL scope s.heap.objs.size f cd).kindOf (ps.zip us) fun _=>none) s1):
  Inv (aB CX P w K mg base N DL scope f cd A outer s H E) [] (QZ N vs) H s1:=by
 have hpl:ps.length<=N.length:=by have:=JP List.length S.pre;rw[BS]at this;omega
 obtain⟨h1,tk,rfl,hk⟩:=x.done;have noA:∀b:Addr,b∉(aB CX P w K mg base N DL scope f cd A outer s H E).ex:=fun b z=>absurd (show b∈([]:List Addr)from z) (by simp)
 refine⟨⟨e0.mod,S.kind,rfl,rfl,Jf _,fun y z c h1 h2=>?_,fun y hy=>?_,fun y c _ h=>?_,fun _=>hd,Around.frames_deeper e0.frames,.inr ⟨rfl,rfl⟩,fun b z=>absurd z (noA b),e0.bs,e0.bsz,fun b _ _=>noA b,fun b z=>absurd z (noA b),e0.funs,e0.frf⟩,
  rfl,e0.bare,Un.kept hk,⟨_,x.toInCall.ns,fun i y v h1 h2 h3=>?_⟩,fun y c h=>⟨_,x.cell y c h⟩,e0.hok.fresh (Jf _),fun y c h=>?_,fun p hp=>absurd (show p∈([]:List (Addr×Obj))from hp) (by simp),e0.hok.kept hk,?_⟩
 ·exact name_of_addr x.apart (CC h1) (CC h2)
 ·have hy:scope.names.lookup y=some .cell\/scope.names.lookup y=some .free:=hy
  rcases hy with hy|hy
  ·exact jV hy
  ·exact absurd rfl (S.nofree _ (CC hy))
 ·exact C5 (x.above y c (CC h))
 ·have hi:i<vs.length:=by
   unfold QZ at h2
   by_cases hi:i<vs.length
   ·exact hi
   ·rw[JX (by simpa using hi)]at h2
    rw[List.getElem?_replicate]at h2;split at h2<;>cases h2
  have ha:vs[i]? =some v:=by
   unfold QZ at h2;rw[J0 (by simpa using hi),Jo]at h2
   cases e:vs[i]? with
   |none=>rw[e]at h2;cases h2
   |some a=>rw[e]at h2;cases h2;rfl
  obtain⟨u,hu,rv⟩:=r.get ha;have hp:ps[i]? =some y:=by
   rw[<- S.pre,List.getElem?_take_of_lt (by omega)];exact h1
  have ndP:ps.Nodup:=by rw[<- S.pre];exact S.nd.sublist (List.take_sublist _ _)
  refine⟨u,rv,?_⟩
  rcases S.par y (JS hp)with k|k
  ·exact .inl ⟨k,hW ndP hp hu k⟩
  ·obtain⟨c,e⟩:=jV (n:=s.heap.objs.size+1) k
   refine .inr ⟨.inl k,c,e,?_⟩
   have q:=x.cell y c e;rw[gV ndP hp hu (by show scope.names.lookup y≠_;rw[k];decide)]at q
   exact q
 ·exact e0.hok.fresh (C5 (x.above y c (CC h)))
 ·unfold QZ
  show _=N.length
  rw[Jx,Je,DD];omega
theorem AY{CX:cV}{P:Program}{w:World}{K:Frag}{mg:Str->Option Value}{base:Heap}{k:Nat}{f:Addr}{name DL:Str}{params:Arguments}{body:List Stmt}{scope:Scope}{dV kV doc pm cdv ct oc:Value}{an od:Option Addr}
  {osl:Array (Option Value)}{N ps:List Str}{sp:Sp}(lk:K.lookup f=some ⟨oc,od,.func (W.fnOf name DL params body scope dV kV doc pm an cdv ct),osl⟩)(hcd:W.codeIn K cdv DL=true)(S:FnScope N ps scope)
  (len:∀vs H Q E,sp vs H Q E->vs.length=ps.length)
  (hbody:∀(A:Around) (outer:List Env) (s:Shared) (H:Hp) (vs:List V) (Q:VK) (E:XK),Room k (A.deeper (envOfC DL scope s.heap.objs.size f cdv))->sp vs H Q E->
   ∃t,PSs (aB CX P w K mg base N DL scope f cdv A outer s H E) body t/\t {nx:=fun _ H'=>Q .non H',rt:=Q} (QZ N vs) H):
  FnOk P w K mg base CX (k+1) f (W.fnOf name DL params body scope dV kV doc pm an cdv ct) ps sp:=by
 refine⟨len,fun A outer s H args us vs Q E hr e0 hb r hsp=>?_⟩
 have hl:=len _ _ _ _ hsp;have KX:K.In s.heap:=e0.mod.kin.keeps fun b o e=>(e0.bs b o e).1
 have lim:s.heap.NoLimit:=e0.mod.nolimit.keeps fun b o e=>(e0.bs b o e).1
 have hkind:∀y∈ps.zip us,scope.names.lookup y.1=some .local\/(scope.names.lookup y.1=some .cell/\((cellsFrom (s.heap.objs.size+1) scope.names []).lookup y.1).isSome=true):=fun⟨n,v⟩ hy=>by
  rcases S.par n (List.of_mem_zip hy).1 with q|q
  ·exact .inl q
  ·exact .inr ⟨q,W.cellsFrom_some _ _ _ (.inl q)⟩
 refine codeAny_call_function hr.depth (KX _ _ lk) rfl S.co S.gen rfl (W.codeRec_of KX hcd) (hb _ _ _ _ ?_)
 refine wpAny_newFunctionEnv_cells S.kind hkind fun env he s1 x=>?_
 subst he;refine⟨lim.keeps x.toInCall.keep,codeAny_func ?_⟩
 obtain⟨t,ht,hq⟩:=hbody A outer s H vs Q E (hr.deeper _) hsp
 have I:Inv (aB CX P w K mg base N DL scope f cdv A outer s H E) [] (QZ N vs) H s1:=rE S hr.hd e0 hl r x
 refine JG (ht [] s1 (QZ N vs) H _ I hq) (fun fl s' hs=>?_) fun e s' hs=>hs
 have fin:∀{σ':St} {H':Hp} {v:V} {u:Value},Inv (aB CX P w K mg base N DL scope f cdv A outer s H E) [] σ' H' s'->RelV v u->Q v H'->CE outer P w H s Q u s':=
  fun{σ' H' v u} J rv q=>⟨v,H',J.os,J.bare,J.base,J.hok,rv,q⟩
 cases fl with
 |ret u=>
  obtain⟨v,σ',H',J,rv,q⟩:=hs;exact fin J rv q
 |next=>
  obtain⟨σ',H',J,q⟩:=hs;exact fin (v:=V.non) (u:=Value.none) J rfl q
 |brk=>
  obtain⟨_,_,_,q⟩:=hs;exact False.elim q
 |cont=>
  obtain⟨_,_,_,q⟩:=hs;exact False.elim q
section
variable{X:Cx}{x:Str}{p pos:Pos}{e:Expr}{es:List Expr}{t:TA}{id T:String}{r:List V->Hp->VK->Prop}
def vm(r:List V->Hp->VK->Prop)(t:TA):TE:=fun σ H Q=>t σ H fun vs H1=>r vs H1 Q
theorem tY(hc:zg X (.builtin id) r)(hg:Gl X x)(hm:X.mg x=none)(hv:bootBuiltins x=some (.builtin id))(ha:PA X (e::es) t)(hn:x≠"__name__":=by decide)(hdb:(x==("__debug__":Str))=false:=by decide)
  (he:starEach (e::es) X.env=(false,eval e X.env)::starEach es X.env:=by rfl)(hpl:(backTo pos (starEach es X.env)).any (·.1)=false:=by rfl):PE X (.Call (.Name x p) (e::es) [] pos) (vm r t):=by
 intro DK s σ H Q I h;refine Dp (QX I hg hm hv ?_ hn hdb)
 exact PyProof.Rows.callWith_builtin1 (qD (ha pos DK s σ H _ I h) fun us s1 ⟨vs,H1,I1,r1,q1⟩=>hc DK s1 σ H1 vs us Q I1 r1 q1) he hpl
theorem rg(hc:zg X (.type T) r)(hg:Gl X x)(hm:X.mg x=none)(hv:bootBuiltins x=some (.type T))(ha:PA X (e::es) t)(hn:x≠"__name__":=by decide)(hdb:(x==("__debug__":Str))=false:=by decide)
  (he:starEach (e::es) X.env=(false,eval e X.env)::starEach es X.env:=by rfl)(hpl:(backTo pos (starEach es X.env)).any (·.1)=false:=by rfl):PE X (.Call (.Name x p) (e::es) [] pos) (vm r t):=by
 intro DK s σ H Q I h;refine Dp (QX I hg hm hv ?_ hn hdb)
 exact Cn (qD (ha pos DK s σ H _ I h) fun us s1 ⟨vs,H1,I1,r1,q1⟩=>hc DK s1 σ H1 vs us Q I1 r1 q1) he hpl
end
end L2
namespace HT
open PySem PyProof.Rows
section
variable{prog:Program}{w:World}{A:Around}{E:Value->Shared->Prop}{s:Shared}
theorem cat_tup{t b:Addr}{vs ws:List Value}{Q:Value->Shared->Prop}(ht:IsTup s.heap t vs.toArray)(hb:IsTup s.heap b ws.toArray)(hv:vs≠[])
  (h1:ws=[]->Q (.ref t) s)(h2:ws≠[]->Q (.ref s.heap.objs.size) {s with heap:=s.heap.push {cls:= .type "tuple",data:= .seq (vs++ws).toArray}})
  (hsz:vs.length+ws.length<=sizeLine):wpAny (model prog w) A (binaryOp .Add (.ref t) (.ref b)) Q E s:=by
 obtain⟨⟨cls,dd,data,sl⟩,ho,hc,n,hd⟩:=id ht;obtain⟨⟨cls2,dd2,data2,sl2⟩,ho2,hc2,n2,hd2⟩:=id hb;simp only at hc hd hc2 hd2
 subst hc hd hc2 hd2;have e:vs.toArray++ws.toArray=(vs++ws).toArray:=by simp
 by_cases hw:ws=[]
 ·exact concat_meets ⟨_,ho,rfl⟩ ⟨_,ho2,rfl⟩ noFill_tuple_add seq_tuple_add DE DF (DG _ _)
   (tuple_addW1 t b vs.toArray ws.toArray n n2 dd dd2 sl sl2 (by simpa using hv) (by simp [hw])) ⟨ho,ho2,h1 hw⟩
 ·refine concat_meets ⟨_,ho,rfl⟩ ⟨_,ho2,rfl⟩ noFill_tuple_add seq_tuple_add DE DF (DG _ _)
   (tuple_addW2 t b vs.toArray ws.toArray n n2 dd dd2 sl sl2 (by simpa using hv) (by simpa using hw) (by rw[Jt,Jt];exact hsz)) ⟨ho,ho2,?_⟩
  rw[e];exact h2 hw
def sIx(n d:Nat):Option Int->Nat
 |none=>d
 |some v=>if v<0 then(v+(n:Int)).toNat else min v.toNat n
theorem yp(n d:Nat)(hd:d<=n)(o:Option Int):sIx n d o<=n:=by
 cases o with
 |none=>exact hd
 |some v=>
  show(if v<0 then(v+(n:Int)).toNat else min v.toNat n)<=n
  by_cases hv:v<0
  ·rw[Jd hv];omega
  ·rw[Jc hv];exact Nat.min_le_right _ _
theorem lV(v:Int)(n d:Nat):(if v<0 then max (v+(n:Int)) 0 else min v (n:Int))=((sIx n d (some v):Nat):Int):=by
 show(if v<0 then max (v+(n:Int)) 0 else min v (n:Int))=(((if v<0 then(v+(n:Int)).toNat else min v.toNat n):Nat):Int)
 by_cases hv:v<0
 ·simp only[Jd hv];omega
 ·simp only[Jc hv];omega
theorem nF(lo hi:Option Int)(n:Nat):Builtin.Slice.sliceAdjust lo hi 1 (n:Int)=(((sIx n 0 lo:Nat):Int),((sIx n n hi:Nat):Int)):=by
 have h1:¬((1:Int)<0):=by omega
 unfold Builtin.Slice.sliceAdjust;simp only[h1,JN];refine Prod.ext ?_ ?_
 ·cases lo with
  |none=>rfl
  |some v=>exact lV v n 0
 ·cases hi with
  |none=>rfl
  |some v=>exact lV v n n
theorem oH(i j:Nat):Builtin.Slice.slicePlaces (i:Int) (j:Int) 1=j-i:=by
 unfold Builtin.Slice.slicePlaces;have h1:(1:Int)>0:=by omega
 simp only[h1,BO,Int.ediv_one];split<;>omega
theorem fk{v:Value}{o:Option Int}{Q:Option Int->Shared->Prop}(p:IsPart v o)(h:Q o s):wpAny (model prog w) A (Builtin.Slice.slicePartIndex v) Q E s:=by
 cases p with
 |none=>exact slicePart_none h
 |int i t=>exact slicePart_int h
theorem sliceApplied_gen{sl:Addr}{vl vu:Value}{lo hi:Option Int}{n:Nat}{Q:Int×Int×Nat->Shared->Prop}(hs:s.heap.IsSliceOf sl vl vu .none)(pl:IsPart vl lo)(pu:IsPart vu hi)
  (h:Q (((sIx n 0 lo:Nat):Int),1,sIx n n hi-sIx n 0 lo) s):wpAny (model prog w) A (Builtin.Slice.sliceApplied (.ref sl) (pure (n:Int))) Q E s:=by
 obtain⟨os,hos,hcs,hds⟩:=id hs;unfold Builtin.Slice.sliceApplied Builtin.Slice.sliceFields;refine Ja (Ja (JL hos hds (x:=vl) rfl (Ja (JL hos hds (x:=vu) rfl (Ja (JL hos hds (x:= .none) rfl (Jb ?_)))))))
 refine Ja (slicePart_none ?_)
 show wpAny _ _ (if((1:Int)==0)=true then _ else _) _ _ s
 rw[Jc (by decide)]
 refine Ja (fk pl (Ja (fk pu (Ja (Jb ?_)))))
 show wpAny _ _ (match Builtin.Slice.sliceAdjust lo hi 1 (n:Int)with|(lo,hi)=>pure (lo,(1:Int),Builtin.Slice.slicePlaces lo hi 1)) _ _ s
 rw[nF lo hi n]
 show wpAny _ _ (pure (((sIx n 0 lo:Nat):Int),(1:Int),Builtin.Slice.slicePlaces ((sIx n 0 lo:Nat):Int) ((sIx n n hi:Nat):Int) 1)) _ _ s
 rw[oH];exact Jb h
theorem sT(xs:Array Value)(i k:Nat):((List.range k).filterMap fun(m:Nat)=>xs[((i:Int)+(m:Int)*1).toNat]?).toArray=((xs.toList.drop i).take k).toArray:=by
 have e:(fun(m:Nat)=>xs[((i:Int)+(m:Int)*1).toNat]?)=fun m=>xs[i+m]? :=by
  funext m
  have:((i:Int)+(m:Int)*1).toNat=i+m:=by omega
  rw[this]
 rw[e]
 have:=pick_run xs i k
 rw[List.filterMap_map]at this;have e2:((fun x=>xs[x]?)∘fun x=>i+x)=fun m=>xs[i+m]? :=rfl
 rw[e2]at this;rw[this]
theorem getItem_tuple_cut{t sl:Addr}{items:Array Value}{vl vu:Value}{lo hi:Option Int}{Q:Value->Shared->Prop}(ht:IsTup s.heap t items)(hs:s.heap.IsSliceOf sl vl vu .none)(pl:IsPart vl lo)(pu:IsPart vu hi)
  (hw:¬(sIx items.size 0 lo=0/\sIx items.size items.size hi=items.size))
  (h:Q (.ref s.heap.objs.size) {s with heap:=s.heap.push {cls:= .type "tuple",data:= .seq ((items.toList.drop (sIx items.size 0 lo)).take (sIx items.size items.size hi-sIx items.size 0 lo)).toArray}})
  (hsz:items.size<=sizeLine):wpAny (model prog w) A (getItem (.ref t) (.ref sl)) Q E s:=by
 have htake:sizeOk (.seq ((items.toList.drop (sIx items.size 0 lo)).take (sIx items.size items.size hi-sIx items.size 0 lo)).toArray):=by
  show((items.toList.drop (sIx items.size 0 lo)).take (sIx items.size items.size hi-sIx items.size 0 lo)).toArray.size<=sizeLine
  rw[Jt,BS,List.length_drop,J1];omega
 have hj:sIx items.size items.size hi<=items.size:=yp _ _ (Jf _) hi
 obtain⟨os,hos,hcs,hds⟩:=id hs;have hTs:s.TypeIs (.ref sl) "slice":=⟨os,hos,hcs⟩
 unfold getItem
 try with_reducible refine JV ?_
 first|refine Ja (Jb ?_)|skip
 refine Ja (wpAny_sequenceKey ht.typeIs (by decide) ?_)
 refine Ja (wpAny_callSpecial?_slot (name:=Str.ofString "__getitem__") ht.typeIs Dq
  (JT Dq ht.typeIs entry_tuple_getitem ?_ (args_tuple_getitem _ _)))
 show wpAny _ _ (Builtin.Tuple.tupleItemsOf (.ref t) >>= _) _ _ s
 refine Ja (tupleItemsOf_ ht ?_)
 refine Ja (C7 hTs ?_)
 rw[Jd (by decide)]
 refine Ja (sliceApplied_gen hs pl pu ?_)
 have hno:¬((((sIx items.size 0 lo:Nat):Int)==0&&(1:Int)==1&&(sIx items.size items.size hi-sIx items.size 0 lo)==items.size)=true):=by
  intro q;rw[J4,J4]at q;have q1:((sIx items.size 0 lo:Nat):Int)=0:=eq_of_beq q.1.1
  have q2:sIx items.size items.size hi-sIx items.size 0 lo=items.size:=eq_of_beq q.2
  exact hw ⟨by omega,by omega⟩
 show wpAny _ _ (if(((sIx items.size 0 lo:Nat):Int)==0&&(1:Int)==1&&(sIx items.size items.size hi-sIx items.size 0 lo)==items.size)=true then _ else _) _ _ s
 rw[Jc hno,sT]
 first
  |exact Ja (m:=Builtin.Tuple.tupleExact _) (J3 (Jb ⟨_,rfl,Jb h⟩) htake)
  |exact Ja (m:=Builtin.Tuple.tupleExact _) (J3 (Ja (Jb (Jb ⟨_,rfl,Jb h⟩))) htake)
  |exact Ja (Ja (m:=Builtin.Tuple.tupleExact _) (J3 (Jb (Jb ⟨_,rfl,Jb h⟩)) htake))
  |exact Ja (Ja (m:=Builtin.Tuple.tupleExact _) (J3 (Jb ⟨_,rfl,Jb h⟩) htake))
end
end HT
namespace L2
open PySem PySem.Spec PyProof.Rows
abbrev TO:=St->Hp->(Option Int->Hp->Prop)->Prop
def PO(X:Cx)(e:Option Expr)(t:TO):Prop:=
 ∀(DK:List (Addr×Obj)) (s:Shared) (σ:St) (H:Hp) (Q:Option Int->Hp->Prop),Inv X DK σ H s->t σ H Q->
  wpAny (model X.prog X.w) X.A (evalPart e X.env) (fun u s'=>∃o H',Inv X DK σ H' s'/\IsPart u o/\Q o H') X.xe s
def lB:TO:=fun _ H Q=>Q none H
def vz(t:TE):TO:=fun σ H Q=>t σ H fun x H1=>∃i,x= .int i/\Q (some i) H1
section
variable{X:Cx}{e:Expr}{te:TE}{lo hi:Option Expr}{tl th:TO}{pos p2:Pos}
theorem vU:PO X none lB:=by
 intro DK s σ H Q I h;rw[evalPart_none];exact Jb ⟨none,H,I,.none,h⟩
theorem vS(h:PE X e te):PO X (some e) (vz te):=by
 intro DK s σ H Q I hw;rw[evalPart_some];refine qD (h DK s σ H _ I hw) fun u s1 zq=>?_
 obtain⟨x,H1,I1,r1,q1⟩:=zq;obtain⟨i,rfl,q⟩:=q1;obtain⟨t,rfl⟩:=r1
 exact⟨some i,H1,I1,.int i t,q⟩
def oM(X:Cx)(r:V->Option Int->Option Int->Hp->VK->Prop):Prop:=
 ∀(DK:List (Addr×Obj)) (s:Shared) (σ:St) (H:Hp) (x:V) (v vl vu:Value) (lo hi:Option Int) (sl:Addr) (Q:VK),Inv X DK σ H s->RelV x v->s.heap.IsSliceOf sl vl vu .none->IsPart vl lo->IsPart vu hi->r x lo hi H Q->
  ∃T id,typeLookup (.type T) "__getitem__"=pure (some (.builtin id))/\s.TypeIs v T/\wpAny (model X.prog X.w) X.A (getItem v (.ref sl)) (EP X DK σ Q) X.xe s
def Bj(r:V->Option Int->Option Int->Hp->VK->Prop)(te:TE)(tl th:TO):TE:=fun σ H Q=>te σ H fun x H1=>tl σ H1 fun l H2=>th σ H2 fun u H3=>r x l u H3 Q
theorem tT{r:V->Option Int->Option Int->Hp->VK->Prop}(hr:oM X r)(he:PE X e te)(hl:PO X lo tl)(hu:PO X hi th):PE X (.Subscript e (.Slice lo hi none p2) pos) (Bj r te tl th):=by
 intro DK s σ H Q I h;refine Subscript_ (qD (he DK s σ H _ I h) fun v s1 zq=>?_)
 obtain⟨x,H1,I1,r1,q1⟩:=zq;refine wpAny_Slice (qD (hl DK s1 σ H1 _ I1 q1) fun vl s2 ⟨l,H2,I2,pl,q2⟩=>qD (hu DK s2 σ H2 _ I2 q2) fun vu s3 zq=>?_)
 obtain⟨u,H3,I3,pu,q3⟩:=zq;rw[evalPart_none];refine Jb ?_
 have I4:Inv X DK σ H3 {s3 with heap:=s3.heap.push {cls:= .type "slice",data:= .fields #[vl,vu,.none]}}:=I3.kept (t':=s3.toks) fun b ob q=>Ji _ q
 obtain⟨T,id,hT,ht,hg⟩:=hr DK {s3 with heap:=s3.heap.push {cls:= .type "slice",data:= .fields #[vl,vu,.none]}} σ H3 x v vl vu l u s3.heap.objs.size Q I4 r1 (Heap.IsSliceOf.new ..) pl pu q3
 show wpAny (model X.prog X.w) X.A (subscriptTail e (.Slice lo hi none p2) v (.ref s3.heap.objs.size)) (EP X DK σ Q) X.xe {s3 with heap:=s3.heap.push {cls:= .type "slice",data:= .fields #[vl,vu,.none]}}
 exact tail_any (ops:=[.ref s3.heap.objs.size,v]) ht hT hg (by with_unfolding_all rfl)
def Zq(xs:List V)(lo hi:Option Int):List V:=(xs.drop (HT.sIx xs.length 0 lo)).take (HT.sIx xs.length xs.length hi-HT.sIx xs.length 0 lo)
theorem cT(xs:List V)(lo hi:Option Int):(Zq xs lo hi).length<=xs.length:=by
 unfold Zq;rw[BS,List.length_drop];omega
def Bn(K:Frag):V->Option Int->Option Int->Hp->VK->Prop:=fun x lo hi H Q=>∃a xs,x= .ref a/\SqT K H a xs/\
 ¬(HT.sIx xs.length 0 lo=0/\HT.sIx xs.length xs.length hi=xs.length)/\∀p,H p=none->Q (.ref p) (upd H p (.tup (Zq xs lo hi)))
theorem y8:oM X (Bn X.K):=by
 intro DK s σ H x v vl vu lo hi sl Q I rx hs pl pu h;obtain⟨a,xs,rfl,hx,hw,q⟩:=h;cases rx;obtain⟨its,r,ht,hz⟩:=I.tuple hx;have hlen:its.toArray.size=xs.length:=by rw[Jt];exact r.length.symm
 refine⟨"tuple",_,PyProof.Rows.slot_tuple_getitem.lookup,ht.typeIs,?_⟩
 refine HT.getItem_tuple_cut ht hs pl pu (by rw[hlen];exact hw) ?_ (by rw[hlen];exact hz)
 rw[hlen];refine⟨.ref s.heap.objs.size,_,I.laid (t':=s.toks) (o:= .tup (Zq xs lo hi)) (fun b ob q=>Ji _ q) (Jf _) ?_,rfl,q _ (I.hok.fresh (Jf _))⟩
 exact⟨JA (cT xs lo hi) hz,_,(r.drop (HT.sIx xs.length 0 lo)).take (HT.sIx xs.length xs.length hi-HT.sIx xs.length 0 lo),IsTup.new _ _⟩
def AT(K:Frag):R2:=fun x y H Q=>∃a b xs ys,x= .ref a/\y= .ref b/\SqT K H a xs/\SqT K H b ys/\xs≠[]/\xs.length+ys.length<=sizeLine/\
 (ys=[]->Q (.ref a) H)/\(ys≠[]->∀p,H p=none->Q (.ref p) (upd H p (.tup (xs++ys))))
theorem Vals.nil_iff{xs:List V}{us:List Value}(r:Vals xs us):us=[]↔xs=[]:=by
 cases r with
 |nil=>simp
 |cons _ _=>simp
theorem wP:zv X (binaryOp .Add) (AT X.K):=by
 intro DK s σ H x y v u Q I rx ry h;obtain⟨a,b,xs,ys,rfl,rfl,ha,hb,hx,hz,q1,q2⟩:=h;cases rx;cases ry;obtain⟨its,r1,p1,_⟩:=I.tuple ha;obtain⟨its2,r2,p2,_⟩:=I.tuple hb;refine HT.cat_tup p1 p2 (fun z=>hx (r1.nil_iff.mp z)) (fun z=>⟨.ref a,H,I,rfl,q1 (r2.nil_iff.mp z)⟩) (fun z=>?_) (by rw[<- r1.length,<- r2.length];exact hz)
 refine⟨.ref s.heap.objs.size,_,I.laid (t':=s.toks) (o:= .tup (xs++ys)) (fun b ob q=>Ji _ q) (Jf _) ?_,rfl,q2 (fun w=>z (r2.nil_iff.mpr w)) _ (I.hok.fresh (Jf _))⟩
 exact⟨by rw[Jx];exact hz,_,r1.append r2,IsTup.new _ _⟩
end
def bw(n:Nat)(i:Int):Option Nat:=if 0<=i then(if i<n then some i.toNat else none)else if -(n:Int)<=i then some (i+n).toNat else none
def QQ{α:Type}(xs:List α)(i:Int):Option α:=(bw xs.length i).bind fun j=>xs[j]?
theorem lS{n:Nat}{i:Int}{j:Nat}(h:bw n i=some j):seqIndex? i n=some j/\j<n/\ -(n:Int)<=i/\i<n:=by
 unfold bw at h
 by_cases h0:0<=i
 ·rw[Jd h0]at h
  by_cases h1:i<n
  ·rw[Jd h1]at h
   have e:i.toNat=j:=Jv h
   exact⟨by rw[seqIndex_of h0 h1,e],by omega,by omega,h1⟩
  ·rw[Jc h1]at h;cases h
 ·rw[Jc h0]at h
  by_cases h1: -(n:Int)<=i
  ·rw[Jd h1]at h
   have e:(i+n).toNat=j:=Jv h
   exact⟨by rw[seqIndex_neg (by omega) h1,e],by omega,h1,by omega⟩
  ·rw[Jc h1]at h;cases h
theorem lN{α:Type}{xs:List α}{i:Int}{v:α}(h:QQ xs i=some v):∃j,seqIndex? i xs.length=some j/\xs[j]? =some v/\j<xs.length/\ -(xs.length:Int)<=i/\i<xs.length:=by
 unfold QQ at h;cases e:bw xs.length i with
 |none=>rw[e]at h;cases h
 |some j=>
  rw[e]at h;obtain⟨h1,h2,h3,h4⟩:=lS e
  exact⟨j,h1,h,h2,h3,h4⟩
theorem QK{α:Type}{xs:List α}{j:Nat}{v:α}(h:xs[j]? =some v):QQ xs (j:Int)=some v:=by
 have hj:j<xs.length:=(Js.mp h).1
 have e:bw xs.length (j:Int)=some j:=by
  unfold bw;rw[Jd (by omega),Jd (by omega)];simp
 unfold QQ;rw[e];exact h
def lr(b:Expr):Prop:=∀o i,subscripted b false o i=operate [o,i] (getItem o i)
def IxR(X:Cx)(r:R2):Prop:=
 ∀(value slice:Expr) (DK:List (Addr×Obj)) (s:Shared) (σ:St) (H:Hp) (x y:V) (v u:Value) (Q:VK),Inv X DK σ H s->RelV x v->RelV y u->r x y H Q->
  subscripted slice false v u=operate [v,u] (getItem v u)->wpAny (model X.prog X.w) X.A (subscriptTail value slice v u) (EP X DK σ Q) X.xe s
def il(X:Cx)(id:String)(r:V->List V->Hp->VK->Prop):Prop:=
 ∀(DK:List (Addr×Obj)) (s:Shared) (σ:St) (H:Hp) (x:V) (xs:List V) (v:Value) (us:List Value) (Q:VK),Inv X DK σ H s->RelV x v->Vals xs us->r x xs H Q->
  wpAny (model X.prog X.w) X.A (call (.builtin id) (v::us)) (EP X DK σ Q) X.xe s
section
variable{X:Cx}{a b:Expr}{ta tb:TE}{pos:Pos}
theorem IxR.or{r r':R2}(h:IxR X r)(h':IxR X r'):IxR X (fun x y H Q=>r x y H Q\/r' x y H Q):=by
 intro value slice DK s σ H x y v u Q I rx ry q hs;rcases q with q|q
 ·exact h value slice DK s σ H x y v u Q I rx ry q hs
 ·exact h' value slice DK s σ H x y v u Q I rx ry q hs
theorem Bc{r:R2}(hr:IxR X r)(ha:PE X a ta)(hb:PE X b tb)(hs:lr b):PE X (.Subscript a b pos) (im r ta tb):=by
 intro DK s σ H Q I h;exact Subscript_ (ui ha hb I h fun v u s2 x y H2 I2 rx ry q=>hr a b DK s2 σ H2 x y v u Q I2 rx ry q (hs _ _))
def xg(K:Frag):R2:=fun x y H Q=>∃p xs i v,x= .ref p/\y= .int i/\SqL K H p xs/\QQ xs i=some v/\Q v H
def uM(K:Frag):R2:=fun x y H Q=>∃p xs i v,x= .ref p/\y= .int i/\SqT K H p xs/\QQ xs i=some v/\Q v H
theorem qF:IxR X (xg X.K):=by
 intro value slice DK s σ H x y v u Q I rx ry h hs;obtain⟨p,xs,i,z,rfl,rfl,hq,he,q⟩:=h;cases rx;obtain⟨t,rfl⟩:=ry;obtain⟨its,r,pl,hz⟩:=I.list hq;obtain⟨j,h1,h2,h3,h4,h5⟩:=lN he;obtain⟨w,ew,rw'⟩:=r.get h2;have hl:=r.length;have hn:=ZC;have fin:EP X DK σ Q w s:=⟨z,H,I,rw',q⟩
 by_cases h0:0<=i
 ·have hj:i.toNat=j:=by
   rw[seqIndex_of h0 h5]at h1;exact Jv h1
  exact item_listR pl.isList h0 (by omega) (by rw[hj];simpa using ew) fin hs
 ·have hj:(i+(its.toArray.size:Int)).toNat=j:=by
   rw[seqIndex_neg (by omega) h4]at h1
   rw[Jt,<- hl];exact Jv h1
  exact subscriptTail_builtinR (x:=w) pl.isList.typeIs slot_list_getitem.lookup
   (wpAny_getItem_list_neg (Q:=fun r s'=>r=w/\EP X DK σ Q r s') pl.isList (by omega) (by rw[Jt]<;>omega) (by omega) (by rw[hj];simpa using ew) ⟨rfl,fin⟩) hs
theorem qI:IxR X (uM X.K):=by
 intro value slice DK s σ H x y v u Q I rx ry h hs;obtain⟨p,xs,i,z,rfl,rfl,hq,he,q⟩:=h;cases rx;obtain⟨t,rfl⟩:=ry;obtain⟨its,r,pl,hz⟩:=I.tuple hq;obtain⟨j,h1,h2,h3,h4,h5⟩:=lN he;obtain⟨w,ew,rw'⟩:=r.get h2;have hl:=r.length;have hn:=ZC;have fin:EP X DK σ Q w s:=⟨z,H,I,rw',q⟩
 exact subscriptTail_builtinR (x:=w) pl.typeIs slot_tuple_getitem.lookup
  (getItem_tuple (j:=j) (Q:=fun r s'=>r=w/\EP X DK σ Q r s') pl (by omega) (by omega) (by rw[Jt,<- hl];exact h1) (by simpa using ew) ⟨rfl,fin⟩) hs
theorem nW(its:List Value)(n j:Nat)(u:Value):Obj.mapSeq (·.setIfInBounds j u) {cls:= .type "list",data:= .seq its.toArray n}={cls:= .type "list",data:= .seq (its.set j u).toArray n}:=by
 simp [Obj.mapSeq]
theorem Inv.lst{DK:List (Addr×Obj)}{σ:St}{H:Hp}{s:Shared}{p:Addr}{xs:List V}(I:Inv X DK σ H s)(h:H p=some (.lst xs)):
  ∃(its:List Value) (n:Nat),Vals xs its/\s.heap.get? p=some {cls:= .type "list",data:= .seq its.toArray n}/\xs.length<=sizeLine:=by
 obtain⟨z,its,n,r,e⟩:=I.hok p _ h
 exact⟨its,n,r,e,z⟩
theorem Inv.lstUpd{DK:List (Addr×Obj)}{σ:St}{H:Hp}{s:Shared}{p:Addr}{xs ys:List V}{its its':List Value}{n n':Nat}{f:Obj->Obj}(I:Inv X DK σ H s)(h:H p=some (.lst xs))
  (ho:s.heap.get? p=some {cls:= .type "list",data:= .seq its.toArray n})(hf:f {cls:= .type "list",data:= .seq its.toArray n}={cls:= .type "list",data:= .seq its'.toArray n'})(r:Vals ys its')(hz:ys.length<=sizeLine)(t:Nat):
  Inv X DK σ (upd H p (.lst ys)) {s with heap:=s.heap.update p f,toks:=t}:=by
 have e:(s.heap.update p f).get? p=some {cls:= .type "list",data:= .seq its'.toArray n'}:=by
  rw[Cp f ho (by rw[hf]<;>rfl),hf]
 refine I.write (x:=p) (e:=p) (by rw[h];trivial) (.inl rfl) (fun b u hb q=>(CS _ _ (Ne.symm hb)).trans q) ⟨_,e⟩ ?_
 exact⟨hz,its',n',r,e⟩
def AQ:V->V->V->Hp->(Hp->Prop)->Prop:=fun o i v H Q=>∃p xs k j,o= .ref p/\i= .int k/\H p=some (.lst xs)/\bw xs.length k=some j/\Q (upd H p (.lst (xs.set j v)))
theorem Zn:jA X AQ:=by
 intro DK s σ H o i v ov iv u Q I ro ri rv h;obtain⟨p,xs,k,j,rfl,rfl,hp,hj,q⟩:=h;cases ro;obtain⟨t,rfl⟩:=ri;obtain⟨its,n,r,ho,hz⟩:=I.lst hp;obtain⟨h1,h2,h3,h4⟩:=lS hj;have hl:=r.length;have hn:=ZC;have I':Inv X DK σ (upd H p (.lst (xs.set j v))) {s with heap:=s.heap.update p (Obj.mapSeq (·.setIfInBounds j u))}:=
  I.lstUpd hp ho (nW its n j u) (r.set rv j) (by rw[CD];exact hz) s.toks
 by_cases h0:0<=k
 ·have hk:k.toNat=j:=by
   rw[seqIndex_of h0 h4]at h1;exact Jv h1
  exact W.ki_setAt ho h0 (by omega) (by rw[Jt,<- hl];exact h4) (by rw[hk];exact⟨_,I',q⟩)
 ·have hk:(k+(its.toArray.size:Int)).toNat=j:=by
   rw[seqIndex_neg (by omega) h3]at h1
   rw[Jt,<- hl];exact Jv h1
  exact W.ki_setBack ho (by omega) (by rw[Jt,<- hl];exact h3) (by omega) (by rw[hk];exact⟨_,I',q⟩)
theorem i6(lo hi:Option Int)(n:Nat):(sliceBounds lo hi none n).1=((HT.sIx n 0 lo:Nat):Int)/\(sliceBounds lo hi none n).2.1=((HT.sIx n n hi:Nat):Int)/\(sliceBounds lo hi none n).2.2=1:=by
 refine⟨?_,?_,rfl⟩
 ·cases lo with
  |none=>simp [sliceBounds,HT.sIx]
  |some i=>
   simp only[sliceBounds,HT.sIx,Option.getD_none,show(1:Int)>0 by decide,BO]
   by_cases h:i<0
   ·simp only[h,BO]<;>omega
   ·simp only[h,JN]<;>omega
 ·cases hi with
  |none=>simp [sliceBounds,HT.sIx]
  |some i=>
   simp only[sliceBounds,HT.sIx,Option.getD_none,show(1:Int)>0 by decide,BO]
   by_cases h:i<0
   ·simp only[h,BO]<;>omega
   ·simp only[h,JN]<;>omega
theorem iE(its:List Value)(lo hi:Option Int):slicePick its.toArray lo hi none=((its.drop (HT.sIx its.length 0 lo)).take (HT.sIx its.length its.length hi-HT.sIx its.length 0 lo)).toArray:=by
 obtain⟨h1,h2,h3⟩:=i6 lo hi its.toArray.size;unfold slicePick;rw[h1,h2,h3];simp only[sliceRange_one,pick_run,Jt]<;>rfl
def Bs(K:Frag):V->Option Int->Option Int->Hp->VK->Prop:=fun x lo hi H Q=>∃a xs,x= .ref a/\SqL K H a xs/\∀p,H p=none->Q (.ref p) (upd H p (.lst (Zq xs lo hi)))
theorem lG:oM X (Bs X.K):=by
 intro DK s σ H x v vl vu lo hi sl Q I rx hs pl pu h;obtain⟨a,xs,rfl,hx,q⟩:=h;cases rx;obtain⟨its,r,ht,hz⟩:=I.list hx;have hlen:=r.length;refine⟨"list",_,slot_list_getitem.lookup,ht.isList.typeIs,?_⟩
 refine wpAny_getItem_list_slice ht.isList hs pl pu .none (by simp) ?_ (by rw[Jt]<;>omega)
 rw[iE,<- hlen];refine⟨.ref s.heap.objs.size,_,I.laid (t':=s.toks) (o:= .lst (Zq xs lo hi)) (fun b ob q=>Ji _ q) (Jf _) ?_,rfl,q _ (I.hok.fresh (Jf _))⟩
 exact⟨JA (cT xs lo hi) hz,_,0,(r.drop (HT.sIx xs.length 0 lo)).take (HT.sIx xs.length xs.length hi-HT.sIx xs.length 0 lo),Jn _ rfl⟩
theorem qQ:zg X (.builtin "len") (fun xs H Q=>∃p ys,xs=[.ref p]/\(SqL X.K H p ys\/SqT X.K H p ys)/\Q (.int ys.length) H):=by
 intro DK s σ H xs us Q I r h;obtain⟨p,ys,rfl,hq,q⟩:=h;obtain⟨u,rfl,rx⟩:=zW r;cases rx;have hn:=ZC;rcases hq with hq|hq
 ·obtain⟨its,r',pl,hz⟩:=I.list hq
  have hlen:=r'.length;exact Calls.call_len_list pl.isList (by simp only[Jt]<;>omega) ⟨.int ys.length,H,I.tok _,⟨s.toks+1,by rw[Jt,hlen]⟩,q⟩
 ·obtain⟨its,r',pl,hz⟩:=I.tuple hq
  have hlen:=r'.length;exact len_tuple pl (by simp only[Jt]<;>omega) ⟨.int ys.length,H,I.tok _,⟨s.toks+1,by rw[Jt,hlen]⟩,q⟩
theorem jq:zg X (.builtin "len") (fun xs H Q=>∃z,xs=[.str z]/\z.length<=sizeLine/\Q (.int z.length) H):=by
 intro DK s σ H xs us Q I r h;obtain⟨z,rfl,hz,q⟩:=h;obtain⟨u,rfl,t,rfl⟩:=zW r;have hn:=ZC;exact len_str (by omega) ⟨.int z.length,H,I.tok _,⟨_,rfl⟩,q⟩
theorem cv:zg X (.type "list") (fun xs H Q=>∃p ys,xs=[.ref p]/\(SqL X.K H p ys\/SqT X.K H p ys)/\∀l,H l=none->Q (.ref l) (upd H l (.lst ys))):=by
 intro DK s σ H xs us Q I r h;obtain⟨p,ys,rfl,hq,q⟩:=h;obtain⟨u,rfl,rx⟩:=zW r;cases rx;have fin:∀(its:List Value),Vals ys its->ys.length<=sizeLine->∀(h':Heap) (c':Nat),(∀b o',s.heap.get? b=some o'->h'.get? b=some o')->
   h'.get? s.heap.objs.size=some {cls:= .type "list",dict:=none,data:= .seq its.toArray c',slots:= #[]}->EP X DK σ Q (.ref s.heap.objs.size) {s with heap:=h'}:=fun its r' hz h' c' kp e=>
  ⟨.ref s.heap.objs.size,_,I.laid (t':=s.toks) kp (Jf _) (show ObjOk X.prog X.w _ h' _ (.lst ys)from⟨hz,its,c',r',e⟩),rfl,q _ (I.hok.fresh (Jf _))⟩
 rcases hq with hq|hq
 ·obtain⟨its,r',pl,hz⟩:=I.list hq
  have hlen:=r'.length;obtain⟨o,ho,hc,n,hd⟩:=pl.isList;exact call_list_seq p (.inl rfl) ho hc hd (fun h' c' kp e=>fin its r' hz h' c' kp e) (by simp only[Jt]<;>omega)
 ·obtain⟨its,r',pl,hz⟩:=I.tuple hq
  have hlen:=r'.length;obtain⟨o,ho,hc,n,hd⟩:=pl;exact call_list_seq p (.inr rfl) ho hc hd (fun h' c' kp e=>fin its r' hz h' c' kp e) (by simp only[Jt]<;>omega)
theorem qT:zg X (.type "tuple") (fun xs H Q=>∃p ys,xs=[.ref p]/\((SqL X.K H p ys/\∀l,H l=none->Q (.ref l) (upd H l (.tup ys)))\/(SqT X.K H p ys/\Q (.ref p) H))):=by
 intro DK s σ H xs us Q I r h;obtain⟨p,ys,rfl,h⟩:=h;obtain⟨u,rfl,rx⟩:=zW r;cases rx;rcases h with⟨hq,q⟩|⟨hq,q⟩
 ·obtain⟨its,r',pl,hz⟩:=I.list hq
  have hlen:=r'.length;refine call_tuple_list pl.isList (fun h' kp=>?_) (by simp only[Jt]<;>omega)
  have I1:Inv X DK σ H {s with heap:=h'}:=I.kept (t':=s.toks) kp
  have I2:Inv X DK σ (upd H h'.objs.size (.tup ys)) {s with heap:=h'.push {cls:= .type "tuple",data:= .seq its.toArray}}:=
   I1.laid (t':=s.toks) (fun b o e=>Ji _ e) (Jf _) (show ObjOk X.prog X.w _ _ _ (.tup ys)from⟨hz,its,r',IsTup.new _ _⟩)
  exact⟨.ref h'.objs.size,_,I2,rfl,q _ (I1.hok.fresh (Jf _))⟩
 ·obtain⟨its,r',pl,hz⟩:=I.tuple hq
  exact call_tuple_same pl ⟨.ref p,H,I,rfl,q⟩
def AG(K:Frag)(T:String)(x:V)(H:Hp):Prop:=match x with
 | .str _=>T="str"
 | .int _=>T="int"
 | .ref p=>(T="list"/\∃xs,SqL K H p xs)\/(T="tuple"/\∃o,K.lookup p=some o/\o.cls= .type "tuple"/\o.dict=none)\/
   (T="dict"/\((∃kvs,H p=some (.dK kvs))\/∃kvs,H p=some (.dT kvs)))\/(T="set"/\∃S n,H p=some (.set S n))
 |_=>False
theorem rC{DK:List (Addr×Obj)}{σ:St}{H:Hp}{s:Shared}{T:String}{x:V}{v:Value}(I:Inv X DK σ H s)(r:RelV x v)(ty:AG X.K T x H):
  s.TypeIs v T/\∀a,v= .ref a->∃ob,s.heap.get? a=some ob/\ob.dict=none:=by
 cases x with
 |str z=>
  obtain⟨t,rfl⟩:=r
  cases(show T="str" from ty)
  exact⟨typeIs_str s z t,fun _ e=>nomatch e⟩
 |int i=>
  obtain⟨t,rfl⟩:=r
  cases(show T="int" from ty)
  exact⟨typeIs_int s i t,fun _ e=>nomatch e⟩
 |ref p=>
  cases r;rcases ty with⟨rfl,xs,hq⟩|⟨rfl,o,hk,hc,hd⟩|⟨rfl,hk⟩|⟨rfl,S,n,hk⟩
  ·obtain⟨its,_,pl,_⟩:=I.list hq
   refine⟨pl.isList.typeIs,fun a e=>?_⟩
   cases e;obtain⟨o,n,e,c,hd,_⟩:=pl
   exact⟨o,e,hd⟩
  ·refine⟨⟨o,I.kIn p o hk,hc⟩,fun a e=>?_⟩
   cases e
   exact⟨o,I.kIn _ o hk,hd⟩
  ·have z:∃o,s.heap.get? p=some o/\o.ExactDict:=by
    rcases hk with⟨kvs,hk⟩|⟨kvs,hk⟩
    ·obtain⟨_,_,_,_,o,_,_,e,ex,_⟩:=I.hok p _ hk
     exact⟨o,e,ex⟩
    ·obtain⟨_,_,_,_,o,_,_,e,ex,_⟩:=I.hok p _ hk
     exact⟨o,e,ex⟩
   obtain⟨o,e,ex⟩:=z;refine⟨⟨o,e,ex.1⟩,fun a e2=>?_⟩
   cases e2
   exact⟨o,e,ex.2.1⟩
  ·obtain⟨o,_,_,_,e,ex,_⟩:=I.hok p _ hk
   refine⟨⟨o,e,ex.1⟩,fun a e2=>?_⟩
   cases e2
   exact⟨o,e,ex.2.1⟩
 |_=>exact False.elim ty
def Al(K:Frag)(T:String)(r:V->List V->Hp->VK->Prop)(to:TE):TE:=fun σ H Q=>to σ H fun x H1=>AG K T x H1/\r x [] H1 Q
def xb(K:Frag)(T:String)(r:V->List V->Hp->VK->Prop)(to:TE)(t:TA):TE:=fun σ H Q=>to σ H fun x H1=>AG K T x H1/\t σ H1 fun xs H2=>r x xs H2 Q
variable{o e:Expr}{es:List Expr}{to:TE}{t:TA}{name:Str}{apos cpos:Pos}{T id:String}{r:V->List V->Hp->VK->Prop}
theorem yX(pa:PlainAttrs T)(slot:Slot T name id)(hty:typeOf (.builtin id)=pure (.type "method_descriptor"))(hm:il X id r)(ho:PE X o to)
  (hbase:attributeBase o name X.env (eval o X.env)=eval o X.env:=by rfl)(hline:(apos.endLine==cpos.line)=true:=by rfl):PE X (.Call (.Attribute o name apos) [] [] cpos) (Al X.K T r to):=by
 intro DK s σ H Q I h;refine wpAny_Call_method0_late hbase hline (qD (ho DK s σ H _ I h) fun v s1 zq=>?_)
 obtain⟨x,H1,I1,r1,ty,q1⟩:=zq;obtain⟨h1,h2⟩:=rC I1 r1 ty
 exact⟨T,id,pa,slot,hty,h1,h2,Ds rfl (PySem.evalArgs_none (hm DK s1 σ H1 x [] v [] Q I1 r1 .nil q1))⟩
theorem AK(pa:PlainAttrs T)(slot:Slot T name id)(hty:typeOf (.builtin id)=pure (.type "method_descriptor"))(hm:il X id r)(ho:PE X o to)(ha:PA X (e::es) t)
  (hbase:attributeBase o name X.env (eval o X.env)=eval o X.env:=by rfl)
  (hfew:((backTo cpos (starEach (e::es) X.env)).all (fun x=> !x.1)&&(backToKw cpos (keywordEach [] X.env)).all (fun x=>x.1.isSome)
   &&decide ((e::es).length+([]:List Keyword).length+(if([]:List Keyword).isEmpty then 0 else 1)<30))=true:=by rfl)
  (hline:(apos.endLine==cpos.line)=true:=by rfl)(hs:starEach (e::es) X.env=(false,eval e X.env)::starEach es X.env:=by rfl)(hplain:(backTo cpos (starEach es X.env)).any (·.1)=false:=by rfl):
  PE X (.Call (.Attribute o name apos) (e::es) [] cpos) (xb X.K T r to t):=by
 intro DK s σ H Q I h;refine wpAny_Call_method_late hbase hfew hline rfl (qD (ho DK s σ H _ I h) fun v s1 zq=>?_)
 obtain⟨x,H1,I1,r1,ty,q1⟩:=zq;obtain⟨h1,h2⟩:=rC I1 r1 ty;refine⟨T,id,pa,slot,hty,h1,h2,?_⟩
 have hA:=ha cpos DK s1 σ H1 _ I1 q1;rw[hs]at hA⊢;refine Ds (by show(false||(backTo cpos (starEach es X.env)).any (·.1))=false;rw[hplain]<;>rfl) (DH ?_)
 exact qD hA fun us s2 ⟨vs,H2,I2,r2,q2⟩=>hm DK s2 σ H2 x vs v us Q I2 r1 r2 q2
end
def yg(X:Cx)(id:String)(r:V->List V->Hp->VK->Prop):Prop:=
 ∀(DK:List (Addr×Obj)) (s:Shared) (σ:St) (H:Hp) (x:V) (xs:List V) (v:Value) (us:List Value) (Q:VK),Inv X DK σ H s->RelV x v->Vals xs us->r x xs H Q->
  wpAny (model X.prog X.w) X.A (call (.builtin id) (v::us)) (EP X DK σ Q) X.xe s
theorem Vals.one:∀{x:V} {us:List Value},Vals [x] us->∃u,us=[u]/\RelV x u
 :=by
 intro x us h;cases h with
 |cons r q=>cases q;exact⟨_,rfl,r⟩
theorem Vals.two:∀{x y:V} {us:List Value},Vals [x,y] us->∃u v,us=[u,v]/\RelV x u/\RelV y v
 :=by
 intro x y us h;cases h with
 |cons r q=>cases q with
  |cons q z=>cases z;exact⟨_,_,rfl,r,q⟩
theorem Vals.zero:∀{us:List Value},Vals [] us->us=[]
 |_,.nil=>rfl
theorem Vals.eraseIdx:∀{xs:List V} {us:List Value} (i:Nat),Vals xs us->Vals (xs.eraseIdx i) (us.eraseIdx i)
 |_,_,_,.nil=> .nil
 |_,_,0,.cons _ t=>t
 |_,_,i+1,.cons r t=> .cons r (Vals.eraseIdx i t)
theorem Vals.reverse{xs:List V}{us:List Value}(h:Vals xs us):Vals xs.reverse us.reverse:=by
 induction h with
 |nil=>exact .nil
 |cons r t ih=>rw[List.reverse_cons,List.reverse_cons];exact Vals.append ih (.cons r .nil)
theorem Vals.rep{xs:List V}{us:List Value}(h:Vals xs us):∀k:Nat,Vals (List.replicate k xs).flatten (List.replicate k us).flatten
 |0=> .nil
 |k+1=>by
  rw[C8,C8,Dt,Dt];exact Vals.append h (Vals.rep h k)
theorem gL{α:Type}:∀(l:List α) (i:Nat),(l.eraseIdx i).length<=l.length
 | [],_=>Jf _
 |_::_,0=>Co _
 |_::r,i+1=>Nat.succ_le_succ (gL r i)
theorem iq(its:List Value):∀(k:Nat) (acc:List Value),
  List.foldl (fun x1 x2=>x1++x2) acc.toArray (List.replicate k its.toArray)=(acc++(List.replicate k its).flatten).toArray
 |0,acc=>by simp
 |k+1,acc=>by
  have e:acc.toArray++its.toArray=(acc++its).toArray:=by simp
  have e2:(acc++its)++(List.replicate k its).flatten=acc++(List.replicate (k+1) its).flatten:=by
   rw[C8,Dt,B8]
  rw[<- e2,<- iq its k (acc++its),<- e,C8,List.foldl_cons]
section
variable{X:Cx}{DK:List (Addr×Obj)}{σ:St}{H:Hp}{s:Shared}{l b:Addr}{xs ys zs:List V}
theorem Inv.lset{its its':List Value}{n:Nat}{f:Array Value->Array Value}{t':Nat}(I:Inv X DK σ H s)(hH:H l=some (.lst xs))
  (e:s.heap.get? l=some {cls:= .type "list",data:= .seq its.toArray n})(hf:f its.toArray=its'.toArray)(hv:Vals ys its')(hz:ys.length<=sizeLine):
  Inv X DK σ (upd H l (.lst ys)) {s with heap:=s.heap.update l (Obj.mapSeq f),toks:=t'}:=by
 have q:=PySem.IsL.update e f;rw[hf]at q;refine I.write (x:=l) (e:=l) (by rw[hH];exact trivial) (.inl rfl) (fun b' u hb hu=>(CS s.heap (Obj.mapSeq f) (Ne.symm hb)).trans hu) ⟨_,q⟩ ?_
 exact⟨hz,its',_,hv,q⟩
theorem Inv.lnew{its:List Value}{t':Nat}(I:Inv X DK σ H s)(hv:Vals ys its)(hz:ys.length<=sizeLine):
  Inv X DK σ (upd H s.heap.objs.size (.lst ys)) {s with heap:=s.heap.push {cls:= .type "list",data:= .seq its.toArray},toks:=t'}:=
 I.laid (fun _ _ q=>Ji _ q) (Jf _) ⟨hz,its,0,hv,Jn _ rfl⟩
theorem Inv.fresh(I:Inv X DK σ H s):H s.heap.objs.size=none:=I.hok.fresh (Jf _)
theorem Inv.lstM(I:Inv X DK σ H s)(hH:H l=some (.lst xs)):xs.length<=sizeLine/\∃(its:List Value) (n:Nat),Vals xs its/\xs.length=its.length/\s.heap.get? l=some {cls:= .type "list",data:= .seq its.toArray n}:=by
 obtain⟨z,its,n,r,e⟩:=I.hok l _ hH
 exact⟨z,its,n,r,r.length,e⟩
theorem ug{n:Nat}(h:n<=sizeLine):Builtin.List.listTooLong n=false:=by
 unfold Builtin.List.listTooLong;exact Jr (by omega)
end
section
variable{X:Cx}
def lI:V->List V->Hp->VK->Prop:=fun x vs H Q=>∃l xs y,x= .ref l/\vs=[y]/\H l=some (.lst xs)/\xs.length<sizeLine/\Q .non (upd H l (.lst (xs++[y])))
theorem pL:yg X "list.append" lI:=by
 intro DK s σ H x vs v us Q I rx rv h;obtain⟨l,xs,y,rfl,rfl,hH,hz,q⟩:=h;cases rx;obtain⟨u,rfl,ru⟩:=rv.one;obtain⟨z,its,n,r,hl,e⟩:=I.lstM hH;refine CT F.slot_list_append ⟨_,e,rfl⟩ F.entry_list_append (F.args_list_append_2 _ _) (PySem.list_append l its.toArray n u (by rw[Jt];omega)) ⟨e,?_⟩
 refine⟨.non,_,I.lset (its':=its++[u]) hH e (by simp) (r.append (.cons ru .nil)) ?_,rfl,q⟩
 rw[Jx,Cr];omega
def oX:V->List V->Hp->VK->Prop:=fun x vs H Q=>∃l xs i k y,x= .ref l/\vs=[.int i]/\H l=some (.lst xs)/\ -(2 ^ 63)<=i/\i<2 ^ 63/\seqIndex? i xs.length=some k/\xs[k]? =some y/\Q y (upd H l (.lst (xs.eraseIdx k)))
theorem uK:yg X "list.pop" oX:=by
 intro DK s σ H x vs v us Q I rx rv h;obtain⟨l,xs,i,k,y,rfl,rfl,hH,h1,h2,hk,hy,q⟩:=h;cases rx;obtain⟨u,rfl,ru⟩:=rv.one;obtain⟨t,rfl⟩:=ru;obtain⟨z,its,n,r,hl,e⟩:=I.lstM hH;obtain⟨w,hw,rw'⟩:=r.get hy;refine CT F.slot_list_pop ⟨_,e,rfl⟩ F.entry_list_pop (F.args_list_pop_2 _ _)
  (MeetsSeq.list_pop_at l its.toArray n i t k w (fitsIndex_both h1 h2) (by rw[Jt,<- hl];exact hk) (by rw[<- Array.getElem?_toList];exact hw) (by rw[Jt];omega)) ⟨e,?_⟩
 refine⟨y,_,I.lset (its':=its.eraseIdx k) hH e ?_ (r.eraseIdx k) ?_,rw',q⟩
 ·show its.toArray.eraseIdxIfInBounds k=(its.eraseIdx k).toArray
  rw[List.eraseIdxIfInBounds_toArray]
 ·have:=gL xs k
  omega
def jp:V->List V->Hp->VK->Prop:=fun x vs H Q=>∃l xs,x= .ref l/\vs=[]/\H l=some (.lst xs)/\Q .non (upd H l (.lst xs.reverse))
theorem n6:yg X "list.reverse" jp:=by
 intro DK s σ H x vs v us Q I rx rv h;obtain⟨l,xs,rfl,rfl,hH,q⟩:=h;cases rx;have hus:=rv.zero;subst hus;obtain⟨z,its,n,r,hl,e⟩:=I.lstM hH;refine CT F.slot_list_reverse ⟨_,e,rfl⟩ F.entry_list_reverse (F.args_list_reverse_1 _) (AutoSeq1.list_reverse_list_0 l its.toArray n (by rw[Jt];omega)) ⟨e,?_⟩
 refine⟨.non,_,I.lset (its':=its.reverse) hH e (by simp) r.reverse ?_,rfl,q⟩
 rw[List.length_reverse];omega
def By:R2:=fun x y H Q=>∃l b xs zs,x= .ref l/\y= .ref b/\H l=some (.lst xs)/\H b=some (.lst zs)/\xs.length+zs.length<=sizeLine/\∀p,H p=none->Q (.ref p) (upd H p (.lst (xs++zs)))
theorem xa:zv X (binaryOp .Add) By:=by
 intro DK s σ H x y v u Q I rx ry h;obtain⟨l,b,xs,zs,rfl,rfl,hH,hB,hz,q⟩:=h;cases rx;cases ry;obtain⟨z,its,n,r,hl,e⟩:=I.lstM hH;obtain⟨z2,its2,n2,r2,hl2,e2⟩:=I.lstM hB;refine PySem.P.add_list e e2 ?_ (by rw[Jt,Jt];omega)
 have ea:its.toArray++its2.toArray=(its++its2).toArray:=by simp
 rw[ea]
 exact⟨.ref _,_,I.lnew (t':=s.toks) (r.append r2) (by rw[Jx];omega),rfl,q _ I.fresh⟩
def Bu:R2:=fun x y H Q=>∃l k xs,x= .ref l/\y= .int k/\H l=some (.lst xs)/\ -(2 ^ 63)<=k/\k<2 ^ 63/\xs.length*k.toNat<=sizeLine/\
 ∀p,H p=none->Q (.ref p) (upd H p (.lst (List.replicate k.toNat xs).flatten))
theorem vT{α:Type}(xs:List α)(k:Nat):(List.replicate k xs).flatten.length=k*xs.length:=by
 induction k with
 |zero=>simp
 |succ k ih=>rw[C8,Dt,Jx,ih,Nat.succ_mul,Nat.add_comm]
theorem pG:zv X (binaryOp .Mult) Bu:=by
 intro DK s σ H x y v u Q I rx ry h;obtain⟨l,k,xs,rfl,rfl,hH,h1,h2,hz,q⟩:=h;cases rx;obtain⟨t,rfl⟩:=ry;obtain⟨z,its,n,r,hl,e⟩:=I.lstM hH;have hlen:its.toArray.size*k.toNat<=sizeLine:=by rw[Jt,<- hl];exact hz
 have hcap:¬its.toArray.size*k.toNat>(2 ^ 63-1)/8:=by
  have:(sizeLine:Nat)<=(2 ^ 63-1)/8:=by decide
  omega
 have hfit:¬(!Builtin.List.listFitsIndex k)=true:=by
  rw[fitsIndex_both h1 h2];exact JK
 have hlong:¬Builtin.List.listTooLong (its.toArray.size*k.toNat)=true:=by
  rw[ug hlen];exact JK
 have hnew:List.foldl (fun x1 x2=>x1++x2) #[] (List.replicate (if its.toArray.isEmpty=true then 0 else k.toNat) its.toArray)=(List.replicate k.toNat its).flatten.toArray:=by
  have f0:∀m:Nat,List.foldl (fun x1 x2=>x1++x2) #[] (List.replicate m its.toArray)=(List.replicate m its).flatten.toArray:=fun m=>by
   have:=iq its m []
   rw[List.nil_append]at this;exact this
  rw[f0];cases its with
  |nil=>simp
  |cons a r'=>rw[Jc (by simp)]
 refine wpAny_binaryOp_repeat_ref (T:="list") (U:="int") (by decide) ⟨_,e,rfl⟩ (fun s'=>typeIs_int s' k t) noFill_list_mul F.fills_int_mul F.slot_int_rmul repeat_list F.slot_int_index.lookup
  (CT F.slot_int_rmul (typeIs_int s k t) F.entry_int_rmul (F.args_int_rmul_2 _ _) (int___rmul___int_list k t l its.toArray n)
   ⟨e,rfl,⟨_,e,rfl⟩,CT F.slot_list_mul ⟨_,e,rfl⟩ F.entry_list_mul (F.args_list_mul_2 _ _) (AutoListH.list___mul___list_int_3 l its.toArray n k t hfit hcap hlong) ⟨e,?_⟩⟩)
 rw[hnew]
 exact⟨.ref _,_,I.lnew (t':=s.toks) (r.rep k.toNat) (by rw[vT,Nat.mul_comm];exact hz),rfl,q _ I.fresh⟩
end
end L2
namespace Att
open PySem PySem.W PySem.Calls PyProof.Rows
theorem fI{P:Params}{h:Heap}:∀(ns:List Int) (vs:List Value),WellAll P h vs (ns.map WData.int)->IntsAre vs ns:=by
 intro ns
 induction ns with
 |nil=>
  intro vs w;rw[C9]at w;cases w;exact .nil
 |cons n ns ih=>
  intro vs w;rw[JW]at w;cases w with
  |cons a b=>
   cases a;exact .cons _ _ (ih _ b)
theorem rO{l:OpenLaw}{n:Nat}(hn:l.most=some n){P:Params}{h:Heap}{args:List WData}{vals:List Value}
  (hpre:l.row.toRowW.claim.pre args=true)(hwl:WellAll P h vals args):
  ∃a vs ns,vals=[Value.ref a]/\args=[WData.list (ns.map WData.int)]/\h.get? a=some {cls:= .type "list",data:= .seq vs.toArray}/\IntsAre vs ns/\ns.length<=n:=by
 have hsh:WShape.hasAll [] args [.list .int]=true:=(pre_splitW hpre).1
 have hc:l.pre.holds [] {args:=args}=true:=(pre_splitW hpre).2
 obtain⟨d,r,rfl,h1,h2⟩:=hasAllW_cons hsh
 obtain rfl:=hasAllW_nil h2
 obtain⟨xs,rfl,h3⟩:=hasW_list h1;obtain⟨ns,rfl⟩:=items_int h3;have hlen:ns.length<=n:=by
  unfold OpenLaw.pre at hc;have h4:(WTm.not (.lt (.lit (.int (n:Int))) (.len (.arg 0)))).holds [] {args:=[.list (ns.map .int)]}=true:=by
   have h4:=(holds_andW hc).1;rw[hn]at h4;exact h4
  have h5:=condW_of h4 (w_not (w_lt w_lit (w_len_list (w_arg rfl))));rw[Je]at h5;refine Dc fun q=>?_
  have q':(n:Int)<((ns.length:Nat):Int):=by omega
  first
   |(rw[Jk q']at h5;exact absurd h5 (by decide))
   |(simp at h5;omega)
 cases hwl with
 |cons w1 w2=>
  cases w2;cases w1 with
  |list ho hall=>exact⟨_,_,ns,rfl,rfl,ho,fI ns _ hall,hlen⟩
theorem sn(l:OpenLaw)(args:List WData):l.row.toRowW.claim.post args (.bool true) args=true:=
 postW_of (r:=l.row.toRowW) (X:=(true==true))
  (show WShape.has [] (.bool true) .bool=true by first|rfl|decide|simp [WShape.has,WShape.arms,WShape.armsAll])
  (show(WTm.eq .res (.lit (.bool true))).value [] {args:=args,res:=some (.bool true),after:=args}=some (.bool (true==true))from w_eq_bool (w_res rfl) w_lit) rfl
theorem attach_call{l:OpenLaw}{n:Nat}{q:Program}{loose:List Str}{XP:(Str->Option Value)->Heap->Prop}{YP:World->Heap->Prop}{d:DefRec}
  (hn:l.most=some n)(hdf:d.params.defaults=[])
  (call:∀(w:World) (s₀ s₁:Shared) (mg mb:Str->Option Value) (fa:Addr) (o:Obj) (pm cd doc:Value) (a:Addr) (vs:List Value) (ns:List Int),
   Ground q loose [] XP w s₀ mg mb s₁.heap->YP w s₁.heap->
   s₁.heap.get? fa=some o->o.data= .func (docDef d.name d.params d.body d.scope pm cd doc)->s₁.heap.CodeRec cd d.name->mg d.name=some (.ref fa)->
   s₁.heap.get? a=some {cls:= .type "list",data:= .seq vs.toArray}->IntsAre vs ns->ns.length<=n->s₁.gens= #[]->
   codeAny (model l.prog w) callerA (.call (.ref fa) ⟨[.ref a],[]⟩) (fun r s'=>r= .ok (.ret (.bool true))/\OldK s₁.heap s'.heap/\s'.os=s₁.os/\AllBare s'.gens) s₁):
  WalkO q loose XP YP l.row.toRowW d [] (fun f vs=>PySem.call f vs):=by
 intro w s₀ s₁ mg mb G Y fa o pm cd doc dV kV ho hd hcd hD hmg hg args vals as hpre hlay hrd hwl hlo
 obtain rfl:dV= .none:=Dflts.none hD hdf
 obtain rfl:kV= .none:=Dflts.noKw hD
 obtain⟨a,vs,ns,rfl,rfl,hobj,hints,hlen⟩:=rO hn hpre hwl;refine enter_call (CQ (call w s₀ s₁ mg mb fa o pm cd doc a vs ns G Y ho (fd_plain hd) hcd hmg hobj hints hlen hg) fun r s' hq=>?_)
 obtain⟨rfl,h2,h3,h4⟩:=hq
 exact⟨.inl ⟨.bool true,.bool true,[],rfl,fun _=>rfl,.bool true,sn l _,fun _=>⟨List.Pairwise.nil,fun _ hm=>(nomatch hm)⟩⟩,h2,h3,h4⟩
end Att
namespace L2
open PySem PySem.Spec PyProof.Rows
theorem iA:∀{vs:List Value} {ns:List Int},IntsAre vs ns->Vals (ns.map V.int) vs
 |_,_,.nil=> .nil
 |_,_,.cons n t h=> .cons ⟨t,rfl⟩ (iA h)
def uI(H:Hp):Prop:=∀b,H b=none\/∃o xs,H b=some (.frz o (.lst xs))
theorem uS{P:Program}{w:World}{K:Frag}{mg mb:Str->Option Value}{CX:cV}{k:Nat}{fa a:Addr}{fd:FuncData}{x:Str}{sp:Sp}{s₁:Shared}{vs:List Value}{ns:List Int}
  (KX:K.In s₁.heap)(hns:s₁.heap.Ns mainGlobals mg)(hb:s₁.heap.Ns builtinsNs mb)(hbb:∀x:Str,x≠"__name__"->mb x=bootBuiltins x)(hlim:s₁.heap.NoLimit)(hg:s₁.gens= #[])
  (ha:s₁.heap.get? a=some {cls:= .type "list",data:= .seq vs.toArray})(hi:IntsAre vs ns)(hl:ns.length<=sizeLine)(hr:Room k callerA)
  (F:∀base:Heap,K.In base->base.Ns mainGlobals mg->FnOk P w K mg base CX k fa fd [x] sp)(hbind:∀(s:Shared) (u:Value),BindsTo s fd ⟨[u],[]⟩ [(x,u)])
  (hsp:∀H:Hp,uI H->SqL K H a (ns.map V.int)->sp [.ref a] H (fun v _=>v= .bl true) fun _ _ _=>False)
  (hCX:∀H e s',CX [] H s₁ (fun _ _ _=>False) e s'->False):
  codeAny (model P w) callerA (.call (.ref fa) ⟨[.ref a],[]⟩) (fun r s'=>r= .ok (.ret (.bool true))/\OldK s₁.heap s'.heap/\s'.os=s₁.os/\AllBare s'.gens) s₁:=by
 have rv:=iA hi;have lenV:=hi.length;have core:∀H:Hp,uI H->SqL K H a (ns.map V.int)->HOk P w H s₁.heap->(∀b,H b≠none->b=a)->(H a≠none->K.lookup a=none)->
   codeAny (model P w) callerA (.call (.ref fa) ⟨[.ref a],[]⟩) (fun r s'=>r= .ok (.ret (.bool true))/\OldK s₁.heap s'.heap/\s'.os=s₁.os/\AllBare s'.gens) s₁:=by
  intro H hO hS hok hA hK;have base_of:∀{b:Addr} {o:Obj},s₁.heap.get? b=some o->H b=none->(bp s₁.heap H).get? b=some o:=fun e n=>uB e n
  have noA:∀{b:Addr} {o:Obj} {es:Array DictEntry} {ep:Nat},s₁.heap.get? b=some o->o.data= .dict es ep->H b=none:=fun{b o es ep} e d=>by
   cases q:H b with
   |none=>rfl
   |some u=>
    have e':b=a:=hA b (by rw[q];simp)
    subst e';rw[ha]at e;cases e
    have d':Data.seq vs.toArray _=Data.dict es ep:=d
    cases d'
  have nsK:∀{b:Addr} {m:Str->Option Value},s₁.heap.Ns b m->(bp s₁.heap H).Ns b m:=fun{b m} ⟨o,es,ep,e,d,r⟩=>⟨o,es,ep,base_of e (noA e d),d,r⟩
  have hKb:K.In (bp s₁.heap H):=fun b o e=>base_of (KX b o e) (by
   cases q:H b with
   |none=>rfl
   |some u=>
    have e':b=a:=hA b (by rw[q];simp)
    subst e';rw[hK (by rw[q];simp)]at e;cases e)
  have hM:Mod K mg (bp s₁.heap H):=⟨hKb,nsK hns,⟨mb,nsK hb,hbb⟩,let⟨mc,h1,h2⟩:=hlim;⟨mc,nsK h1,h2⟩⟩
  have e0:Env0 P w K mg (bp s₁.heap H) callerA [] s₁ H:=⟨rfl,hM,fun b o e=>v7 e,Nat.le_of_eq (oJ _ _),trivial,fun b hb=>absurd (show b∈([]:List Addr)from hb) (by simp),hok,.of_eq hg⟩
  refine CQ ((F _ hKb (nsK hns)).run callerA [] s₁ H ⟨[.ref a],[]⟩ [.ref a] [.ref a] _ _ hr e0 (hbind s₁ (.ref a)) (.cons rfl .nil) (hsp H hO hS)) fun r s' h=>?_
  cases r with
  |error e=>exact(hCX H e s' h).elim
  |ok fl=>
   cases fl with
   |next=>exact False.elim h
   |brk=>exact False.elim h
   |cont=>exact False.elim h
   |ret u=>
    obtain⟨v,H',os,bare,un,hok',r',q⟩:=h;have q':v= .bl true:=q
    subst q'
    obtain rfl:u=Value.bool true:=r'
    refine⟨rfl,OldK.of_keep fun b o e=>?_,os,bare⟩
    cases q:H b with
    |none=>exact un.keep b o e q (by intro z;exact absurd (show b∈([]:List Addr)from z) (by simp)) (by simp)
    |some u=>
     rcases hO b with z|⟨ob,xs,z⟩
     ·rw[q]at z;cases z
     ·have z2:=un.frzs b ob _ z
      obtain⟨e1,_⟩:=hok b _ z;obtain⟨e2,_⟩:=hok' b _ z2;rw[e]at e1;cases e1
      exact e2
 cases hk:K.lookup a with
 |some o=>
  have e:=KX a o hk;rw[ha]at e;cases e;refine core (fun _=>none) (fun _=> .inl rfl) (.inr ⟨_,vs.toArray,_,hk,rfl,rfl,rfl,by rw[Jt,lenV];exact hl,by simpa using rv⟩) (fun b u z=>by have z':(none:Option HO)=some u:=z;cases z') (fun b z=>absurd rfl z) fun z=>absurd rfl z
 |none=>
  refine core (fun b=>if b=a then some (.frz {cls:= .type "list",data:= .seq vs.toArray} (.lst (ns.map V.int)))else none) (fun b=>?_) (.inl (.inr ⟨{cls:= .type "list",data:= .seq vs.toArray},Jd rfl⟩)) (fun b u z=>?_) (fun b z=>?_) fun _=>hk
  ·by_cases hb:b=a
   ·exact .inr ⟨_,_,Jd hb⟩
   ·exact .inl (Jc hb)
  ·by_cases hb:b=a
   ·have z':=(Jd hb).symm.trans z
    cases z';subst hb
    exact⟨ha,by rw[Je];exact hl,vs,_,rv,ha⟩
   ·have z':=(Jc hb).symm.trans z
    cases z'
  ·by_cases hb:b=a
   ·exact hb
   ·exact absurd (Jc hb) z
theorem wF{l:W.OpenLaw}{n k:Nat}{q:Program}{loose:List Str}{XP:(Str->Option Value)->Heap->Prop}{YP:World->Heap->Prop}{d:DefRec}{K:Params->Frag}{CX:World->cV}{sp:World->Sp}{x:Str}
  (hn:l.most=some n)(hn2:n<=sizeLine)(hdf:d.params.defaults=[])(hr:Room k callerA)
  (hY:∀(w:World) (h:Heap),YP w h->(K w.params).In h)
  (F:∀(w:World) (mg:Str->Option Value) (fa:Addr) (h:Heap),(K w.params).In h->h.Ns mainGlobals mg->mg d.name=some (.ref fa)->
   ∃fd:FuncData,(∀(s:Shared) (u:Value),BindsTo s fd ⟨[u],[]⟩ [(x,u)])/\
    ∀base:Heap,(K w.params).In base->base.Ns mainGlobals mg->FnOk l.prog w (K w.params) mg base (CX w) k fa fd [x] (sp w))
  (hsp:∀(w:World) (H:Hp) (a:Addr) (ns:List Int),ns.length<=n->uI H->SqL (K w.params) H a (ns.map V.int)->sp w [.ref a] H (fun v _=>v= .bl true) fun _ _ _=>False)
  (hCX:∀(w:World) (H:Hp) (s:Shared) (e:Value) (s':Shared),CX w [] H s (fun _ _ _=>False) e s'->False):
  W.WalkO q loose XP YP l.row.toRowW d [] (fun f vs=>PySem.call f vs):=by
 refine Att.attach_call hn hdf fun w s₀ s₁ mg mb fa o pm cd doc a vs ns G Y ho hd hcd hmg hobj hints hlen hg=>?_
 have KX:=hY w _ Y;obtain⟨fd,hb,hF⟩:=F w mg fa _ KX G.T.g hmg;exact uS KX G.T.g G.T.b G.T.builtins G.T.nolimit hg hobj hints (JA hlen hn2) hr hF hb (fun H hO hS=>hsp w H a ns hlen hO hS) fun H e s'=>hCX w H s₁ e s'
def zD(s:Stmt)(j:Nat):Stmt:=match s with
 | .ClassDef _ _ _ body _ _ _ _ _ _ _=>body.getD j (.Pass ⟨0,0,0,0⟩)
 |_=> .Pass ⟨0,0,0,0⟩
def Qq(s:Stmt):Arguments:=match s with
 | .FunctionDef _ a _ _ _ _ _ _ _ _=>a
 |_=>{posonlyargs:=[],args:=[],vararg:=none,kwonlyargs:=[],kw_defaults:=[],kwarg:=none,defaults:=[]}
def zB(s:Stmt):List Stmt:=match s with
 | .FunctionDef _ _ b _ _ _ _ _ _ _=>b
 |_=>[]
def qo(s:Stmt):Scope:=match s with
 | .FunctionDef _ _ _ _ _ _ sc _ _ _=>sc
 |_=>{kind:= .function,names:=[],isGenerator:=false,isCoroutine:=false}
abbrev Z6:cV:=fun _ _ _ _ _ _=>False
abbrev E0:XK:=fun _ _ _=>False
theorem iQ{X:Cx}:cp Z6 X E0:=fun _ _ _ _ _ _ _ h=>h.elim
structure Fun(K:Frag)(x DL:Str)(st:Stmt)(f:Addr)(fd:FuncData):Prop where
 ex:∃(oc:Value) (od:Option Addr) (kV doc pm:Value) (an:Option Addr) (cdv ct:Value) (osl:Array (Option Value)),
  fd=PySem.W.fnOf x DL (Qq st) (zB st) (qo st) .none kV doc pm an cdv ct/\K.lookup f=some ⟨oc,od,.func fd,osl⟩/\PySem.W.codeIn K cdv DL=true
 kp:PySem.W.keepIn K (.ref f)=true
section
variable{P:Program}{w:World}{K:Frag}{mg:Str->Option Value}{base:Heap}
theorem Fun.ok{x DL:Str}{st:Stmt}{f:Addr}{fd:FuncData}{N ps:List Str}{k:Nat}{sp:Sp}(F:Fun K x DL st f fd)(S:FnScope N ps (qo st))(len:∀vs H Q E,sp vs H Q E->vs.length=ps.length)
  (hbody:∀(cdv:Value) (A:Around) (outer:List Env) (s:Shared) (H:Hp) (vs:List V) (Q:VK) (E:XK),Room k (A.deeper (envOfC DL (qo st) s.heap.objs.size f cdv))->sp vs H Q E->
   ∃t,PSs (aB Z6 P w K mg base N DL (qo st) f cdv A outer s H E).nox (zB st) t/\t {nx:=fun _ H'=>Q .non H',rt:=Q} (QZ N vs) H):FnOk P w K mg base Z6 (k+1) f fd ps sp:=by
 obtain⟨oc,od,kV,doc,pm,an,cdv,ct,osl,rfl,lk,hcd⟩:=F.ex;refine AY lk hcd S len fun A outer s H vs Q E hr hsp=>?_
 obtain⟨t,h,q⟩:=hbody cdv A outer s H vs Q E hr hsp
 exact⟨t,h.nox,q⟩
theorem Fun.binds{x DL:Str}{st:Stmt}{f:Addr}{fd:FuncData}{ps:List Str}(F:Fun K x DL st f fd)
  (h:∀(kV doc pm:Value) (an:Option Addr) (cdv ct:Value) (us:List Value),us.length=ps.length->bindArgs (W.fnOf x DL (Qq st) (zB st) (qo st) .none kV doc pm an cdv ct) ⟨us,[]⟩=pure (ps.zip us)):Binds K fd ps []:=by
 obtain⟨oc,od,kV,doc,pm,an,cdv,ct,osl,rfl,lk,hcd⟩:=F.ex;exact .all (h kV doc pm an cdv ct)
theorem jH{x DL:Str}{st:Stmt}{f:Addr}{oc:Value}{od an:Option Addr}{osl:Array (Option Value)}{kV doc pm cdv ct:Value}(l:K.lookup f=some ⟨oc,od,.func (W.fnOf x DL (Qq st) (zB st) (qo st) .none kV doc pm an cdv ct),osl⟩)
  (c:W.codeIn K cdv DL=true)(k:W.keepIn K (.ref f)=true):Fun K x DL st f (W.fnOf x DL (Qq st) (zB st) (qo st) .none kV doc pm an cdv ct):=⟨⟨oc,od,kV,doc,pm,an,cdv,ct,osl,rfl,l,c⟩,k⟩
end
theorem zr{A B:Prop}(h:B):if false=true then A else B:=by
 rw[Jc JK];exact h
theorem zx{A B:Prop}(h:A):if true=true then A else B:=by
 rw[Jd rfl];exact h
theorem q9{c A B:Prop} [Decidable c](h1:c->A)(h2:¬c->B):if c then A else B:=by
 by_cases h:c
 ·rw[Jd h]
  exact h1 h
 ·rw[Jc h]
  exact h2 h
theorem ZP{c A B:Prop} [Decidable c](hc:c)(h:B):if(!decide c)=true then A else B:=by
 rw[Jk hc];exact zr h
def Same(H H':Hp):Prop:=∀b o,H b=some o->H' b=some o
theorem Same.refl(H:Hp):Same H H:=fun _ _ h=>h
theorem Same.trans{H H1 H2:Hp}(a:Same H H1)(b:Same H1 H2):Same H H2:=fun c o h=>b c o (a c o h)
theorem Same.seq{K:Frag}{H H':Hp}{a:Addr}{xs:List V}(e:Same H H')(h:SqL K H a xs):SqL K H' a xs:=by
 rcases h with(h|⟨o,h⟩)|h
 ·exact .inl (.inl (e _ _ h))
 ·exact .inl (.inr ⟨o,e _ _ h⟩)
 ·exact .inr h
end L2
namespace L3
open PySem PySem.Spec PyProof.Rows L2
def zY(X:Cx)(N:List Str)(scope:Scope)(cl:List (Str×Addr))(C:Addr)(s:Shared)(H:Hp)(fp:List Addr):Cx:=
 {X with N:=N,s₀:=s,H₀:=H,env:=compEnvC scope cl C X.env,outer:=X.stack,ex:=fp,fn:=fun _=>false,pn:=[],xe:=fun _ _=>False}
structure BScope(X:Cx)(scope:Scope)(fr:List Str)(js:List Nat):Prop where
 kind:scope.kind= .function
 names:∀x∈scope.names,x.2= .local->scope.names.lookup x.1=some .local
 nocell:∀x∈scope.names,x.2≠ .cell
 free:∀x∈scope.names,x.2= .free->x.1∈fr
 len:js.length=fr.length
 at_:∀(i j:Nat) (y:Str),js[i]? =some j->fr[i]? =some y->X.N[j]? =some y/\X.env.kindOf y=some .cell/\(relabel scope X.env).names.lookup y=some .cell
theorem zH{α:Type}{y:Str}:∀{l:List (Str×α)},y∈l.map (·.1)->∃c,l.lookup y=some c
 | [],h=>by simp at h
 |(n,a)::r,h=>by
  cases e:y==n with
  |true=>exact⟨a,by simp [BU,e]⟩
  |false=>
   have hr:y∈r.map (·.1):=by
    rcases Jj.mp h with z|z
    ·exact absurd z (by simpa using e)
    ·exact z
   obtain⟨c,hc⟩:=zH hr
   exact⟨c,by simp [BU,e,hc]⟩
def σ0(k:Nat)(js:List Nat)(σ:L2.St):L2.St:=List.replicate k none++js.map fun j=>(σ[j]?).join
def iR(k:Nat)(js:List Nat)(g:TG)(te:TE)(σ:L2.St)(Q:VK)(J:It)(H1:Hp):Prop:=∃W:Nat->Nat->List V->L2.St->Hp->Prop,(∃m,W 0 m [] (σ0 k js σ) H1)/\∀i m ys τ H,W i m ys τ H->
 (J.stop i H/\∀p,H p=none->Q (.ref p) (upd H p (.lst ys)))\/(J.go i H/\ys.length<sizeLine/\∀x H',J.yld i H x H'->g x τ H' fun τ2 H2=>∃N:V->Hp->Prop,(∀v H3,N v H3->∃m',m'<m/\W (i+1) m' (ys++[v]) τ2 H3)/\te τ2 H2 N)
def fh(k:Nat)(js:List Nat)(wi:TI)(g:TG)(te:TE):TE:=fun σ H Q=>wi σ H (iR k js g te σ Q)
section
variable{prog:Program}{w:World}{A:Around}{R:Result->Shared->Prop}{s:Shared}
theorem jL{elt target iter:Expr}{scope:Scope}{pos:Pos}{it acc:Value}{env:Env}(I:Nat->Shared->Prop)
  (turn:∀n s,I n s->wpAny (model prog w) A (pyNext it) (fun r s₁=>match r with
   |none=>R (.ok .next) s₁
   | some v=>wpAny (model prog w) A (letOwnedTupleGo target it v) (fun _ s₁'=>wpAny (model prog w) A (assign target env v) (fun _ s₂=>wpAny (model prog w) A (eval elt env) (fun x s₃=>
     wpAny (model prog w) A (call (.builtin "list.append") [acc,x]) (fun _ s₄=>∃m,m<n/\I m s₄) (fun _ _=>False) s₃)
     (fun _ _=>False) s₂) (fun _ _=>False) s₁') (fun _ _=>False) s₁) (fun _ _=>False) s)
  (n:Nat)(h:I n s):
  codeAny (model prog w) A (.compLoop (.ListComp elt [⟨target,iter,[],0⟩] scope pos) 0 it acc env) R s:=by
 refine codeAny_loop rfl I (fun n s hI=>?_) n h
 show wpAny _ _ ((compTurn (.ListComp elt [⟨target,iter,[],0⟩] scope pos) 0 it acc env).onRaise (fun x=>do noteFrame x env;theTreesLotGoes x)) _ _ s
 refine wpAny_noted ?_
 rw[compTurn_list1];refine Ja (CB (Ja (JG (turn n s hI) (fun r s₁ h₁=>?_) fun _ _ h'=>h'.elim)))
 cases r with
 |none=>exact Jb h₁
 |some v=>
  refine Ja (JG h₁ (fun _ s₁' h₁'=>?_) fun _ _ h'=>h'.elim)
  exact Ja (JG h₁' (fun _ s₂ h₂=>Ja (Ja (JG h₂ (fun x s₃ h₃=>Ja (JG h₃
   (fun _ s₄ h₄=>Jb (Jb ⟨rfl,h₄⟩)) fun _ _ h'=>h'.elim)) fun _ _ h'=>h'.elim))) fun _ _ h'=>h'.elim)
end
variable{X:Cx}
structure Away(X:Cx)(DK:List (Addr×Obj))(H:Hp)(C:Addr):Prop where
 free:H C=none
 loc:C≠X.env.locals
 new:X.s₀.heap.objs.size<=C
 cell:∀x c,X.env.cells.lookup x=some c->c≠C
 pin:∀p∈X.pn++DK,p.1≠C
theorem jE{elt tg iter:Expr}{scope:Scope}{cl:List (Str×Addr)}{pos fpos:Pos}{fr own:List Str}{js:List Nat}{wi:TI}{g:TG}{te:TE}{use:Option (Value->Sem Unit)}{Post:Value->Shared->Prop}
  {DK:List (Addr×Obj)}{s:Shared}{σ:L2.St}{H:Hp}{Q:VK}
  (hc:X.calm=true)(hi:PI X tg iter wi)(hclos:closureFor scope X.env=pure cl)(hcl:∀y c,cl.lookup y=some c->X.env.cells.lookup y=some c)(hfr:cl.map (·.1)=fr)
  (S:BScope X scope fr js)
  (hg:∀C s H fp,PG (zY X (own++fr) scope cl C s H fp) tg g)(he:∀C s H fp,PE (zY X (own++fr) scope cl C s H fp) elt te)
  (hs:∀x,foldedSetIterable iter X.env x=pure x)
  (I:L2.Inv X DK σ H s)(h:fh own.length js wi g te σ H Q)
  (hfin:∀(acc C:Addr) (s5:Shared) (H':Hp) (m:Str->Option Value),L2.Inv X DK σ H' s5->s5.heap.Ns C m->Away X DK H' C->Q (.ref acc) H'->compPost (model X.prog X.w) X.A X.xe use Post (.ref acc) C (.ok .next) s5):
  wpAny (model X.prog X.w) X.A (comprehension (.ListComp elt [⟨tg,iter,[],0⟩] scope pos) scope X.env fpos (newList []) false (eval iter X.env) use) Post X.xe s:=by
 refine wpAny_comprehension_free (use:=use) rfl hs hclos S.kind S.names (qD (hi DK s σ H _ I h) fun v s1 h1=>qD h1 fun itv s2 h2=>?_)
 obtain⟨it,fp,tn,J,H2,e,I2,T,st2,f2,W,⟨m0,w0⟩,turn⟩:=h2;subst e;refine J3 (wpAny_newFunctionEnv S.nocell (by intro y hy;simp at hy) (fun h₁ hns₁ hsb₁=>?_) S.kind)
 dsimp only at hns₁ hsb₁⊢
 generalize hH2:s2.heap.push {cls:= .type "list",dict:=none,data:= .seq ([]:List Value).toArray}=G at hns₁ hsb₁⊢
 have hC:G.objs.size=s2.heap.objs.size+1:=by rw[<- hH2,JR]
 have hDC:s2.heap.objs.size≠G.objs.size:=by rw[hC];exact Jm (BX _)
 have below:∀b,b<s2.heap.objs.size->b≠G.objs.size/\b≠s2.heap.objs.size:=fun b hb=>⟨by rw[hC];exact Jm (B9 hb),Jm hb⟩
 have old:∀b o,s2.heap.get? b=some o->h₁.get? b=some o:=fun b o e=>hsb₁.extBut b o (below b (Jh e)).1 (Ji _ (hH2▸Ji _ e))
 have hacc:h₁.get? s2.heap.objs.size=some {cls:= .type "list",data:= .seq ([]:List Value).toArray 0}:=hsb₁.extBut _ _ hDC (Ji _ (hH2▸Jn _ rfl))
 let Y:Cx:=zY X (own++fr) scope cl G.objs.size s2 H2 fp
 have fplt:∀b∈fp,b<s2.heap.objs.size:=fun b hb=>by obtain⟨o,e,_⟩:=T.obj _ _ st2 b hb;exact Jh e
 have okY:Y.Ok:=by
  refine⟨I2.ok.mod,S.kind,I2.ok.glob,I2.ok.blt,by show s2.heap.objs.size<=G.objs.size;omega,?_,?_,?_,I2.ok.hd,I2.ok.frames,.inl rfl,?_,I2.bs,JA I2.ok.bsz I2.sz,?_,?_,I2.stack,I2.stkFree⟩
  ·exact fun x y c e1 e2=>I2.ok.inj x y c (hcl x c e1) (hcl y c e2)
  ·intro x hx
   have hx':(relabel scope X.env).names.lookup x=some .cell\/(relabel scope X.env).names.lookup x=some .free:=hx
   have hm:∃k,(x,k)∈scope.names/\k= .free:=by
    have aux:∀kk:NameKind,(kk= .cell\/kk= .free)->(relabel scope X.env).names.lookup x=some kk->∃k,(x,k)∈scope.names/\k= .free:=by
     intro kk hk el;obtain⟨⟨n,k⟩,hmem,e⟩:=Jw.mp (CC el)
     dsimp only at e
     split at e
     ·rename_i hcond
      cases e;refine⟨k,hmem,?_⟩
      simp only[J4,B2]at hcond;exact hcond.1.1
     ·cases e
      rcases hk with z|z
      ·subst z;exact absurd rfl (S.nocell _ hmem)
      ·exact⟨_,hmem,z⟩
    rcases hx' with z|z
    ·exact aux _ (.inl rfl) z
    ·exact aux _ (.inr rfl) z
   obtain⟨k,hmem,hk⟩:=hm;exact zH (l:=cl) (by rw[hfr];exact S.free _ hmem hk)
  ·exact fun x c e _=>nomatch e
  ·refine fun b hb=>⟨?_,fun x c e=>(f2 b hb).2.2.2.2.1 x c (hcl x c e)⟩
   show b≠G.objs.size
   exact(below b (fplt b hb)).1
  ·intro b o e hb
   rcases(f2 b hb).2.2.2.1 with z|z
   ·exact I2.ok.noex b o e z
   ·exact absurd (JB (Jh e) (JA I2.ok.bsz z)) (JU _)
  ·intro b hb hf
   rcases Jj.mp (I2.stkSub b hf)with z|z
   ·exact(f2 b hb).2.1 z
   ·exact(f2 b hb).2.2.1 z
 have lenσ:(σ0 own.length js σ).length=(own++fr).length:=by unfold σ0;simp [S.len]
 have IY:Inv Y [] (σ0 own.length js σ) H2 {s2 with heap:=h₁,toks:=s2.toks+([]:List (Str×Value)).length}:=by
  refine⟨okY,rfl,I2.bare,Un.kept old,⟨_,hns₁,?_⟩,?_,?_,?_,fun p hp=>absurd (show p∈([]:List (Addr×Obj))from hp) (by simp),I2.hok.kept old,lenσ⟩
  ·intro i x v hN hv _
   have hN':(own++fr)[i]? =some x:=hN
   unfold σ0 at hv
   by_cases hlt:i<own.length
   ·rw[J0 (by simpa using hlt),List.getElem?_replicate]at hv
    split at hv<;>cases hv
   ·rw[JX (by simpa using Dc hlt),DD,Jo]at hv
    rw[JX (Dc hlt)]at hN';cases ej:js[i-own.length]? with
    |none=>rw[ej]at hv;cases hv
    |some j=>
     rw[ej]at hv;have hσ:σ[j]? =some (some v):=by
      have hv':(σ[j]?).join=some v:=Jv hv
      cases q:σ[j]? with
      |none=>rw[q]at hv';cases hv'
      |some o=>rw[q]at hv';have:o=some v:=hv';rw[this]
     obtain⟨hNj,hk,hkr⟩:=S.at_ _ j x ej hN';obtain⟨m,hn,hl⟩:=I2.loc;obtain⟨u,ru,lk⟩:=hl j x v hNj hσ (.inr (.inl hk))
     refine⟨u,ru,.inr ?_⟩
     rcases lk with⟨k1,_⟩|⟨_,c,ec,ic⟩
     ·rw[hk]at k1;cases k1
     ·obtain⟨c',hc'⟩:=zH (y:=x) (l:=cl) (by rw[hfr];exact JS hN')
      have:c'=c:=by have:=hcl x c' hc';rw[ec]at this;exact(Jv this).symm
      subst this;refine⟨?_,c',hc',?_⟩
      ·show(relabel scope X.env).names.lookup x=some .cell\/(relabel scope X.env).names.lookup x=some .free
       exact .inl hkr
      ·obtain⟨oc,hoc,hd⟩:=ic
       exact⟨oc,old _ _ hoc,hd⟩
  ·intro x c e
   obtain⟨v,oc,hoc,hd⟩:=I2.cell x c (hcl x c e)
   exact⟨v,oc,old _ _ hoc,hd⟩
  ·exact I2.hok.fresh (by show s2.heap.objs.size<=G.objs.size;omega)
  ·exact fun x c e=>I2.freeC x c (hcl x c e)
 have accfs:s2.heap.objs.size∉aG X.stack:=fun hf=>by
  rcases Jj.mp (I2.stkSub _ hf)with z|z
  ·exact absurd (by rw[<- z];exact Jf _:s2.heap.objs.size<=X.env.locals) (Nat.not_le.mpr I2.lt)
  ·exact I2.nofs (Jf _) z
 have acccell:∀x c,cl.lookup x=some c->c≠s2.heap.objs.size:=fun x c e z=>by
  obtain⟨v,oc,hoc,_⟩:=I2.cell x c (hcl x c e)
  exact absurd (Jh hoc) (by rw[z];exact JU _)
 have fpY:∀{H':Hp} {pl:List (Addr×Obj)},(∀b∈fp,H' b=none)->(∀p∈pl,p.1=s2.heap.objs.size)->∀b∈fp,Zs Y pl H' b:=fun{H' pl} hn hp b hb=>
  ⟨hn b hb,(below b (fplt b hb)).1,okY.exfs b hb,.inl hb,fun x c e=>(f2 b hb).2.2.2.2.1 x c (hcl x c e),fun p hpp=>by
   have hpp':p∈pl:=by simpa [Y,zY]using hpp
   rw[hp p hpp'];exact Ne.symm (below b (fplt b hb)).2⟩
 have loop:∀s₃:Shared,Inv Y [] (σ0 own.length js σ) H2 s₃->tn 0 s₃.heap->s₃.heap.get? s2.heap.objs.size=some {cls:= .type "list",data:= .seq ([]:List Value).toArray 0}->
   codeAny (model X.prog X.w) X.A (.compLoop (.ListComp elt [⟨tg,iter,[],0⟩] scope pos) 0 (.ref it) (.ref s2.heap.objs.size) (compEnvC scope cl G.objs.size X.env))
    (compPost (model X.prog X.w) X.A X.xe use Post (.ref s2.heap.objs.size) G.objs.size) s₃:=by
  intro s₃ I3 st3 ha3;refine jL (fun n s'=>∃i ys τ H' its k,Inv Y [(s2.heap.objs.size,{cls:= .type "list",data:= .seq its.toArray k})] τ H' s'/\tn i s'.heap/\(∀b∈fp,H' b=none)/\Vals ys its/\ys.length<=sizeLine/\W i n ys τ H') ?_ m0 ?_
  ·rintro n s4 ⟨i,ys,τ,H4,its,k,I4,st4,fr4,vl,hz,w4⟩
   have pin4:=I4.pin (s2.heap.objs.size,{cls:= .type "list",data:= .seq its.toArray k}) (by simp [Y,zY])
   rcases turn i n ys τ H4 w4 with⟨stop,qn⟩|⟨go,hlt,step⟩
   ·refine qD (T.done Y rfl rfl rfl hc i _ s4 τ H4 _ I4 (fpY fr4 (by simp)) st4 stop) fun r s5 zq=>?_
    obtain⟨hr,I5⟩:=zq;subst hr
    show compPost _ _ _ _ _ _ _ _ _
    obtain⟨m5,hn5,_⟩:=I5.loc;have pin5:=I5.pin (s2.heap.objs.size,{cls:= .type "list",data:= .seq its.toArray k}) (by simp [Y,zY])
    have nacc:H4 s2.heap.objs.size=none:=pin5.2.1
    have B:=I5.base;have nC:H4 G.objs.size=none:=I5.free
    refine hfin s2.heap.objs.size G.objs.size s5 (upd H4 s2.heap.objs.size (.lst ys)) m5 ?_ hn5 ?_ (qn _ nacc)
    ·refine I2.call' (s':=s5) (ch:=fp) I5.os ⟨B.keep,B.slot,fun b o e n hx=>?_,B.there,fun b xs e=>?_,fun b o u e=>?_,fun b ps e=>?_⟩ ?_ I5.bare ?_
     ·rw[qp (below b (Jh e)).2];exact B.free b o e n hx
     ·have e1:=B.tups b xs e
      rw[qp (qi e1 nacc)];exact e1
     ·have e1:=B.frzs b o u e
      rw[qp (qi e1 nacc)];exact e1
     ·obtain⟨more,e1⟩:=B.tbls b ps e
      exact⟨more,by rw[qp (qi e1 nacc)];exact e1⟩
     ·intro b u e
      by_cases hb:b=s2.heap.objs.size
      ·subst hb
       rw[qd]at e;cases e
       exact⟨hz,its,k,vl,pin5.1⟩
      ·rw[qp hb]at e
       exact(I5.hok b u e).stay (fun c v _ q=>q) (fun c q=>by rw[qp (qi q nacc)];exact q) fun c xs q=>by rw[qp (qi q nacc)];exact q
     ·exact fun b hb=>⟨(f2 b hb).2.2.2.1,(f2 b hb).2.1,(f2 b hb).2.2.2.2.1,(f2 b hb).2.2.2.2.2⟩
    ·have hge:s2.heap.objs.size<=G.objs.size:=by omega
     refine⟨by rw[qp (Ne.symm hDC)];exact nC,?_,JA I2.sz hge,fun x c e z=>?_,fun p hp z=>?_⟩
     ·exact JQ (JB I2.lt hge)
     ·obtain⟨v,oc,hoc,_⟩:=I2.cell x c e
      exact absurd (JB (Jh hoc) hge) (by rw[z];exact JU _)
     ·exact absurd (JB (Jh (I2.pin p hp).1) hge) (by rw[z];exact JU _)
   ·refine qD (T.item Y rfl rfl rfl hc i _ s4 τ H4 _ I4 (fpY fr4 (by simp)) st4 go) fun r s5 zq=>?_
    obtain⟨u,hr,h5⟩:=zq;subst hr;refine qD h5 fun _ s6 zq=>?_
    obtain⟨x,H6,I6,r6,y6,st6,fr6⟩:=zq;have I6':=I6.pinned (fpY fr6 (by simp)) (T.obj _ _ st6)
    refine qD (hg _ _ _ _ _ s6 τ H6 x u _ I6' r6 (step x H6 y6)) fun _ s7 zq=>?_
    obtain⟨τ7,H7,I7,N,hN,q7⟩:=zq;refine qD (he _ _ _ _ _ s7 τ7 H7 _ I7 q7) fun v' s8 zq=>?_
    obtain⟨y,H8,I8,r8,n8⟩:=zq;obtain⟨m',hm',w8⟩:=hN _ _ n8;have pin8:=I8.pin (s2.heap.objs.size,{cls:= .type "list",data:= .seq its.toArray k}) (by simp [zY])
    have pinfp:∀b∈fp,∀o,s6.heap.get? b=some o->s8.heap.get? b=some o/\H8 b=none:=fun b hb o e=>by
     have:=I8.pin (b,o) (J2 _ (J2 _ (Zl hb e)))
     exact⟨this.1,this.2.1⟩
    refine wpAny_list_append_plain (items:=its.toArray) ⟨k,pin8.1⟩ (fun h' ha' hs'=>?_) (by have:=vl.length;simp;omega)
    obtain⟨k',ha'⟩:=ha';have I9:Inv Y [] τ7 H8 {s8 with heap:=h'}:=by
     refine(I8.pins_of (pins':=[]) (by simp)).turned (t':=s8.toks) (it:=s2.heap.objs.size) (fun b o hb e=>(hs'.2 b hb).trans e) pin8.2.1 ?_ (.inr (Jf _)) (fun x c e=>acccell x c e) (fun p hp=>absurd (show p∈([]:List (Addr×Obj))from by simpa [Y,zY]using hp) (by simp))
     exact hDC
    have ea:(its.toArray.push v')=(its++[v']).toArray:=by simp
    rw[ea]at ha';refine⟨m',hm',i+1,ys++[y],τ7,H8,its++[v'],k',I9.pins_of ?_,T.keep _ _ _ st6 fun b hb o e=>(hs'.2 b (below b (fplt b hb)).2).trans (pinfp b hb o e).1,fun b hb=>?_,vl.append (.cons r8 .nil),?_,w8⟩
    ·intro p hp
     rw[Jg.mp hp]
     exact⟨ha',pin8.2.1,hDC,accfs,fun v z=>by cases z⟩
    ·obtain⟨o,e,_⟩:=T.obj _ _ st6 b hb
     exact(pinfp b hb o e).2
    ·rw[Jx,Cr];omega
  ·refine⟨0,[],σ0 own.length js σ,H2,[],0,I3.pins_of ?_,st3,fun b hb=>(f2 b hb).1,.nil,JC _,w0⟩
   intro p hp;rw[Jg.mp hp]
   exact⟨ha3,I2.hok.fresh (Jf _),hDC,accfs,fun v z=>by cases z⟩
 have st1:tn 0 h₁:=T.keep _ _ _ st2 fun b _ o e=>old b o e
 exact codeAny_compStart_list (loop _ IY st1 hacc) (T.self _ 0 _ _ _ st1 (loop _ IY st1 hacc))
theorem vR{elt tg iter:Expr}{scope:Scope}{cl:List (Str×Addr)}{pos:Pos}{fr own:List Str}{js:List Nat}{wi:TI}{g:TG}{te:TE}
  (hc:X.calm=true)(hi:PI X tg iter wi)(hclos:closureFor scope X.env=pure cl)(hcl:∀y c,cl.lookup y=some c->X.env.cells.lookup y=some c)(hfr:cl.map (·.1)=fr)
  (S:BScope X scope fr js)
  (hg:∀C s H fp,PG (zY X (own++fr) scope cl C s H fp) tg g)(he:∀C s H fp,PE (zY X (own++fr) scope cl C s H fp) elt te)
  (hs:∀x,foldedSetIterable iter X.env x=pure x:=by intro _;rfl):
  PE X (.ListComp elt [⟨tg,iter,[],0⟩] scope pos) (fh own.length js wi g te):=by
 intro DK s σ H Q I h;rw[eval_ListComp];refine jE (use:=none) hc hi hclos hcl hfr S hg he hs I h fun acc C s5 H' m I5 hn aw q=>?_
 exact⟨m,hn,fun h' hs'=>⟨.ref acc,H',I5.turned (t':=s5.toks) (fun b o hb e=>(hs'.2 b hb).trans e) aw.free aw.loc (.inr aw.new) aw.cell aw.pin,rfl,q⟩⟩
theorem ww{elt tg iter:Expr}{scope:Scope}{cl:List (Str×Addr)}{pos spos py:Pos}{fr own:List Str}{js:List Nat}{wi:TI}{g:TG}{te:TE}{i:Nat}{y:Str}
  (hN:X.N.Nodup)(hi':X.N[i]? =some y)(hx:e9 X.env.scope y)
  (hc:X.calm=true)(hi:PI X tg iter wi)(hclos:closureFor scope X.env=pure cl)(hcl:∀y c,cl.lookup y=some c->X.env.cells.lookup y=some c)(hfr:cl.map (·.1)=fr)
  (S:BScope X scope fr js)
  (hg:∀C s H fp,PG (zY X (own++fr) scope cl C s H fp) tg g)(he:∀C s H fp,PE (zY X (own++fr) scope cl C s H fp) elt te)
  (hs:∀x,foldedSetIterable iter X.env x=pure x:=by intro _;rfl)(hsw:swapsWith (.ListComp elt [⟨tg,iter,[],0⟩] scope pos) (some (.Name y py)) spos.line X.env=pure true:=by rfl)
  (hf:X.fn y=true\/X.env.scope.names.lookup y=some .local:=by first|exact .inl rfl|exact .inr rfl|assumption):
  PS X (.Assign [.Name y py] (.ListComp elt [⟨tg,iter,[],0⟩] scope pos) spos) (dv (fh own.length js wi g te) (Qu i)):=by
 intro DK s σ H D I h;rw[exec_Assign_Name_used _ _ _ _ hsw];refine Ja (CB (Ja ?_))
 show wpAny _ X.A (do let _ <- comprehension (.ListComp elt [⟨tg,iter,[],0⟩] scope pos) scope X.env _ (newList []) false (eval iter X.env) (some (assign (.Name y py) X.env))) _ _ s
 refine Ja (JG (jE (use:=some (assign (.Name y py) X.env)) (Post:=fun _ s'=>SP X DK D .next s') hc hi hclos hcl hfr S hg he hs I h ?_) (fun _ s' hq=>Jb (Jb hq)) fun _ _ e=>e)
 intro acc C s5 H' m I5 hn aw q
 show wpAny _ X.A (assign (.Name y py) X.env (.ref acc)) _ _ _
 refine wpAny_assign_Name (bM (v:= .ref acc) I5 hN hi' hx rfl (fun s6 I6 zq=>?_) hf)
 obtain⟨a,hs6,ha⟩:=zq;have hCa:C≠a:=by
  rcases ha with z|z
  ·rw[z];exact aw.loc
  ·exact Ne.symm (aw.cell _ _ z)
 refine⟨m,hn.sameBut hs6 hCa,fun h' hs'=>?_⟩
 exact⟨_,H',I6.turned (t':=s6.toks) (fun b o hb e=>(hs'.2 b hb).trans e) aw.free aw.loc (.inr aw.new) aw.cell aw.pin,q⟩
section
variable{js:List Nat}{te:TE}{σ:L2.St}{H:Hp}{Q:VK}{K:Frag}
abbrev zV(js:List Nat)(σ:L2.St):L2.St:=js.map fun j=>(σ[j]?).join
abbrev fO(J:It)(js:List Nat)(te:TE)(σ:L2.St)(H1:Hp)(Q:VK):Prop:=iR 1 js (Qu 0) te σ Q J H1
theorem aN{J:It}{n:Nat}(hn:n<=sizeLine)(item:Nat->V->Prop)(Pv:Nat->List V->Hp->Prop)(h0:Pv 0 [] H)(hgo:∀i ys H,i<n->Pv i ys H->J.go i H)(hst:∀ys H,Pv n ys H->J.stop n H)
  (hy:∀i ys H x H',i<n->Pv i ys H->J.yld i H x H'->H'=H/\item i x)
  (hs:∀i ys H x,i<n->ys.length=i->Pv i ys H->item i x->te (some x::zV js σ) H fun v H3=>Pv (i+1) (ys++[v]) H3)
  (hd:∀ys H,ys.length=n->Pv n ys H->∀p,H p=none->Q (.ref p) (upd H p (.lst ys))):fO J js te σ H Q:=by
 refine⟨fun i m ys τ H=>m=n-i/\i<=n/\ys.length=i/\Pv i ys H/\∃o,τ=o::zV js σ,⟨n,by simp,JC _,rfl,h0,none,rfl⟩,?_⟩
 rintro i m ys τ H ⟨rfl,hi,hl,p,o,rfl⟩
 by_cases hlt:i<n
 ·refine .inr ⟨hgo i ys H hlt p,by omega,fun x H' y=>?_⟩
  obtain⟨e,hx⟩:=hy i ys H x H' hlt p y;subst e
  exact⟨fun v H3=>Pv (i+1) (ys++[v]) H3,fun v H3 p3=>⟨n-(i+1),by omega,rfl,hlt,by simp [hl],p3,_,rfl⟩,hs i ys _ x hlt hl p hx⟩
 ·have e:i=n:=by omega
  subst e;exact .inl ⟨hst ys H p,hd ys H hl p⟩
theorem bZ{a:Addr}{xs:List V}(hn:xs.length<=sizeLine)(Pv:Nat->List V->Hp->Prop)(h0:Pv 0 [] H)(hl:∀i ys H,Pv i ys H->SqL K H a xs)
  (hs:∀i ys H x,xs[i]? =some x->ys.length=i->Pv i ys H->te (some x::zV js σ) H fun v H3=>Pv (i+1) (ys++[v]) H3)
  (hd:∀ys H,ys.length=xs.length->Pv xs.length ys H->∀p,H p=none->Q (.ref p) (upd H p (.lst ys))):fO (fU K a) js te σ H Q:=
 aN hn (fun i x=>xs[i]? =some x) Pv h0 (fun i ys H hi p=>⟨xs,xs[i],hl _ _ _ p,by simp [hi]⟩) (fun ys H p=>⟨xs,hl _ _ _ p,Jf _⟩) (fun i ys H x H' _ p y=>⟨y.1,y.2 xs (hl _ _ _ p)⟩) (fun i ys H x _ hl p hx=>hs i ys H x hx hl p) hd
theorem bt{a:Addr}{xs:List V}(hn:xs.length<=sizeLine)(Pv:Nat->List V->Hp->Prop)(h0:Pv 0 [] H)(hl:∀i ys H,Pv i ys H->SqT K H a xs)
  (hs:∀i ys H x,xs[i]? =some x->ys.length=i->Pv i ys H->te (some x::zV js σ) H fun v H3=>Pv (i+1) (ys++[v]) H3)
  (hd:∀ys H,ys.length=xs.length->Pv xs.length ys H->∀p,H p=none->Q (.ref p) (upd H p (.lst ys))):fO (ig K a) js te σ H Q:=
 aN hn (fun i x=>xs[i]? =some x) Pv h0 (fun i ys H hi p=>⟨xs,xs[i],hl _ _ _ p,by simp [hi]⟩) (fun ys H p=>⟨xs,hl _ _ _ p,Jf _⟩) (fun i ys H x H' _ p y=>⟨y.1,y.2 xs (hl _ _ _ p)⟩) (fun i ys H x _ hl p hx=>hs i ys H x hx hl p) hd
theorem QL{lo:Int}{n:Nat}(hn:n<=sizeLine)(Pv:Nat->List V->Hp->Prop)(h0:Pv 0 [] H)
  (hs:∀i ys H,i<n->ys.length=i->Pv i ys H->te (some (.int (lo+i))::zV js σ) H fun v H3=>Pv (i+1) (ys++[v]) H3)
  (hd:∀ys H,ys.length=n->Pv n ys H->∀p,H p=none->Q (.ref p) (upd H p (.lst ys))):fO (fq lo n) js te σ H Q:=
 aN hn (fun i x=>x= .int (lo+i)) Pv h0 (fun i ys H hi p=>hi) (fun ys H p=>Jf _) (fun i ys H x H' _ p y=>y) (fun i ys H x hi hl p hx=>by subst hx;exact hs i ys H hi hl p) hd
end
end L3
namespace L3
open PySem PySem.Spec PyProof.Rows L2
section
variable{X:Cx}{DK:List (Addr×Obj)}{σ:L2.St}{H:Hp}{s:Shared}
theorem cA{h':Heap}{t':Nat}{ch:List Addr}{a:Addr}{xs:List V}{its:List Value}(I:L2.Inv X DK σ H s)(k:∀b o,b∉ch->s.heap.get? b=some o->h'.get? b=some o)(hch:∀b∈ch,Zs X DK H b)
  (ho:∀b∈ch,∃o,h'.get? b=some o)(ha:s.heap.objs.size<=a)(hz:xs.length<=sizeLine)(hv:Vals xs its)(ht:IsTup h' a its.toArray):L2.Inv X DK σ (upd H a (.tup xs)) {s with heap:=h',toks:=t'}:=by
 have na:H a=none:=I.hok.fresh ha
 have nlt:∀b o,s.heap.get? b=some o->b≠a:=fun b o e=>Jm (JB (Jh e) ha)
 have nch:∀b u,H b=some u->b∉ch:=fun b u e z=>by rw[(hch b z).1]at e;cases e
 refine I.step (g':=s.gens) (d':=s.drawn) (ch:=ch) (fun b hb=>⟨(hch b hb).2.2.2.1,(hch b hb).2.1,(hch b hb).2.2.2.2.1,(hch b hb).2.2.2.2.2⟩) (fun b o _ _ hc e _=>k b o hc e) (fun b o _ _ hc e _=>⟨o.slots,k b o hc e⟩)
  (fun b o _ e n=>by rw[qp (nlt b o e)];exact n) (fun b o hc e=>⟨o,k b o hc e⟩) (fun b ys e=>by rw[qp (qi e na)];exact e) (fun b o u e=>by rw[qp (qi e na)];exact e)
  (fun b ps e=>⟨#[],by rw[qp (qi e na),e];simp⟩) (fun m hm=>?_) (fun b u e=>?_) I.bare
 ·obtain⟨o,es,ep,ho,r⟩:=hm
  exact⟨o,es,ep,k _ o (fun z=>(hch _ z).2.1 rfl) ho,r⟩
 ·by_cases hb:b=a
  ·subst hb
   rw[qd]at e;cases e
   exact⟨hz,its,hv,ht⟩
  ·rw[qp hb]at e
   refine(I.hok b u e).stay (fun c v hc q=>k c v ?_ q) (fun c q=>by rw[qp (qi q na)];exact q) fun c ys q=>by rw[qp (qi q na)];exact q
   rcases hc with z|z
   ·rw[z];exact nch b u e
   ·exact nch c _ z
def lq(K:Frag)(a:Addr):It:=
 ⟨fun i H=>∃xs x,SqL K H a xs/\xs[i]? =some x,fun i H x H'=>∃p v,H p=none/\x= .ref p/\(∀xs,SqL K H a xs->xs[i]? =some v)/\H'=upd H p (.tup [.int i,v]),fun i H=>∃xs,SqL K H a xs/\xs.length<=i⟩
theorem ik{P:Program}{w:World}{K:Frag}{elts:List Expr}{x1}{pos:Pos}(a e it:Addr)(hei:e≠it):
  Turn P w K (.Tuple elts x1 pos) (lq K a) [e,it] e (fun i h=>(∃old,IsEnum h e it i old)/\h.IsListIter it a i) where
 mem:=by simp
 obj:=fun i h st b hb=>by
  obtain⟨⟨old,he⟩,⟨o,ho,hc,hd⟩⟩:=st;rcases Jj.mp hb with z|z
  ·subst z
   refine⟨_,he,fun v z=>?_⟩
   have z':Data.fields _=Data.cell v:=z
   cases z'
  ·rw[Jg.mp z]
   exact⟨o,ho,fun v z=>by rw[hd]at z;cases z⟩
 keep:=fun i h h' st k=>⟨let⟨old,he⟩:=st.1;⟨old,k e (by simp) _ he⟩,st.2.at fun o q=>k it (by simp) o q⟩
 item:=by
  intro X hP hw hK hc i DK s σ H E I hf st hg;subst hP hw hK;obtain⟨xs,x,hq,hx⟩:=hg;obtain⟨its,rv,p,hz⟩:=I.list hq;obtain⟨u,hu,ru⟩:=rv.get hx;obtain⟨⟨old,he⟩,hit⟩:=st;refine wpAny_pyNext_enum_item he hit p.isList (x:=u) (by simpa using hu) hei fun h' ho hit' ht hsz hk=>⟨_,rfl,?_⟩
  refine wpAny_letOwnedTupleGo_enum ho fun h'' he'' hs''=>?_
  have helt:e<s.heap.objs.size:=Jh he
  have hilt:it<s.heap.objs.size:=by obtain⟨_,y,_⟩:=hit;exact Jh y
  refine⟨.ref s.heap.objs.size,upd H s.heap.objs.size (.tup [.int i,x]),?_,rfl,⟨_,x,I.hok.fresh (Jf _),rfl,fun ys hy=>by rw[I.list_inj hy hq];exact hx,rfl⟩,⟨⟨_,by simpa using he''⟩,?_⟩,?_⟩
  ·show L2.Inv X DK σ _ {s with heap:=h'',toks:=s.toks+1}
   refine cA (s:=s) (its:=[.int i s.toks,u]) I (ch:=[e,it]) (fun b o hb q=>?_) hf (fun b hb=>?_) (Jf _) (by show 2<=sizeLine;decide) (.cons ⟨_,rfl⟩ (.cons ru .nil)) ?_
   ·have hb1:b≠e:=fun z=>hb (by simp [z])
    have hb2:b≠it:=fun z=>hb (by simp [z])
    exact(hs''.2 b hb1).trans (hk b o hb1 hb2 q)
   ·rcases Jj.mp hb with z|z
    ·subst z;exact⟨_,he''⟩
    ·rw[Jg.mp z]
     obtain⟨o,y,_⟩:=hit'
     exact⟨o,(hs''.2 it (Ne.symm hei)).trans y⟩
   ·exact⟨_,(hs''.2 _ (JQ helt)).trans ht,rfl,_,rfl⟩
  ·exact hit'.extBut hs''.extBut (Ne.symm hei)
  ·intro b hb
   rw[qp]
   ·exact(hf b hb).1
   ·rcases Jj.mp hb with z|z
    ·subst z;exact Jm helt
    ·rw[Jg.mp z];exact Jm hilt
 done:=by
  intro X hP hw hK hc i DK s σ H E I hf st hg;subst hP hw hK;obtain⟨xs,hq,hx⟩:=hg;obtain⟨its,rv,p,hz⟩:=I.list hq;obtain⟨⟨old,he⟩,hit⟩:=st;obtain⟨f0,f1,f2,f3,f4,f5⟩:=hf it (by simp)
  have hl:=rv.length;exact wpAny_pyNext_enum_end (I.ok.hd hc) he hit p.isList (by simp;omega) fun h' eb=>⟨rfl,I.turned (t':=s.toks) (fun b o hb e=>eb b o hb e) f0 f1 f3 f4 f5⟩
 self:=fun _ _ _ _ _ st h=>by
  obtain⟨⟨old,he⟩,_⟩:=st;exact De he h
def vF(K:Frag)(ta:TA):TI:=fun σ H R=>ta σ H fun vs H1=>∃a,vs=[.ref a]/\(∃xs,SqL K H1 a xs)/\R (lq K a) H1
theorem vP{a:Expr}{ta:TA}{p pos:Pos}{elts:List Expr}{x1}{tpos:Pos}(hg:Gl X "enumerate")(hm:X.mg "enumerate"=none)(ha:PA X [a] ta)(hs:starEach [a] X.env=[(false,eval a X.env)]:=by rfl):
  PI X (.Tuple elts x1 tpos) (.Call (.Name "enumerate" p) [a] [] pos) (vF X.K ta):=by
 intro DK s σ H R I h;refine Call_ (QX I hg hm boot_enumerate (Cn (qD (ha pos DK s σ H _ I h) fun us s1 zq=>?_) hs rfl))
 obtain⟨vs,H1,I1,r1,q1⟩:=zq;obtain⟨l,e,⟨xs,hq⟩,q⟩:=q1;subst e;obtain⟨u,rfl,ru⟩:=r1.one;cases ru;obtain⟨its,rv,pl,hz⟩:=I1.list hq;refine call_enumerate_list pl.isList fun h' he hit hsz hk=>De he ?_
 have I2:L2.Inv X DK σ H1 {s1 with heap:=h'}:=I1.kept (t':=s1.toks) hk
 refine⟨s1.heap.objs.size+1,[s1.heap.objs.size+1,s1.heap.objs.size],_,_,H1,rfl,I2,ik l _ _ (JQ (BX _)),⟨⟨_,he⟩,hit⟩,fun b hb=>?_,q⟩
 have hb':s1.heap.objs.size<=b:=by
  rcases Jj.mp hb with z|z
  ·rw[z];exact Co _
  ·rw[Jg.mp z];exact Jf _
 exact I1.fpOk hb' (I1.hok.fresh hb')
theorem j5{K:Frag}{a:Addr}{xs:List V}{g:TG}{tb:TS}{D:Ends}{σ:L2.St}{H:Hp}(Pv:Nat->L2.St->Hp->Prop)(h0:Pv 0 σ H)(hl:∀i σ H,i<=xs.length->Pv i σ H->SqL K H a xs)
  (hs:∀i x σ H p,xs[i]? =some x->Pv i σ H->H p=none->g (.ref p) σ (upd H p (.tup [.int i,x])) fun σ2 H2=>tb {D with nx:=Pv (i+1),ct:=Pv (i+1),bk:=D.nx} σ2 H2)(hd:∀σ H,Pv xs.length σ H->D.nx σ H):
  ∃W:Nat->Nat->L2.St->Hp->Prop,(∃m,W 0 m σ H)/\∀i m σ H,W i m σ H->
   ((lq K a).stop i H/\D.nx σ H)\/((lq K a).go i H/\∃N:L2.St->Hp->Prop,(∀σ' H',N σ' H'->∃m',m'<m/\W (i+1) m' σ' H')/\∀x H',(lq K a).yld i H x H'->g x σ H' fun σ2 H2=>tb {D with nx:=N,ct:=N,bk:=D.nx} σ2 H2):=by
 refine⟨fun i m σ H=>m=xs.length-i/\i<=xs.length/\Pv i σ H,⟨xs.length,by simp,JC _,h0⟩,?_⟩
 rintro i m σ H ⟨rfl,hi,p⟩
 have q:=hl i σ H hi p
 by_cases hlt:i<xs.length
 ·refine .inr ⟨⟨xs,xs[i],q,by simp [hlt]⟩,Pv (i+1),fun σ' H' p'=>⟨xs.length-(i+1),by omega,rfl,hlt,p'⟩,fun x H' y=>?_⟩
  obtain⟨pp,v,hp,rfl,hv,rfl⟩:=y;exact hs i v σ H pp (hv xs q) p hp
 ·have e:i=xs.length:=by omega
  subst e;exact .inl ⟨⟨xs,q,Jf _⟩,hd σ H p⟩
end
def zn(t c:String):Bool:=t==c||(t=="bool"&&c=="int")
abbrev f9:List String:=["NoneType","bool","int","str","list","tuple"]
abbrev gp:List String:=["bool","int","str","list","tuple"]
theorem gD(K:Frag):∀t∈f9,∀c∈gp,W.kitOne K (.type t) (.type c)=some (zn t c):=by
 intro t ht c hc;simp only[f9,gp,Jj,Jp,Jq]at ht hc;rcases ht with rfl|rfl|rfl|rfl|rfl|rfl<;>rcases hc with rfl|rfl|rfl|rfl|rfl<;>kernel_rfl
section
variable{X:Cx}
theorem jJ:zg X (.builtin "isinstance") (fun xs H Q=>∃x c t,xs=[x,.ty c]/\TyOf X.K H x (.type t)/\t∈f9/\c∈gp/\Q (.bl (zn t c)) H):=by
 intro DK s σ H xs us Q I r h;obtain⟨x,c,t,rfl,ty,ht,hc,q⟩:=h;obtain⟨u,v,rfl,ru,rv⟩:=fj r
 cases(show v=Value.type c from rv)
 exact rR I ru ty (gD X.K t ht c hc) fun tk=>⟨.bl _,H,I.tok tk,rfl,q⟩
theorem kh:∀{bs:List Bool} {us:List Value},Vals (bs.map V.bl) us->us=bs.map Value.bool
 | [],_,.nil=>rfl
 |b::bs,_,.cons r t=>by
  cases(show _=Value.bool b from r)
  rw[kh t];rfl
theorem mJ(bs:List Bool):((List.range bs.length).all fun i=>(bs[i]?).getD true)=bs.all id:=by
 rw[CO,Dg,Dg];constructor
 ·intro h b hb
  obtain⟨i,hi,e⟩:=List.mem_iff_getElem.mp hb
  have:=h i (B6.mpr hi)
  rw[Jl hi,CU,e]at this;exact this
 ·intro h i hi
  have hi':=B6.mp hi;rw[Jl hi',CU];exact h _ (Ca hi')
theorem ac(hc:X.calm=true):zg X (.builtin "all") (fun xs H Q=>∃(p:Addr) (bs:List Bool),xs=[.ref p]/\SqL X.K H p (bs.map V.bl)/\Q (.bl (bs.all id)) H):=by
 intro DK s σ H xs us Q I r h;obtain⟨p,bs,rfl,hq,q⟩:=h;obtain⟨u,rfl,ru⟩:=zW r;cases ru;obtain⟨its,rv,pl,hz⟩:=I.list hq;have e:=kh rv;have hl:=pl.isList;have hlt:p<s.heap.objs.size:=by obtain⟨_,e,_⟩:=hl;exact Jh e
 refine call_all_walk (CN hl ?_)
 refine⟨s.heap.objs.size,[s.heap.objs.size,p],[s.heap.objs.size],its.toArray.size,_,_,fun i=>(bs[i]?).getD true,rfl,Walks.list (A:=X.A.in1) (I.ok.hd hc) _ p (Jm hlt) its.toArray,
  ⟨⟨_,Jn _ rfl,rfl,rfl⟩,hl.push _⟩,fun i v s' Q' E' hP hQ=>?_,fun h' tk hk=>?_⟩
 ·have hP':its[i]? =some v:=by simpa using hP
  rw[e,Jo]at hP';cases eb:bs[i]? with
  |none=>rw[eb]at hP';cases hP'
  |some b=>
   rw[eb]at hP'
   cases(Jv hP':Value.bool b=v)
   simp only[eb,CU]at hQ;exact B7 hQ
 ·have e2:((List.range its.toArray.size).all fun i=>(bs[i]?).getD true)=bs.all id:=by
   rw[Jt,e,Je];exact mJ bs
  rw[e2];refine⟨.bl _,H,I.kept (h':=h') (t':=tk) fun b o q=>hk b o (fun hm=>?_) (Ji _ q),rfl,q⟩
  rw[Jg.mp hm]at q;exact JU _ (Jh q)
theorem gI:zg X (.type "range") (fun xs H Q=>∃j:Int,xs=[.int j]/\∀p,H p=none->Q (.ref p) (upd H p (.rng 0 j))):=by
 intro DK s σ H xs us Q I r h;obtain⟨j,rfl,q⟩:=h;obtain⟨u,rfl,ru⟩:=zW r;obtain⟨t,rfl⟩:=ru;refine call_range_1 ⟨.ref s.heap.objs.size,_,I.laid (o:= .rng 0 j) (fun b o e=>Ji _ e) (Jf _) ⟨_,_,_,Jn _ rfl⟩,rfl,q _ (I.hok.fresh (Jf _))⟩
theorem nH(hc:X.calm=true):zg X (.type "list") (fun xs H Q=>∃(p:Addr) (j:Nat),xs=[.ref p]/\H p=some (.rng 0 (j:Int))/\j<=2 ^ 24/\∀l,H l=none->Q (.ref l) (upd H l (.lst ((List.range j).map fun i=>V.int (i:Nat))))):=by
 intro DK s σ H xs us Q I r h;obtain⟨p,j,rfl,hp,hj,q⟩:=h;obtain⟨u,rfl,ru⟩:=zW r;cases ru;obtain⟨t,u,v,e⟩:=I.hok p _ hp;refine call_list_range (n:=j) (I.ok.hd hc) (show IsRange s.heap p 0 (j:Int) 1 t u v from e) (small_one (by omega) (by omega) (by omega) (by omega)) (by rw[rangeSize_one];split<;>omega) hj fun h' tk acc' c' hk hS' hacc=>?_
 refine⟨.ref s.heap.objs.size,_,I.laid (h':=h') (t':=tk) hk (Jf _) ?_,rfl,q _ (I.hok.fresh (Jf _))⟩
 have aux:∀(us:List Value) (n k:Nat),us.length=n->(∀i v,us[i]? =some v->∃t,v=Value.int ((k+i:Nat):Int) t)->Vals ((List.range' k n).map fun i=>V.int (i:Nat)) us:=by
  intro us
  induction us with
  |nil=>intro n k hn _;cases hn;exact .nil
  |cons u us ih=>
   intro n k hn hv;cases n with
   |zero=>cases hn
   |succ n=>
    rw[List.range'_succ,JW];obtain⟨t,ht⟩:=hv 0 u rfl;refine .cons ⟨t,by simpa using ht⟩ (ih n (k+1) (by simpa using hn) fun i v hi=>?_)
    obtain⟨t,ht⟩:=hv (i+1) v hi
    exact⟨t,by rw[ht];congr 1;omega⟩
 have vals:Vals ((List.range j).map fun i=>V.int (i:Nat)) acc'.toList:=by
  rw[List.range_eq_range'];refine aux _ _ 0 (by rw[J1];exact hacc.1) fun i v hi=>?_
  obtain⟨t,ht⟩:=hacc.2 i v (by rw[<- Array.getElem?_toList];exact hi)
  exact⟨t,by rw[ht];congr 1;omega⟩
 exact⟨by simp only[Je,List.length_range];exact JA hj (by rw[Jz];decide),acc'.toList,c',vals,hS'⟩
def Bz:V->Option Int->Option Int->Hp->VK->Prop:=fun x lo hi H Q=>∃a xs,x= .ref a/\H a=some (.tup xs)/\∀p H',Same H H'->H' p=some (.tup (Zq xs lo hi))->(p=a\/H p=none)->Q (.ref p) H'
theorem bD{prog:Program}{w:World}{A:Around}{E:Value->Shared->Prop}{s:Shared}{t sl:Addr}{items:Array Value}{vl vu:Value}{lo hi:Option Int}{Q:Value->Shared->Prop}(ht:IsTup s.heap t items)(hs:s.heap.IsSliceOf sl vl vu .none)(pl:IsPart vl lo)(pu:IsPart vu hi)
  (hw:HT.sIx items.size 0 lo=0/\HT.sIx items.size items.size hi=items.size)(h:Q (.ref t) s):wpAny (model prog w) A (getItem (.ref t) (.ref sl)) Q E s:=by
 obtain⟨os,hos,hcs,hds⟩:=id hs;have hTs:s.TypeIs (.ref sl) "slice":=⟨os,hos,hcs⟩
 unfold getItem
 try with_reducible refine JV ?_
 first|refine Ja (Jb ?_)|skip
 refine Ja (wpAny_sequenceKey ht.typeIs (by decide) ?_)
 refine Ja (wpAny_callSpecial?_slot (name:=Str.ofString "__getitem__") ht.typeIs Dq
  (JT Dq ht.typeIs entry_tuple_getitem ?_ (args_tuple_getitem _ _)))
 show wpAny _ _ (Builtin.Tuple.tupleItemsOf (.ref t) >>= _) _ _ s
 refine Ja (tupleItemsOf_ ht ?_)
 refine Ja (C7 hTs ?_)
 rw[Jd (by decide)]
 refine Ja (HT.sliceApplied_gen hs pl pu ?_)
 show wpAny _ _ (if(((HT.sIx items.size 0 lo:Nat):Int)==0&&(1:Int)==1&&(HT.sIx items.size items.size hi-HT.sIx items.size 0 lo)==items.size)=true then _ else _) _ _ s
 rw[hw.1,hw.2,Jd (by simp)]
 refine Ja (m:=Builtin.Tuple.tupleIsExact _) ?_
 unfold Builtin.Tuple.tupleIsExact;refine Ja (C7 ht.typeIs (Jb ?_))
 rw[Jd (by rfl)]
 exact Ja (BW (Jb ⟨_,rfl,Jb h⟩))
theorem Q9:oM X Bz:=by
 intro DK s σ H x v vl vu lo hi sl Q I rx hs pl pu h;obtain⟨a,xs,rfl,hx,q⟩:=h
 by_cases hw:HT.sIx xs.length 0 lo=0/\HT.sIx xs.length xs.length hi=xs.length
 ·cases rx
  obtain⟨its,r,ht,hz⟩:=I.tuple (SqT.of hx)
  have hlen:its.toArray.size=xs.length:=by rw[Jt];exact r.length.symm
  refine⟨"tuple",_,PyProof.Rows.slot_tuple_getitem.lookup,ht.typeIs,?_⟩
  refine bD ht hs pl pu (by rw[hlen];exact hw) ⟨.ref a,H,I,rfl,q a H (Same.refl H) ?_ (.inl rfl)⟩
  have:Zq xs lo hi=xs:=by unfold Zq;rw[hw.1,hw.2];simp
  rw[this];exact hx
 ·exact y8 DK s σ H _ v vl vu lo hi sl Q I rx hs pl pu ⟨a,xs,rfl,SqT.of hx,hw,fun p hp=>q p _ (fun b o e=>by rw[qp (qi e hp)];exact e) qd (.inr hp)⟩
def AL:R2:=fun x y H Q=>∃a b xs ys,x= .ref a/\y= .ref b/\H a=some (.tup xs)/\H b=some (.tup ys)/\xs.length+ys.length<=sizeLine/\∀p H',Same H H'->H' p=some (.tup (xs++ys))->Q (.ref p) H'
theorem cB:zv X (binaryOp .Add) AL:=by
 intro DK s σ H x y v u Q I rx ry h;obtain⟨a,b,xs,ys,rfl,rfl,ha,hb,hz,q⟩:=h
 by_cases hx:xs=[]
 ·subst hx
  cases rx;cases ry;obtain⟨its,r1,p1,_⟩:=I.tuple (SqT.of ha)
  obtain⟨its2,r2,p2,_⟩:=I.tuple (SqT.of hb)
  cases r1;obtain⟨⟨cls,dd,data,sl⟩,ho,hc,n,hd⟩:=id p1;obtain⟨⟨cls2,dd2,data2,sl2⟩,ho2,hc2,n2,hd2⟩:=id p2;simp only at hc hd hc2 hd2
  subst hc hd hc2 hd2;exact concat_meets ⟨_,ho,rfl⟩ ⟨_,ho2,rfl⟩ noFill_tuple_add seq_tuple_add DE DF (DG _ _)
   (tuple_addW0 a b _ its2.toArray n n2 dd dd2 sl sl2 (by simp)) ⟨ho,ho2,⟨.ref b,H,I,rfl,q b H (Same.refl H) hb⟩⟩
 ·refine wP DK s σ H _ _ v u Q I rx ry ⟨a,b,xs,ys,rfl,rfl,SqT.of ha,SqT.of hb,hx,hz,fun e=>q a H (Same.refl H) (by subst e;simpa using ha),fun _ p hp=>q p _ (fun b o e=>by rw[qp (qi e hp)];exact e) qd⟩
theorem mD{ns:List Int}{us:List Value}(r:Vals (ns.map V.int) us)(j:Nat)(h:j<us.length)(h':j<ns.length):∃t,us[j]=Value.int ns[j] t:=by
 obtain⟨u,hu,ru⟩:=r.get (i:=j) (x:=V.int ns[j]) (by rw[Jo,Jl h'];rfl)
 rw[Jl h]at hu;cases hu;exact ru
theorem ul(ns ms:List Int)(h:ns.length=ms.length):((List.range ns.length).all fun j=>(ns.getD j 0==ms.getD j 0))=decide (ns=ms):=by
 rw[CO,Dg,Dh];constructor
 ·intro q
  refine List.ext_getElem h fun i h1 h2=>?_
  have:=q i (B6.mpr h1)
  simp only[JF,Jl h1,Jl h2,CU,B2]at this;exact this
 ·rintro rfl i _
  simp
end
def zK:Expr->Bool
 | .Starred .. =>false
 |_=>true
theorem Q8{e:Expr}{es:List Expr}{env:Env}(h:zK e=true):starEach (e::es) env=(false,eval e env)::starEach es env:=by
 cases e<;>first|rfl|cases h
theorem BJ{X:Cx}{e:Expr}{es:List Expr}{te:TE}{t:TA}(ha:PE X e te)(hr:PA X es t)(h:zK e=true:=by rfl):PA X (e::es) (mT te t):=vV ha hr (Q8 h)
structure Df(P:Program)(w:World)(K:Frag)(mg:Str->Option Value)(base:Heap)(x:Str)(ps:List Str)(k:Nat)(sp:Sp):Prop where
 ex:∃(f:Addr) (fd:FuncData),FnOk P w K mg base Z6 k f fd ps sp/\mg x=some (.ref f)/\PySem.W.keepIn K (.ref f)=true/\Binds K fd ps []
structure At(K:Frag)(mg:Str->Option Value)(x:Str)(st:Stmt)(ps:List Str):Prop where
 ex:∃(f:Addr) (fd:FuncData),Fun K x x st f fd/\mg x=some (.ref f)/\PySem.W.keepIn K (.ref f)=true/\Binds K fd ps []
section
variable{P:Program}{w:World}{K:Frag}{mg:Str->Option Value}{base:Heap}
theorem At.df{x:Str}{st:Stmt}{ps N:List Str}{k:Nat}{sp:Sp}(a:At K mg x st ps)(S:FnScope N ps (qo st))(len:∀vs H Q E,sp vs H Q E->vs.length=ps.length)
  (hbody:∀(f:Addr) (cdv:Value) (A:Around) (outer:List Env) (s:Shared) (H:Hp) (vs:List V) (Q:VK) (E:XK),Room k (A.deeper (envOfC x (qo st) s.heap.objs.size f cdv))->sp vs H Q E->
   ∃t,PSs (aB Z6 P w K mg base N x (qo st) f cdv A outer s H E).nox (zB st) t/\t {nx:=fun _ H'=>Q .non H',rt:=Q} (QZ N vs) H):Df P w K mg base x ps (k+1) sp:=by
 obtain⟨f,fd,F,m,kp,bd⟩:=a.ex
 exact⟨f,fd,F.ok S len (fun cdv A outer s H vs Q E hr h=>hbody f cdv A outer s H vs Q E hr h),m,kp,bd⟩
end
section
variable{X:Cx}{x:Str}{ps:List Str}{k:Nat}{sp:Sp}{e:Expr}{es:List Expr}{p pos:Pos}{t:TA}
theorem yu(D:Df X.prog X.w X.K X.mg X.base x ps k sp)(hr:Room k X.A)(ha:PA X (e::es) t)(hg:Gl X x:=by rfl)(hdb:(x==("__debug__":Str))=false:=by decide)(he:starEach (e::es) X.env=(false,eval e X.env)::starEach es X.env:=by rfl)(hpl:(backTo pos (starEach es X.env)).any (·.1)=false:=by rfl):
  PE X (.Call (.Name x p) (e::es) [] pos) (nE sp [] E0 t):=by
 obtain⟨f,fd,ok,m,kp,bd⟩:=D.ex;exact wH ok hr hg m kp bd .nil iQ ha hdb he hpl
end
theorem cm{X:Cx}{scope:Scope}(kind:scope.kind= .function)(names:∀x∈scope.names,x.2= .local->scope.names.lookup x.1=some .local)(nocell:∀x∈scope.names,x.2≠ .cell)
  (free:∀x∈scope.names,x.2= .free->x.1∈([]:List Str)):BScope X scope [] []:=⟨kind,names,nocell,free,rfl,fun i j y h=>by simp at h⟩
theorem jz{X:Cx}{scope:Scope}{y:Str}{j:Nat}(kind:scope.kind= .function)(names:∀x∈scope.names,x.2= .local->scope.names.lookup x.1=some .local)(nocell:∀x∈scope.names,x.2≠ .cell)
  (free:∀x∈scope.names,x.2= .free->x.1∈([y]:List Str))(h1:X.N[j]? =some y)(h2:X.env.kindOf y=some .cell)(h3:(relabel scope X.env).names.lookup y=some .cell):BScope X scope [y] [j]:=
 ⟨kind,names,nocell,free,rfl,fun i j' y' e1 e2=>by
  cases i with
  |zero=>cases e1;cases e2;exact⟨h1,h2,h3⟩
  |succ i=>simp at e1⟩
theorem kj{X:Cx}{y:Str}{c:Addr}(h:X.env.cells.lookup y=some c):∀z d,([(y,c)]:List (Str×Addr)).lookup z=some d->X.env.cells.lookup z=some d:=fun z d e=>by
 by_cases hz:z=y
 ·subst hz
  simp at e
  rw[<- e];exact h
 ·simp [BU,show(z==y)=false from by simpa using hz]at e
theorem gd{X:Cx}{K:Frag}(h:X.K=K):IxR X (uM K):=by subst h;exact qI
abbrev nZ(n m k:Int):HO:= .lst [.int n,.int m,.int k]
theorem _root_.L2.Same.upd{H:Hp}{p:Addr}{o:HO}(h:H p=none):Same H (upd H p o):=fun b u e=>by rw[qp (qi e h)];exact e
theorem pT(c:Bool): -(2 ^ 64:Int)<(if c=true then(1:Int)else 0):=by cases c<;>decide
theorem rU(c:Bool):(if c=true then(1:Int)else 0)<(2 ^ 64:Int):=by cases c<;>decide
theorem mC{n j:Nat}(h:j<n):bw n (j:Int)=some j:=by unfold bw;rw[Jd (by omega),Jd (by omega)];simp
def ZF(ns:List Int)(lo hi:Option Int):List Int:=(ns.drop (HT.sIx ns.length 0 lo)).take (HT.sIx ns.length ns.length hi-HT.sIx ns.length 0 lo)
theorem ZY(ns:List Int)(lo hi:Option Int):Zq (ns.map V.int) lo hi=(ZF ns lo hi).map V.int:=by unfold Zq ZF;rw[Je,List.map_take,List.map_drop]
theorem Ql{ns:List Int}{i:Nat}{x:V}(h:(ns.map V.int)[i]? =some x):∃z,x= .int z/\ns[i]? =some z:=by
 rw[Jo]at h;cases e:ns[i]? with
 |none=>rw[e]at h;cases h
 |some z=>rw[e]at h;exact⟨z,(Jv h).symm,rfl⟩
theorem gf{ns:List Int}{i:Nat}(h:i<ns.length):(ns.map V.int)[i]? =some (.int ns[i]):=by rw[Jo,Jl h];rfl
theorem bj(ns:List Int)(i:Nat)(z:Int):(ns.map V.int).set i (.int z)=(ns.set i z).map V.int:=by rw[List.map_set]
def vw:Option HO->Option String
 |some (.lst _)=>some "list"
 |some (.tup _)=>some "tuple"
 |_=>none
def kd(H:Hp):V->Option String
 | .non=>some "NoneType"
 | .bl _=>some "bool"
 | .int _=>some "int"
 | .str _=>some "str"
 | .ref a=>vw (H a)
 |_=>none
theorem pO{o:Option HO}{t:String}(h:vw o=some t):(∃xs,o=some (.lst xs)/\t="list")\/(∃xs,o=some (.tup xs)/\t="tuple"):=by
 cases o with
 |none=>cases h
 |some u=>
  cases u with
  |lst xs=>cases h;exact .inl ⟨xs,rfl,rfl⟩
  |tup xs=>cases h;exact .inr ⟨xs,rfl,rfl⟩
  |_=>cases h
theorem eZ{H:Hp}{a:Addr}{t:String}(h:kd H (.ref a)=some t):(∃xs,H a=some (.lst xs)/\t="list")\/(∃xs,H a=some (.tup xs)/\t="tuple"):=pO h
theorem Bd{K:Frag}{H:Hp}{x:V}{t:String}(h:kd H x=some t):TyOf K H x (.type t)/\t∈f9:=by
 cases x with
 |non=>cases h;exact⟨.non,by simp⟩
 |bl b=>cases h;exact⟨.bl b,by simp⟩
 |int i=>cases h;exact⟨.int i,by simp⟩
 |str x=>cases h;exact⟨.str x,by simp⟩
 |byt b=>cases h
 |flt b=>cases h
 |ty b=>cases h
 |ref a=>
  rcases eZ h with⟨xs,e,rfl⟩|⟨xs,e,rfl⟩
  ·exact⟨.lst e,by simp⟩
  ·exact⟨.tup e,by simp⟩
theorem cz{H H':Hp}{x:V}{t:String}(s:Same H H')(h:kd H x=some t):kd H' x=some t:=by
 cases x with
 |ref a=>
  rcases eZ h with⟨xs,e,rfl⟩|⟨xs,e,rfl⟩
  ·show vw (H' a)=_;rw[s _ _ e];rfl
  ·show vw (H' a)=_;rw[s _ _ e];rfl
 |_=>exact h
def bo:V->Bool
 | .int i=>decide (0<=i)&&decide (i<16)
 |_=>false
theorem Qr{α:Type}{xs:List α}{r:Int}(h0:0<=r)(h1:r<xs.length):∃v,QQ xs r=some v/\v∈xs:=by
 have hr:r.toNat<xs.length:=by omega
 refine⟨xs[r.toNat],?_,Ca hr⟩
 have e:QQ xs ((r.toNat:Nat):Int)=some xs[r.toNat]:=QK (Jl hr)
 rwa [show((r.toNat:Nat):Int)=r by omega]at e
def iT(K:Frag):Sp:=fun vs H Q _=>∃(a:Addr) (ns:List Int),vs=[.ref a]/\SqL K H a (ns.map V.int)/\ns.length<=63/\∀H',Q (.bl true) H'
def mI:Sp:=fun vs H Q _=>∃x t,vs=[x]/\kd H x=some t/\Q (.bl (bo x)) H
def kJ:Sp:=fun vs H Q _=>∃p xs,vs=[.ref p]/\H p=some (.tup xs)/\xs.length<=sizeLine/\(∀x∈xs,∃t,kd H x=some t)/\∀H',Same H H'->Q (.bl (xs.all bo)) H'
end L3
namespace L3
open PySem PySem.Spec L2
structure QE(X:Cx)(e:Expr)(t:TE):Prop where
 h:PE X e t
structure QT(X:Cx)(e:Expr)(t:TT):Prop where
 h:PT X e t
structure QW(X:Cx)(e:Expr)(t:TT):Prop where
 h:PW X e t
structure QA(X:Cx)(e:List Expr)(t:TA):Prop where
 h:PA X e t
structure QS(X:Cx)(e:Stmt)(t:TS):Prop where
 h:PS X e t
structure QSs(X:Cx)(e:List Stmt)(t:TS):Prop where
 h:PSs X e t
structure QG(X:Cx)(e:Expr)(t:TG):Prop where
 h:PG X e t
structure QGs(X:Cx)(e:List Expr)(t:ae):Prop where
 h:lP X e t
structure QO(X:Cx)(e:Option Expr)(t:TO):Prop where
 h:PO X e t
structure QI(X:Cx)(tg e:Expr)(t:TI):Prop where
 h:PI X tg e t
variable{X:Cx}
theorem qf{i j pos}:QE X (.Constant (.int i) j pos) (tC (.int i)):=⟨yL⟩
theorem Zj{b j pos}:QE X (.Constant (.bool b) j pos) (tC (.bl b)):=⟨AJ⟩
theorem zh{j pos}:QE X (.Constant .none j pos) (tC .non):=⟨Am⟩
theorem qz{x j pos}:QE X (.Constant (.str x) j pos) (tC (.str x)):=⟨yT⟩
theorem zm{x:Str}{v:V}{u:Value}{pos:Pos}(hg:Gl X x)(hm:X.mg x=some u)(r:RelV v u)(hd:(x==("__debug__":Str))=false:=by decide):QE X (.Name x pos) (tC v):=⟨wE (hg:=hg) (hm:=hm) (r:=r) (hd:=hd)⟩
theorem qG{x:Str}{v:V}{u:Value}{pos:Pos}(hg:Gl X x)(hm:X.mg x=none)(hv:bootBuiltins x=some u)(r:RelV v u)(hn:x≠"__name__":=by decide)(hd:(x==("__debug__":Str))=false:=by decide):QE X (.Name x pos) (tC v):=⟨vK (hg:=hg) (hm:=hm) (hv:=hv) (r:=r) (hn:=hn) (hd:=hd)⟩
theorem qw{a b:Expr}{ta tb:TE}{pos:Pos}{op:Operator}{r:R2}(ho:zv X (binaryOp op) r)(ha:QE X a ta)(hb:QE X b tb):QE X (.BinOp a op b pos) (im r ta tb):=⟨Ba (ho:=ho) (ha:=ha.h) (hb:=hb.h)⟩
theorem zf{a b:Expr}{ta tb:TE}{pos:Pos}{op:CmpOp}{r:R2}(ho:zv X (compareOp op) r)(ha:QE X a ta)(hb:QE X b tb)(hm:behindInMarks op b=false):QE X (.Compare a [op] [b] pos) (im r ta tb):=⟨wC (ho:=ho) (ha:=ha.h) (hb:=hb.h) (hm:=hm)⟩
theorem qE{a b:Expr}{ta tb:TE}{pos:Pos}{op:CmpOp}{r:R2}(ho:zv X (compareOp op) r)(ha:QE X a ta)(hb:QE X b tb)(hm:behindInMarks op b=false):QT X (.Compare a [op] [b] pos) (fN (im r ta tb)):=⟨vQ (ho:=ho) (ha:=ha.h) (hb:=hb.h) (hm:=hm)⟩
theorem eD{a b c:Expr}{ta tb tc:TE}{pos:Pos}{op op':CmpOp}{r r':R2}(ho:zv X (compareOp op) r)(ho':zv X (compareOp op') r')(ha:QE X a ta)(hb:QE X b tb)(hc:QE X c tc)(hm:lastMarks [op,op'] [b,c]=false:=by with_unfolding_all rfl):QE X (.Compare a [op,op'] [b,c] pos) (fJ r r' ta tb tc):=⟨uG (ho:=ho) (ho':=ho') (ha:=ha.h) (hb:=hb.h) (hc:=hc.h) (hm:=hm)⟩
theorem jk{a b c:Expr}{ta tb tc:TE}{pos:Pos}{op op':CmpOp}{r r':R2}(ho:zv X (compareOp op) r)(ho':zv X (compareOp op') r')(ha:QE X a ta)(hb:QE X b tb)(hc:QE X c tc)(hm:lastMarks [op,op'] [b,c]=false:=by with_unfolding_all rfl):QT X (.Compare a [op,op'] [b,c] pos) (fN (fJ r r' ta tb tc)):=⟨t9 (ho:=ho) (ho':=ho') (ha:=ha.h) (hb:=hb.h) (hc:=hc.h) (hm:=hm)⟩
theorem zA{a b:Expr}{rest:List Expr}{ta tb:TE}{pos:Pos}(ha:QE X a ta)(hb:QE X (.BoolOp .And (b::rest) pos) tb):QE X (.BoolOp .And (a::b::rest) pos) (vI ta tb):=⟨yP (ha:=ha.h) (hb:=hb.h)⟩
theorem QD{a:Expr}{pos:Pos}{op}{t:TE}(h:QE X a t):QE X (.BoolOp op [a] pos) t:=⟨xm (h:=h.h)⟩
theorem Z0{a:Expr}{ta:TE}{pos:Pos}(ha:QE X a ta):QE X (.UnaryOp .Not a pos) (vh ta):=⟨Ap (ha:=ha.h)⟩
theorem pZ{a b:Expr}{rest:List Expr}{tA tB':TT}{pos:Pos}(ha:QT X a tA)(hb:QW X (.BoolOp .And (b::rest) pos) tB'):QW X (.BoolOp .And (a::b::rest) pos) (yq tA tB'):=⟨y7 (ha:=ha.h) (hb:=hb.h)⟩
theorem Qe{a b:Expr}{rest:List Expr}{tA tB':TT}{pos:Pos}(ha:QT X a tA)(hb:QW X (.BoolOp .Or (b::rest) pos) tB'):QW X (.BoolOp .Or (a::b::rest) pos) (Bf tA tB'):=⟨AU (ha:=ha.h) (hb:=hb.h)⟩
theorem lL{a:Expr}{tA:TT}{pos:Pos}(ha:QT X a tA):QW X (.BoolOp .And [a] pos) tA:=⟨vM (ha:=ha.h)⟩
theorem zP{a:Expr}{tA:TT}{pos:Pos}(ha:QT X a tA):QW X (.BoolOp .Or [a] pos) tA:=⟨xn (ha:=ha.h)⟩
theorem Qh{a:Expr}{tA:TT}{pos:Pos}(ha:QT X a tA):QT X (.UnaryOp .Not a pos) (yj tA):=⟨Ak (ha:=ha.h)⟩
theorem zd{e:Expr}{t:TE}(h:QE X e t)(he:∀whole,isTrue e X.env whole=(do let v <- whole;standAt e.pos;holding [v] (truthy v)):=by intro _;rfl):QT X e (tB t):=⟨Aq (h:=h.h) (he:=he)⟩
theorem tj{a b:Expr}{ta tb:TE}{tA:TT}{pos:Pos}{c:Expr}(hc:QT X c tA)(ha:QE X a ta)(hb:QE X b tb):QE X (.IfExp c a b pos) (Bh tA ta tb):=⟨uf (hc:=hc.h) (ha:=ha.h) (hb:=hb.h)⟩
theorem qc{e:Expr}{es:List Expr}{te:TE}{t:TA}(ha:QE X e te)(hr:QA X es t)(h:zK e=true:=by rfl):QA X (e::es) (mT te t):=⟨BJ (ha:=ha.h) (hr:=hr.h) (h:=h)⟩
theorem qb:QA X [] tU:=⟨AC⟩
theorem qx{es:List Expr}{t:TA}{pos:Pos}{x1}(h:QA X es t):QE X (.Tuple es x1 pos) (y4 t):=⟨xj (h:=h.h)⟩
theorem qS{es:List Expr}{t:TA}{pos:Pos}(h:QA X es t):QE X (.List es pos) (Aw t):=⟨Av (h:=h.h)⟩
theorem qy{a b:Expr}{ta tb:TE}{pos:Pos}{r:R2}(hr:IxR X r)(ha:QE X a ta)(hb:QE X b tb)(hs:lr b):QE X (.Subscript a b pos) (im r ta tb):=⟨Bc (hr:=hr) (ha:=ha.h) (hb:=hb.h) (hs:=hs)⟩
theorem Qb{e:Expr}{te:TE}{lo hi:Option Expr}{tl th:TO}{pos p2:Pos}{r:V->Option Int->Option Int->Hp->VK->Prop}(hr:oM X r)(he:QE X e te)(hl:QO X lo tl)(hu:QO X hi th):QE X (.Subscript e (.Slice lo hi none p2) pos) (Bj r te tl th):=⟨tT (hr:=hr) (he:=he.h) (hl:=hl.h) (hu:=hu.h)⟩
theorem Qp:QO X none lB:=⟨vU⟩
theorem Qo{e:Expr}{te:TE}(h:QE X e te):QO X (some e) (vz te):=⟨vS (h:=h.h)⟩
theorem qm{x:Str}{p pos:Pos}{e:Expr}{es:List Expr}{t:TA}{id:String}{r:List V->Hp->VK->Prop}(hc:zg X (.builtin id) r)(hg:Gl X x)(hm:X.mg x=none)(hv:bootBuiltins x=some (.builtin id))(ha:QA X (e::es) t)(hn:x≠"__name__":=by decide)(hdb:(x==("__debug__":Str))=false:=by decide)(he:starEach (e::es) X.env=(false,eval e X.env)::starEach es X.env:=by rfl)(hpl:(backTo pos (starEach es X.env)).any (·.1)=false:=by rfl):QE X (.Call (.Name x p) (e::es) [] pos) (vm r t):=⟨tY (hc:=hc) (hg:=hg) (hm:=hm) (hv:=hv) (ha:=ha.h) (hn:=hn) (hdb:=hdb) (he:=he) (hpl:=hpl)⟩
theorem qM{x:Str}{p pos:Pos}{e:Expr}{es:List Expr}{t:TA}{T:String}{r:List V->Hp->VK->Prop}(hc:zg X (.type T) r)(hg:Gl X x)(hm:X.mg x=none)(hv:bootBuiltins x=some (.type T))(ha:QA X (e::es) t)(hn:x≠"__name__":=by decide)(hdb:(x==("__debug__":Str))=false:=by decide)(he:starEach (e::es) X.env=(false,eval e X.env)::starEach es X.env:=by rfl)(hpl:(backTo pos (starEach es X.env)).any (·.1)=false:=by rfl):QE X (.Call (.Name x p) (e::es) [] pos) (vm r t):=⟨rg (hc:=hc) (hg:=hg) (hm:=hm) (hv:=hv) (ha:=ha.h) (hn:=hn) (hdb:=hdb) (he:=he) (hpl:=hpl)⟩
theorem qq{x:Str}{ps:List Str}{k:Nat}{sp:Sp}{e:Expr}{es:List Expr}{p pos:Pos}{t:TA}(D:Df X.prog X.w X.K X.mg X.base x ps k sp)(hr:Room k X.A)(ha:QA X (e::es) t)(hg:Gl X x:=by rfl)(hdb:(x==("__debug__":Str))=false:=by decide)(he:starEach (e::es) X.env=(false,eval e X.env)::starEach es X.env:=by rfl)(hpl:(backTo pos (starEach es X.env)).any (·.1)=false:=by rfl):QE X (.Call (.Name x p) (e::es) [] pos) (nE sp [] E0 t):=⟨yu (D:=D) (hr:=hr) (ha:=ha.h) (hg:=hg) (hdb:=hdb) (he:=he) (hpl:=hpl)⟩
theorem qB:QSs X [] uY:=⟨wf⟩
theorem qe{st:Stmt}{rest:List Stmt}{t u:TS}(h1:QS X st t)(h2:QSs X rest u):QSs X (st::rest) (ja t u):=⟨sZ (h1:=h1.h) (h2:=h2.h)⟩
theorem qg{st:Stmt}{t:TS}(h1:QS X st t):QSs X [st] t:=⟨wJ (h1:=h1.h)⟩
theorem qC{pos:Pos}{i:Nat}{x:Str}{e:Expr}{te:TE}{pos':Pos}(hN:X.N.Nodup)(hi:X.N[i]? =some x)(hx:e9 X.env.scope x)(he:QE X e te)(hs:swapsWith e (some (.Name x pos')) pos.line X.env=pure false:=by rfl)(hf:X.fn x=true\/X.env.scope.names.lookup x=some .local:=by first|exact .inl rfl|exact .inr rfl|assumption):QS X (.Assign [.Name x pos'] e pos) (dv te (Qu i)):=⟨An (hN:=hN) (hi:=hi) (hx:=hx) (he:=he.h) (hs:=hs) (hf:=hf)⟩
theorem ze{pos:Pos}{tg e:Expr}{te:TE}{g:TG}(he:QE X e te)(hg:QG X tg g)(hs:swapsWithSole [tg] e pos.line X.env=pure false:=by rfl)(hw:swappedStores [tg] e X.env=pure none:=by rfl)(h1:(assignEach [tg] X.env).map (·.2)=[assign tg X.env]:=by rfl):QS X (.Assign [tg] e pos) (dv te g):=⟨yZ (he:=he.h) (hg:=hg.h) (hs:=hs) (hw:=hw) (h1:=h1)⟩
theorem qu{e:Expr}{te:TE}{pos:Pos}(he:QE X e te):QS X (.Return (some e) pos) (yU te):=⟨yN (he:=he.h)⟩
theorem qJ{t u:TS}{pos:Pos}{c:Expr}{a b:List Stmt}{tc:TT}(hc:QT X c tc)(ha:QSs X a t)(hb:QSs X b u):QS X (.If c a b pos) (xy tc t u):=⟨AZ (hc:=hc.h) (ha:=ha.h) (hb:=hb.h)⟩
theorem zi{tg:Expr}{iter:Expr}{body:List Stmt}{wi:TI}{g:TG}{tb:TS}{pos:Pos}(hp:PassesOwn (model X.prog X.w) X.A X.env X.xe)(hc:X.calm=true)(hi:QI X tg iter wi)(hg:QG X tg g)(hb:QSs X body tb)(hs:∀x,foldedSetIterable iter X.env x=pure x:=by intro _;rfl):QS X (.For tg iter body [] pos) (yh wi g tb):=⟨yM (hp:=hp) (hc:=hc) (hi:=hi.h) (hg:=hg.h) (hb:=hb.h) (hs:=hs)⟩
theorem zb{e:Expr}{te:TE}{pos:Pos}(he:QE X e te)(hs:swapsWith e none pos.line X.env=pure false:=by rfl):QS X (.Expr e pos) (uV te):=⟨v9 (he:=he.h) (hs:=hs)⟩
theorem wb{pos:Pos}{o i e:Expr}{to ti te:TE}{tget:V->V->Hp->VK->Prop}{tip:oN}{tset:eC}{op:Operator}{tpos:Pos}(ho:QE X o to)(hi:QE X i ti)(hg:sP X tget)(he:QE X e te)(hp:xk X op tip)(hs:jA X tset)(ha:∀ov iv new,augStore i ov iv new=(do holding [new,ov,iv] (setItem ov iv new);release [new,ov,iv] [];pure .next):=by intros;rfl):QS X (.AugAssign (.Subscript o i tpos) op e pos) (vB to ti te tget tip tset):=⟨wK (ho:=ho.h) (hi:=hi.h) (hg:=hg) (he:=he.h) (hp:=hp) (hs:=hs) (ha:=ha)⟩
theorem zM{tg:Expr}{l:Expr}{tl:TE}(hl:QE X l tl):QI X tg l (vc X.K tl):=⟨wB (hl:=hl.h)⟩
theorem bY{tg:Expr}{l:Expr}{tl:TE}(hl:QE X l tl):QI X tg l (xw X.K tl):=⟨yG (hl:=hl.h)⟩
theorem zy{tg:Expr}{a:Expr}{ta:TA}{p pos:Pos}(hg:Gl X "range")(hm:X.mg "range"=none)(ha:QA X [a] ta)(hs:starEach [a] X.env=[(false,eval a X.env)]:=by rfl):QI X tg (.Call (.Name "range" p) [a] [] pos) (ve ta):=⟨pU (hg:=hg) (hm:=hm) (ha:=ha.h) (hs:=hs)⟩
theorem h9{tg:Expr}{a b:Expr}{ta:TA}{p pos:Pos}(hg:Gl X "range")(hm:X.mg "range"=none)(ha:QA X [a,b] ta)(hs:starEach [a,b] X.env=[(false,eval a X.env),(false,eval b X.env)]:=by rfl)(hs2:starEach [b] X.env=[(false,eval b X.env)]:=by rfl):QI X tg (.Call (.Name "range" p) [a,b] [] pos) (va ta):=⟨oR (hg:=hg) (hm:=hm) (ha:=ha.h) (hs:=hs) (hs2:=hs2)⟩
theorem vN{a:Expr}{ta:TA}{p pos:Pos}{elts:List Expr}{x1}{tpos:Pos}(hg:Gl X "enumerate")(hm:X.mg "enumerate"=none)(ha:QA X [a] ta)(hs:starEach [a] X.env=[(false,eval a X.env)]:=by rfl):QI X (.Tuple elts x1 tpos) (.Call (.Name "enumerate" p) [a] [] pos) (vF X.K ta):=⟨vP (hg:=hg) (hm:=hm) (ha:=ha.h) (hs:=hs)⟩
theorem qh{pos:Pos}{i:Nat}{x:Str}(hN:X.N.Nodup)(hi:X.N[i]? =some x)(hx:e9 X.env.scope x)(hf:X.fn x=true\/X.env.scope.names.lookup x=some .local:=by first|exact .inl rfl|exact .inr rfl|assumption):QG X (.Name x pos) (Qu i):=⟨wk (hN:=hN) (hi:=hi) (hx:=hx) (hf:=hf)⟩
theorem eV{pos:Pos}{es:List Expr}{k:Nat}{t:ae}{n:Nat}(hc:X.calm=true)(h:QGs X es t)(hn:(assignEach es X.env).length=n:=by rfl)(hst:(assignEach es X.env).findIdx? (·.1)=none:=by rfl):QG X (.Tuple es k pos) (ji X.K n t):=⟨kA (hc:=hc) (h:=h.h) (hn:=hn) (hst:=hst)⟩
theorem cn{pos:Pos}{o i:Expr}{to ti:TE}{t:eC}(ho:QE X o to)(hi:QE X i ti)(hs:jA X t)(ha:∀v,assign (.Subscript o i pos) X.env v=(do
      let ov <- holding [v] (eval o X.env)
      let iv <- holding [v,ov] (eval i X.env)
      standAt pos
      holding [v,ov,iv] (setItem ov iv v)
      release [v,ov,iv] []):=by intro _;rfl):QG X (.Subscript o i pos) (xu to ti t):=⟨xr (ho:=ho.h) (hi:=hi.h) (hs:=hs) (ha:=ha)⟩
theorem qN:QGs X [] mY:=⟨wz⟩
theorem qr{e:Expr}{es:List Expr}{t:TG}{u:ae}(h1:QG X e t)(h2:QGs X es u)(hs:(assignEach (e::es) X.env).map (·.2)=assign e X.env::(assignEach es X.env).map (·.2):=by rfl):QGs X (e::es) (cI t u):=⟨uR (h1:=h1.h) (h2:=h2.h) (hs:=hs)⟩
theorem QW.pt{e:Expr}{t:TT}(h:QW X e t):QT X e t:=⟨PW.pt h.h⟩
theorem qv(i:Nat){x:Str}{pos:Pos}(hN:X.N[i]? =some x:=by rfl)(hv:wZ X.env.scope x:=by first|exact Or.inl rfl|exact Or.inr (Or.inl rfl)|exact Or.inr (Or.inr rfl))(hd:(x==("__debug__":Str))=false:=by decide)
  (hcd:(x==("__classdict__":Str))=false:=by decide):QE X (.Name x pos) (Aa i):=⟨yt hN hv hd hcd⟩
theorem zU{elt tg iter:Expr}{scope:Scope}{cl:List (Str×Addr)}{pos:Pos}{fr own:List Str}{js:List Nat}{wi:TI}{g:TG}{te:TE}
  (hc:X.calm=true)(hi:QI X tg iter wi)(hclos:closureFor scope X.env=pure cl)(hcl:∀y c,cl.lookup y=some c->X.env.cells.lookup y=some c)(hfr:cl.map (·.1)=fr)
  (S:BScope X scope fr js)
  (hg:∀C s H fp,QG (zY X (own++fr) scope cl C s H fp) tg g)(he:∀C s H fp,QE (zY X (own++fr) scope cl C s H fp) elt te)
  (hs:∀x,foldedSetIterable iter X.env x=pure x:=by intro _;rfl):
  QE X (.ListComp elt [⟨tg,iter,[],0⟩] scope pos) (fh own.length js wi g te):=⟨vR hc hi.h hclos hcl hfr S (fun C s H fp=>(hg C s H fp).h) (fun C s H fp=>(he C s H fp).h) hs⟩
theorem cK{elt tg iter:Expr}{scope:Scope}{cl:List (Str×Addr)}{pos spos py:Pos}{fr own:List Str}{js:List Nat}{wi:TI}{g:TG}{te:TE}{i:Nat}{y:Str}
  (hN:X.N.Nodup)(hi':X.N[i]? =some y)(hx:e9 X.env.scope y)
  (hc:X.calm=true)(hi:QI X tg iter wi)(hclos:closureFor scope X.env=pure cl)(hcl:∀y c,cl.lookup y=some c->X.env.cells.lookup y=some c)(hfr:cl.map (·.1)=fr)
  (S:BScope X scope fr js)
  (hg:∀C s H fp,QG (zY X (own++fr) scope cl C s H fp) tg g)(he:∀C s H fp,QE (zY X (own++fr) scope cl C s H fp) elt te)
  (hs:∀x,foldedSetIterable iter X.env x=pure x:=by intro _;rfl)(hsw:swapsWith (.ListComp elt [⟨tg,iter,[],0⟩] scope pos) (some (.Name y py)) spos.line X.env=pure true:=by rfl)
  (hf:X.fn y=true\/X.env.scope.names.lookup y=some .local:=by first|exact .inl rfl|exact .inr rfl|assumption):
  QS X (.Assign [.Name y py] (.ListComp elt [⟨tg,iter,[],0⟩] scope pos) spos) (dv (fh own.length js wi g te) (Qu i)):=⟨ww hN hi' hx hc hi.h hclos hcl hfr S (fun C s H fp=>(hg C s H fp).h) (fun C s H fp=>(he C s H fp).h) hs hsw hf⟩
section
variable{P:Program}{w:World}{K:Frag}{mg:Str->Option Value}{base:Heap}
theorem At.dq{x:Str}{st:Stmt}{ps N:List Str}{k:Nat}{sp:Sp}(a:At K mg x st ps)(S:FnScope N ps (qo st))(len:∀vs H Q E,sp vs H Q E->vs.length=ps.length)
  (hbody:∀(f:Addr) (cdv:Value) (A:Around) (outer:List Env) (s:Shared) (H:Hp) (vs:List V) (Q:VK) (E:XK),Room k (A.deeper (PyProof.Rows.envOfC x (qo st) s.heap.objs.size f cdv))->sp vs H Q E->
   ∃t,QSs (aB Z6 P w K mg base N x (qo st) f cdv A outer s H E).nox (zB st) t/\t {nx:=fun _ H'=>Q .non H',rt:=Q} (QZ N vs) H):Df P w K mg base x ps (k+1) sp:=
 a.df S len fun f cdv A outer s H vs Q E hr h=>let⟨t,q1,q2⟩:=hbody f cdv A outer s H vs Q E hr h;⟨t,q1.h,q2⟩
theorem _root_.L2.Fun.dq{x DL:Str}{st:Stmt}{f:Addr}{fd:FuncData}{N ps:List Str}{k:Nat}{sp:Sp}(F:Fun K x DL st f fd)(S:FnScope N ps (qo st))(len:∀vs H Q E,sp vs H Q E->vs.length=ps.length)
  (hbody:∀(cdv:Value) (A:Around) (outer:List Env) (s:Shared) (H:Hp) (vs:List V) (Q:VK) (E:XK),Room k (A.deeper (PyProof.Rows.envOfC DL (qo st) s.heap.objs.size f cdv))->sp vs H Q E->
   ∃t,QSs (aB Z6 P w K mg base N DL (qo st) f cdv A outer s H E).nox (zB st) t/\t {nx:=fun _ H'=>Q .non H',rt:=Q} (QZ N vs) H):FnOk P w K mg base Z6 (k+1) f fd ps sp:=
 F.ok S len fun cdv A outer s H vs Q E hr h=>let⟨t,q1,q2⟩:=hbody cdv A outer s H vs Q E hr h;⟨t,q1.h,q2⟩
theorem AN{x:Str}{st:Stmt}{ps:List Str}{f:Addr}{fd:FuncData}(F:Fun K x x st f fd)(m:mg x=some (.ref f))(b:Binds K fd ps []):At K mg x st ps:=⟨f,fd,F,m,F.kp,b⟩
end
end L3
namespace L3
open PySem PySem.Spec PyProof.Rows L2
def digs:List Int:=(List.range 16).map fun i=>((i:Nat):Int)
theorem jP:digs.length=16:=by decide
theorem AF:((List.range 16).map fun i=>V.int ((i:Nat):Int))=digs.map V.int:=by decide +kernel
theorem wU{α:Type}{xs:List α}{z:Int}{j:Nat}{v:α}(e:z=(j:Int))(h:xs[j]? =some v):QQ xs z=some v:=by rw[e];exact QK h
theorem gb{n j:Nat}{z:Int}(e:z=(j:Int))(h:j<n):bw n z=some j:=by rw[e];exact mC h
theorem jm{z:Int}(h:z∈digs):0<=z/\z<16:=by
 obtain⟨i,hi,e⟩:=Jw.mp h
 have:=B6.mp hi
 omega
end L3
namespace L3
open PySem PySem.Spec PyProof.Rows L2
open Sem (wp)
section
variable{prog:Program}{w:World}{A:Around}{E:Value->Shared->Prop}{s:Shared}
theorem nj{it t:Addr}{i:Nat}{its:Array Value}{x:Value}{Q:Value->Shared->Prop}(hit:s.heap.IsTupleIter it t i)(ht:s.heap.IsTuple t its)(hx:its[i]? =some x)
  (hQ:∀h',h'.IsTupleIter it t (i+1)->Heap.SameBut it s.heap h'->Q x {s with heap:=h'}):wpAny (model prog w) A (Builtin.SmallTypes.nextOf (.ref it)) Q E s:=by
 obtain⟨o,ho,hc,hd⟩:=id hit;obtain⟨ol,hol,_,nl,hdl⟩:=ht;unfold Builtin.SmallTypes.nextOf;refine Ja (wpAny_callSpecial?_slot (name:=Str.ofString "__next__") hit.typeIs Du
  (JT Du hit.typeIs F.entry_tuple_iterator_next ?_ (F.args_tuple_iterator_next_1 _)))
 show wpAny _ _ (field (.ref it) 0 >>= _) _ _ s
 refine Ja (JL ho hd (x:= .ref t) rfl ?_)
 show wpAny _ _ (if(Value.ref t==Value.none)=true then _ else _) _ _ s
 rw[Jc (show¬((Value.ref t==Value.none)=true)from JK)]
 show wpAny _ _ (field (.ref it) 1 >>= _) _ _ s
 refine Ja (JL ho hd (x:= .int i 0) rfl ?_)
 show wpAny _ _ (seqItems? (.ref t) >>= _) _ _ s
 refine Ja (Cb hol hdl ?_)
 simp only[B3,hx];refine Ja (BY ho hd (by simp) (Jb ⟨x,rfl,Jb (hQ _ ?_ (BZ ..))⟩))
 exact⟨_,Cp _ ho (Dv (CF hd _)),(Obj.cls_mapFields ..).trans hc,by
  rw[CF hd];simp [rawInt]⟩
theorem gH{it t:Addr}{i:Nat}{its:Array Value}{Q:Value->Shared->Prop}(hh:A.handled=none)(hit:s.heap.IsTupleIter it t i)(ht:s.heap.IsTuple t its)(hx:its[i]? =none)
  (hE:∀h' e,Heap.ExtBut it s.heap h'->(∃o,h'.get? e=some o/\o.cls= .type "StopIteration")->E (.ref e) {s with heap:=h'}):
  wpAny (model prog w) A (Builtin.SmallTypes.nextOf (.ref it)) Q E s:=by
 obtain⟨o,ho,hc,hd⟩:=id hit;obtain⟨ol,hol,_,nl,hdl⟩:=ht;unfold Builtin.SmallTypes.nextOf;refine Ja (wpAny_callSpecial?_slot (name:=Str.ofString "__next__") hit.typeIs Du
  (JT Du hit.typeIs F.entry_tuple_iterator_next ?_ (F.args_tuple_iterator_next_1 _)))
 show wpAny _ _ (field (.ref it) 0 >>= _) _ _ s
 refine Ja (JL ho hd (x:= .ref t) rfl ?_)
 show wpAny _ _ (if(Value.ref t==Value.none)=true then _ else _) _ _ s
 rw[Jc (show¬((Value.ref t==Value.none)=true)from JK)]
 show wpAny _ _ (field (.ref it) 1 >>= _) _ _ s
 refine Ja (JL ho hd (x:= .int i 0) rfl ?_)
 show wpAny _ _ (seqItems? (.ref t) >>= _) _ _ s
 refine Ja (Cb hol hdl ?_)
 simp only[B3,hx];refine Ja (BW (Ja (BY ho hd (by simp) ?_)))
 show wpAny _ _ (newExc (.type "StopIteration") [] >>= _) _ _ _
 refine Ja ?_
 simp only[newExc,newTuple];refine Ja (J3 ?_ (by size_fits))
 refine Ja (m:=firstArgMember _ _) (BV (a:=Value.none) (by first|rfl|(simp only[firstArgMember];rfl)) ?_)
 refine J3 ?_ (by size_fits)
 simp only[raiseNew];refine Ja (wpAny_handled ?_)
 first|rw[show A.in1.handled=none from hh]|rw[hh]
 refine Ja (Jb (wpAny_throw ?_))
 exact hE _ _ (((BZ ..).extBut.push _).push _) ⟨_,Jn _ rfl,rfl⟩
end
theorem ff{prog:Program}{w:World}{A:Around}(hh:A.handled=none)(it t:Addr)(hne:t≠it)(its:Array Value):
  Draws prog w A it [it,t] its.size (fun i v=>its[i]? =some v) (fun i h=>h.IsTupleIter it t i/\h.IsTuple t its) where
 live:=fun _ _ st=>let⟨o,ho,_⟩:=st.1;⟨o,ho⟩
 frame:=fun _ _ _ st hk=>⟨st.1.at fun o e=>hk it (by simp) o e,let⟨o,e,r⟩:=st.2;⟨o,hk t (by simp) o e,r⟩⟩
 item:=fun i s Q E hi st hQ=>by
  refine nj st.1 st.2 (x:=its[i]) (by simp [hi]) fun h' hit' hs'=>?_
  exact hQ _ h' s.toks (by simp [hi]) ⟨hit',let⟨o,e,r⟩:=st.2;⟨o,hs'.extBut _ _ hne e,r⟩⟩ hs'
 done:=fun s Q E st hE=>gH hh st.1 st.2 (by simp) hE
open AutoSeq1 (wpAny_loadPart')in
theorem kW(l:Addr)(items:Array Value)(n:Nat)(dct:Option Addr)(sl:Array (Option Value)):
  Meets (Builtin.«enumerate.__new__» ⟨[.type "enumerate",.ref l],[]⟩) (fun _ R s=>s.heap.get? l=some {cls:= .type "tuple",dict:=dct,data:= .seq items n,slots:=sl}/\
   R (.ok (.ret (.ref (s.heap.push {cls:= .type "tuple_iterator",data:= .fields #[.ref l,.int 0 0]}).objs.size)))
    {s with heap:=(s.heap.push {cls:= .type "tuple_iterator",data:= .fields #[.ref l,.int 0 0]}).push {cls:= .type "enumerate",data:= .fields #[.none,.bool false,.ref s.heap.objs.size,rawInt 0,.none,.none]}}):=
 .of_wp fun prog w A R s h=>by
  obtain⟨hp,g,d,tk,os⟩:=s;obtain⟨hl,h⟩:=h
  have hsub:=sub_enumerate;have hL:Heap.IsTuple (Shared.heap ⟨hp,g,d,tk,os⟩) l items:=⟨_,hl,rfl,n,rfl⟩
  wp_walk using CV hl
  refine wpAny_stack_any fun st=>Jb ?_
  split
  ·rename_i c _ _ _ _ _
   cases(c==Value.type "enumerate")
   ·wp_walk using CV hl,Cm hL
    exact⟨_,rfl,h⟩
   ·wp_walk using CV hl,Cm hL
    exact⟨_,rfl,h⟩
  ·wp_walk using CV hl,Cm hL
   exact⟨_,rfl,h⟩
section
variable{prog:Program}{w:World}{A:Around}{E:Value->Shared->Prop}{s:Shared}
theorem oy{l:Addr}{items:Array Value}{Q:Value->Shared->Prop}(hL:s.heap.IsTuple l items)
  (h:∀h',IsEnum h' (s.heap.objs.size+1) s.heap.objs.size 0 .none->h'.IsTupleIter s.heap.objs.size l 0->(∀b o,s.heap.get? b=some o->h'.get? b=some o)->Q (.ref (s.heap.objs.size+1)) {s with heap:=h'}):
  wpAny (model prog w) A (call (.type "enumerate") [.ref l]) Q E s:=by
 obtain⟨⟨c,dct,dt,sl⟩,hl,hc,n,hd⟩:=hL
 replace hc:c= .type "tuple":=hc
 replace hd:dt= .seq items n:=hd
 subst hc hd;refine callType_new F.called_enumerate (by decide) (F.typeCall_enumerate_1 _) (F.newCall_enumerate_1 _) (fun obj=>F.args_object_init_2 obj _) F.entry_enumerate_new
  (kW l items n dct sl) ⟨hl,?_⟩
 have hz:(s.heap.push {cls:= .type "tuple_iterator",data:= .fields #[.ref l,.int 0 0]}).objs.size=s.heap.objs.size+1:=JR ..
 show _/\_
 rw[hz];have he:IsEnum ((s.heap.push {cls:= .type "tuple_iterator",data:= .fields #[.ref l,.int 0 0]}).push
   {cls:= .type "enumerate",data:= .fields #[.none,.bool false,.ref s.heap.objs.size,rawInt 0,.none,.none]}) (s.heap.objs.size+1) s.heap.objs.size 0 .none:=by
  have:=Jn (s.heap.push {cls:= .type "tuple_iterator",data:= .fields #[.ref l,.int 0 0]})
   (o:={cls:= .type "enumerate",data:= .fields #[.none,.bool false,.ref s.heap.objs.size,rawInt 0,.none,.none]}) rfl
  rw[hz]at this;exact this
 exact⟨⟨_,he,rfl⟩,h _ he ⟨_,Ji _ (Jn _ rfl),rfl,rfl⟩ fun b o x=>Ji _ (Ji _ x)⟩
end
def jU(K:Frag)(a:Addr):It:=
 ⟨fun i H=>∃xs x,SqT K H a xs/\xs[i]? =some x,fun i H x H'=>∃p v,H p=none/\x= .ref p/\(∀xs,SqT K H a xs->xs[i]? =some v)/\H'=upd H p (.tup [.int i,v]),fun i H=>∃xs,SqT K H a xs/\xs.length<=i⟩
theorem mQ{P:Program}{w:World}{K:Frag}{elts:List Expr}{x1}{pos:Pos}(a e it:Addr)(hei:e≠it):
  Turn P w K (.Tuple elts x1 pos) (jU K a) [e,it] e (fun i h=>(∃old,IsEnum h e it i old)/\h.IsTupleIter it a i) where
 mem:=by simp
 obj:=fun i h st b hb=>by
  obtain⟨⟨old,he⟩,⟨o,ho,hc,hd⟩⟩:=st;rcases Jj.mp hb with z|z
  ·subst z
   refine⟨_,he,fun v z=>?_⟩
   have z':Data.fields _=Data.cell v:=z
   cases z'
  ·rw[Jg.mp z]
   exact⟨o,ho,fun v z=>by rw[hd]at z;cases z⟩
 keep:=fun i h h' st k=>⟨let⟨old,he⟩:=st.1;⟨old,k e (by simp) _ he⟩,st.2.at fun o q=>k it (by simp) o q⟩
 item:=by
  intro X hP hw hK hc i DK s σ H E I hf st hg;subst hP hw hK;obtain⟨xs,x,hq,hx⟩:=hg;obtain⟨its,rv,p,hz⟩:=I.tuple hq;obtain⟨u,hu,ru⟩:=rv.get hx;obtain⟨⟨old,he⟩,hit⟩:=st;have nae:a≠e:=fun z=>by
   subst z;obtain⟨o,ho,hcl,_⟩:=p;rw[he]at ho;cases ho;exact absurd (show Value.type "enumerate"=Value.type "tuple" from hcl) (by decide)
  have nai:a≠it:=fun z=>by
   subst z;obtain⟨o,ho,hcl,_⟩:=p;obtain⟨o',ho',hc',_⟩:=hit;rw[ho]at ho';cases ho';rw[hcl]at hc';exact absurd hc' (by decide)
  have hil:i<its.toArray.size:=by
   have:=(Js.mp hu).1
   simpa using this
  refine wpAny_pyNext_enum_itemD (ff (A:=X.A.in1) (I.ok.hd hc) it a nai its.toArray) he ⟨hit,p⟩ hil hei (by simp [hei,Ne.symm nae]) fun v h' tk hv ho ⟨hit',_⟩ ht hsz hk=>⟨_,rfl,?_⟩
  have ev:v=u:=by
   have hv':its[i]? =some v:=by simpa using hv
   rw[hu]at hv';exact(Jv hv').symm
  subst ev;refine wpAny_letOwnedTupleGo_enum ho fun h'' he'' hs''=>?_
  have helt:e<s.heap.objs.size:=Jh he
  have hilt:it<s.heap.objs.size:=by obtain⟨_,y,_⟩:=hit;exact Jh y
  refine⟨.ref s.heap.objs.size,upd H s.heap.objs.size (.tup [.int i,x]),?_,rfl,⟨_,x,I.hok.fresh (Jf _),rfl,fun ys hy=>by rw[I.tuple_inj hy hq];exact hx,rfl⟩,⟨⟨_,by simpa using he''⟩,?_⟩,?_⟩
  ·show L2.Inv X DK σ _ {s with heap:=h'',toks:=tk+1}
   refine cA (s:=s) (its:=[.int i tk,v]) I (ch:=[e,it]) (fun b o hb q=>?_) hf (fun b hb=>?_) (Jf _) (by show 2<=sizeLine;decide) (.cons ⟨_,rfl⟩ (.cons ru .nil)) ?_
   ·have hb1:b≠e:=fun z=>hb (by simp [z])
    have hb2:b≠it:=fun z=>hb (by simp [z])
    exact(hs''.2 b hb1).trans (hk b o hb1 hb2 q)
   ·rcases Jj.mp hb with z|z
    ·subst z;exact⟨_,he''⟩
    ·rw[Jg.mp z]
     obtain⟨o,y,_⟩:=hit'
     exact⟨o,(hs''.2 it (Ne.symm hei)).trans y⟩
   ·exact⟨_,(hs''.2 _ (JQ helt)).trans ht,rfl,_,rfl⟩
  ·exact hit'.extBut hs''.extBut (Ne.symm hei)
  ·intro b hb
   rw[qp]
   ·exact(hf b hb).1
   ·rcases Jj.mp hb with z|z
    ·subst z;exact Jm helt
    ·rw[Jg.mp z];exact Jm hilt
 done:=by
  intro X hP hw hK hc i DK s σ H E I hf st hg;subst hP hw hK;obtain⟨xs,hq,hx⟩:=hg;obtain⟨its,rv,p,hz⟩:=I.tuple hq;obtain⟨⟨old,he⟩,hit⟩:=st;obtain⟨f0,f1,f2,f3,f4,f5⟩:=hf it (by simp)
  have hl:=rv.length;have nai:a≠it:=fun z=>by
   subst z;obtain⟨o,ho,hcl,_⟩:=p;obtain⟨o',ho',hc',_⟩:=hit;rw[ho]at ho';cases ho';rw[hcl]at hc';exact absurd hc' (by decide)
  unfold pyNext;have hT:s.TypeIs (.ref e) "enumerate":=⟨_,he,rfl⟩
  refine Ja (B4 (wpAny_callSpecial?_slot (name:=Str.ofString "__next__") hT F.slot_enumerate_next
   (JT F.slot_enumerate_next hT F.entry_enumerate_next ?_ (F.args_enumerate_next_1 _))))
  show wpAny _ _ (field (.ref e) 2 >>= _) _ _ _
  refine Ja (JL he rfl (x:= .ref it) rfl ?_)
  refine Ja (gH (I.ok.hd hc) hit p (by simp;omega) fun h' ex eb hx'=>?_)
  obtain⟨o,ho,hcl⟩:=hx';refine Ja (Cs (T:="StopIteration") (b:=true) ⟨o,ho,hcl⟩ Di ?_)
  exact Jb ⟨rfl,I.turned (t':=s.toks) (fun b o hb e=>eb b o hb e) f0 f1 f3 f4 f5⟩
 self:=fun _ _ _ _ _ st h=>by
  obtain⟨⟨old,he⟩,_⟩:=st;exact De he h
section
variable{X:Cx}
def sB(K:Frag)(ta:TA):TI:=fun σ H R=>ta σ H fun vs H1=>∃a,vs=[.ref a]/\((∃xs,SqL K H1 a xs)/\R (lq K a) H1\/(∃xs,SqT K H1 a xs)/\R (jU K a) H1)
theorem tZ{a:Expr}{ta:TA}{p pos:Pos}{elts:List Expr}{x1}{tpos:Pos}(hg:Gl X "enumerate")(hm:X.mg "enumerate"=none)(ha:PA X [a] ta)(hs:starEach [a] X.env=[(false,eval a X.env)]:=by rfl):
  PI X (.Tuple elts x1 tpos) (.Call (.Name "enumerate" p) [a] [] pos) (sB X.K ta):=by
 intro DK s σ H R I h;refine Call_ (QX I hg hm boot_enumerate (Cn (qD (ha pos DK s σ H _ I h) fun us s1 zq=>?_) hs rfl))
 obtain⟨vs,H1,I1,r1,q1⟩:=zq;obtain⟨l,e,q1⟩:=q1;subst e;obtain⟨u,rfl,ru⟩:=r1.one;cases ru;have fpk:∀b∈[s1.heap.objs.size+1,s1.heap.objs.size],Zs X DK H1 b:=fun b hb=>by
  have hb':s1.heap.objs.size<=b:=by
   rcases Jj.mp hb with z|z
   ·rw[z];exact Co _
   ·rw[Jg.mp z];exact Jf _
  exact I1.fpOk hb' (I1.hok.fresh hb')
 rcases q1 with⟨⟨xs,hq⟩,q⟩|⟨⟨xs,hq⟩,q⟩
 ·obtain⟨its,rv,pl,hz⟩:=I1.list hq
  refine call_enumerate_list pl.isList fun h' he hit hsz hk=>De he ?_
  exact⟨s1.heap.objs.size+1,[s1.heap.objs.size+1,s1.heap.objs.size],_,_,H1,rfl,I1.kept (t':=s1.toks) hk,ik l _ _ (JQ (BX _)),⟨⟨_,he⟩,hit⟩,fpk,q⟩
 ·obtain⟨its,rv,pl,hz⟩:=I1.tuple hq
  refine oy (show s1.heap.IsTuple l its.toArray from pl) fun h' he hit hk=>De he ?_
  exact⟨s1.heap.objs.size+1,[s1.heap.objs.size+1,s1.heap.objs.size],_,_,H1,rfl,I1.kept (t':=s1.toks) hk,mQ l _ _ (JQ (BX _)),⟨⟨_,he⟩,hit⟩,fpk,q⟩
theorem rZ{K:Frag}{a:Addr}{xs:List V}{g:TG}{tb:TS}{D:Ends}{σ:L2.St}{H:Hp}(Pv:Nat->L2.St->Hp->Prop)(h0:Pv 0 σ H)(hl:∀i σ H,i<=xs.length->Pv i σ H->SqT K H a xs)
  (hs:∀i x σ H p,xs[i]? =some x->Pv i σ H->H p=none->g (.ref p) σ (upd H p (.tup [.int i,x])) fun σ2 H2=>tb {D with nx:=Pv (i+1),ct:=Pv (i+1),bk:=D.nx} σ2 H2)(hd:∀σ H,Pv xs.length σ H->D.nx σ H):
  ∃W:Nat->Nat->L2.St->Hp->Prop,(∃m,W 0 m σ H)/\∀i m σ H,W i m σ H->
   ((jU K a).stop i H/\D.nx σ H)\/((jU K a).go i H/\∃N:L2.St->Hp->Prop,(∀σ' H',N σ' H'->∃m',m'<m/\W (i+1) m' σ' H')/\∀x H',(jU K a).yld i H x H'->g x σ H' fun σ2 H2=>tb {D with nx:=N,ct:=N,bk:=D.nx} σ2 H2):=by
 refine⟨fun i m σ H=>m=xs.length-i/\i<=xs.length/\Pv i σ H,⟨xs.length,by simp,JC _,h0⟩,?_⟩
 rintro i m σ H ⟨rfl,hi,p⟩
 have q:=hl i σ H hi p
 by_cases hlt:i<xs.length
 ·refine .inr ⟨⟨xs,xs[i],q,by simp [hlt]⟩,Pv (i+1),fun σ' H' p'=>⟨xs.length-(i+1),by omega,rfl,hlt,p'⟩,fun x H' y=>?_⟩
  obtain⟨pp,v,hp,rfl,hv,rfl⟩:=y;exact hs i v σ H pp (hv xs q) p hp
 ·have e:i=xs.length:=by omega
  subst e;exact .inl ⟨⟨xs,q,Jf _⟩,hd σ H p⟩
end
structure ZApart(z TI TO i1 i2:Addr)(f1 f2:List Addr):Prop where
 TIz:TI≠z
 TOz:TO≠z
 i1z:i1≠z
 i2z:i2≠z
 TITO:TI≠TO
 TIi1:TI≠i1
 TIi2:TI≠i2
 TOi1:TO≠i1
 TOi2:TO≠i2
 i12:i1≠i2
 z1:z∉f1
 z2:z∉f2
 t1:TO∉f1
 t2:TO∉f2
 x1:i2∉f1
 x2:i1∉f2
section
variable{prog:Program}{w:World}{A:Around}{E:Value->Shared->Prop}{s:Shared}{z TI TO i1 i2:Addr}{f1 f2:List Addr}{n1 n2 k:Nat}{P1 P2:Nat->Value->Prop}{S1 S2:Nat->Heap->Prop}{a b:Value}
theorem io{Q:Value->Shared->Prop}(D1:Draws prog w A i1 f1 n1 P1 S1)(D2:Draws prog w A i2 f2 n2 P2 S2)(Z:ZApart z TI TO i1 i2 f1 f2)
  (hz:IsZip s.heap z TI TO .none)(hTI:IsPair s.heap TI (.ref i1) (.ref i2))(hTO:IsPair s.heap TO a b)(q1:S1 k s.heap)(q2:S2 k s.heap)(k1:k<n1)(k2:k<n2)
  (hQ:∀x y h' tk,P1 k x->P2 k y->IsZip h' z TI TO (rawInt s.heap.objs.size)->IsPair h' TO x y->S1 (k+1) h'->S2 (k+1) h'->IsPair h' s.heap.objs.size x y->
   (∀c o,c≠z->c≠TO->c≠i1->c≠i2->s.heap.get? c=some o->h'.get? c=some o)->Q (.ref s.heap.objs.size) {s with heap:=h',toks:=tk}):
  wpAny (model prog w) A (Builtin.«zip.__next__» ⟨[.ref z],[]⟩) (fun fin s'=>∃v,fin= .done (.ret v)/\Q v s') E s:=by
 obtain⟨hp,g,d,t0,os⟩:=s
 show wpAny _ _ (field (.ref z) 2 >>= _) _ _ _
 refine Ja (JL hz rfl (x:= .bool false) rfl ?_)
 show wpAny _ _ (field (.ref z) 3 >>= _) _ _ _
 refine Ja (JL hz rfl (x:= .ref TI) rfl ?_)
 refine Ja (Cb hTI rfl ?_)
 show wpAny _ _ (Builtin.SmallTypes.ownedTupleIsFree (.ref z) >>= _) _ _ _
 refine Ja ?_
 unfold Builtin.SmallTypes.ownedTupleIsFree;refine Ja (JL hz rfl (x:= .none) rfl (Jb ?_))
 simp only[BO];refine Ja (BW ?_)
 refine Ja (JL hz rfl (x:= .ref TO) rfl ?_)
 refine Ja (Dj hz (by simp) fun h₁ hz₁ hs₁=>?_)
 replace hz₁:IsZip h₁ z TI TO .ellipsis:=hz₁
 replace hs₁:Heap.SameBut z hp h₁:=hs₁
 refine Ja ?_
 simp only[List.zipIdx_cons,List.zipIdx_nil,List.forIn_cons,List.forIn_nil];refine Ja (Ja (wpAny_onRaise ?_))
 show wpAny _ _ (Builtin.SmallTypes.nextOf (.ref i1) >>= _) _ _ _
 have q1a:S1 k h₁:=D1.frame _ _ _ q1 fun c hc o e=>hs₁.extBut c o (fun y=>Z.z1 (y▸hc)) e
 refine Ja (D1.item k ⟨h₁,g,d,t0,os⟩ _ _ k1 q1a fun x h₂ tk₂ p1 q1b hs₂=>Jb ?_)
 replace hs₂:Heap.SameBut i1 h₁ h₂:=hs₂
 have hTO₂:IsPair h₂ TO a b:=hs₂.extBut _ _ Z.TOi1 (hs₁.extBut _ _ Z.TOz hTO)
 refine Ja (Cb hTO₂ rfl ?_)
 refine Ja (wpAny_updateSeq_pair hTO₂ fun h₃ hTO₃ hs₃=>?_)
 replace hTO₃:IsPair h₃ TO x b:=hTO₃
 replace hs₃:Heap.SameBut TO h₂ h₃:=hs₃
 refine Ja (wpAny_letGo (Jb ?_))
 refine Ja (Ja (wpAny_onRaise ?_))
 show wpAny _ _ (Builtin.SmallTypes.nextOf (.ref i2) >>= _) _ _ _
 have q2a:S2 k h₃:=D2.frame _ _ _ q2 fun c hc o e=>hs₃.extBut c o (fun y=>Z.t2 (y▸hc)) (hs₂.extBut c o (fun y=>Z.x2 (y▸hc)) (hs₁.extBut c o (fun y=>Z.z2 (y▸hc)) e))
 refine Ja (D2.item k ⟨h₃,g,d,tk₂,os⟩ _ _ k2 q2a fun y h₄ tk₄ p2 q2b hs₄=>Jb ?_)
 replace hs₄:Heap.SameBut i2 h₃ h₄:=hs₄
 have hTO₄:IsPair h₄ TO x b:=hs₄.extBut _ _ Z.TOi2 hTO₃
 refine Ja (Cb hTO₄ rfl ?_)
 refine Ja (wpAny_updateSeq_pair hTO₄ fun h₅ hTO₅ hs₅=>?_)
 replace hTO₅:IsPair h₅ TO x y:=hTO₅
 replace hs₅:Heap.SameBut TO h₄ h₅:=hs₅
 refine Ja (wpAny_letGo (Jb (Jb ?_)))
 refine Ja (Cb hTO₅ rfl ?_)
 refine Ja (wpAny_newTuple ?_)
 have hsz:h₅.objs.size=hp.objs.size:=by rw[hs₅.1,hs₄.1,hs₃.1,hs₂.1,hs₁.1]
 have hz₅:IsZip h₅ z TI TO .ellipsis:=hs₅.extBut _ _ Z.TOz.symm (hs₄.extBut _ _ Z.i2z.symm (hs₃.extBut _ _ Z.TOz.symm (hs₂.extBut _ _ Z.i1z.symm hz₁)))
 have hk₅:∀c o,c≠z->c≠TO->c≠i1->c≠i2->hp.get? c=some o->h₅.get? c=some o:=fun c o c1 c2 c3 c4 e=>
  hs₅.extBut _ _ c2 (hs₄.extBut _ _ c4 (hs₃.extBut _ _ c2 (hs₂.extBut _ _ c3 (hs₁.extBut _ _ c1 e))))
 have q1c:S1 (k+1) h₅:=D1.frame _ _ _ q1b fun c hc o e=>hs₅.extBut c o (fun y=>Z.t1 (y▸hc)) (hs₄.extBut c o (fun y=>Z.x1 (y▸hc)) (hs₃.extBut c o (fun y=>Z.t1 (y▸hc)) e))
 have q2c:S2 (k+1) h₅:=D2.frame _ _ _ q2b fun c hc o e=>hs₅.extBut c o (fun y=>Z.t2 (y▸hc)) e
 have hzlt:z<h₅.objs.size:=Jh hz₅
 show wpAny _ _ (Builtin.SmallTypes.ownedTupleHandOut (.ref z) (.ref h₅.objs.size) >>= _) _ _ _
 refine Ja ?_
 unfold Builtin.SmallTypes.ownedTupleHandOut;have hz₆:IsZip (h₅.push {cls:= .type "tuple",data:= .seq #[x,y]}) z TI TO .ellipsis:=Ji _ hz₅
 refine Ja (Dj hz₆ (by simp) fun h₇ hz₇ hs₇=>?_)
 replace hz₇:IsZip h₇ z TI TO (rawInt h₅.objs.size):=hz₇
 refine Dj hz₇ (by simp) fun h₈ hz₈ hs₈=>?_
 replace hz₈:IsZip h₈ z TI TO (rawInt h₅.objs.size):=hz₈
 have up:∀c o,c≠z->h₅.get? c=some o->h₈.get? c=some o:=fun c o c1 e=>hs₈.extBut _ _ c1 (hs₇.extBut _ _ c1 (Ji _ e))
 have hT₈:IsPair h₈ h₅.objs.size x y:=hs₈.extBut _ _ (JQ hzlt) (hs₇.extBut _ _ (JQ hzlt) (Jn _ rfl))
 rw[hsz]at hz₈ hT₈;refine Jb ⟨_,rfl,?_⟩
 show Q (.ref h₅.objs.size) _
 rw[hsz];exact hQ x y h₈ tk₄ p1 p2 hz₈ (up _ _ Z.TOz hTO₅) (D1.frame _ _ _ q1c fun c hc o e=>up c o (fun y=>Z.z1 (y▸hc)) e) (D2.frame _ _ _ q2c fun c hc o e=>up c o (fun y=>Z.z2 (y▸hc)) e) hT₈ fun c o c1 c2 c3 c4 e=>up c o c1 (hk₅ c o c1 c2 c3 c4 e)
theorem jO{Q:Fin->Shared->Prop}(D1:Draws prog w A i1 f1 n1 P1 S1)(Z:ZApart z TI TO i1 i2 f1 f2)
  (hz:IsZip s.heap z TI TO .none)(hTI:IsPair s.heap TI (.ref i1) (.ref i2))(q1:S1 n1 s.heap)
  (hE:∀h' e,(∀c o,c≠z->c≠i1->s.heap.get? c=some o->h'.get? c=some o)->(∃o,h'.get? e=some o/\o.cls= .type "StopIteration")->E (.ref e) {s with heap:=h'}):
  wpAny (model prog w) A (Builtin.«zip.__next__» ⟨[.ref z],[]⟩) Q E s:=by
 obtain⟨hp,g,d,t0,os⟩:=s
 show wpAny _ _ (field (.ref z) 2 >>= _) _ _ _
 refine Ja (JL hz rfl (x:= .bool false) rfl ?_)
 show wpAny _ _ (field (.ref z) 3 >>= _) _ _ _
 refine Ja (JL hz rfl (x:= .ref TI) rfl ?_)
 refine Ja (Cb hTI rfl ?_)
 show wpAny _ _ (Builtin.SmallTypes.ownedTupleIsFree (.ref z) >>= _) _ _ _
 refine Ja ?_
 unfold Builtin.SmallTypes.ownedTupleIsFree;refine Ja (JL hz rfl (x:= .none) rfl (Jb ?_))
 simp only[BO];refine Ja (BW ?_)
 refine Ja (JL hz rfl (x:= .ref TO) rfl ?_)
 refine Ja (Dj hz (by simp) fun h₁ hz₁ hs₁=>?_)
 replace hz₁:IsZip h₁ z TI TO .ellipsis:=hz₁
 replace hs₁:Heap.SameBut z hp h₁:=hs₁
 refine Ja ?_
 simp only[List.zipIdx_cons,List.zipIdx_nil,List.forIn_cons,List.forIn_nil];refine Ja (Ja (wpAny_onRaise ?_))
 show wpAny _ _ (Builtin.SmallTypes.nextOf (.ref i1) >>= _) _ _ _
 have q1a:S1 n1 h₁:=D1.frame _ _ _ q1 fun c hc o e=>hs₁.extBut c o (fun y=>Z.z1 (y▸hc)) e
 refine Ja (D1.done ⟨h₁,g,d,t0,os⟩ _ _ q1a fun h₂ e hs₂ he=>?_)
 obtain⟨oe,hoe,hce⟩:=he
 replace hs₂:Heap.ExtBut i1 h₁ h₂:=hs₂
 have hz₂:IsZip h₂ z TI TO .ellipsis:=hs₂ _ _ Z.i1z.symm hz₁
 have hez:e≠z:=fun x=>by subst x;rw[hz₂]at hoe;cases hoe;simp at hce
 refine Dj hz₂ (by simp) fun h₃ _ hs₃=>hE h₃ e (fun c o c1 c3 x=>hs₃.extBut _ _ c1 (hs₂ _ _ c3 (hs₁.extBut _ _ c1 x))) ⟨oe,hs₃.extBut _ _ hez hoe,hce⟩
end
abbrev vj(h:Heap)(l1:Addr):Heap:=h.push {cls:= .type "tuple_iterator",data:= .fields #[.ref l1,.int 0 0]}
abbrev vA(h:Heap)(l1 l2:Addr):Heap:=(vj h l1).push {cls:= .type "tuple_iterator",data:= .fields #[.ref l2,.int 0 0]}
abbrev uX(h:Heap)(l1 l2:Addr):Heap:=(vA h l1 l2).push {cls:= .type "tuple",data:= .seq #[.ref h.objs.size,.ref (vj h l1).objs.size]}
abbrev vJ(h:Heap)(l1 l2:Addr):Heap:=(uX h l1 l2).push {cls:= .type "tuple",data:= .seq #[.none,.none]}
abbrev lX(h:Heap)(l1 l2:Addr):Heap:=(vJ h l1 l2).push {cls:= .type "zip",data:= .fields #[.none,.bool false,.bool false,.ref (vA h l1 l2).objs.size,.ref (uX h l1 l2).objs.size]}
theorem nG(l1 l2:Addr)(xs ys:Array Value):
  Meets (Builtin.«zip.__new__» ⟨[.type "zip",.ref l1,.ref l2],[]⟩) (fun _ R s=>s.heap.IsTuple l1 xs/\s.heap.IsTuple l2 ys/\
   R (.ok (.ret (.ref (vJ s.heap l1 l2).objs.size))) {s with heap:=lX s.heap l1 l2}):=
 .of_wp fun prog w A R s h=>by
  obtain⟨hp,g,d,tk,os⟩:=s;obtain⟨hl1,hl2,h⟩:=h
  have hsub:=sub_zip;have hL1:Heap.IsTuple (Shared.heap ⟨hp,g,d,tk,os⟩) l1 xs:=hl1
  have hL2:Heap.IsTuple (Shared.heap ⟨hp.push {cls:= .type "tuple_iterator",data:= .fields #[.ref l1,.int 0 0]},g,d,tk,os⟩) l2 ys:=let⟨o,e,r⟩:=hl2;⟨o,Ji _ e,r⟩
  wp_walk using Cm hL1,Cm hL2
  exact⟨_,rfl,h⟩
section
variable{prog:Program}{w:World}{A:Around}{E:Value->Shared->Prop}{s:Shared}
theorem p6{l1 l2:Addr}{xs ys:Array Value}{Q:Value->Shared->Prop}(hl1:s.heap.IsTuple l1 xs)(hl2:s.heap.IsTuple l2 ys)
  (h:∀h',IsZip h' (s.heap.objs.size+4) (s.heap.objs.size+2) (s.heap.objs.size+3) .none->IsPair h' (s.heap.objs.size+2) (.ref s.heap.objs.size) (.ref (s.heap.objs.size+1))->
   IsPair h' (s.heap.objs.size+3) .none .none->h'.IsTupleIter s.heap.objs.size l1 0->h'.IsTupleIter (s.heap.objs.size+1) l2 0->
   (∀c o,s.heap.get? c=some o->h'.get? c=some o)->Q (.ref (s.heap.objs.size+4)) {s with heap:=h'}):
  wpAny (model prog w) A (call (.type "zip") [.ref l1,.ref l2]) Q E s:=by
 refine callType_new F.called_zip (by decide) (F.typeCall_zip_2 _ _) (F.newCall_zip_2 _ _) (fun obj=>F.args_object_init_3 obj _ _) F.entry_zip_new
  (nG l1 l2 xs ys) ⟨hl1,hl2,?_⟩
 have z1:(vj s.heap l1).objs.size=s.heap.objs.size+1:=JR ..
 have z2:(vA s.heap l1 l2).objs.size=s.heap.objs.size+2:=by rw[JR,z1]
 have z3:(uX s.heap l1 l2).objs.size=s.heap.objs.size+3:=by rw[JR,z2]
 have z4:(vJ s.heap l1 l2).objs.size=s.heap.objs.size+4:=by rw[JR,z3]
 have g5:(lX s.heap l1 l2).get? (vJ s.heap l1 l2).objs.size=some _:=Jn _ rfl
 have g4:(lX s.heap l1 l2).get? (uX s.heap l1 l2).objs.size=some _:=Ji _ (Jn _ rfl)
 have g3:(lX s.heap l1 l2).get? (vA s.heap l1 l2).objs.size=some _:=Ji _ (Ji _ (Jn _ rfl))
 have g2:(lX s.heap l1 l2).get? (vj s.heap l1).objs.size=some _:=Ji _ (Ji _ (Ji _ (Jn _ rfl)))
 have g1:(lX s.heap l1 l2).get? s.heap.objs.size=some _:=Ji _ (Ji _ (Ji _ (Ji _ (Jn _ rfl))))
 show _/\_
 rw[z2,z3,z4]at g5;rw[z1,z2]at g3;rw[z3]at g4;rw[z1]at g2;rw[z4]
 exact⟨⟨_,g5,rfl⟩,h _ g5 g3 g4 ⟨_,g1,rfl,rfl⟩ ⟨_,g2,rfl,rfl⟩ fun c o x=>
  Ji _ (Ji _ (Ji _ (Ji _ (Ji _ x))))⟩
end
section
variable{X:Cx}{DK:List (Addr×Obj)}{σ:L2.St}{H:Hp}{s:Shared}
theorem lu{h':Heap}{t':Nat}{ch:List Addr}(I:L2.Inv X DK σ H s)(k:∀b o,b∉ch->s.heap.get? b=some o->h'.get? b=some o)(hch:∀b∈ch,Zs X DK H b):L2.Inv X DK σ H {s with heap:=h',toks:=t'}:=by
 have nch:∀b u,H b=some u->b∉ch:=fun b u e z=>by rw[(hch b z).1]at e;cases e
 refine I.step (g':=s.gens) (d':=s.drawn) (ch:=ch) (fun b hb=>⟨(hch b hb).2.2.2.1,(hch b hb).2.1,(hch b hb).2.2.2.2.1,(hch b hb).2.2.2.2.2⟩) (fun b o _ _ hc e _=>k b o hc e) (fun b o _ _ hc e _=>⟨o.slots,k b o hc e⟩)
  (fun _ _ _ _ n=>n) (fun b o hc e=>⟨o,k b o hc e⟩) (fun _ _ e=>e) (fun _ _ _ e=>e) (fun b ps e=>⟨#[],by rw[e];simp⟩) (fun m hm=>?_) (fun b u e=>?_) I.bare
 ·obtain⟨o,es,ep,ho,r⟩:=hm
  exact⟨o,es,ep,k _ o (fun z=>(hch _ z).2.1 rfl) ho,r⟩
 ·refine(I.hok b u e).stay (fun c v hc q=>k c v ?_ q) (fun _ q=>q) fun _ _ q=>q
  rcases hc with z|z
  ·rw[z];exact nch b u e
  ·exact nch c _ z
theorem cJ{H:Hp}{a b:Addr}{u:HO}(h:Rd H a u)(h':H b=none):a≠b:=by
 rcases h with h|⟨o,h⟩
 ·exact qi h h'
 ·exact qi h h'
def yf(a1 a2:Addr):It:=
  ⟨fun i H=>∃xs ys x y,Rd H a1 (.tup xs)/\Rd H a2 (.tup ys)/\xs[i]? =some x/\ys[i]? =some y,
   fun i H v H'=>∃p x y,H p=none/\v= .ref p/\(∀xs,Rd H a1 (.tup xs)->xs[i]? =some x)/\(∀ys,Rd H a2 (.tup ys)->ys[i]? =some y)/\H'=upd H p (.tup [x,y]),
   fun i H=>∃xs,Rd H a1 (.tup xs)/\xs.length=i⟩
theorem sW{P:Program}{w:World}{K:Frag}{elts:List Expr}{x1}{pos:Pos}(a1 a2 z TI TO i1 i2:Addr)(d1:TI≠z)(d2:TO≠z)(d3:i1≠z)(d4:i2≠z)(d5:TI≠TO)(d6:TI≠i1)(d7:TI≠i2)(d8:TO≠i1)(d9:TO≠i2)(d10:i1≠i2):
  Turn P w K (.Tuple elts x1 pos) (yf a1 a2) [z,TI,TO,i1,i2] z (fun i h=>IsZip h z TI TO .none/\IsPair h TI (.ref i1) (.ref i2)/\(∃a b,IsPair h TO a b)/\h.IsTupleIter i1 a1 i/\h.IsTupleIter i2 a2 i) where
 mem:=by simp
 obj:=fun i h st b hb=>by
  obtain⟨hz,hTI,⟨a,b',hTO⟩,⟨o1,ho1,_,hd1⟩,⟨o2,ho2,_,hd2⟩⟩:=st;simp only[Jj,Jp,Jq]at hb;rcases hb with rfl|rfl|rfl|rfl|rfl
  ·exact⟨_,hz,fun v y=>by have y':Data.fields _=Data.cell v:=y;cases y'⟩
  ·exact⟨_,hTI,fun v y=>by have y':Data.seq _ _=Data.cell v:=y;cases y'⟩
  ·exact⟨_,hTO,fun v y=>by have y':Data.seq _ _=Data.cell v:=y;cases y'⟩
  ·exact⟨_,ho1,fun v y=>by rw[hd1]at y;cases y⟩
  ·exact⟨_,ho2,fun v y=>by rw[hd2]at y;cases y⟩
 keep:=fun i h h' st k=>by
  obtain⟨hz,hTI,⟨a,b',hTO⟩,h1,h2⟩:=st
  exact⟨k z (by simp) _ hz,k TI (by simp) _ hTI,⟨a,b',k TO (by simp) _ hTO⟩,h1.at fun o e=>k i1 (by simp) o e,h2.at fun o e=>k i2 (by simp) o e⟩
 item:=by
  intro X hP hw hK hc i DK s σ H E I hf st hg;subst hP hw hK;obtain⟨xs,ys,x,y,ha1,ha2,hx,hy⟩:=hg;obtain⟨its,rv,p,hz0⟩:=I.tuple (.inl ha1)
  obtain⟨its2,rv2,p2,hz2⟩:=I.tuple (.inl ha2)
  obtain⟨u,hu,ru⟩:=rv.get hx;obtain⟨u2,hu2,ru2⟩:=rv2.get hy;obtain⟨hz,hTI,⟨a,b',hTO⟩,h1,h2⟩:=st;have n1:∀c∈[z,TI,TO,i1,i2],a1≠c:=fun c hc=>cJ ha1 (hf c hc).1
  have n2:∀c∈[z,TI,TO,i1,i2],a2≠c:=fun c hc=>cJ ha2 (hf c hc).1
  have Z:ZApart z TI TO i1 i2 [i1,a1] [i2,a2]:=⟨d1,d2,d3,d4,d5,d6,d7,d8,d9,d10,by simp [Ne.symm d3,Ne.symm (n1 z (by simp))],by simp [Ne.symm d4,Ne.symm (n2 z (by simp))],by simp [d8,Ne.symm (n1 TO (by simp))],by simp [d9,Ne.symm (n2 TO (by simp))],by simp [Ne.symm d10,Ne.symm (n1 i2 (by simp))],by simp [d10,Ne.symm (n2 i1 (by simp))]⟩
  have hil:i<its.toArray.size:=by have:=(Js.mp hu).1;simpa using this
  have hil2:i<its2.toArray.size:=by have:=(Js.mp hu2).1;simpa using this
  have hT:s.TypeIs (.ref z) "zip":=⟨_,hz,rfl⟩
  unfold pyNext;refine Ja (B4 (wpAny_callSpecial?_slot (name:=Str.ofString "__next__") hT Ct
   (JT Ct hT Dw
    (io (ff (A:=X.A.in1) (I.ok.hd hc) i1 a1 (n1 i1 (by simp)) its.toArray) (ff (A:=X.A.in1) (I.ok.hd hc) i2 a2 (n2 i2 (by simp)) its2.toArray) Z hz hTI hTO ⟨h1,p⟩ ⟨h2,p2⟩ hil hil2
     fun v v2 h' tk hv hv2 ho hTO' q1 q2 ht hk=>Jb ⟨_,rfl,?_⟩) (Dx _))))
  have ev:v=u:=by
   have hv':its[i]? =some v:=by simpa using hv
   rw[hu]at hv';exact(Jv hv').symm
  have ev2:v2=u2:=by
   have hv':its2[i]? =some v2:=by simpa using hv2
   rw[hu2]at hv';exact(Jv hv').symm
  subst ev ev2;refine wpAny_letOwnedTupleGo_zip ho fun h'' hz'' hs''=>?_
  have lt:∀c∈[z,TI,TO,i1,i2],c<s.heap.objs.size:=fun c hc=>by
   simp only[Jj,Jp,Jq]at hc;rcases hc with rfl|rfl|rfl|rfl|rfl
   ·exact Jh hz
   ·exact Jh hTI
   ·exact Jh hTO
   ·obtain⟨_,e,_⟩:=h1;exact Jh e
   ·obtain⟨_,e,_⟩:=h2;exact Jh e
  have hTI':IsPair h'' TI (.ref i1) (.ref i2):=hs''.extBut _ _ d1 (hk _ _ d1 d5 d6 d7 hTI)
  have hTO'':IsPair h'' TO v v2:=hs''.extBut _ _ d2 hTO'
  have h1':h''.IsTupleIter i1 a1 (i+1):=q1.1.extBut hs''.extBut d3
  have h2':h''.IsTupleIter i2 a2 (i+1):=q2.1.extBut hs''.extBut d4
  refine⟨.ref s.heap.objs.size,upd H s.heap.objs.size (.tup [x,y]),?_,rfl,⟨_,x,y,I.hok.fresh (Jf _),rfl,fun zs hy'=>by rw[I.tuple_inj (.inl hy') (.inl ha1)];exact hx,fun zs hy'=>by rw[I.tuple_inj (.inl hy') (.inl ha2)];exact hy,rfl⟩,⟨hz'',hTI',⟨_,_,hTO''⟩,h1',h2'⟩,?_⟩
  ·show L2.Inv X DK σ _ {s with heap:=h'',toks:=tk}
   refine cA (s:=s) (its:=[v,v2]) I (ch:=[z,TI,TO,i1,i2]) (fun b o hb q=>?_) hf (fun b hb=>?_) (Jf _) (by show 2<=sizeLine;decide) (.cons ru (.cons ru2 .nil)) ?_
   ·simp only[Jj,Jp,Jq,not_or]at hb
    exact hs''.extBut b o hb.1 (hk b o hb.1 hb.2.2.1 hb.2.2.2.1 hb.2.2.2.2 q)
   ·simp only[Jj,Jp,Jq]at hb
    rcases hb with rfl|rfl|rfl|rfl|rfl
    ·exact⟨_,hz''⟩
    ·exact⟨_,hTI'⟩
    ·exact⟨_,hTO''⟩
    ·obtain⟨o,e,_⟩:=h1';exact⟨o,e⟩
    ·obtain⟨o,e,_⟩:=h2';exact⟨o,e⟩
   ·exact⟨_,hs''.extBut _ _ (JQ (lt z (by simp))) ht,rfl,_,rfl⟩
  ·intro b hb
   rw[qp (Jm (lt b hb))]
   exact(hf b hb).1
 done:=by
  intro X hP hw hK hc i DK s σ H E I hf st hg;subst hP hw hK;obtain⟨xs,ha1,hx⟩:=hg;obtain⟨its,rv,p,hz0⟩:=I.tuple (.inl ha1)
  obtain⟨hz,hTI,⟨a,b',hTO⟩,h1,h2⟩:=st;have n1:∀c∈[z,TI,TO,i1,i2],a1≠c:=fun c hc=>cJ ha1 (hf c hc).1
  have Z:ZApart z TI TO i1 i2 [i1,a1] [i2]:=⟨d1,d2,d3,d4,d5,d6,d7,d8,d9,d10,by simp [Ne.symm d3,Ne.symm (n1 z (by simp))],by simp [Ne.symm d4],by simp [d8,Ne.symm (n1 TO (by simp))],by simp [d9],by simp [Ne.symm d10,Ne.symm (n1 i2 (by simp))],by simp [d10]⟩
  have hl:its.toArray.size=i:=by rw[Jt,<- rv.length];exact hx
  have hT:s.TypeIs (.ref z) "zip":=⟨_,hz,rfl⟩
  unfold pyNext;refine Ja (B4 (wpAny_callSpecial?_slot (name:=Str.ofString "__next__") hT Ct
   (JT Ct hT Dw
    (jO (ff (A:=X.A.in1) (I.ok.hd hc) i1 a1 (n1 i1 (by simp)) its.toArray) Z hz hTI ⟨by rw[hl];exact h1,p⟩ fun h' e hk he=>?_) (Dx _))))
  obtain⟨o,ho,hcl⟩:=he;refine Ja (Cs (T:="StopIteration") (b:=true) ⟨o,ho,hcl⟩ Di ?_)
  refine Jb ⟨rfl,lu (t':=s.toks) I (ch:=[z,i1]) (fun b o hb e=>?_) (fun b hb=>hf b ?_)⟩
  ·simp only[Jj,Jp,Jq,not_or]at hb
   exact hk b o hb.1 hb.2 e
  ·simp only[Jj,Jp,Jq]at hb
   rcases hb with rfl|rfl<;>simp
 self:=fun _ _ _ _ _ st h=>Dy st.1 h
def yR(ta:TA):TI:=fun σ H R=>ta σ H fun vs H1=>∃a1 a2 xs ys,vs=[.ref a1,.ref a2]/\Rd H1 a1 (.tup xs)/\Rd H1 a2 (.tup ys)/\R (yf a1 a2) H1
theorem yb{a b:Expr}{ta:TA}{p pos:Pos}{elts:List Expr}{x1}{tpos:Pos}(hg:Gl X "zip")(hm:X.mg "zip"=none)(ha:PA X [a,b] ta)(h1:zK a=true:=by rfl)(h2:zK b=true:=by rfl):
  PI X (.Tuple elts x1 tpos) (.Call (.Name "zip" p) [a,b] [] pos) (yR ta):=by
 intro DK s σ H R I h;have hs2:starEach [b] X.env=[(false,eval b X.env)]:=Q8 h2
 refine Call_ (QX I hg hm boot_zip (Cn (qD (ha pos DK s σ H _ I h) fun us s1 zq=>?_) (by rw[Q8 h1,hs2]) (by rw[hs2];rfl)))
 obtain⟨vs,H1,I1,r1,q1⟩:=zq;obtain⟨a1,a2,xs,ys,e,e1,e2,q⟩:=q1;subst e;obtain⟨u,v,rfl,ru,rv⟩:=r1.two;cases ru;cases rv;obtain⟨its,r1',p1,hz⟩:=I1.tuple (.inl e1)
 obtain⟨its2,r2',p2,hz2⟩:=I1.tuple (.inl e2)
 have ad:∀(n i j:Nat),i≠j->n+i≠n+j:=fun n i j h=>by omega
 refine p6 (show s1.heap.IsTuple a1 its.toArray from p1) (show s1.heap.IsTuple a2 its2.toArray from p2) fun h' hz hTI hTO h1 h2 hk=>Dy hz ?_
 refine⟨s1.heap.objs.size+4,[s1.heap.objs.size+4,s1.heap.objs.size+2,s1.heap.objs.size+3,s1.heap.objs.size,s1.heap.objs.size+1],_,_,H1,rfl,I1.kept (t':=s1.toks) hk,
  sW a1 a2 (s1.heap.objs.size+4) (s1.heap.objs.size+2) (s1.heap.objs.size+3) s1.heap.objs.size (s1.heap.objs.size+1) (ad _ 2 4 (by decide)) (ad _ 3 4 (by decide)) (ad _ 0 4 (by decide)) (ad _ 1 4 (by decide)) (ad _ 2 3 (by decide)) (ad _ 2 0 (by decide)) (ad _ 2 1 (by decide)) (ad _ 3 0 (by decide)) (ad _ 3 1 (by decide)) (ad _ 0 1 (by decide)),⟨hz,hTI,⟨_,_,hTO⟩,h1,h2⟩,fun b hb=>?_,q⟩
 have hb':s1.heap.objs.size<=b:=by
  simp only[Jj,Jp,Jq]at hb;rcases hb with rfl|rfl|rfl|rfl|rfl
  ·exact Cc _ 4
  ·exact Cc _ 2
  ·exact Cc _ 3
  ·exact Jf _
  ·exact Cc _ 1
 exact I1.fpOk hb' (I1.hok.fresh hb')
end
theorem uv{K:Frag}{js:List Nat}{te:TE}{σ:L2.St}{H:Hp}{Q:VK}{a1 a2:Addr}{xs ys:List V}(hl:xs.length=ys.length)(hn:xs.length<=sizeLine)(Pv:Nat->List V->Hp->Prop)(h0:Pv 0 [] H)
  (hk:∀i zs H,Pv i zs H->Rd H a1 (.tup xs)/\Rd H a2 (.tup ys))
  (hs:∀i zs H p x y,xs[i]? =some x->ys[i]? =some y->zs.length=i->Pv i zs H->H p=none->te (some x::some y::zV js σ) (upd H p (.tup [x,y])) fun v H3=>Pv (i+1) (zs++[v]) H3)
  (hd:∀zs H,zs.length=xs.length->Pv xs.length zs H->∀p,H p=none->Q (.ref p) (upd H p (.lst zs))):
  iR 2 js (ji K 2 (cI (Qu 0) (cI (Qu 1) mY))) te σ Q (yf a1 a2) H:=by
 refine⟨fun i m zs τ H=>m=xs.length-i/\i<=xs.length/\zs.length=i/\Pv i zs H/\∃o o',τ=o::o'::zV js σ,⟨xs.length,by simp,JC _,rfl,h0,none,none,rfl⟩,?_⟩
 rintro i m zs τ H ⟨rfl,hi,hzl,p,o,o',rfl⟩
 obtain⟨e1,e2⟩:=hk i zs H p
 by_cases hlt:i<xs.length
 ·have hlt2:i<ys.length:=by omega
  refine .inr ⟨⟨xs,ys,xs[i],ys[i],e1,e2,by simp [hlt],by simp [hlt2]⟩,by omega,fun v H' y=>?_⟩
  obtain⟨pp,x,y,hp,rfl,hx,hy,rfl⟩:=y;refine⟨pp,_,rfl,SqT.of qd,rfl,_,_,rfl,_,_,rfl,rfl,?_⟩
  exact⟨fun v H3=>Pv (i+1) (zs++[v]) H3,fun v H3 p3=>⟨xs.length-(i+1),by omega,rfl,hlt,by simp [hzl],p3,_,_,rfl⟩,hs i zs _ pp x y (hx xs e1) (hy ys e2) hzl p hp⟩
 ·have e:i=xs.length:=by omega
  subst e;exact .inl ⟨⟨xs,e1,rfl⟩,hd zs H hzl p⟩
end L3
namespace L3
open PySem PySem.Spec PyProof.Rows L2 PySem.SeqAt
open Sem (wp)
open AutoSeq1 (wpAny_loadPart')
section
variable{X:Cx}
theorem Rd.same{H H':Hp}{a:Addr}{u:HO}(s:Same H H')(h:Rd H a u):Rd H' a u:=by
 rcases h with h|⟨o,h⟩
 ·exact .inl (s _ _ h)
 ·exact .inr ⟨o,s _ _ h⟩
inductive Ty2 (H:Hp):V->String->Prop where
 |int (i:Int):Ty2 H (.int i) "int"
 |bl (b:Bool):Ty2 H (.bl b) "bool"
 |tup {a:Addr} {xs:List V} (h:Rd H a (.tup xs)):Ty2 H (.ref a) "tuple"
 |str (x:Str):Ty2 H (.str x) "str"
 |non:Ty2 H .non "NoneType"
 |lst {a:Addr} {xs:List V} (h:H a=some (.lst xs)):Ty2 H (.ref a) "list"
theorem ln{H:Hp}{x:V}{t:String}(h:Ty2 H x t):t∈f9:=by cases h<;>simp
theorem me(K:Frag){t:String}(ht:t∈f9):∀cs:List String,(∀c∈cs,c∈gp)->W.kitAny K (.type t) (cs.map Value.type)=some (cs.any (zn t))
 | [],_=>rfl
 |c::r,h=>by
  have e:=gD K t ht c (h c JE);have ih:=me K ht r fun d hd=>h d (JJ _ hd)
  simp only[JW,W.kitAny,e,CW];cases zn t c with
  |true=>rfl
  |false=>simpa using ih
theorem qK:zg X (.builtin "isinstance") (fun xs H Q=>∃x c t,xs=[x,.ty c]/\Ty2 H x t/\c∈gp/\Q (.bl (zn t c)) H):=by
 intro DK s σ H xs us Q I r h;obtain⟨x,c,t,rfl,ty,hc,q⟩:=h;obtain⟨u,v,rfl,ru,rv⟩:=fj r
 cases(show v=Value.type c from rv)
 have e:=gD X.K t (ln ty) c hc;have fin:∀tk,EP X DK σ Q (.bool (zn t c)) {s with toks:=tk}:=fun tk=>⟨.bl _,H,I.tok tk,rfl,q⟩
 cases ty with
 |int i=>obtain⟨t,q⟩:=(show∃t,u=Value.int i t from ru);cases q;exact JZ W.kitx_int I.kIn True.intro e (fun z=>nomatch z) fin
 |bl b=>cases(show u=Value.bool b from ru);exact JZ W.kitx_bool I.kIn True.intro e (fun z=>nomatch z) fin
 | @tup a ys hr=>
  cases(show u=Value.ref a from ru)
  obtain⟨its,_,⟨o,h1,h2,_⟩,_⟩:=I.tuple (.inl hr)
  exact JZ W.kitx_tuple I.kIn ⟨o,h1,h2⟩ e (fun z=>nomatch z) fin
 |str x=>obtain⟨t,q⟩:=(show∃t,u=Value.str x t from ru);cases q;exact JZ W.kitx_str I.kIn True.intro e (fun z=>nomatch z) fin
 |non=>cases(show u=Value.none from ru);exact JZ W.kitx_none I.kIn True.intro e (fun z=>nomatch z) fin
 | @lst a ys ea=>
  cases(show u=Value.ref a from ru)
  obtain⟨_,_,n,_,h1⟩:=(show ObjOk X.prog X.w H s.heap a (.lst ys)from I.hok a _ ea)
  exact JZ W.kitx_list I.kIn ⟨_,h1,rfl⟩ e (fun z=>nomatch z) fin
theorem jG:∀{cs:List String} {us:List Value},Vals (cs.map V.ty) us->us=cs.map Value.type
 | [],_,.nil=>rfl
 |c::cs,_,.cons r t=>by
  cases(show _=Value.type c from r)
  rw[jG t];rfl
theorem Q7:zg X (.builtin "isinstance") (fun xs H Q=>∃(x:V) (p:Addr) (cs:List String) (t:String),xs=[x,.ref p]/\H p=some (.tup (cs.map V.ty))/\Ty2 H x t/\(∀c∈cs,c∈gp)/\Q (.bl (cs.any (zn t))) H):=by
 intro DK s σ H xs us Q I r h;obtain⟨x,p,cs,t,rfl,hp,ty,hc,q⟩:=h;obtain⟨u,v,rfl,ru,rv⟩:=fj r
 cases(show v=Value.ref p from rv)
 obtain⟨its,rvs,⟨⟨cl,dd,dt,sl⟩,ho,hcl,n,hdt⟩,_⟩:=I.tuple (SqT.of hp)
 replace hcl:cl= .type "tuple":=hcl
 replace hdt:dt= .seq its.toArray n:=hdt
 subst hcl hdt;have e:=me X.K (ln ty) cs hc;rw[<- jG rvs]at e;have fin:∀tk,EP X DK σ Q (.bool (cs.any (zn t))) {s with toks:=tk}:=fun tk=>⟨.bl _,H,I.tok tk,rfl,q⟩
 cases ty with
 |int i=>obtain⟨t,q⟩:=(show∃t,u=Value.int i t from ru);cases q;exact CY W.kitx_int I.kIn True.intro ho e (fun z=>nomatch z) fin
 |bl b=>cases(show u=Value.bool b from ru);exact CY W.kitx_bool I.kIn True.intro ho e (fun z=>nomatch z) fin
 | @tup a ys hr=>
  cases(show u=Value.ref a from ru)
  obtain⟨its',_,⟨o,h1,h2,_⟩,_⟩:=I.tuple (.inl hr)
  exact CY W.kitx_tuple I.kIn ⟨o,h1,h2⟩ ho e (fun z=>nomatch z) fin
 |str x=>obtain⟨t,q⟩:=(show∃t,u=Value.str x t from ru);cases q;exact CY W.kitx_str I.kIn True.intro ho e (fun z=>nomatch z) fin
 |non=>cases(show u=Value.none from ru);exact CY W.kitx_none I.kIn True.intro ho e (fun z=>nomatch z) fin
 | @lst a ys ea=>
  cases(show u=Value.ref a from ru)
  obtain⟨_,_,n,_,h1⟩:=(show ObjOk X.prog X.w H s.heap a (.lst ys)from I.hok a _ ea)
  exact CY W.kitx_list I.kIn ⟨_,h1,rfl⟩ ho e (fun z=>nomatch z) fin
end
def zw(t:List Int):List Int:=(List.range 16).map fun d=>((t.idxOf ((d:Nat):Int):Nat):Int)
theorem ab(t:List Int):(zw t).length=16:=by simp [zw]
section
variable{t:List Int}(p:t.Perm digs)
include p
theorem rP:t.Nodup:=p.nodup_iff.mpr (by decide)
theorem ma:t.length=16:=by rw[p.length_eq,jP]
theorem wY{d:Nat}(h:d<16):((d:Nat):Int)∈t:=p.mem_iff.mpr (Jw.mpr ⟨d,B6.mpr h,rfl⟩)
theorem j8{i:Nat}(h:i<t.length):0<=t[i]/\t[i]<16:=jm (p.mem_iff.mp (Ca h))
theorem rh{i:Nat}(h:i<t.length):t.idxOf t[i]=i:=(rP p).idxOf_getElem i h
theorem wu{d:Nat}(h:d<16):(zw t)[d]'(by rw[ab];exact h)=((t.idxOf ((d:Nat):Int):Nat):Int):=by simp [zw]
end
end L3
namespace L3
open PySem PySem.Spec L2
variable{X:Cx}
theorem Qk{sts:List Stmt}:QSs X sts sF:=⟨sj⟩
theorem uc{a:Expr}{ta:TA}{p pos:Pos}{elts:List Expr}{x1}{tpos:Pos}(hg:Gl X "enumerate")(hm:X.mg "enumerate"=none)(ha:QA X [a] ta)(hs:starEach [a] X.env=[(false,eval a X.env)]:=by rfl):QI X (.Tuple elts x1 tpos) (.Call (.Name "enumerate" p) [a] [] pos) (sB X.K ta):=⟨tZ (hg:=hg) (hm:=hm) (ha:=ha.h) (hs:=hs)⟩
theorem Ai{a b:Expr}{ta:TA}{p pos:Pos}{elts:List Expr}{x1}{tpos:Pos}(hg:Gl X "zip")(hm:X.mg "zip"=none)(ha:QA X [a,b] ta)(h1:zK a=true:=by rfl)(h2:zK b=true:=by rfl):QI X (.Tuple elts x1 tpos) (.Call (.Name "zip" p) [a,b] [] pos) (yR ta):=⟨yb (hg:=hg) (hm:=hm) (ha:=ha.h) (h1:=h1) (h2:=h2)⟩
def BoxC(H:Hp)(b:Addr)(c:Nat):Prop:=∃n m k:Int,H b=some (nZ n m k)/\0<=m/\m<4611686018427387904/\0<=k/\k<=c
structure GrC(b:Addr)(c:Nat)(H H':Hp):Prop where
 kp:∀a o,a≠b->H a=some o->H' a=some o
 bx:BoxC H' b c
theorem BoxC.mono{H:Hp}{b:Addr}{c d:Nat}(h:BoxC H b c)(l:c<=d):BoxC H b d:=by
 obtain⟨n,m,k,e,a1,a2,a3,a4⟩:=h
 exact⟨n,m,k,e,a1,a2,a3,by omega⟩
theorem GrC.mono{b:Addr}{c d:Nat}{H H':Hp}(h:GrC b c H H')(l:c<=d):GrC b d H H':=⟨h.kp,h.bx.mono l⟩
theorem GrC.trans{b:Addr}{c d:Nat}{H H1 H2:Hp}(x:GrC b c H H1)(y:GrC b d H1 H2):GrC b d H H2:=⟨fun c o n e=>y.kp c o n (x.kp c o n e),y.bx⟩
theorem _root_.L2.Same.grc{b:Addr}{c:Nat}{H H':Hp}(x:Same H H')(h:BoxC H b c):GrC b c H H':=⟨fun c o _ e=>x c o e,let⟨n,m,k,e,r⟩:=h;⟨n,m,k,x _ _ e,r⟩⟩
theorem GrC.same{b:Addr}{c:Nat}{H H1 H2:Hp}(x:GrC b c H H1)(y:Same H1 H2):GrC b c H H2:=x.trans (y.grc x.bx)
theorem qP{H:Hp}{b l:Addr}{c:Nat}(hb:BoxC H b c)(h:H l=none):l≠b:=fun z=>by
 obtain⟨_,_,_,e,_⟩:=hb;subst z;rw[e]at h;cases h
def sw(K:Frag):Sp:=fun vs H Q _=>∃(a:Addr) (ns:List Int) (k:Nat),vs=[.ref a,.int k]/\SqL K H a (ns.map V.int)/\∀b H',H b=none->Same H H'->BoxC H' b 0->Q (.ref b) H'
def Za:Sp:=fun vs H Q _=>∃(b:Addr) (many:Int) (c:Nat),vs=[.ref b,.int many]/\BoxC H b c/\c<1000000000/\0<many/\many<1073741824/\∀r H',0<=r->r<many->GrC b (c+1) H H'->Q (.int r) H'
theorem QM{H H':Hp}{p:Addr}(h:H' p=none)(s:Same H H'):H p=none:=by
 cases e:H p with
 |none=>rfl
 |some o=>rw[s _ _ e]at h;cases h
def eF:V->Bool
 | .int _=>true
 |_=>false
theorem wV{H:Hp}{x:V}{t:String}(h:kd H x=some t):eF x=(zn t "int"&& !zn t "bool"):=by
 cases x with
 |non=>cases h;decide
 |bl b=>cases h;show false=_;decide
 |int i=>cases h;show true=_;decide
 |str x=>cases h;show false=_;decide
 |byt b=>cases h
 |flt b=>cases h
 |ty b=>cases h
 |ref a=>
  rcases eZ h with⟨xs,e,rfl⟩|⟨xs,e,rfl⟩
  ·show false=_;decide
  ·show false=_;decide
theorem uA{x:V}(h:eF x=true):∃i,x= .int i:=by
 cases x<;>first|exact⟨_,rfl⟩|cases h
theorem sq{x:V}(h:eF x=false):bo x=false:=by
 cases x<;>first|rfl|cases h
def c8:Sp:=fun vs H Q _=>∃x t,vs=[x]/\kd H x=some t/\Q (.bl (eF x)) H
inductive Eqv (H:Hp):Nat->V->V->Prop where
 |int (n:Nat) (i:Int):Eqv H n (.int i) (.int i)
 |str (n:Nat) (x:Str):Eqv H n (.str x) (.str x)
 |non (n:Nat):Eqv H n .non .non
 | tup {n:Nat} {a b:Addr} {xs ys:List V} (h1:Rd H a (.tup xs)) (h2:Rd H b (.tup ys)) (hl:xs.length=ys.length) (hz:xs.length<=sizeLine)
   (hi:∀(i:Nat) (x y:V),xs[i]? =some x->ys[i]? =some y->Eqv H n x y):Eqv H (n+1) (.ref a) (.ref b)
theorem Eqv.ints{H:Hp}{n:Nat}{a b:Addr}{ns:List Int}(h1:Rd H a (.tup (ns.map V.int)))(h2:Rd H b (.tup (ns.map V.int)))(hz:ns.length<=sizeLine):Eqv H (n+1) (.ref a) (.ref b):=
 .tup h1 h2 rfl (by rw[Je];exact hz) fun i x y e1 e2=>by
  rw[e1]at e2;cases e2;obtain⟨z,rfl,_⟩:=Ql e1;exact .int _ _
theorem Same.sqt{K:Frag}{H H':Hp}{a:Addr}{xs:List V}(e:Same H H')(h:SqT K H a xs):SqT K H' a xs:=by
 rcases h with h|h
 ·exact .inl (Rd.same e h)
 ·exact .inr h
def QP(t:List Int)(i:Nat):List Int:=(List.range 16).map fun d=>if((d:Nat):Int)∈t.take i then((t.idxOf ((d:Nat):Int):Nat):Int)else 0
theorem aH(t:List Int)(i:Nat):(QP t i).length=16:=by simp [QP]
theorem ux(t:List Int):QP t 0=List.replicate 16 0:=by simp only[QP,List.take_zero,Jp,JN];rfl
theorem pP{t:List Int}{i d:Nat}(h:d<16):(QP t i)[d]'(by rw[aH];exact h)=if((d:Nat):Int)∈t.take i then((t.idxOf ((d:Nat):Int):Nat):Int)else 0:=by simp [QP]
theorem wa{t:List Int}(p:t.Perm digs):QP t t.length=zw t:=by
 unfold QP zw;refine Dk fun d hd=>?_
 rw[B0,Jd (wY p (B6.mp hd))]
theorem tW{t:List Int}(p:t.Perm digs){i:Nat}(hi:i<t.length):(QP t i).set t[i].toNat (i:Int)=QP t (i+1):=by
 have b:=j8 p hi;refine List.ext_getElem (by rw[CD,aH,aH]) fun d h1 h2=>?_
 have hd:d<16:=by rw[aH]at h2;exact h2
 rw[List.getElem_set,pP hd,pP hd,J5,Jl hi,Option.toList_some]
 by_cases e:t[i].toNat=d
 ·have e':((d:Nat):Int)=t[i]:=by omega
  rw[Jd e,Jd (by rw[e'];exact J2 _ (Jg.mpr rfl)),e',rh p hi]
 ·have e':((d:Nat):Int)≠t[i]:=by omega
  rw[Jc e];simp only[JO,Jg,e',Jq]
def p7(K:Frag):Sp:=fun vs H Q _=>∃(a:Addr) (t:List Int),vs=[.ref a]/\(SqL K H a (t.map V.int)\/SqT K H a (t.map V.int))/\t.Perm digs/\∀p H',Same H H'->H' p=some (.tup ((zw t).map V.int))->Q (.ref p) H'
theorem l6{X:Cx}{K:Frag}(hK:X.K=K){pos:Pos}{es:List Expr}{k:Nat}{t:ae}(n:Nat)(hc:X.calm=true)(h:QGs X es t)(hn:(assignEach es X.env).length=n:=by rfl)(hst:(assignEach es X.env).findIdx? (·.1)=none:=by rfl):QG X (.Tuple es k pos) (ji K n t):=by
 subst hK
 exact⟨kA (hc:=hc) (h:=h.h) (hn:=hn) (hst:=hst)⟩
end L3
namespace L3
open PySem PySem.Spec PyProof.Rows L2
open Sem (wp)
namespace RV
theorem rY:Slot "reversed" "__init__" "object.__init__":=
  .of (owner := "object") (n := "__init__") (by rw[CZ,C1]
                                                kernel_rfl) (by decide +kernel) (by decide +kernel) (by decide +kernel)
    (by first | exact .inl (by decide +kernel) | exact .inr (by decide +kernel)) (by rw[Cu]
                                                                                     kernel_rfl)
theorem called:TypeCalled "reversed" "reversed.__new__" "object.__init__":=
 ⟨by decide +kernel,by decide +kernel,⟨_,_,F.mro_reversed⟩,F.made_reversed,by decide +kernel,F.sub_reversed_self,rY⟩
theorem slot_next:Slot "reversed" "__next__" "reversed.__next__":=
  .of (owner := "reversed") (n := "__next__") (by rw[CZ,C1]
                                                  kernel_rfl) (by decide +kernel) (by decide +kernel) (by decide +kernel)
    (by first | exact .inl (by decide +kernel) | exact .inr (by decide +kernel)) (by rw[Cu]
                                                                                     kernel_rfl)
theorem entry_next:entryFor table "reversed.__next__"=some Builtin.«reversed.__next__»:=entryFor_of_tree (by kernel_rfl)
theorem gO:Manifest.owners.lookup (String.ofList ['d', 'e', 's', 'r', 'e', 'v', 'e', 'r'].reverse)=some Manifest.sig_reversed:=by kernel_rfl
theorem args_next(a:Value):argsOk "reversed.__next__" ⟨[a],[]⟩:=by
 unfold argsOk;rw[signature?_of (id:="reversed.__next__") (n:=['_', '_', 't', 'x', 'e', 'n', '_', '_']) (o:=['d', 'e', 's', 'r', 'e', 'v', 'e', 'r']) (by kernel_rfl) gO]
 kernel_rfl
theorem slot_iter:Slot "reversed" "__iter__" "reversed.__iter__":=
  .of (owner := "reversed") (n := "__iter__") (by rw[CZ,C1]
                                                  kernel_rfl) (by decide +kernel) (by decide +kernel) (by decide +kernel)
    (by first | exact .inl (by decide +kernel) | exact .inr (by decide +kernel)) (by rw[Cu]
                                                                                     kernel_rfl)
theorem args_iter(a:Value):argsOk "reversed.__iter__" ⟨[a],[]⟩:=by
 unfold argsOk;rw[signature?_of (id:="reversed.__iter__") (n:=['_', '_', 'r', 'e', 't', 'i', '_', '_']) (o:=['d', 'e', 's', 'r', 'e', 'v', 'e', 'r']) (by kernel_rfl) gO]
 kernel_rfl
theorem entry_iter:entryFor table "reversed.__iter__"=some Builtin.«dict_keyiterator.__iter__»:=
  entryFor_alias (id':="dict_keyiterator.__iter__") (by kernel_rfl)
    (by first | rfl | decide +kernel | (unfold String.splitOn
                                        simp +decide [String.splitOnAux])) (by decide +kernel) (by kernel_rfl)
theorem no_tuple:typeLookup (.type "tuple") "__reversed__"=pure none:=by
 rw[CZ,C1]
 kernel_rfl
theorem tup_dict:isSubtype (.type "tuple") (.type "dict")=pure false:=by
 rw[Cu]
 kernel_rfl
theorem ri_rev:isSubtype (.type "range_iterator") (.type "reversed")=pure false:=by
 rw[Cu]
 kernel_rfl
theorem tc1(a:Value):checkTypeCall "reversed" ⟨[a],[]⟩=pure ():=by kernel_rfl
end RV
def RevT(h:Heap)(it t:Addr)(i:Int):Prop:=∃o,h.get? it=some o/\o.cls= .type "reversed"/\o.data= .fields #[.ref t,rawInt i]
theorem ox(l:Addr)(items:Array Value)(hz:items.size<=sizeLine):
  Meets (Builtin.«reversed.__new__» ⟨[.type "reversed",.ref l],[]⟩) (fun A R s=>s.heap.IsTuple l items/\
   R (.ok (.ret (.ref s.heap.objs.size))) {s with heap:=s.heap.push {cls:= .type "reversed",data:= .fields #[.ref l,rawInt ((items.size:Int)-1)]},toks:=s.toks+2}):=
 .of_wp fun prog w A R s h=>by
  obtain⟨hp,g,d,tk,os⟩:=s;obtain⟨hl,h⟩:=h
  have hsub:=F.sub_reversed_self;have hT:Shared.TypeIs ⟨hp,g,d,tk,os⟩ (.ref l) "tuple":=let⟨o,e,c,_⟩:=hl;⟨o,e,c⟩
  have hL:Heap.IsTuple (Shared.heap ⟨hp,g,d,tk,os⟩) l items:=hl
  have hd:=RV.tup_dict;have hI:IsTup (Shared.heap ⟨hp,g,d,tk,os⟩) l items:=hl
  have hn:=ZC
  wp_walk using CG hT RV.no_tuple,BV hd,CG hT F.slot_tuple_getitem.lookup,len_tuple hI (by omega)
  exact⟨_,rfl,h⟩
end L3
namespace L3
open PySem PySem.Spec PyProof.Rows L2
open Sem (wp)
abbrev vn(a b c:Int):Bool:=Builtin.Range.rangeFitsLong a&&Builtin.Range.rangeFitsLong b&&Builtin.Range.rangeFitsLong c&&Builtin.Range.rangeFitsLong (-c)&&Builtin.Range.rangeFitsLong (a-c)&&Builtin.Range.rangeFitsLong (Builtin.Range.rangeSize a b c)
theorem kZ(r:Addr)(a b c:Int)(t u v:Tok)(hc0:¬(!vn a b c)=true):
  Meets (Builtin.«range.__reversed__» ⟨[.ref r],[]⟩) (fun _ R s=>s.heap.get? r=some {cls:= .type "range",dict:=none,data:= .fields #[.int a t,.int b u,.int c v],slots:= #[]}/\
   R (.ok (.ret (.ref s.heap.objs.size))) {s with heap:=s.heap.push {cls:= .type (if vn a b c then "range_iterator" else "longrange_iterator"),data:= .fields #[rawInt (a+(Builtin.Range.rangeSize a b c-1)*c),rawInt (Builtin.Range.rangeSize a b c),rawInt (-c)]}}):=
 .of_wp fun prog w A R s h=>by obtain⟨hp,g,d,tk,os⟩:=s;obtain⟨hl,h⟩:=h;wp_walk;exact⟨_,rfl,h⟩
theorem pz(n:Nat):Builtin.Range.rangeSize 0 n 1=n:=by
 unfold Builtin.Range.rangeSize;rw[Jd (by decide)]
 split<;>omega
theorem rQ{n:Nat}(hn:(n:Int)<2 ^ 62):vn 0 n 1=true:=by
 unfold vn;rw[pz];simp only[Builtin.Range.rangeFitsLong,J4,decide_eq_true_eq];omega
theorem nY(r:Addr)(n:Nat)(t u v:Tok)(hn:(n:Int)<2 ^ 62):
  Meets (Builtin.«range.__reversed__» ⟨[.ref r],[]⟩) (fun _ R s=>s.heap.get? r=some {cls:= .type "range",data:= .fields #[.int 0 t,.int n u,.int 1 v]}/\
   R (.ok (.ret (.ref s.heap.objs.size))) {s with heap:=s.heap.push {cls:= .type "range_iterator",data:= .fields #[rawInt ((n:Int)-1),rawInt n,rawInt (-1)]}}):=by
 have g:=kZ r 0 n 1 t u v (by rw[rQ hn];decide)
 rw[rQ hn,pz,Jd rfl,Int.mul_one,Int.zero_add]at g;exact g
section
variable{prog:Program}{w:World}{A:Around}{E:Value->Shared->Prop}{s:Shared}
theorem RevT.typeIs{it t:Addr}{i:Int}(x:RevT s.heap it t i):s.TypeIs (.ref it) "reversed":=by
 obtain⟨o,ho,hc,_⟩:=x
 exact⟨o,ho,hc⟩
theorem kY{it t:Addr}{i:Nat}{items:Array Value}{x:Value}{Q:Option Value->Shared->Prop}(hit:RevT s.heap it t (i:Int))(hl:IsTup s.heap t items)(hx:items[i]? =some x)(hz:items.size<=sizeLine)
  (hQ:∀h' tk,RevT h' it t ((i:Int)-1)->Heap.SameBut it s.heap h'->Q (some x) {s with heap:=h',toks:=tk}):wpAny (model prog w) A (pyNext (.ref it)) Q E s:=by
 obtain⟨o,ho,hc,hd⟩:=id hit;have hT:s.TypeIs (.ref t) "tuple":=let⟨o,e,c,_⟩:=hl;⟨o,e,c⟩
 have hn:=ZC;have hlt:i<items.size:=(Array.getElem?_eq_some_iff.mp hx).1
 unfold pyNext;refine Ja (B4 (wpAny_callSpecial?_slot (name:=Str.ofString "__next__") (RevT.typeIs hit) RV.slot_next
  (JT RV.slot_next (RevT.typeIs hit) RV.entry_next ?_ (RV.args_next _))))
 unfold Builtin.«reversed.__next__»
 refine Ja (BV (a:=(Value.ref it,[])) rfl ?_)
 try dsimp only
 refine Ja (JL ho hd (x:= .ref t) rfl ?_)
 refine Ja (JL ho hd (x:=rawInt (i:Int)) rfl ?_)
 show wpAny _ _ (if(i:Int)<0 then _ else _) _ _ s
 rw[Jc (by omega)]
 try dsimp only
 refine Ja (CG hT F.slot_tuple_getitem.lookup ?_)
 rw[Jc (show¬((some (Value.builtin "tuple.__getitem__")).isNone=true)from JK)]
 refine Ja (wpAny_mkInt ?_)
 have hI:IsTup (Shared.heap {s with toks:=s.toks+1}) t items:=hl
 refine Ja (B4 (getItem_tuple hI (by omega) (by omega) (by unfold seqIndex?;rw[Jc (show¬((i:Int)<0) by omega)];simp [hlt]) hx ?_))
 try dsimp only
 refine Ja (JL (s:={s with toks:=s.toks+1}) ho hd (x:=rawInt (i:Int)) rfl ?_)
 show wpAny _ _ (setField (.ref it) 1 (rawInt ((i:Int)-1)) >>= _) _ _ _
 refine Ja (BY (s:={s with toks:=s.toks+1}) ho hd (by simp) ?_)
 refine Jb ⟨x,rfl,Jb (hQ _ _ ?_ (BZ ..))⟩
 exact⟨_,Cp _ ho (Dv (CF hd _)),(Obj.cls_mapFields ..).trans hc,by
  rw[CF hd];simp⟩
theorem mU{it t:Addr}{Q:Option Value->Shared->Prop}(hh:A.handled=none)(hit:RevT s.heap it t (-1))
  (hQ:∀h',Heap.ExtBut it s.heap h'->Q none {s with heap:=h'}):wpAny (model prog w) A (pyNext (.ref it)) Q E s:=by
 obtain⟨o,ho,hc,hd⟩:=id hit;unfold pyNext;refine Ja (B4 (wpAny_callSpecial?_slot (name:=Str.ofString "__next__") (RevT.typeIs hit) RV.slot_next
  (JT RV.slot_next (RevT.typeIs hit) RV.entry_next ?_ (RV.args_next _))))
 unfold Builtin.«reversed.__next__»
 refine Ja (BV (a:=(Value.ref it,[])) rfl ?_)
 try dsimp only
 refine Ja (JL ho hd (x:= .ref t) rfl ?_)
 refine Ja (JL ho hd (x:=rawInt (-1)) rfl ?_)
 show wpAny _ _ (if(-1:Int)<0 then _ else _) _ _ s
 rw[Jd (by decide)]
 refine Ja (BW ?_)
 refine Ja ?_
 show wpAny _ _ (setField (.ref it) 1 (rawInt (-1)) >>= _) _ _ _
 refine Ja (BY ho hd (by simp) ?_)
 have hg1:=Cp (Obj.mapFields (·.setIfInBounds 1 (rawInt (-1)))) ho (Dv (CF hd _))
 refine BY hg1 (CF hd _) (by simp) ?_
 refine Ja ?_
 show wpAny _ _ (newExc (.type "StopIteration") [] >>= _) _ _ _
 refine Ja ?_
 simp only[newExc,newTuple];refine Ja (J3 ?_ (by size_fits))
 refine Ja (m:=firstArgMember _ _) (BV (a:=Value.none) (by first|rfl|(simp only[firstArgMember];rfl)) ?_)
 refine J3 ?_ (by size_fits)
 simp only[raiseNew];refine Ja (wpAny_handled ?_)
 first|rw[show A.in1.handled=none from hh]|rw[hh]
 refine Ja (Jb (wpAny_throw ?_))
 refine Ja (Cs (T:="StopIteration") (b:=true) ⟨_,Jn _ rfl,rfl⟩ Di ?_)
 exact Jb (hQ _ (((((BZ ..).trans (BZ ..)).extBut).push _).push _))
theorem rj{it t:Addr}{i:Int}{Q:Value->Shared->Prop}(hit:RevT s.heap it t i)(h:Q (.ref it) s):wpAny (model prog w) A (pyIter (.ref it)) Q E s:=by
 refine wpAny_pyIter_slot (RevT.typeIs hit) RV.slot_iter (JT RV.slot_iter (RevT.typeIs hit) RV.entry_iter ?_ (RV.args_iter _))
 show wpAny _ _ (ret (.ref it)) _ _ s
 exact Jb ⟨_,rfl,"reversed",_,RevT.typeIs hit,RV.slot_next.lookup,h⟩
theorem AD{l:Addr}{items:Array Value}{Q:Value->Shared->Prop}(hl:s.heap.IsTuple l items)(hz:items.size<=sizeLine)
  (h:∀h' tk,RevT h' s.heap.objs.size l ((items.size:Int)-1)->(∀b o,s.heap.get? b=some o->h'.get? b=some o)->Q (.ref s.heap.objs.size) {s with heap:=h',toks:=tk}):
  wpAny (model prog w) A (call (.type "reversed") [.ref l]) Q E s:=by
 refine callType_new RV.called (by decide) (RV.tc1 _) (F.newCall_reversed_1 _) (fun obj=>F.args_object_init_2 obj _) F.entry_reversed_new (ox l items hz) ⟨hl,?_⟩
 exact⟨⟨_,Jn _ rfl,rfl⟩,h _ _ ⟨_,Jn _ rfl,rfl,rfl⟩ fun b o e=>Ji _ e⟩
theorem xl{r:Addr}{n:Nat}{t u v:Tok}{Q:Value->Shared->Prop}(hr:s.heap.get? r=some {cls:= .type "range",data:= .fields #[.int 0 t,.int n u,.int 1 v]})(hn:(n:Int)<2 ^ 62)
    (h:∀h',IsRangeIter h' s.heap.objs.size ((n:Int)-1) n (-1)->(∀b o,s.heap.get? b=some o->h'.get? b=some o)->Q (.ref s.heap.objs.size) {s with heap:=h'}):
    wpAny (model prog w) A (call (.type "reversed") [.ref r]) Q E s:=by
  have hT:s.TypeIs (.ref r) "range":=⟨_,hr,rfl⟩
  refine callType_other (U:="range_iterator") (Q₁:=fun obj s₁=>obj= .ref s.heap.objs.size/\∃h',s₁={s with heap:=h'}/\IsRangeIter h' s.heap.objs.size ((n:Int)-1) n (-1)/\∀b o,s.heap.get? b=some o->h'.get? b=some o) (by decide +kernel) F.create_reversed ⟨_,_,F.mro_reversed⟩ F.made_reversed RV.ri_rev (RV.tc1 _) ?_ ?_
  · refine codeAny_of_tree ?_
    show wpAny _ A.in1.in1 (do checkBuiltinCall "reversed.__new__" ⟨[.type "reversed",.ref r],[]⟩;again (.builtin "reversed.__new__" ⟨[.type "reversed",.ref r],[]⟩)) _ _ s
    refine Ja (BV (F.newCall_reversed_1 _) (Jb ⟨plainId_quiet F.plain_reversed_new _,Cd F.entry_reversed_new ?_⟩))
    rw[Around.under_plainId F.plain_reversed_new _];unfold Builtin.«reversed.__new__»
    refine Ja (BV (newClass_reversed _) ?_)
    try dsimp only
    refine Ja (BV (a:=()) (by first|rfl|kernel_rfl) ?_)
    refine Ja (BV (a:=()) (by first|rfl|kernel_rfl) ?_)
    try dsimp only
    refine Ja (CG hT F.slot_range_reversed.lookup ?_)
    try dsimp only
    refine Ja (BV (F.slot_range_reversed.bind _) ?_)
    try dsimp only
    first
    |rw[Jc (show¬((Value.builtin "range.__reversed__"==Value.none)=true)from JK)]
    | (show wpAny _ _ (if(Value.builtin "range.__reversed__"==Value.none)=true then _ else _) _ _ _
       rw[Jc (show¬((Value.builtin "range.__reversed__"==Value.none)=true)from JK)])
    refine Ja (BW ?_)
    refine Ja (m:=runValue (.call (.builtin "range.__reversed__") ⟨[.ref r],[]⟩)) (show wpAny _ _ (call (.builtin "range.__reversed__") [.ref r]) _ _ _ from
      CT F.slot_range_reversed hT F.entry_range_reversed (F.args_range_reversed_1 _) (nY r n t u v hn) ⟨hr,?_⟩)
    first
    |exact Jb ⟨rfl,_,rfl,Jn _ rfl,fun b o e=>Ji _ e⟩
    |exact Ja (Jb (Jb ⟨rfl,_,rfl,Jn _ rfl,fun b o e=>Ji _ e⟩))
  · rintro obj s₁ ⟨rfl,h',rfl,hi,hk⟩
    exact⟨⟨_,hi,rfl⟩,h h' hi hk⟩
end
def mP(K:Frag)(a:Addr)(n:Nat):It:=
 ⟨fun i H=>i<n/\∃xs,SqL K H a xs/\xs.length=n,fun i H x H'=>H'=H/\∀xs,SqL K H a xs->xs[n-1-i]? =some x,fun i _=>n<=i⟩
def mL(K:Frag)(a:Addr)(n:Nat):It:=
 ⟨fun i H=>i<n/\∃xs,SqT K H a xs/\xs.length=n,fun i H x H'=>H'=H/\∀xs,SqT K H a xs->xs[n-1-i]? =some x,fun i _=>n<=i⟩
def oA(n:Nat):It:=⟨fun i _=>i<n,fun i H x H'=>H'=H/\x= .int ((n:Int)-1-i),fun i _=>n<=i⟩
theorem nP{P:Program}{w:World}{K:Frag}{tg:Expr}(a it:Addr)(n:Nat):Turn P w K tg (mP K a n) [it] it (fun i h=>i<=n/\h.IsRevIter it a ((n:Int)-1-i)) where
 mem:=by simp
 obj:=fun i h st b hb=>by
  have e:b=it:=by simpa using hb
  subst e;obtain⟨_,o,e,c,d⟩:=st
  exact⟨o,e,fun v z=>by rw[d]at z;cases z⟩
 keep:=fun i h h' st k=>⟨st.1,st.2.at fun o e=>k it (by simp) o e⟩
 item:=by
  intro X hP hw hK hc i DK s σ H E I hf st hg;subst hP hw hK;obtain⟨hi,xs,hq,hn⟩:=hg;obtain⟨its,rv,p,hz⟩:=I.list hq;have hlt:n-1-i<xs.length:=by omega
  obtain⟨u,hu,ru⟩:=rv.get (Jl hlt)
  obtain⟨f0,f1,f2,f3,f4,f5⟩:=hf it (by simp)
  have e1:(n:Int)-1-i=((n-1-i:Nat):Int):=by omega
  have st2:=st.2;rw[e1]at st2;refine wpAny_pyNext_rev_item st2 p.isList (x:=u) (by simpa using hu) fun h' st' sb=>?_
  have I1:L2.Inv X DK σ H {s with heap:=h'}:=I.turned (t':=s.toks) (fun b o hb e=>(sb.2 b hb).trans e) f0 f1 f3 f4 f5
  obtain⟨o,e,c,d⟩:=id st';refine⟨u,rfl,aJ (s:={s with heap:=h'}) e c d (by decide) ⟨_,H,I1,ru,⟨rfl,fun ys hy=>by rw[I.list_inj hy hq];exact Jl hlt⟩,⟨by omega,?_⟩,fun b hb=>(hf b hb).1⟩⟩
  have e2:((n-1-i:Nat):Int)-1=(n:Int)-1-((i+1:Nat):Int):=by omega
  rw[<- e2];exact st'
 done:=by
  intro X hP hw hK hc i DK s σ H E I hf st hg;subst hP hw hK;obtain⟨f0,f1,f2,f3,f4,f5⟩:=hf it (by simp)
  have hi:i=n:=Nat.le_antisymm st.1 hg
  have st2:=st.2;rw[show(n:Int)-1-i= -1 by omega]at st2
  exact wpAny_pyNext_rev_end (I.ok.hd hc) st2 fun h' eb=>⟨rfl,I.turned (t':=s.toks) (fun b o hb e=>eb b o hb e) f0 f1 f3 f4 f5⟩
 self:=fun _ _ _ _ _ st h=>wpAny_pyIter_revIter st.2 h
theorem pQ{P:Program}{w:World}{K:Frag}{tg:Expr}(a it:Addr)(n:Nat):Turn P w K tg (mL K a n) [it] it (fun i h=>i<=n/\RevT h it a ((n:Int)-1-i)) where
 mem:=by simp
 obj:=fun i h st b hb=>by
  have e:b=it:=by simpa using hb
  subst e;obtain⟨_,o,e,c,d⟩:=st
  exact⟨o,e,fun v z=>by rw[d]at z;cases z⟩
 keep:=fun i h h' st k=>⟨st.1,let⟨o,e,r⟩:=st.2;⟨o,k it (by simp) o e,r⟩⟩
 item:=by
  intro X hP hw hK hc i DK s σ H E I hf st hg;subst hP hw hK;obtain⟨hi,xs,hq,hn⟩:=hg;obtain⟨its,rv,p,hz⟩:=I.tuple hq;have hlen:=rv.length;have hlt:n-1-i<xs.length:=by omega
  obtain⟨u,hu,ru⟩:=rv.get (Jl hlt)
  obtain⟨f0,f1,f2,f3,f4,f5⟩:=hf it (by simp)
  have e1:(n:Int)-1-i=((n-1-i:Nat):Int):=by omega
  have st2:=st.2;rw[e1]at st2;refine kY st2 p (x:=u) (by simpa using hu) (by simp;omega) fun h' tk st' sb=>?_
  have I1:L2.Inv X DK σ H {s with heap:=h',toks:=tk}:=I.turned (t':=tk) (fun b o hb e=>(sb.2 b hb).trans e) f0 f1 f3 f4 f5
  obtain⟨o,e,c,d⟩:=id st';refine⟨u,rfl,aJ (s:={s with heap:=h',toks:=tk}) e c d (by decide) ⟨_,H,I1,ru,⟨rfl,fun ys hy=>by rw[I.tuple_inj hy hq];exact Jl hlt⟩,⟨by omega,?_⟩,fun b hb=>(hf b hb).1⟩⟩
  have e2:((n-1-i:Nat):Int)-1=(n:Int)-1-((i+1:Nat):Int):=by omega
  rw[<- e2];exact st'
 done:=by
  intro X hP hw hK hc i DK s σ H E I hf st hg;subst hP hw hK;obtain⟨f0,f1,f2,f3,f4,f5⟩:=hf it (by simp)
  have hi:i=n:=Nat.le_antisymm st.1 hg
  have st2:=st.2;rw[show(n:Int)-1-i= -1 by omega]at st2
  exact mU (I.ok.hd hc) st2 fun h' eb=>⟨rfl,I.turned (t':=s.toks) (fun b o hb e=>eb b o hb e) f0 f1 f3 f4 f5⟩
 self:=fun _ _ _ _ _ st h=>rj st.2 h
theorem oQ{P:Program}{w:World}{K:Frag}{tg:Expr}(it:Addr)(n:Nat):Turn P w K tg (oA n) [it] it (fun i h=>IsRangeIter h it ((n:Int)-1+(i:Nat)*(-1)) ((n:Int)-(i:Nat)) (-1)) where
 mem:=by simp
 obj:=fun i h st b hb=>by
  have e:b=it:=by simpa using hb
  subst e
  exact⟨_,st,fun v z=>by
   have z':Data.fields _=Data.cell v:=z
   cases z'⟩
 keep:=fun i h h' st k=>k it (by simp) _ st
 item:=by
  intro X hP hw hK hc i DK s σ H E I hf st hg;subst hP hw hK;obtain⟨f0,f1,f2,f3,f4,f5⟩:=hf it (by simp)
  have W:=Walks.range (prog:=X.prog) (w:=X.w) (I.ok.hd hc) it ((n:Int)-1) (-1) n
  refine W.item i s _ _ hg st fun v h' tk hv st' kk=>?_
  obtain⟨t,rfl⟩:=hv;have I1:L2.Inv X DK σ H {s with heap:=h',toks:=tk}:=I.turned (fun b o hb e=>kk b o (by simpa using hb) e) f0 f1 f3 f4 f5
  refine⟨_,rfl,aJ (s:={s with heap:=h',toks:=tk}) (n:="range_iterator") st' rfl rfl (by decide) ⟨.int ((n:Int)-1-i),H,I1,⟨t,?_⟩,⟨rfl,rfl⟩,st',fun b hb=>(hf b hb).1⟩⟩
  rw[show(n:Int)-1+(i:Nat)*(-1)=(n:Int)-1-i by omega]
 done:=by
  intro X hP hw hK hc i DK s σ H E I hf st hg;subst hP hw hK;obtain⟨f0,f1,f2,f3,f4,f5⟩:=hf it (by simp)
  exact wpAny_pyNext_range_end (I.ok.hd hc) st (by have:n<=i:=hg;omega) fun h' eb=>⟨rfl,I.turned (t':=s.toks) (fun b o hb e=>eb b o hb e) f0 f1 f3 f4 f5⟩
 self:=fun _ _ _ _ _ st h=>DB st h
section
variable{X:Cx}{tg:Expr}
theorem tQ:bootBuiltins "reversed"=some (.type "reversed"):=by kernel_rfl
def yF(K:Frag)(ta:TA):TI:=fun σ H R=>ta σ H fun vs H1=>∃a,vs=[.ref a]/\((∃xs,SqL K H1 a xs/\R (mP K a xs.length) H1)\/(∃xs,SqT K H1 a xs/\R (mL K a xs.length) H1)\/∃n:Nat,H1 a=some (.rng 0 n)/\(n:Int)<2 ^ 62/\R (oA n) H1)
theorem Au{a:Expr}{ta:TA}{p pos:Pos}(hg:Gl X "reversed")(hm:X.mg "reversed"=none)(ha:PA X [a] ta)(hn:zK a=true:=by rfl):
  PI X tg (.Call (.Name "reversed" p) [a] [] pos) (yF X.K ta):=by
 intro DK s σ H R I h;refine Call_ (QX I hg hm tQ (Cn (qD (ha pos DK s σ H _ I h) fun us s1 zq=>?_) (Q8 hn) rfl))
 obtain⟨vs,H1,I1,r1,q1⟩:=zq;obtain⟨l,e,q1⟩:=q1;subst e;obtain⟨u,rfl,ru⟩:=r1.one;cases ru;have fpk:∀b∈[s1.heap.objs.size],Zs X DK H1 b:=fun b hb=>by
  rw[Jg.mp hb];exact I1.fpOk (Jf _) (I1.hok.fresh (Jf _))
 rcases q1 with⟨xs,hq,q⟩|⟨xs,hq,q⟩|⟨n,hq,hn62,q⟩
 ·obtain⟨its,rv,pl,hz⟩:=I1.list hq
  have hlen:=rv.length;refine call_reversed_list pl.isList ?_
  have hi:(s1.heap.push (revObj l ((its.toArray.size:Int)-1))).IsRevIter s1.heap.objs.size l ((its.toArray.size:Int)-1):=⟨_,Jn _ rfl,rfl,rfl⟩
  refine wpAny_pyIter_revIter hi ?_
  refine⟨s1.heap.objs.size,[s1.heap.objs.size],_,_,H1,rfl,I1.kept (t':=s1.toks) fun b o e=>Ji _ e,nP l _ xs.length,⟨JC _,?_⟩,fpk,q⟩
  rw[show(xs.length:Int)-1-((0:Nat):Int)=(its.toArray.size:Int)-1 by simp [hlen]]
  exact hi
 ·obtain⟨its,rv,pl,hz⟩:=I1.tuple hq
  have hlen:=rv.length;refine AD (show s1.heap.IsTuple l its.toArray from pl) (by simp;omega) fun h' tk hi hk=>rj hi ?_
  refine⟨s1.heap.objs.size,[s1.heap.objs.size],_,_,H1,rfl,I1.kept (t':=tk) hk,pQ l _ xs.length,⟨JC _,?_⟩,fpk,q⟩
  rw[show(xs.length:Int)-1-((0:Nat):Int)=(its.toArray.size:Int)-1 by simp [hlen]]
  exact hi
 ·obtain⟨t,u,v,hr⟩:=I1.hok l _ hq
  refine xl hr hn62 fun h' hi hk=>DB hi ?_
  refine⟨s1.heap.objs.size,[s1.heap.objs.size],_,_,H1,rfl,I1.kept (t':=s1.toks) hk,oQ _ n,?_,fpk,q⟩
  show IsRangeIter _ _ _ _ _
  rw[show(n:Int)-1+((0:Nat):Int)*(-1)=(n:Int)-1 by omega,show(n:Int)-((0:Nat):Int)=n by omega]
  exact hi
def yd(K:Frag)(tl:TE):TI:=fun σ H R=>tl σ H fun x H1=>∃a,x= .ref a/\((∃xs,SqL K H1 a xs)/\R (fU K a) H1\/(∃xs,SqT K H1 a xs)/\R (ig K a) H1)
theorem ye{l:Expr}{tl:TE}(hl:PE X l tl):PI X tg l (yd X.K tl):=by
 intro DK s σ H R I h;refine qD (hl DK s σ H _ I h) fun v s1 zq=>?_
 obtain⟨x,H1,I1,r1,q1⟩:=zq;obtain⟨a,e,q1⟩:=q1;subst e;cases r1;have fpk:∀b∈[s1.heap.objs.size],Zs X DK H1 b:=fun b hb=>by
  rw[Jg.mp hb];exact I1.fpOk (Jf _) (I1.hok.fresh (Jf _))
 rcases q1 with⟨⟨xs,hq⟩,q⟩|⟨⟨xs,hq⟩,q⟩
 ·obtain⟨its,rv,p,hz⟩:=I1.list hq
  refine CN p.isList ?_
  exact⟨s1.heap.objs.size,[s1.heap.objs.size],_,_,H1,rfl,I1.kept (t':=s1.toks) fun b o e=>Ji _ e,iu a _,⟨_,Jn _ rfl,rfl,rfl⟩,fpk,q⟩
 ·obtain⟨its,rv,p,hz⟩:=I1.tuple hq
  refine Cm (show s1.heap.IsTuple a its.toArray from p) ?_
  exact⟨s1.heap.objs.size,[s1.heap.objs.size],_,_,H1,rfl,I1.kept (t':=s1.toks) fun b o e=>Ji _ e,eY a _,⟨_,Jn _ rfl,rfl,rfl⟩,fpk,q⟩
end
section
variable{K:Frag}{a:Addr}{xs:List V}{g:TG}{tb:TS}{D:Ends}{σ:L2.St}{H:Hp}
abbrev ZA(J:It)(g:TG)(tb:TS)(D:Ends)(σ:L2.St)(H:Hp):Prop:=∃W:Nat->Nat->L2.St->Hp->Prop,(∃m,W 0 m σ H)/\∀i m σ H,W i m σ H->
      (J.stop i H/\D.nx σ H)\/(J.go i H/\∃N:L2.St->Hp->Prop,(∀σ' H',N σ' H'->∃m',m'<m/\W (i+1) m' σ' H')/\∀x H',J.yld i H x H'->g x σ H' fun σ2 H2=>tb {D with nx:=N,ct:=N,bk:=D.nx} σ2 H2)
theorem cE{J:It}{n:Nat}(Pv:Nat->L2.St->Hp->Prop)(h0:Pv 0 σ H)(hgo:∀i σ H,i<n->Pv i σ H->J.go i H)(hst:∀H,J.stop n H)
  (hs:∀i x σ H H',i<n->Pv i σ H->J.yld i H x H'->g x σ H' fun σ2 H2=>tb {D with nx:=Pv (i+1),ct:=Pv (i+1),bk:=D.nx} σ2 H2)(hd:∀σ H,Pv n σ H->D.nx σ H):ZA J g tb D σ H:=by
 refine⟨fun i m σ H=>m=n-i/\i<=n/\Pv i σ H,⟨n,by simp,JC _,h0⟩,?_⟩
 rintro i m σ H ⟨rfl,hi,p⟩
 by_cases hlt:i<n
 ·exact .inr ⟨hgo i σ H hlt p,Pv (i+1),fun σ' H' p'=>⟨n-(i+1),by omega,rfl,hlt,p'⟩,fun x H' y=>hs i x σ H H' hlt p y⟩
 ·have e:i=n:=by omega
  subst e;exact .inl ⟨hst H,hd σ H p⟩
theorem tJ(Pv:Nat->L2.St->Hp->Prop)(h0:Pv 0 σ H)(hl:∀i σ H,Pv i σ H->SqL K H a xs)
  (hs:∀i x σ H,i<xs.length->xs[xs.length-1-i]? =some x->Pv i σ H->g x σ H fun σ2 H2=>tb {D with nx:=Pv (i+1),ct:=Pv (i+1),bk:=D.nx} σ2 H2)(hd:∀σ H,Pv xs.length σ H->D.nx σ H):ZA (mP K a xs.length) g tb D σ H:=
 cE Pv h0 (fun i σ H hi p=>⟨hi,xs,hl i σ H p,rfl⟩) (fun _=>Jf _) (fun i x σ H H' hi p y=>by
  obtain⟨rfl,y⟩:=y;exact hs i x σ H' hi (y xs (hl i σ H' p)) p) hd
theorem tS(Pv:Nat->L2.St->Hp->Prop)(h0:Pv 0 σ H)(hl:∀i σ H,Pv i σ H->SqT K H a xs)
  (hs:∀i x σ H,i<xs.length->xs[xs.length-1-i]? =some x->Pv i σ H->g x σ H fun σ2 H2=>tb {D with nx:=Pv (i+1),ct:=Pv (i+1),bk:=D.nx} σ2 H2)(hd:∀σ H,Pv xs.length σ H->D.nx σ H):ZA (mL K a xs.length) g tb D σ H:=
 cE Pv h0 (fun i σ H hi p=>⟨hi,xs,hl i σ H p,rfl⟩) (fun _=>Jf _) (fun i x σ H H' hi p y=>by
  obtain⟨rfl,y⟩:=y;exact hs i x σ H' hi (y xs (hl i σ H' p)) p) hd
theorem sX{n:Nat}(Pv:Nat->L2.St->Hp->Prop)(h0:Pv 0 σ H)
  (hs:∀i σ H,i<n->Pv i σ H->g (.int ((n:Int)-1-i)) σ H fun σ2 H2=>tb {D with nx:=Pv (i+1),ct:=Pv (i+1),bk:=D.nx} σ2 H2)(hd:∀σ H,Pv n σ H->D.nx σ H):ZA (oA n) g tb D σ H:=
 cE Pv h0 (fun i σ H hi p=>hi) (fun _=>Jf _) (fun i x σ H H' hi p y=>by
  obtain⟨rfl,rfl⟩:=y;exact hs i σ H' hi p) hd
end
end L3
namespace L3
open PySem PySem.Spec L2
variable{X:Cx}
theorem pR{tg:Expr}{a:Expr}{ta:TA}{p pos:Pos}(hg:Gl X "reversed")(hm:X.mg "reversed"=none)(ha:QA X [a] ta)(hn:zK a=true:=by rfl):QI X tg (.Call (.Name "reversed" p) [a] [] pos) (yF X.K ta):=⟨Au (hg:=hg) (hm:=hm) (ha:=ha.h) (hn:=hn)⟩
theorem AE{tg:Expr}{l:Expr}{tl:TE}(hl:QE X l tl):QI X tg l (yd X.K tl):=⟨ye (hl:=hl.h)⟩
def af(x:Int):Prop:=0<=x/\x<16
def zu(r:List Int):Prop:=∀x∈r,af x
def vg(n i:Nat):Nat:=if i=0 then n-1 else i-1
def ah(r:List Int)(i:Nat):Int:=r.getD (vg r.length i) 0
def gl(t:List Int)(s:Int)(r:List Int)(i:Nat):List Int:=r.set i (t.getD ((r.getD i 0+s+i+ah r i)%16).toNat 0)
def dn(b:List Int)(s:Int)(r:List Int)(i:Nat):List Int:=r.set i ((b.getD (r.getD i 0).toNat 0-s-i-ah r i)%16)
def ZG(t:List Int)(s:Int)(r:List Int):Nat->List Int
 |0=>r
 |n+1=>gl t s (ZG t s r n) n
def ZW(b:List Int)(s:Int)(r:List Int):Nat->List Int
 |0=>r
 |n+1=>ZW b s (dn b s r n) n
def QJ(t:List Int):List Int->List Int->List Int
 | [],r=>r
 |s::ks,r=>QJ t ks (ZG t s r r.length)
def Q6(b:List Int):List Int->List Int->List Int
 | [],r=>r
 |s::ks,r=>ZW b s (Q6 b ks r) r.length
theorem tE{t:List Int}{s:Int}{r:List Int}{i:Nat}:(gl t s r i).length=r.length:=CD ..
theorem jl{b:List Int}{s:Int}{r:List Int}{i:Nat}:(dn b s r i).length=r.length:=CD ..
theorem Qx{t:List Int}{s:Int}{r:List Int}:∀{n:Nat},(ZG t s r n).length=r.length
 |0=>rfl
 |n+1=>by rw[ZG,tE,Qx]
theorem j0{b:List Int}{s:Int}:∀{n:Nat} {r:List Int},(ZW b s r n).length=r.length
 |0,_=>rfl
 |n+1,r=>by rw[ZW,j0,jl]
theorem aI{t:List Int}:∀{ks r:List Int},(QJ t ks r).length=r.length
 | [],_=>rfl
 |s::ks,r=>by rw[QJ,aI,Qx]
theorem dh{b:List Int}:∀{ks r:List Int},(Q6 b ks r).length=r.length
 | [],_=>rfl
 |s::ks,r=>by rw[Q6,j0,dh]
theorem jW{r:List Int}{i:Nat}{x:Int}(h:zu r)(hx:af x):zu (r.set i x):=fun y hy=>by
 rcases List.mem_or_eq_of_mem_set hy with z|z
 ·exact h y z
 ·rw[z];exact hx
theorem ZR(x:Int):af (x%16):=⟨Ce _ (by decide),Cf _ (by decide)⟩
theorem gm{r:List Int}(h:zu r)(i:Nat):af (r.getD i 0):=by
 rw[JF]
 by_cases hi:i<r.length
 ·rw[Jl hi];exact h _ (Ca hi)
 ·rw[DI (by omega)];exact⟨by decide,by decide⟩
theorem sQ{t:List Int}(p:t.Perm digs):zu t:=fun x hx=>jm (p.mem_iff.mp hx)
theorem uP{t:List Int}(p:t.Perm digs){s:Int}{r:List Int}{i:Nat}(h:zu r):zu (gl t s r i):=jW h (gm (sQ p) _)
theorem kH{b:List Int}{s:Int}{r:List Int}{i:Nat}(h:zu r):zu (dn b s r i):=jW h (ZR _)
theorem aO{t:List Int}(p:t.Perm digs){s:Int}{r:List Int}(h:zu r):∀{n:Nat},zu (ZG t s r n)
 |0=>h
 |n+1=>uP p (aO p h)
theorem jo{b:List Int}{s:Int}:∀{n:Nat} {r:List Int},zu r->zu (ZW b s r n)
 |0,_,h=>h
 |n+1,_,h=>jo (n:=n) (kH h)
theorem j6{t:List Int}(p:t.Perm digs):∀{ks r:List Int},zu r->zu (QJ t ks r)
 | [],_,h=>h
 |s::ks,_,h=>j6 (ks:=ks) p (aO p h)
theorem jK{b:List Int}:∀{ks r:List Int},zu r->zu (Q6 b ks r)
 | [],_,h=>h
 |s::ks,_,h=>jo (jK (ks:=ks) h)
theorem iG{r:List Int}{i:Nat}{x:Int}(h:i<r.length):(r.set i x).getD i 0=x:=by
 rw[JF,Dn h];rfl
theorem k7{r:List Int}{i j:Nat}{x:Int}(h:i≠j):(r.set i x).getD j 0=r.getD j 0:=by
 rw[JF,Do h,<- JF]
theorem AR{n i:Nat}(h2:2<=n)(hi:i<n):i≠vg n i:=by unfold vg;split<;>omega
theorem yI{r:List Int}{i:Nat}{x:Int}(h2:2<=r.length)(hi:i<r.length):ah (r.set i x) i=ah r i:=by
 unfold ah;rw[CD,k7 (AR h2 hi)]
theorem uT{r:List Int}{i:Nat}(hi:i<r.length):r.set i (r.getD i 0)=r:=by
 rw[JF,Jl hi];exact List.set_getElem_self hi
theorem tF{t:List Int}(p:t.Perm digs){z:Int}(h:af z):(zw t).getD (t.getD z.toNat 0).toNat 0=z:=by
 have hz:z.toNat<t.length:=by rw[ma p];have:=h.1;have:=h.2;omega
 have e:t.getD z.toNat 0=t[z.toNat]:=by rw[JF,Jl hz];rfl
 have bd:=j8 p hz;have hb:t[z.toNat].toNat<(zw t).length:=by rw[ab];omega
 rw[e,JF,Jl hb,CU,wu p (by rw[ab]at hb;exact hb)]
 have e2:((t[z.toNat].toNat:Nat):Int)=t[z.toNat]:=by omega
 rw[e2,rh p hz]
 have:=h.1
 omega
theorem t8{t:List Int}(p:t.Perm digs){s:Int}{r:List Int}{i:Nat}(hr:zu r)(h2:2<=r.length)(hi:i<r.length):dn (zw t) s (gl t s r i) i=r:=by
 unfold dn gl;rw[iG hi,yI h2 hi,List.set_set,tF p (ZR _)];have hd:=gm hr i;have e:((r.getD i 0+s+i+ah r i)%16-s-i-ah r i)%16=r.getD i 0:=by
  have:=hd.1
  have:=hd.2
  omega
 rw[e,uT hi]
theorem i4{t:List Int}(p:t.Perm digs){s:Int}{r:List Int}(hr:zu r)(h2:2<=r.length):∀{n:Nat},n<=r.length->ZW (zw t) s (ZG t s r n) n=r
 |0,_=>rfl
 |n+1,hn=>by
  rw[ZG,ZW,t8 p (aO p hr) (by rw[Qx];exact h2) (by rw[Qx];omega)]
  exact i4 p hr h2 (by omega)
theorem j7{t:List Int}(p:t.Perm digs):∀{ks r:List Int},zu r->2<=r.length->Q6 (zw t) ks (QJ t ks r)=r
 | [],_,_,_=>rfl
 |s::ks,r,hr,h2=>by
  rw[Q6,QJ,j7 p (aO p hr) (by rw[Qx];exact h2),aI,Qx,i4 p hr h2 (Jf _)]
theorem jZ(t:List Int):∀(ks:List Int) (s:Int) (r:List Int),QJ t (ks++[s]) r=ZG t s (QJ t ks r) r.length
 | [],_,_=>rfl
 |a::ks,s,r=>by rw[List.cons_append,QJ,jZ t ks s,QJ,Qx]
def Sq(K:Frag)(H:Hp)(a:Addr)(xs:List V):Prop:=SqL K H a xs\/SqT K H a xs
theorem Sq.same{K:Frag}{H H':Hp}{a:Addr}{xs:List V}(e:Same H H')(h:Sq K H a xs):Sq K H' a xs:=h.elim (fun h=> .inl (e.seq h)) fun h=> .inr (Same.sqt e h)
theorem Sq.lst{K:Frag}{H:Hp}{a:Addr}{xs:List V}(h:H a=some (.lst xs)):Sq K H a xs:= .inl (SqL.of h)
theorem Sq.tup{K:Frag}{H:Hp}{a:Addr}{xs:List V}(h:H a=some (.tup xs)):Sq K H a xs:= .inr (SqT.of h)
def gG(K:Frag):Sp:=fun vs H Q _=>∃(a b c:Addr) (t ks ds:List Int),vs=[.ref a,.ref b,.ref c]/\Sq K H a (t.map V.int)/\Sq K H b (ks.map V.int)/\Sq K H c (ds.map V.int)/\t.length=16/\1<=ds.length/\ds.length<64/\
 ∀p H',Same H H'->H p=none->H' p=some (.tup ((QJ t ks ds).map V.int))->Q (.ref p) H'
def gY(K:Frag):Sp:=fun vs H Q _=>∃(a b c:Addr) (t ks ds:List Int),vs=[.ref a,.ref b,.ref c]/\Sq K H a (t.map V.int)/\Sq K H b (ks.map V.int)/\Sq K H c (ds.map V.int)/\t.Perm digs/\zu ds/\1<=ds.length/\ds.length<64/\
 ∀p H',Same H H'->H p=none->H' p=some (.tup ((Q6 (zw t) ks ds).map V.int))->Q (.ref p) H'
theorem Z4{r:List Int}{i:Nat}{z:Int}(e:z=(i:Int))(h:i<r.length):QQ (r.map V.int) z=some (.int (r.getD i 0)):=by
 rw[wU e (gf h),JF,Jl h];rfl
theorem si{r:List Int}{i:Nat}{z:Int}(e:z=(i:Int)-1)(h:i<r.length):QQ (r.map V.int) z=some (.int (ah r i)):=by
 subst e;unfold ah vg
 by_cases h0:i=0
 ·subst h0
  rw[Jd rfl];have hl:r.length-1<r.length:=by omega
  unfold QQ bw;rw[Je,Jc (by omega),Jd (by omega)]
  have e2:((((0:Nat):Int)-1)+(r.length:Int)).toNat=r.length-1:=by omega
  show(r.map V.int)[((((0:Nat):Int)-1)+(r.length:Int)).toNat]? =_
  rw[e2,gf hl,JF,Jl hl];rfl
 ·rw[Jc h0]
  exact Z4 (by omega) (by omega)
theorem Sq.ix{K:Frag}{H:Hp}{a:Addr}{xs:List V}{i:Int}{v:V}{Q:VK}(h:Sq K H a xs)(e:QQ xs i=some v)(q:Q v H):xg K (.ref a) (.int i) H Q\/uM K (.ref a) (.int i) H Q:=
 h.elim (fun h=> .inl ⟨a,xs,i,v,rfl,rfl,h,e,q⟩) fun h=> .inr ⟨a,xs,i,v,rfl,rfl,h,e,q⟩
section
variable{K:Frag}{a:Addr}{xs:List V}{g:TG}{tb:TS}{D:Ends}{σ:L2.St}{H H0:Hp}
theorem wx(hq:Sq K H0 a xs)(Pv:Nat->L2.St->Hp->Prop)(h0:Pv 0 σ H)(hk:∀i σ' H',Pv i σ' H'->Same H0 H')
  (hs:∀i x σ H,xs[i]? =some x->Pv i σ H->g x σ H fun σ2 H2=>tb {D with nx:=Pv (i+1),ct:=Pv (i+1),bk:=D.nx} σ2 H2)(hd:∀σ H,Pv xs.length σ H->D.nx σ H):
  ((∃xs,SqL K H a xs)/\ZA (fU K a) g tb D σ H)\/((∃xs,SqT K H a xs)/\ZA (ig K a) g tb D σ H):=by
 rcases hq with hq|hq
 ·exact .inl ⟨⟨xs,(hk _ _ _ h0).seq hq⟩,zN Pv h0 (fun i σ H _ p=>(hk i σ H p).seq hq) hs hd⟩
 ·exact .inr ⟨⟨xs,Same.sqt (hk _ _ _ h0) hq⟩,lC Pv h0 (fun i σ H _ p=>Same.sqt (hk i σ H p) hq) hs hd⟩
theorem uu(hq:Sq K H0 a xs)(Pv:Nat->L2.St->Hp->Prop)(h0:Pv 0 σ H)(hk:∀i σ' H',Pv i σ' H'->Same H0 H')
  (hs:∀i x σ H,i<xs.length->xs[xs.length-1-i]? =some x->Pv i σ H->g x σ H fun σ2 H2=>tb {D with nx:=Pv (i+1),ct:=Pv (i+1),bk:=D.nx} σ2 H2)(hd:∀σ H,Pv xs.length σ H->D.nx σ H):
  (∃xs,SqL K H a xs/\ZA (mP K a xs.length) g tb D σ H)\/(∃xs,SqT K H a xs/\ZA (mL K a xs.length) g tb D σ H)\/(∃n:Nat,H a=some (.rng 0 n)/\(n:Int)<2 ^ 62/\ZA (oA n) g tb D σ H):=by
 rcases hq with hq|hq
 ·exact .inl ⟨xs,(hk _ _ _ h0).seq hq,tJ Pv h0 (fun i σ H p=>(hk i σ H p).seq hq) hs hd⟩
 ·exact .inr (.inl ⟨xs,Same.sqt (hk _ _ _ h0) hq,tS Pv h0 (fun i σ H p=>Same.sqt (hk i σ H p) hq) hs hd⟩)
end
theorem Zm{H H2:Hp}{l:Addr}{o:HO}(s:Same H H2)(h:H l=none):Same H (upd H2 l o):=fun d u e=>by
 rw[qp (qi e h)];exact s _ _ e
theorem gA{ks:List Int}{j:Nat}{s:Int}(h:ks[j]? =some s):ks.take (j+1)=ks.take j++[s]:=by rw[J5,h];rfl
theorem sE{ks:List Int}{j:Nat}{s:Int}(h:ks[j]? =some s):ks.drop j=s::ks.drop (j+1):=by
 obtain⟨hj,e⟩:=Js.mp h;rw[List.drop_eq_getElem_cons hj,e]
inductive Eqd (H:Hp):Nat->V->V->Prop where
 |int (n:Nat) (i:Int):Eqd H n (.int i) (.int i)
 |str (n:Nat) (x:Str):Eqd H n (.str x) (.str x)
 |non (n:Nat):Eqd H n .non .non
 |bl (n:Nat) (b:Bool):Eqd H n (.bl b) (.bl b)
 | tup {n:Nat} {a b:Addr} {xs ys:List V} (h1:Rd H a (.tup xs)) (h2:Rd H b (.tup ys)) (hl:xs.length=ys.length)
   (hi:∀(i:Nat) (x y:V),xs[i]? =some x->ys[i]? =some y->Eqd H n x y):Eqd H (n+1) (.ref a) (.ref b)
 | lst {n:Nat} {a b:Addr} {xs ys:List V} (h1:H a=some (.lst xs)) (h2:H b=some (.lst ys)) (hl:xs.length=ys.length)
   (hi:∀(i:Nat) (x y:V),xs[i]? =some x->ys[i]? =some y->Eqd H n x y):Eqd H (n+1) (.ref a) (.ref b)
theorem aD(n:Nat):((List.range n).all fun _=>true)=true:=by simp
section
open SeqAt
variable{DK:List (Addr×Obj)}{σ:L2.St}{H:Hp}{s:Shared}
theorem zL{xs:List V}{us:List Value}(r:Vals xs us){j:Nat}(h:j<us.length):∃x,xs[j]? =some x/\RelV x us[j]:=by
 have hl:=r.length;have hj:j<xs.length:=by omega
 obtain⟨u,hu,ru⟩:=r.get (Jl hj)
 rw[Jl h]at hu;cases hu
 exact⟨_,Jl hj,ru⟩
theorem pX(I:L2.Inv X DK σ H s){n:Nat}{x y:V}(h:Eqd H n x y):∀{v u:Value} {A:Around},RelV x v->RelV y u->A.units+n<cLine->EqAt A s v u true:=by
 induction h with
 |int n i=>rintro v u A ⟨t,rfl⟩ ⟨t',rfl⟩ _;have:=EqAt.int_int (A:=A) (s:=s) i t i t';rwa [B1]at this
 |str n z=>rintro v u A ⟨t,rfl⟩ ⟨t',rfl⟩ _;have:=EqAt.str_str (A:=A) (s:=s) z t z t';rwa [B1]at this
 |non n=>
  intro v u A r1 r2 _
  cases(show v=Value.none from r1)
  cases(show u=Value.none from r2)
  exact EqAt.same _
 |bl n b=>
  intro v u A r1 r2 _
  cases(show v=Value.bool b from r1)
  cases(show u=Value.bool b from r2)
  exact EqAt.same _
 | @tup n a b xs ys h1 h2 hl _ ih=>
  intro v u A r1 r2 hu
  cases(show v=Value.ref a from r1)
  cases(show u=Value.ref b from r2)
  by_cases hab:a=b
  ·rw[hab];exact EqAt.same _
  ·obtain⟨its,q1,p1,_⟩:=I.tuple (.inl h1)
   obtain⟨its2,q2,p2,_⟩:=I.tuple (.inl h2)
   have l1:=q1.length;have l2:=q2.length;have e:=RcAt.tuples (A:=A) (e:=fun _=>true) (show s.heap.IsTuple a its.toArray from p1) (show s.heap.IsTuple b its2.toArray from p2) (by omega) (fun j z1 z2=>by
    obtain⟨x,ex,rx⟩:=zL q1 (j:=j) (by simpa using z1)
    obtain⟨y,ey,ry⟩:=zL q2 (j:=j) (by simpa using z2)
    exact ih j x y ex ey rx ry (by rw[C2];omega))
   rw[aD,show(its.toArray.size==its2.toArray.size)=true by simp;omega]at e
   exact EqAt.of_refs hab e
 | @lst n a b xs ys h1 h2 hl _ ih=>
  intro v u A r1 r2 hu
  cases(show v=Value.ref a from r1)
  cases(show u=Value.ref b from r2)
  by_cases hab:a=b
  ·rw[hab];exact EqAt.same _
  ·obtain⟨its,q1,p1,_⟩:=I.list (SqL.of h1)
   obtain⟨its2,q2,p2,_⟩:=I.list (SqL.of h2)
   have l1:=q1.length;have l2:=q2.length;have e:=RcAt.lists (A:=A) (e:=fun _=>true) p1.isList p2.isList (by simp;omega) (by omega) (fun j z1 z2=>by
    obtain⟨x,ex,rx⟩:=zL q1 (j:=j) (by simpa using z1)
    obtain⟨y,ey,ry⟩:=zL q2 (j:=j) (by simpa using z2)
    exact ih j x y ex ey rx ry (by rw[C2];omega))
   rw[aD]at e;exact EqAt.of_refs hab e
theorem xx(I:L2.Inv X DK σ H s){n:Nat}{x y:V}{v u:Value}{A:Around}(h:Eqd H n x y)(r1:RelV x v)(r2:RelV y u)(hu:A.units+n<cLine):RcAt A s v u true/\RcNeAt A s v u false:=by
 cases h with
 |int n i=>
  obtain⟨t,rfl⟩:=r1;obtain⟨t',rfl⟩:=r2;have e1:=RcAt.int_int (A:=A) (s:=s) i t i t'
  have e2:=RcNeAt.int_int (A:=A) (s:=s) i t i t'
  rw[B1]at e1 e2
  exact⟨e1,e2⟩
 |str n z=>
  obtain⟨t,rfl⟩:=r1;obtain⟨t',rfl⟩:=r2;have e1:=RcAt.str_str (A:=A) (s:=s) z t z t'
  have e2:=RcNeAt.str_str (A:=A) (s:=s) z t z t'
  rw[B1]at e1 e2
  exact⟨e1,e2⟩
 |non n=>
  cases(show v=Value.none from r1)
  cases(show u=Value.none from r2)
  exact⟨RcAt.none_none,RcNeAt.none_none⟩
 |bl n b=>
  cases(show v=Value.bool b from r1)
  cases(show u=Value.bool b from r2)
  have e1:=RcAt.bool_bool (A:=A) (s:=s) b b
  have e2:=RcNeAt.bool_bool (A:=A) (s:=s) b b
  rw[B1]at e1 e2
  exact⟨e1,e2⟩
 | @tup n a b xs ys h1 h2 hl ih=>
  cases(show v=Value.ref a from r1)
  cases(show u=Value.ref b from r2)
  obtain⟨its,q1,p1,_⟩:=I.tuple (.inl h1)
  obtain⟨its2,q2,p2,_⟩:=I.tuple (.inl h2)
  have l1:=q1.length;have l2:=q2.length;have he:∀j (z1:j<its.toArray.size) (z2:j<its2.toArray.size),EqAt A.in1 s its.toArray[j] its2.toArray[j] ((fun _=>true) j):=fun j z1 z2=>by
   obtain⟨x,ex,rx⟩:=zL q1 (j:=j) (by simpa using z1)
   obtain⟨y,ey,ry⟩:=zL q2 (j:=j) (by simpa using z2)
   exact pX I (ih j x y ex ey) rx ry (by rw[C2];omega)
  have e1:=RcAt.tuples (A:=A) (e:=fun _=>true) (show s.heap.IsTuple a its.toArray from p1) (show s.heap.IsTuple b its2.toArray from p2) (by omega) he
  have e2:=RcNeAt.tuples (A:=A) (e:=fun _=>true) (show s.heap.IsTuple a its.toArray from p1) (show s.heap.IsTuple b its2.toArray from p2) (by omega) he
  rw[aD,show(its.toArray.size==its2.toArray.size)=true by simp;omega]at e1 e2
  exact⟨e1,e2⟩
 | @lst n a b xs ys h1 h2 hl ih=>
  cases(show v=Value.ref a from r1)
  cases(show u=Value.ref b from r2)
  obtain⟨its,q1,p1,_⟩:=I.list (SqL.of h1)
  obtain⟨its2,q2,p2,_⟩:=I.list (SqL.of h2)
  have l1:=q1.length;have l2:=q2.length;have he:∀j (z1:j<its.toArray.size) (z2:j<its2.toArray.size),EqAt A.in1 s its.toArray[j] its2.toArray[j] ((fun _=>true) j):=fun j z1 z2=>by
   obtain⟨x,ex,rx⟩:=zL q1 (j:=j) (by simpa using z1)
   obtain⟨y,ey,ry⟩:=zL q2 (j:=j) (by simpa using z2)
   exact pX I (ih j x y ex ey) rx ry (by rw[C2];omega)
  have e1:=RcAt.lists (A:=A) (e:=fun _=>true) p1.isList p2.isList (by simp;omega) (by omega) he
  have e2:=RcNeAt.lists (A:=A) (e:=fun _=>true) p1.isList p2.isList (by simp;omega) (by omega) he
  rw[aD]at e1 e2
  exact⟨e1,e2⟩
def Bq(b:Bool):R2:=fun x y H Q=>∃n,n<=32/\Eqd H n x y/\Q (.bl b) H
theorem xi{k:Nat}(hr:Room k X.A):zv X (compareOp .NotEq) (Bq false):=by
 intro DK s σ H x y v u Q I rx ry h;obtain⟨n,hn,e,q⟩:=h
 exact(xx I e rx ry (by have:=hr.un;omega)).2 _ _ _ _ ⟨.bl _,H,I,rfl,q⟩
end
end L3
namespace L3
open PySem PySem.Spec PyProof.Rows L2
open Sem (wp)
def vy(x:Str):It:=⟨fun i _=>i<x.cps.size,fun i H v H'=>H'=H/\∃c,x.cps[i]? =some c/\v= .str ⟨#[c]⟩,fun i _=>x.cps.size<=i⟩
theorem tL{P:Program}{w:World}{K:Frag}{tg:Expr}(it:Addr)(x:Str)(t:Tok):Turn P w K tg (vy x) [it] it (fun i h=>h.IsStrIter it "str_ascii_iterator" x t i) where
 mem:=by simp
 obj:=fun i h st b hb=>by
  have e:b=it:=by simpa using hb
  subst e;obtain⟨o,e,c,d⟩:=st
  exact⟨o,e,fun v z=>by rw[d]at z;cases z⟩
 keep:=fun i h h' st k=>let⟨o,e,r⟩:=st;⟨o,k it (by simp) o e,r⟩
 item:=by
  intro X hP hw hK hc i DK s σ H E I hf st hg;subst hP hw hK;obtain⟨f0,f1,f2,f3,f4,f5⟩:=hf it (by simp)
  have W:=Walks.strAscii (prog:=X.prog) (w:=X.w) (I.ok.hd hc) it x t
  refine W.item i s _ _ hg st fun v h' tk hv st' kk=>?_
  obtain⟨c,u,hc',rfl⟩:=hv;have I1:L2.Inv X DK σ H {s with heap:=h',toks:=tk}:=I.turned (fun b o hb e=>kk b o (by simpa using hb) e) f0 f1 f3 f4 f5
  obtain⟨o,e,cc,d⟩:=id st'
  exact⟨_,rfl,aJ (s:={s with heap:=h',toks:=tk}) e cc d (by decide) ⟨.str ⟨#[c]⟩,H,I1,⟨u,rfl⟩,⟨rfl,c,hc',rfl⟩,st',fun b hb=>(hf b hb).1⟩⟩
 done:=by
  intro X hP hw hK hc i DK s σ H E I hf st hg;subst hP hw hK;obtain⟨f0,f1,f2,f3,f4,f5⟩:=hf it (by simp)
  have hg':x.cps.size<=i:=hg
  exact wpAny_pyNext_ascii_end (I.ok.hd hc) st (by simp [hg']) fun h' eb=>⟨rfl,I.turned (t':=s.toks) (fun b o hb e=>eb b o hb e) f0 f1 f3 f4 f5⟩
 self:=fun _ _ _ _ _ st h=>wpAny_pyIter_striter_ascii st h
section
variable{X:Cx}{tg:Expr}
def Ah(tl:TE):TI:=fun σ H R=>tl σ H fun v H1=>∃x,v= .str x/\x.cps.all (· <128)=true/\R (vy x) H1
theorem yV{l:Expr}{tl:TE}(hl:PE X l tl):PI X tg l (Ah tl):=by
 intro DK s σ H R I h;refine qD (hl DK s σ H _ I h) fun v s1 zq=>?_
 obtain⟨x,H1,I1,r1,q1⟩:=zq;obtain⟨z,rfl,ha,q⟩:=q1;obtain⟨t,rfl⟩:=r1;refine wpAny_pyIter_ascii ha ?_
 refine⟨s1.heap.objs.size,[s1.heap.objs.size],_,_,H1,rfl,I1.kept (t':=s1.toks) fun b o e=>Ji _ e,tL _ z t,⟨_,Jn _ rfl,rfl,rfl⟩,fun b hb=>?_,q⟩
 rw[Jg.mp hb];exact I1.fpOk (Jf _) (I1.hok.fresh (Jf _))
theorem rb{l:Expr}{tl:TE}(hl:QE X l tl):QI X tg l (Ah tl):=⟨yV hl.h⟩
end
theorem wj{x:Str}{g:TG}{tb:TS}{D:Ends}{σ:L2.St}{H:Hp}(Pv:Nat->L2.St->Hp->Prop)(h0:Pv 0 σ H)
  (hs:∀i c σ H,x.cps[i]? =some c->Pv i σ H->g (.str ⟨#[c]⟩) σ H fun σ2 H2=>tb {D with nx:=Pv (i+1),ct:=Pv (i+1),bk:=D.nx} σ2 H2)(hd:∀σ H,Pv x.cps.size σ H->D.nx σ H):ZA (vy x) g tb D σ H:=
 cE Pv h0 (fun i σ H hi p=>hi) (fun _=>Jf _) (fun i v σ H H' hi p y=>by
  obtain⟨rfl,c,hc,rfl⟩:=y;exact hs i c σ H' hc p) hd
section
variable{X:Cx}{o e:Expr}{es:List Expr}{to:TE}{t:TA}{name:Str}{apos cpos:Pos}{T id:String}{r:V->List V->Hp->VK->Prop}
theorem Zz(pa:PlainAttrs T)(slot:Slot T name id)(hty:typeOf (.builtin id)=pure (.type "method_descriptor"))(hm:il X id r)(ho:QE X o to)(ha:QA X (e::es) t)
  (hbase:attributeBase o name X.env (eval o X.env)=eval o X.env:=by rfl)
  (hfew:((backTo cpos (starEach (e::es) X.env)).all (fun x=> !x.1)&&(backToKw cpos (keywordEach [] X.env)).all (fun x=>x.1.isSome)
   &&decide ((e::es).length+([]:List Keyword).length+(if([]:List Keyword).isEmpty then 0 else 1)<30))=true:=by rfl)
  (hline:(apos.endLine==cpos.line)=true:=by rfl)(hs:starEach (e::es) X.env=(false,eval e X.env)::starEach es X.env:=by rfl)(hplain:(backTo cpos (starEach es X.env)).any (·.1)=false:=by rfl):
  QE X (.Call (.Attribute o name apos) (e::es) [] cpos) (xb X.K T r to t):=⟨AK pa slot hty hm ho.h ha.h hbase hfew hline hs hplain⟩
theorem zX:il X "list.append" lI:=pL
theorem lD:∀{ys:List Str} {us:List Value},Vals (ys.map V.str) us->StrsAre us ys
 | [],_,.nil=> .nil
 |y::ys,_,.cons r t=>by
  obtain⟨u,rfl⟩:=(show∃u,_=Value.str y u from r)
  exact .cons _ _ (lD t)
end
theorem au(ns:List Int):∀n,n<=ns.length->preSum (fun i=>ns.getD i 0) n=(ns.take n).sum
 |0,_=>by simp [preSum]
 |n+1,h=>by
  have hn:n<ns.length:=by omega
  rw[preSum,au ns n (by omega),J5,Jl hn,Option.toList_some,List.sum_append,JF,Jl hn]
  simp
theorem sA{B:Int}:∀{ns:List Int},(∀z∈ns,0<=z/\z<=B)->0<=ns.sum/\ns.sum<=ns.length*B
 | [],_=>⟨by simp,by simp⟩
 |n::r,h=>by
  have h1:=h n JE;have h2:=sA (ns:=r) fun z hz=>h z (JJ _ hz)
  rw[List.sum_cons,BM];refine⟨by omega,?_⟩
  have:(((r.length+1:Nat):Int))*B=r.length*B+B:=by rw[Int.natCast_add,Int.add_mul];simp
  omega
section
variable{X:Cx}
theorem pM(hc:X.calm=true):zg X (.builtin "sum") (fun xs H Q=>∃(p:Addr) (ns:List Int),xs=[.ref p]/\Sq X.K H p (ns.map V.int)/\ns.length<=1000/\(∀z∈ns,0<=z/\z<=1000000)/\Q (.int ns.sum) H):=by
 intro DK s σ H xs us Q I r h;obtain⟨p,ns,rfl,hq,hl,hb,q⟩:=h;obtain⟨u,rfl,ru⟩:=zW r;cases ru;have bd:∀n,n<=ns.length->0<=preSum (fun i=>ns.getD i 0) n/\preSum (fun i=>ns.getD i 0) n<=1000000000:=fun n hn=>by
  rw[au ns n hn];have h1:=sA (B:=1000000) (ns:=ns.take n) fun z hz=>hb z (List.mem_of_mem_take hz)
  have h2:(ns.take n).length<=1000:=by rw[BS];omega
  omega
 have fit:∀j,j<ns.length->InLong ((fun i=>ns.getD i 0) j)/\InLong (preSum (fun i=>ns.getD i 0) (j+1)):=fun j hj=>by
  have b1:=bd (j+1) (by omega)
  have b2:0<=ns.getD j 0/\ns.getD j 0<=1000000:=by
   rw[JF,Jl hj];exact hb _ (Ca hj)
  unfold InLong;simp only
  omega
 have eS:preSum (fun i=>ns.getD i 0) ns.length=ns.sum:=by rw[au ns _ (Jf _),B0]
 have val:∀{its:List Value},Vals (ns.map V.int) its->∀(i:Nat) (v:Value),its.toArray[i]? =some v->∃t,v= .int ((fun i=>ns.getD i 0) i) t:=fun{its} rv i v hv=>by
  have hv':its[i]? =some v:=by simpa using hv
  have hi:i<its.length:=(Js.mp hv').1
  obtain⟨x,ex,rx⟩:=zL rv hi;obtain⟨z,rfl,hz⟩:=Ql ex;obtain⟨t,ht⟩:=rx;refine⟨t,?_⟩
  rw[(Js.mp hv').2]at ht;rw[ht]
  show Value.int z t=Value.int (ns.getD i 0) t
  rw[JF,hz];rfl
 rcases hq with hq|hq
 ·obtain⟨its,rv,pl,hz⟩:=I.list hq
  have hlen:ns.length=its.length:=by have:=rv.length;rwa [Je]at this
  have hlt:p<s.heap.objs.size:=by obtain⟨_,e,_⟩:=pl.isList;exact Jh e
  refine call_sum_walk (CN pl.isList ?_)
  refine⟨s.heap.objs.size,[s.heap.objs.size,p],[s.heap.objs.size],its.toArray.size,_,_,fun i=>ns.getD i 0,rfl,Walks.list (A:=X.A.in1) (I.ok.hd hc) _ p (Jm hlt) its.toArray,
   ⟨⟨_,Jn _ rfl,rfl,rfl⟩,pl.isList.push _⟩,fun b hb'=>?_,val rv,fun j hj=>fit j (by simp at hj;omega),fun h' tk t' hk=>?_⟩
  ·have sz:(s.heap.push {cls:= .type "list_iterator",data:= .fields #[.ref p,.int 0 0]}).objs.size=s.heap.objs.size+1:=JR ..
   simp only[Jj,Jp,Jq]at hb'
   show b<(Heap.push s.heap _).objs.size
   rw[JR];rcases hb' with rfl|rfl
   ·exact BX _
   ·exact B9 hlt
  ·have e2:preSum (fun i=>ns.getD i 0) its.toArray.size=ns.sum:=by rw[Jt,<- hlen];exact eS
   rw[e2];refine⟨.int _,H,I.kept (h':=h') (t':=tk) fun b o q=>hk b o (fun hm=>?_) (Ji _ q),⟨_,rfl⟩,q⟩
   rw[Jg.mp hm]at q;exact JU _ (Jh q)
 ·obtain⟨its,rv,pl,hz⟩:=I.tuple hq
  have hlen:ns.length=its.length:=by have:=rv.length;rwa [Je]at this
  have hT:s.heap.IsTuple p its.toArray:=pl
  have hlt:p<s.heap.objs.size:=by obtain⟨_,e,_⟩:=hT;exact Jh e
  refine call_sum_walk (Cm hT ?_)
  refine⟨s.heap.objs.size,[s.heap.objs.size,p],[s.heap.objs.size],its.toArray.size,_,_,fun i=>ns.getD i 0,rfl,Walks.tuple (A:=X.A.in1) (I.ok.hd hc) _ p (Jm hlt) its.toArray,
   ⟨⟨_,Jn _ rfl,rfl,rfl⟩,let⟨o,e,r⟩:=hT;⟨o,Ji _ e,r⟩⟩,fun b hb'=>?_,val rv,fun j hj=>fit j (by simp at hj;omega),fun h' tk t' hk=>?_⟩
  ·simp only[Jj,Jp,Jq]at hb'
   show b<(Heap.push s.heap _).objs.size
   rw[JR];rcases hb' with rfl|rfl
   ·exact BX _
   ·exact B9 hlt
  ·have e2:preSum (fun i=>ns.getD i 0) its.toArray.size=ns.sum:=by rw[Jt,<- hlen];exact eS
   rw[e2];refine⟨.int _,H,I.kept (h':=h') (t':=tk) fun b o q=>hk b o (fun hm=>?_) (Ji _ q),⟨_,rfl⟩,q⟩
   rw[Jg.mp hm]at q;exact JU _ (Jh q)
end
end L3
namespace L3
open PySem PySem.Spec PyProof.Rows L2
section
variable{X:Cx}
theorem uJ:sP X (fun x y H Q=>∃(p:Addr) (xs:List V) (i:Nat) (v:V),x= .ref p/\y= .int (i:Int)/\H p=some (.lst xs)/\xs[i]? =some v/\Q v H):=by
 intro DK s σ H o i ov iv Q I r1 r2 h;obtain⟨p,xs,j,v,rfl,rfl,hH,hv,q⟩:=h;cases r1;obtain⟨t,rfl⟩:=r2;obtain⟨its,r,pl,hz⟩:=I.list (SqL.of hH)
 obtain⟨u,hu,ru⟩:=r.get hv;have hl:=r.length;have hn:=ZC;have hj:j<xs.length:=(Js.mp hv).1
 exact wpAny_getItem_list pl.isList (by omega) (by omega) (by simpa using hu) ⟨v,H,I,ru,q⟩
end
def zT(z:Str):Prop:=(∀c∈z.cps.toList,97<=c/\c<=122)/\1<=z.cps.toList.length/\z.cps.toList.length<=8
theorem kK{z:Str}(h:zT z):z.cps.all (· <128)=true:=by
 rw[Array.all_eq_true'];intro c hc
 have:=h.1 c (by simpa using hc)
 simp;omega
def sV(c:Nat):List Int:=[((c:Int)-97)%16,((c:Int)-97)/16]
def QY(cs:List Nat):List Int:=cs.flatMap sV
theorem rW(cs:List Nat)(c:Nat):QY (cs++[c])=QY cs++sV c:=by simp [QY]
theorem iy(cs:List Nat):(QY cs).length=2*cs.length:=by
 induction cs with
 |nil=>rfl
 |cons c r ih=>simp only[QY,List.flatMap_cons,Jx,BM]at ih⊢;rw[ih];simp [sV];omega
def fW(ds:List Int)(j:Nat):Nat->Int
 |0=>0
 |n+1=>fW ds j n+if n%4=j then ds.getD n 0 else 0
def Zy(ds:List Int)(n:Nat):List Int:=[fW ds 0 n,fW ds 1 n,fW ds 2 n,fW ds 3 n]
theorem sH(ds:List Int)(n:Nat):(Zy ds n).set (n%4) ((Zy ds n).getD (n%4) 0+ds.getD n 0)=Zy ds (n+1):=by
 have h:n%4=0\/n%4=1\/n%4=2\/n%4=3:=by omega
 rcases h with h|h|h|h<;>simp [Zy,fW,h]
def av(ds:List Int):List Int:=(Zy ds ds.length).map (· %16)
theorem i8(ds:List Int):(av ds).length=4:=rfl
def ir:Sp:=fun vs H Q _=>∃z,vs=[.str z]/\zT z/\∀l H',Same H H'->H l=none->H' l=some (.lst ((QY z.cps.toList).map V.int))->Q (.ref l) H'
def gq(K:Frag):Sp:=fun vs H Q _=>∃(a b:Addr) (z:Str) (t ks:List Int),vs=[.ref a,.ref b,.str z]/\Sq K H a (t.map V.int)/\Sq K H b (ks.map V.int)/\zT z/\t.length=16/\
 ∀p H',Same H H'->H p=none->H' p=some (.tup ((QJ t ks (av (QY z.cps.toList))).map V.int))->Q (.ref p) H'
theorem wq{cs:List Nat}{i c:Nat}(h:cs[i]? =some c):cs.take (i+1)=cs.take i++[c]:=by rw[J5,h];rfl
theorem mf{z:Str}{i c:Nat}(h:z.cps[i]? =some c):z.cps.toList[i]? =some c:=by simpa using h
theorem tO{X:Cx}{scope:Scope}{y z:Str}{j k:Nat}(kind:scope.kind= .function)(names:∀x∈scope.names,x.2= .local->scope.names.lookup x.1=some .local)(nocell:∀x∈scope.names,x.2≠ .cell)
  (free:∀x∈scope.names,x.2= .free->x.1∈([y,z]:List Str))(h1:X.N[j]? =some y)(h2:X.env.kindOf y=some .cell)(h3:(relabel scope X.env).names.lookup y=some .cell)
  (g1:X.N[k]? =some z)(g2:X.env.kindOf z=some .cell)(g3:(relabel scope X.env).names.lookup z=some .cell):BScope X scope [y,z] [j,k]:=
 ⟨kind,names,nocell,free,rfl,fun i j' y' e1 e2=>by
  match i with
  |0=>cases e1;cases e2;exact⟨h1,h2,h3⟩
  |1=>cases e1;cases e2;exact⟨g1,g2,g3⟩
  |i+2=>simp at e1⟩
theorem tR{X:Cx}{y z:Str}{c d:Addr}(h:X.env.cells.lookup y=some c)(g:X.env.cells.lookup z=some d):∀u e,([(y,c),(z,d)]:List (Str×Addr)).lookup u=some e->X.env.cells.lookup u=some e:=fun u e he=>by
 by_cases hu:u=y
 ·subst hu
  simp at he
  rw[<- he];exact h
 ·by_cases hv:u=z
  ·subst hv
   simp [BU,show(u==y)=false from by simpa using hu]at he
   rw[<- he];exact g
  ·simp [BU,show(u==y)=false from by simpa using hu,show(u==z)=false from by simpa using hv]at he
end L3
namespace L3
open PySem PySem.Spec PyProof.Rows L2
open Sem (wp)
section
variable{prog:Program}{w:World}{A:Around}{E:Value->Shared->Prop}{s:Shared}
theorem fS{it t:Addr}{items:Array Value}(hne:t≠it):∀(n i:Nat) (s:Shared) (Q:List Value->Shared->Prop),s.heap.IsListIter it t i->s.heap.IsList t items->i+n<=items.size->
  (∀h',h'.IsListIter it t (i+n)->Heap.SameBut it s.heap h'->Q ((items.toList.drop i).take n) {s with heap:=h'})->wpAny (model prog w) A (draw (.ref it) n) Q E s
 |0,i,s,Q,hit,_,_,hQ=>by
  show wpAny _ _ (pure []) Q E s
  refine Jb ?_
  have:=hQ s.heap hit (Heap.SameBut.refl ..)
  simpa using this
 |n+1,i,s,Q,hit,ht,hle,hQ=>by
  have hlt:i<items.size:=by omega
  show wpAny _ _ (pyNext (.ref it) >>= _) Q E s
  refine Ja (wpAny_pyNext_list_item hit ht (x:=items[i]) (by simp [hlt]) fun h₁ hit₁ hs₁=>?_)
  have ht1:(Shared.heap {s with heap:=h₁}).IsList t items:=let⟨o,e,r⟩:=ht;⟨o,hs₁.extBut _ _ hne e,r⟩
  refine Ja (JV (fS hne n (i+1) _ _ hit₁ ht1 (by omega) fun h₂ hit₂ hs₂=>Jb ?_))
  have hd:items.toList.drop i=items[i]::items.toList.drop (i+1):=by simp [List.drop_eq_getElem_cons,hlt]
  have z:=hQ h₂ (by rw[show i+(n+1)=i+1+n by omega];exact hit₂) (hs₁.trans hs₂)
  rw[hd,List.take_succ_cons]at z;exact z
theorem jg{t:Addr}{items:Array Value}{targets:List (Bool×(Value->Sem Unit))}{Q:Unit->Shared->Prop}(hh:A.handled=none)(ht:s.heap.IsList t items)
  (hn:targets.length=items.size)(hstar:targets.findIdx? (·.1)=none)
  (h:∀h',Heap.ExtBut s.heap.objs.size s.heap h'->wpAny (model prog w) A (assignInOrder (targets.map (·.2)) items.toList) Q E {s with heap:=h'}):
  wpAny (model prog w) A (unpack (.ref t) targets) Q E s:=by
 have hlt:t≠s.heap.objs.size:=by obtain⟨o,ho,_⟩:=ht;exact Jm (Jh ho)
 unfold unpack;rw[hn,hstar];refine Ja (JV ?_)
 unfold unpackItems;refine Ja ?_
 unfold notIterableAtAll;refine Ja (CG ht.typeIs F.slot_list_iter.lookup ?_)
 refine Jb ?_
 simp only[Bool.false_eq_true,JN];refine Ja (JV (CN ht ?_))
 refine Ja (JV (fS hlt items.size 0 _ _ ⟨_,Jn _ rfl,rfl,rfl⟩ (ht.push _) (by omega) fun h₁ hit₁ hs₁=>?_))
 have hall:List.take items.size (List.drop 0 items.toList)=items.toList:=by
  rw[List.drop_zero];exact List.take_of_length_le (by simp)
 rw[hall];rw[Jc (by simp)]
 have ht₁:h₁.IsList t items:=let⟨o,e,r⟩:=ht.push _;⟨o,hs₁.extBut _ _ hlt e,r⟩
 refine Ja (JV (wpAny_pyNext_list_end hh hit₁ ht₁ (by simp) fun h₂ he₂=>?_))
 simp only[Option.isSome_none,Bool.false_eq_true,JN];exact Jb (h h₂ fun b o hb e=>he₂ b o hb (hs₁.extBut b o hb (Ji _ e)))
end
section
variable{X:Cx}{pos:Pos}
def yx(K:Frag)(n:Nat)(t:ae):TG:=fun v σ H Q=>∃a xs,v= .ref a/\Sq K H a xs/\xs.length=n/\t xs σ H Q
theorem xo{es:List Expr}{k:Nat}{t:ae}{n:Nat}(hc:X.calm=true)(h:lP X es t)
  (hn:(assignEach es X.env).length=n:=by rfl)(hst:(assignEach es X.env).findIdx? (·.1)=none:=by rfl):PG X (.Tuple es k pos) (yx X.K n t):=by
 intro DK s σ H v u Q I r hw;obtain⟨a,xs,e1,hq,hl,hw⟩:=hw;rcases hq with hq|hq
 ·subst e1
  cases r;obtain⟨its,rv,ht,hz⟩:=I.list hq;rw[assign_Tuple];refine Ja (CB (jg (I.ok.hd hc) ht.isList (by simp [hn,<- hl,rv.length]) hst fun h' hx=>?_))
  have I1:L2.Inv X DK σ H {s with heap:=h'}:=I.kept (t':=s.toks) fun b o e=>hx b o (Jm (Jh e)) e
  exact h DK _ σ H xs _ Q I1 (by simpa using rv) hw
 ·exact kA hc h hn hst DK s σ H v u Q I r ⟨a,xs,e1,hq,hl,hw⟩
theorem zj{es:List Expr}{k:Nat}{t:ae}{n:Nat}(hc:X.calm=true)(h:QGs X es t)
  (hn:(assignEach es X.env).length=n:=by rfl)(hst:(assignEach es X.env).findIdx? (·.1)=none:=by rfl):QG X (.Tuple es k pos) (yx X.K n t):=⟨xo hc h.h hn hst⟩
end
end L3
namespace L3
open PySem PySem.Spec PyProof.Rows L2
def ZQ(c d:Int):List Int:=[c%16,c/16%16,c/256,d]
def ZM(c d:Int):List Int:=ZQ c d++[(ZQ c d).sum%16]
def gn(t ks:List Int)(z:Str):List Int:=QJ t ks (av (QY z.cps.toList))
def aP(t ks:List Int)(z:Str)(c d:Int):List Int:=QJ t (gn t ks z) (ZM c d)
def iS(r:List Int):Option (Int×Int):=if r.getD 4 0=(r.getD 0 0+r.getD 1 0+r.getD 2 0+r.getD 3 0)%16 then some (r.getD 0 0+r.getD 1 0*16+r.getD 2 0*256,r.getD 3 0)else none
def Zb(t ks:List Int)(z:Str)(ds:List Int):Option (Int×Int):=iS (Q6 (zw t) (gn t ks z) ds)
theorem aY(c d:Int):(ZM c d).length=5:=rfl
theorem sU(c d:Int):(ZQ c d).sum=c%16+c/16%16+c/256+d:=by simp [ZQ];omega
theorem da{c d:Int}(h0:0<=c)(h1:c<4096)(hd:af d):zu (ZM c d):=fun x hx=>by
 simp only[ZM,ZQ,List.cons_append,List.nil_append,Jj,Jp,Jq]at hx;rcases hx with rfl|rfl|rfl|rfl|rfl
 ·exact ZR _
 ·exact ZR _
 ·exact⟨by omega,by omega⟩
 ·exact hd
 ·exact ZR _
theorem rA{c d:Int}(h0:0<=c)(h1:c<4096):iS (ZM c d)=some (c,d):=by
 have e:(ZM c d)=[c%16,c/16%16,c/256,d,(c%16+c/16%16+c/256+d)%16]:=by unfold ZM;rw[sU];rfl
 unfold iS;rw[e]
 show(if(c%16+c/16%16+c/256+d)%16=(c%16+c/16%16+c/256+d)%16 then some (c%16+c/16%16*16+c/256*256,d)else none)=_
 rw[Jd rfl,show c%16+c/16%16*16+c/256*256=c by omega]
theorem wv{r:List Int}(hl:r.length=5):∃a b c d e:Int,r=[a,b,c,d,e]:=by
 match r,hl with
 | [a,b,c,d,e],_=>exact⟨a,b,c,d,e,rfl⟩
theorem pE(t ks:List Int)(z:Str)(c d:Int):(aP t ks z c d).length=5:=by unfold aP;rw[aI,aY]
theorem tG{t ks:List Int}(p:t.Perm digs){z:Str}{c d:Int}(h0:0<=c)(h1:c<4096)(hd:af d):zu (aP t ks z c d):=j6 p (da h0 h1 hd)
theorem gT{t ks:List Int}(p:t.Perm digs){z:Str}{c d:Int}(h0:0<=c)(h1:c<4096)(hd:af d):Zb t ks z (aP t ks z c d)=some (c,d):=by
 unfold Zb aP;rw[j7 p (da h0 h1 hd) (by rw[aY];decide),rA h0 h1]
def bT(H:Hp)(x:V):Option (Int×Int)->Prop
 |none=>x= .non
 |some (c,d)=>∃p,x= .ref p/\H p=some (.tup [.int c,.int d])
def yO:Sp:=fun vs H Q _=>∃c:Int,vs=[.int c]/\∀p H',Same H H'->H' p=some (.tup [.int (c%16),.int (c/16%16),.int (c/256)])->Q (.ref p) H'
def lF(K:Frag):Sp:=fun vs H Q _=>∃(a b:Addr) (z:Str) (age c d:Int) (t ks:List Int),vs=[.ref a,.ref b,.str z,.int age,.int c,.int d]/\Sq K H a (t.map V.int)/\Sq K H b (ks.map V.int)/\zT z/\t.length=16/\0<=c/\c<4096/\af d/\
 ∀p pc H',Same H H'->H' p=some (.tup [.str z,.int age,.ref pc])->H' pc=some (.tup ((aP t ks z c d).map V.int))->Q (.ref p) H'
def kB(K:Frag):Sp:=fun vs H Q _=>∃(a b pr pc:Addr) (z:Str) (age:Int) (t ks ds:List Int),vs=[.ref a,.ref b,.ref pr]/\Sq K H a (t.map V.int)/\Sq K H b (ks.map V.int)/\Sq K H pr [.str z,.int age,.ref pc]/\Sq K H pc (ds.map V.int)/\zT z/\t.Perm digs/\ds.length=5/\zu ds/\
 ∀x H',Same H H'->bT H' x (Zb t ks z ds)->Q x H'
theorem i7{X:Cx}{pos:Pos}{i j:Nat}{x y:Str}{a b:Expr}{ta:TA}{px py pt:Pos}{kt k2 pt2}(hc:X.calm=true)(hN:X.N.Nodup)(hi:X.N[i]? =some x)(hj:X.N[j]? =some y)(hij:i≠j)
  (hx:X.env.scope.names.lookup x=some .local)(hy:X.env.scope.names.lookup y=some .local)(ha:QA X [a,b] ta)
  (hw:swappedStores [.Tuple [.Name x px,.Name y py] kt pt] (.Tuple [a,b] k2 pt2) X.env=pure (some [x,y]):=by rfl)
  (hs:swapsWithSole [.Tuple [.Name x px,.Name y py] kt pt] (.Tuple [a,b] k2 pt2) pos.line X.env=pure false:=by rfl):
  QS X (.Assign [.Tuple [.Name x px,.Name y py] kt pt] (.Tuple [a,b] k2 pt2) pos) (Ag i j ta):=⟨yS hc hN hi hj hij hx hy ha.h hw hs⟩
def ay(K:Frag)(H:Hp)(a:Addr)(f:Str)(v:V):Prop:=∃C dx fs,H a=some (.ins C dx fs)/\Cls K C/\NoAttr K C f/\fs.lookup f=some v
def jh(K:Frag)(H:Hp)(a:Addr)(f:Str)(v:V)(H':Hp):Prop:=∃C dx fs,H a=some (.ins C dx fs)/\Cls K C/\NoAttr K C f/\fs.length<1000/\H'=upd H a (.ins C dx (Qg f v fs))
def Bk(C:Addr)(H:Hp)(a:Addr)(m:Str):Prop:=∃dx fs,H a=some (.ins C dx fs)/\fs.lookup m=none
def vo(K:Frag)(ta:TE)(f:Str):TE:=fun σ H Q=>ta σ H fun x H1=>∃a v,x= .ref a/\ay K H1 a f v/\Q v H1
def AS(K:Frag)(ta tv:TE)(f:Str):TS:=fun D σ H=>tv σ H fun y H1=>ta σ H1 fun x H2=>∃a H3,x= .ref a/\jh K H2 a f y H3/\D.nx σ H3
def rK(C:Addr)(m:Str)(sp:Sp)(ta:TE)(t:TA):TE:=fun σ H Q=>ta σ H fun x H1=>∃a,x= .ref a/\Bk C H1 a m/\t σ H1 fun vs H2=>sp (x::(vs++[])) H2 Q E0
section
variable{X:Cx}{o e value:Expr}{f:Str}{pos pos' tpos:Pos}{ta tv:TE}
theorem za(he:QE X e ta)(hb:attributeBase e f X.env (eval e X.env)=eval e X.env:=by rfl):QE X (.Attribute e f pos) (vo X.K ta f):=⟨by
 intro DK s σ H Q I h;refine wS hb (qD (he.h DK s σ H _ I h) fun u s1 zq=>?_)
 obtain⟨x,H1,I1,rx,a,v,ex,⟨C,dx,fs,ea,c,n,l⟩,q⟩:=zq;subst ex
 obtain rfl:u=Value.ref a:=rx
 exact mM I1 ea c n l fun u' s2 I2 ru=>⟨v,H1,I2,ru,q⟩⟩
theorem Zf(ha:QE X o ta)(hv:QE X value tv)(hs:swapsWith value (some (.Attribute o f pos')) pos.line X.env=pure false:=by rfl):QS X (.Assign [.Attribute o f pos'] value pos) (AS X.K ta tv f):=⟨by
 intro DK s σ H D I h;refine plainObj_wpAny_Assign_Attribute (qD (hv.h DK s σ H _ I h) fun u s1 ⟨y,H1,I1,ry,q⟩=>qD (ha.h DK s1 σ H1 _ I1 q) fun ov s2 zq=>?_) hs
 obtain⟨x,H2,I2,rx,a,H3,ex,⟨C,dx,fs,ea,c,n,l,e3⟩,q2⟩:=zq;subst ex e3
 obtain rfl:ov=Value.ref a:=rx
 exact oC I2 ea c n l ry fun s3 I3=>⟨σ,_,I3,q2⟩⟩
end
structure Mf(P:Program)(w:World)(K:Frag)(mg:Str->Option Value)(base:Heap)(C:Addr)(m:Str)(ps:List Str)(k:Nat)(sp:Sp):Prop where
 ex:∃(f:Addr) (fd:FuncData),FnOk P w K mg base Z6 k f fd ps sp/\Meth K C m f/\Binds K fd ps []
structure AtM(K:Frag)(C:Addr)(m DL:Str)(st:Stmt)(ps:List Str):Prop where
 ex:∃(f:Addr) (fd:FuncData),Fun K m DL st f fd/\Meth K C m f/\Binds K fd ps []
structure Mi(P:Program)(w:World)(K:Frag)(mg:Str->Option Value)(base:Heap)(C:Addr)(x:Str)(ps:List Str)(k:Nat)(sp:Sp):Prop where
 ex:∃(f:Addr) (fd:FuncData),FnOk P w K mg base Z6 k f fd ps sp/\Mk K C f/\mg x=some (.ref C)/\Binds K fd ps []
section
variable{P:Program}{w:World}{K:Frag}{mg:Str->Option Value}{base:Heap}{C:Addr}
theorem AtM.mq{m DL:Str}{st:Stmt}{ps N:List Str}{k:Nat}{sp:Sp}(a:AtM K C m DL st ps)(S:FnScope N ps (qo st))(len:∀vs H Q E,sp vs H Q E->vs.length=ps.length)
  (hbody:∀(f:Addr) (cdv:Value) (A:Around) (outer:List Env) (s:Shared) (H:Hp) (vs:List V) (Q:VK) (E:XK),Room k (A.deeper (envOfC DL (qo st) s.heap.objs.size f cdv))->sp vs H Q E->
   ∃t,QSs (aB Z6 P w K mg base N DL (qo st) f cdv A outer s H E).nox (zB st) t/\t {nx:=fun _ H'=>Q .non H',rt:=Q} (QZ N vs) H):Mf P w K mg base C m ps (k+1) sp:=by
 obtain⟨f,fd,F,m,bd⟩:=a.ex
 exact⟨f,fd,F.ok S len (fun cdv A outer s H vs Q E hr h=>let⟨t,q1,q2⟩:=hbody f cdv A outer s H vs Q E hr h;⟨t,q1.h,q2⟩),m,bd⟩
theorem Mf.mi{x:Str}{ps:List Str}{k:Nat}{sp:Sp}(a:Mf P w K mg base C "__init__" ps k sp)(mk:W.makesIn K C=true)(kc:W.keepIn K (.ref C)=true)(hx:mg x=some (.ref C)):Mi P w K mg base C x ps k sp:=
 let⟨f,fd,F,m,bd⟩:=a.ex;⟨f,fd,F,⟨mk,m.at_,m.fn,kc⟩,hx,bd⟩
end
section
variable{X:Cx}{C:Addr}{x m:Str}{ps:List Str}{k:Nat}{sp:Sp}{o e:Expr}{es:List Expr}{p pos apos:Pos}{ta:TE}{t:TA}
theorem zt{pl:Sem Bool}(M:Mf X.prog X.w X.K X.mg X.base C m ps k sp)(c:Cls X.K C)(hr:Room k X.A)(he:QE X o ta)(ha:QA X (e::es) t)
  (hst:starEach (e::es) X.env=(false,eval e X.env)::starEach es X.env:=by rfl)(hpl:(backTo pos (starEach es X.env)).any (·.1)=false:=by rfl)
  (ht:eval (.Call (.Attribute o m apos) (e::es) [] pos) X.env=(do
   let ov <- eval o X.env
   standAt apos.atName
   let(f,first) <- holding [ov] (getMethod ov m pl)
   callWith pos f first (backTo pos (starEach (e::es) X.env)) (backToKw pos (keywordEach [] X.env))):=by rfl):
  QE X (.Call (.Attribute o m apos) (e::es) [] pos) (rK C m sp ta t):=⟨by
 obtain⟨f,fd,F,hm,hb⟩:=M.ex;intro DK s σ H Q I h;refine W.methodCall_KW (pl:=pl) (qD (he.h DK s σ H _ I h) fun u s1 zq=>?_) ht
 obtain⟨x,H1,I1,rx,a,ex,⟨dx,fs,ea,l⟩,q⟩:=zq;subst ex
 obtain rfl:u=Value.ref a:=rx
 refine eP I1 ea c hm l ?_
 refine W.callWith_K (first:=[.ref a]) (h₀:=X.base) I.ok.mod.kin hm.kp (qD (ha.h pos DK s1 σ H1 _ I1 q) fun us s2 ⟨vs,H2,I2,r,q2⟩=>⟨I2.kIn,?_⟩) hst hpl
 exact jQ (us:= .ref a::us) (vs:= .ref a::vs) F hr hb .nil iQ I2 (.cons rfl r) q2⟩
theorem zF{pl:Sem Bool}(M:Mf X.prog X.w X.K X.mg X.base C m ps k sp)(c:Cls X.K C)(hr:Room k X.A)(he:QE X o ta)
  (ht:eval (.Call (.Attribute o m apos) [] [] pos) X.env=(do
   let ov <- eval o X.env
   standAt apos.atName
   let(f,first) <- holding [ov] (getMethod ov m pl)
   callWith pos f first (backTo pos (starEach [] X.env)) (backToKw pos (keywordEach [] X.env))):=by rfl):
  QE X (.Call (.Attribute o m apos) [] [] pos) (rK C m sp ta tU):=⟨by
 obtain⟨f,fd,F,hm,hb⟩:=M.ex;intro DK s σ H Q I h;refine W.methodCall_KW (pl:=pl) (qD (he.h DK s σ H _ I h) fun u s1 zq=>?_) ht
 obtain⟨x,H1,I1,rx,a,ex,⟨dx,fs,ea,l⟩,q⟩:=zq;subst ex
 obtain rfl:u=Value.ref a:=rx
 refine eP I1 ea c hm l ?_
 exact W.callWith_K0 (first:=[.ref a]) I1.kIn hm.kp (jQ (us:=[.ref a]) (vs:=[.ref a]) F hr hb .nil iQ I1 (.cons rfl .nil) q)⟩
theorem lQ(M:Mi X.prog X.w X.K X.mg X.base C x ps k sp)(hr:Room (k+1) X.A)(ha:QA X (e::es) t)(hg:Gl X x:=by rfl)(hdb:(x==("__debug__":Str))=false:=by decide)
  (he:starEach (e::es) X.env=(false,eval e X.env)::starEach es X.env:=by rfl)(hpl:(backTo pos (starEach es X.env)).any (·.1)=false:=by rfl):
  QE X (.Call (.Name x p) (e::es) [] pos) (vE C sp [] E0 t):=⟨by
 obtain⟨f,fd,F,mk,hx,hb⟩:=M.ex;exact wI mk F hr hg hx hb .nil iQ ha.h hdb he hpl⟩
end
section
variable{X:Cx}{o e:Expr}{es:List Expr}{to:TE}{t:TA}{name:Str}{apos cpos:Pos}{T id:String}{r:V->List V->Hp->VK->Prop}{K:Frag}
theorem p8(hK:X.K=K)(pa:PlainAttrs T)(slot:Slot T name id)(hty:typeOf (.builtin id)=pure (.type "method_descriptor"))(hm:il X id r)(ho:QE X o to)(ha:QA X (e::es) t)
  (hbase:attributeBase o name X.env (eval o X.env)=eval o X.env:=by rfl)
  (hfew:((backTo cpos (starEach (e::es) X.env)).all (fun x=> !x.1)&&(backToKw cpos (keywordEach [] X.env)).all (fun x=>x.1.isSome)
   &&decide ((e::es).length+([]:List Keyword).length+(if([]:List Keyword).isEmpty then 0 else 1)<30))=true:=by rfl)
  (hline:(apos.endLine==cpos.line)=true:=by rfl)(hs:starEach (e::es) X.env=(false,eval e X.env)::starEach es X.env:=by rfl)(hplain:(backTo cpos (starEach es X.env)).any (·.1)=false:=by rfl):
  QE X (.Call (.Attribute o name apos) (e::es) [] cpos) (xb K T r to t):=by
 subst hK;exact Zz pa slot hty hm ho ha hbase hfew hline hs hplain
theorem oO(pa:PlainAttrs T)(slot:Slot T name id)(hty:typeOf (.builtin id)=pure (.type "method_descriptor"))(hm:il X id r)(ho:QE X o to)
  (hbase:attributeBase o name X.env (eval o X.env)=eval o X.env:=by rfl)(hline:(apos.endLine==cpos.line)=true:=by rfl):QE X (.Call (.Attribute o name apos) [] [] cpos) (Al X.K T r to):=⟨yX pa slot hty hm ho.h hbase hline⟩
theorem kG:il X "list.pop" oX:=uK
theorem fG:il X "list.reverse" jp:=n6
end
theorem hU{f:Str}{v:V}:∀{fs:List (Str×V)} (i:Nat),fs[i]? =some (f,v)->(fs.map (·.1)).Nodup->fs.lookup f=some v
 | [],i,h,_=>by cases h
 |(g,x)::r,0,h,_=>by
  cases Jv h
  exact List.lookup_cons_self
 |(g,x)::r,i+1,h,nd=>by
  have h':r[i]? =some (f,v):=h
  have nd':g∉r.map (·.1)/\(r.map (·.1)).Nodup:=BN.mp nd
  have hm:f∈r.map (·.1):=Jw.mpr ⟨(f,v),JS h',rfl⟩
  have ne:f≠g:=fun z=>nd'.1 (z▸hm)
  rw[BU,C3 ne];exact hU i h' nd'.2
theorem gN{f:Str}:∀{fs:List (Str×V)},f∉fs.map (·.1)->fs.lookup f=none
 | [],_=>rfl
 |(g,x)::r,h=>by
  have ne:f≠g:=fun z=>h (z▸JE ..)
  rw[BU,C3 ne];exact gN fun z=>h (JJ _ z)
theorem ly{f:Str}{v u:V}:∀{fs:List (Str×V)} (i:Nat),fs[i]? =some (f,u)->(fs.map (·.1)).Nodup->Qg f v fs=fs.set i (f,v)
 | [],i,h,_=>by cases h
 |(g,x)::r,0,h,_=>by
  cases Jv h
  show(if f=f then _ else _)=_
  rw[Jd rfl];rfl
 |(g,x)::r,i+1,h,nd=>by
  have h':r[i]? =some (f,u):=h
  have nd':g∉r.map (·.1)/\(r.map (·.1)).Nodup:=BN.mp nd
  have hm:f∈r.map (·.1):=Jw.mpr ⟨(f,u),JS h',rfl⟩
  have ne:¬g=f:=fun z=>nd'.1 (z▸hm)
  show(if g=f then _ else(g,x)::Qg f v r)=_
  rw[Jc ne,ly i h' nd'.2];rfl
theorem jM{f:Str}{v:V}:∀{fs:List (Str×V)},f∉fs.map (·.1)->Qg f v fs=fs++[(f,v)]
 | [],_=>rfl
 |(g,x)::r,h=>by
  have ne:¬g=f:=fun z=>h (z▸JE ..)
  show(if g=f then _ else(g,x)::Qg f v r)=_
  rw[Jc ne,jM fun z=>h (JJ _ z)];rfl
def Mv(S:List Addr)(H H':Hp):Prop:=∀c o,c∉S->H c=some o->H' c=some o
theorem Mv.trans{S:List Addr}{H H1 H2:Hp}(a:Mv S H H1)(b:Mv S H1 H2):Mv S H H2:=fun c o n e=>b c o n (a c o n e)
theorem Mv.mono{S S':List Addr}{H H':Hp}(a:Mv S H H')(h:∀c,c∉S'->c∉S):Mv S' H H':=fun c o n e=>a c o (h c n) e
theorem _root_.L2.Same.mv{S:List Addr}{H H':Hp}(a:Same H H'):Mv S H H':=fun c o _ e=>a c o e
theorem Mv.upd1{a:Addr}{H:Hp}{o:HO}:Mv [a] H (upd H a o):=fun c u n e=>by
 rw[qp (fun z=>n (Jg.mpr z))];exact e
def vk:HO->Prop
 | .tup _=>False
 | .frz _ (.dK _)=>True
 | .frz _ _=>False
 |_=>True
def NT(S:List Addr)(H:Hp):Prop:=∀c,c∈S->∃o,H c=some o/\vk o
theorem Mv.rd{S:List Addr}{H H':Hp}{a:Addr}{xs:List V}(m:Mv S H H')(n:NT S H)(h:Rd H a (.tup xs)):Rd H' a (.tup xs):=by
 have hn:a∉S:=fun z=>by
  obtain⟨o,e,no⟩:=n a z;rcases h with h|⟨o',h⟩
  ·rw[e]at h;cases h;exact no
  ·rw[e]at h;cases h;exact no
 rcases h with h|⟨o',h⟩
 ·exact .inl (m _ _ hn h)
 ·exact .inr ⟨o',m _ _ hn h⟩
theorem Mv.sqt{K:Frag}{S:List Addr}{H H':Hp}{a:Addr}{xs:List V}(m:Mv S H H')(n:NT S H)(h:SqT K H a xs):SqT K H' a xs:=by
 rcases h with h|h
 ·exact .inl (m.rd n h)
 ·exact .inr h
def ef:Sp:=fun vs H Q _=>∃(b:Addr) (c:Nat),vs=[.ref b]/\BoxC H b c/\c<100000000/\∀p (t:List Int) H',GrC b (c+16) H H'->H p=none->H' p=some (.tup (t.map V.int))->t.Perm digs->Q (.ref p) H'
def gi:Sp:=fun vs H Q _=>∃(b:Addr) (c:Nat),vs=[.ref b]/\BoxC H b c/\c<100000000/\∀p (ks:List Int) H',GrC b (c+9) H H'->H p=none->H' p=some (.tup (ks.map V.int))->zu ks->1<=ks.length->ks.length<=8->Q (.ref p) H'
theorem GrC.fresh{b c:Addr}{n:Nat}{H H':Hp}(g:GrC b n H H')(hb:BoxC H b n)(h:H' c=Option.none):H c=Option.none:=by
 cases e:H c with
 |none=>rfl
 |some o=>
  by_cases z:c=b
  ·subst z
   obtain⟨_,_,_,e',_⟩:=g.bx;rw[e']at h;cases h
  ·rw[g.kp c o z e]at h;cases h
theorem sY{K:Frag}{H:Hp}{a:Addr}{xs:List V}{Q:VK}(h:Sq K H a xs)(q:∀l H',Same H H'->SqT K H' l xs->Q (.ref l) H'):(SqL K H a xs/\∀l,H l=none->Q (.ref l) (upd H l (.tup xs)))\/(SqT K H a xs/\Q (.ref a) H):=
 h.elim (fun h=> .inl ⟨h,fun l hl=>q l _ (Same.upd hl) (SqT.of qd)⟩) fun h=> .inr ⟨h,q a H (Same.refl _) h⟩
theorem gF{K:Frag}{C p dx a:Addr}{H:Hp}{fs:List (Str×V)}{xs:List V}{o:HO}(e:H p=some (.ins C dx fs))(h:SqT K H a xs):SqT K (upd H p o) a xs:=by
 rcases h with(h|⟨u,h⟩)|h
 ·exact .inl (.inl (by rw[qp (Qf h e (by intro z;cases z))];exact h))
 ·exact .inl (.inr ⟨u,by rw[qp (Qf h e (by intro z;cases z))];exact h⟩)
 ·exact .inr h
theorem bz{X:Cx}{K:Frag}(hK:X.K=K):zg X (.builtin "len") (fun xs H Q=>∃p ys,xs=[.ref p]/\(SqL K H p ys\/SqT K H p ys)/\Q (.int (ys.length:Nat)) H):=by
 subst hK;exact qQ
theorem bS{k n:Nat}(h:k<n):seqIndex? (k:Int) n=some k:=by
 unfold seqIndex?
 simp
 omega
theorem uF{ms zs:List Int}{k:Nat}(h:k<ms.length):(zs++[ms[k]]++ms.eraseIdx k).Perm (zs++ms):=by
 rw[B8];refine List.Perm.append_left zs ?_
 rw[List.eraseIdx_eq_take_drop_succ];have e:ms=ms.take k++ms[k]::ms.drop (k+1):=by rw[<- List.drop_eq_getElem_cons h,List.take_append_drop]
 refine List.Perm.trans (List.perm_middle (a:=ms[k]) (l₁:=ms.take k) (l₂:=ms.drop (k+1))).symm ?_
 rw[<- e]
theorem mN(ms:List Int)(k:Nat):(ms.map V.int).eraseIdx k=(ms.eraseIdx k).map V.int:=by
 rw[List.eraseIdx_eq_take_drop_succ,List.eraseIdx_eq_take_drop_succ,JH,List.map_take,List.map_drop]
theorem k6{X:Cx}:zg X (.type "tuple") (fun xs H Q=>∃p ys,xs=[.ref p]/\Sq X.K H p ys/\∀l H',Same H H'->SqT X.K H' l ys->Q (.ref l) H'):=by
 intro DK s σ H xs us Q I r h;obtain⟨p,ys,e,hs,q⟩:=h;exact qT DK s σ H xs us Q I r ⟨p,ys,e,sY hs q⟩
section
variable{K:Frag}{C:Addr}{H H':Hp}{b L:Addr}{n n':Nat}{os:List O}
theorem qR{a x:Addr}(h:a≠x):a∉[x]:=fun z=>h (Jg.mp z)
theorem qX(hb:BoxC H b n):NT [b] H:=fun c hc=>by
 obtain⟨_,_,_,e,_⟩:=hb;rw[Jg.mp hc]
 exact⟨_,e,trivial⟩
end
theorem BoxC.mv{H H':Hp}{S:List Addr}{b:Addr}{n:Nat}(h:BoxC H b n)(m:Mv S H H')(ne:b∉S):BoxC H' b n:=by
 obtain⟨a1,a2,a3,e,r⟩:=h
 exact⟨a1,a2,a3,m _ _ ne e,r⟩
theorem nB(n:Nat)(h:n<=100:=by omega):n<sizeLine:=Nat.lt_of_le_of_lt h (by decide)
theorem NT.one{H:Hp}{a:Addr}{o:HO}(e:H a=some o)(n:vk o):NT [a] H:=fun c hc=>⟨o,by rw[Jg.mp hc];exact e,n⟩
end L3
namespace L2
open PySem PySem.Spec PyProof.Rows
section
variable{κ:Type} [DecidableEq κ]
def Zd(kvs:List (κ×V))(k:κ):Option V:=(kvs.find? fun kv=>decide (kv.1=k)).map (·.2)
def putK(kvs:List (κ×V))(k:κ)(v:V):List (κ×V):=
 if(kvs.any fun kv=>decide (kv.1=k))=true then kvs.map (fun kv=>if kv.1=k then(kv.1,v)else kv)else kvs++[(k,v)]
theorem ZX{p:κ×V}{r:List (κ×V)}{k:κ}(e:p.1=k):Zd (p::r) k=some p.2:=by simp [Zd,CH,e]
theorem ZS{p:κ×V}{r:List (κ×V)}{k:κ}(e:¬p.1=k):Zd (p::r) k=Zd r k:=by simp [Zd,CH,e]
theorem je(k:κ):∀kvs:List (κ×V),(kvs.any fun kv=>decide (kv.1=k))=(Zd kvs k).isSome
 | []=>rfl
 |p::r=>by
  rw[CW]
  by_cases e:p.1=k
  ·simp only[ZX e,Jk e,Bool.true_or,Option.isSome_some]
  ·rw[ZS e,Jr e,Bool.false_or];exact je k r
theorem ax(kvs:List (κ×V))(k:κ)(v:V):(putK kvs k v).length<=kvs.length+1:=by
 unfold putK;split
 ·rw[Je];omega
 ·rw[Jx,BM,List.length_nil];omega
theorem RelO.isSome_eq{o:Option V}{u:Option Value}(r:RelO o u):o.isSome=u.isSome:=by
 cases o with
 |none=>cases u with
  |none=>rfl
  |some _=>exact(show False from r).elim
 |some _=>cases u with
  |none=>exact(show False from r).elim
  |some _=>rfl
theorem RelO.getD{o:Option V}{u:Option Value}{d:V}{d':Value}(r:RelO o u)(rd:RelV d d'):RelV (o.getD d) (u.getD d'):=by
 cases o with
 |none=>cases u with
  |none=>exact rd
  |some _=>exact(show False from r).elim
 |some _=>cases u with
  |none=>exact(show False from r).elim
  |some _=>exact r
theorem KV.val{kvs:List (κ×V)}{vs:List (κ×Value)}(r:KV kvs vs)(k:κ):RelO (Zd kvs k) (valueAt vs k):=by
 unfold KV at r
 induction r with
 |nil=>exact True.intro
 | @cons p q ps qs h t ih=>
  obtain⟨h1,h2⟩:=h
  by_cases e:p.1=k
  ·have e':q.1=k:=h1.symm.trans e
   have b:valueAt (q::qs) k=some q.2:=by simp [valueAt,CH,e']
   rw[ZX e,b];exact h2
  ·have e':¬q.1=k:=fun z=>e (h1.trans z)
   have b:valueAt (q::qs) k=valueAt qs k:=by simp [valueAt,CH,e']
   rw[ZS e,b];exact ih
theorem KV.any{kvs:List (κ×V)}{vs:List (κ×Value)}(r:KV kvs vs)(k:κ):(kvs.any fun kv=>decide (kv.1=k))=vs.any fun kv=>decide (kv.1=k):=by
 unfold KV at r
 induction r with
 |nil=>rfl
 |cons h t ih=>rw[CW,CW,ih,h.1]
theorem KV.repl{kvs:List (κ×V)}{vs:List (κ×Value)}(r:KV kvs vs)(k:κ){y:V}{u:Value}(ry:RelV y u):
  KV (kvs.map fun kv=>if kv.1=k then(kv.1,y)else kv) (vs.map fun kv=>if kv.1=k then(kv.1,u)else kv):=by
 unfold KV at r⊢
 induction r with
 |nil=>exact .nil
 | @cons p q ps qs h t ih=>
  rw[JW,JW];refine .cons ?_ ih
  obtain⟨h1,h2⟩:=h
  by_cases e:p.1=k
  ·rw[Jd e,Jd (h1.symm.trans e)];exact⟨h1,ry⟩
  ·rw[Jc e,Jc (fun z=>e (h1.trans z))];exact⟨h1,h2⟩
theorem KV.put{kvs:List (κ×V)}{vs:List (κ×Value)}(r:KV kvs vs)(k:κ){y:V}{u:Value}(ry:RelV y u):KV (putK kvs k y) (stored vs k u):=by
 unfold putK stored;rw[r.any k]
 by_cases e:(vs.any fun kv=>decide (kv.1=k))=true
 ·rw[Jd e,Jd e];exact r.repl k ry
 ·rw[Jc e,Jc e];exact Paired.snoc r ⟨rfl,ry⟩
theorem KV.keys{kvs:List (κ×V)}{vs:List (κ×Value)}(r:KV kvs vs):kvs.map (·.1)=vs.map (·.1):=by
 unfold KV at r
 induction r with
 |nil=>rfl
 |cons h t ih=>rw[JW,JW,ih,h.1]
theorem KV.length{kvs:List (κ×V)}{vs:List (κ×Value)}(r:KV kvs vs):kvs.length=vs.length:=Paired.length r
end
theorem bf{P:Program}{w:World}{k:qL}{u:Value}(r:RelV (kV k) u):(qU P w).is k u=true:=by
 cases k with
 |inl i=>obtain⟨t,e⟩:=(show∃t,u=Value.int i t from r);subst e;exact lf P w i t
 |inr x=>obtain⟨t,e⟩:=(show∃t,u=Value.str x t from r);subst e;exact kX P w x t
theorem iw{P:Program}{w:World}:∀{ks:List qL} {us:List Value},Vals (ks.map kV) us->ItemsAre (qU P w) ks us
 | [],_,r=>by rw[C9]at r;cases r;exact .nil
 |k::ks,_,r=>by
  rw[JW]at r;cases r with
  |cons h t=>exact .cons (bf h) (iw t)
abbrev KT(H:Hp):List (List qL×V)->List (List qL×Addr×Value)->Prop:=Paired fun p q=>p.1=q.1/\H q.2.1=some (.tup (p.1.map kV))/\RelV p.2 q.2.2
theorem KT.val{H:Hp}{kvs:List (List qL×V)}{xs:List (List qL×Addr×Value)}(r:KT H kvs xs)(k:List qL):RelO (Zd kvs k) ((atKey xs k).map (·.2)):=by
 induction r with
 |nil=>exact True.intro
 | @cons p q ps qs h t ih=>
  obtain⟨h1,_,h2⟩:=h
  by_cases e:p.1=k
  ·have e':q.1=k:=h1.symm.trans e
   have b:atKey (q::qs) k=some q.2:=by simp [atKey,CH,e']
   rw[ZX e,b];exact h2
  ·have e':¬q.1=k:=fun z=>e (h1.trans z)
   have b:atKey (q::qs) k=atKey qs k:=by simp [atKey,CH,e']
   rw[ZS e,b];exact ih
theorem KT.repl{H:Hp}{kvs:List (List qL×V)}{xs:List (List qL×Addr×Value)}(r:KT H kvs xs)(k:List qL){y:V}{u:Value}(ry:RelV y u):
  KT H (kvs.map fun kv=>if kv.1=k then(kv.1,y)else kv) (xs.map (putAt k u)):=by
 induction r with
 |nil=>exact .nil
 | @cons p q ps qs h t ih=>
  rw[JW,JW];refine .cons ?_ ih
  obtain⟨h1,h2,h3⟩:=h;unfold putAt
  by_cases e:p.1=k
  ·rw[Jd e,Jd (h1.symm.trans e)];exact⟨h1,h2,ry⟩
  ·rw[Jc e,Jc (fun z=>e (h1.trans z))];exact⟨h1,h2,h3⟩
theorem KT.put{H:Hp}{kvs:List (List qL×V)}{xs:List (List qL×Addr×Value)}(r:KT H kvs xs)(k:List qL){b:Addr}{y:V}{u:Value}(hb:H b=some (.tup (k.map kV)))(ry:RelV y u):
  KT H (putK kvs k y) (storedH xs k b u):=by
 have e:(kvs.any fun kv=>decide (kv.1=k))=(atKey xs k).isSome:=by
  rw[je,(r.val k).isSome_eq,Option.isSome_map]
 unfold putK storedH;rw[e]
 by_cases q:(atKey xs k).isSome=true
 ·rw[Jd q,Jd q];exact r.repl k ry
 ·rw[Jc q,Jc q];exact Paired.snoc r ⟨rfl,hb,ry⟩
theorem KT.keeps{H H':Hp}{kvs:List (List qL×V)}{xs:List (List qL×Addr×Value)}(r:KT H kvs xs)(ht:∀b ys,H b=some (.tup ys)->H' b=some (.tup ys)):KT H' kvs xs:=
 Paired.mapP r fun _ _ z=>⟨z.1,ht _ _ z.2.1,z.2.2⟩
section
variable{P:Program}{w:World}{H:Hp}{h:Heap}{a:Addr}
theorem uU{u:HO}(ok:HOk P w H h)(e:Rd H a u):ObjOk P w H h a u:=e.ok ok
theorem ZN{kvs:List (qL×V)}(ok:HOk P w H h)(e:Rd H a (.dK kvs)):kvs.length<=sizeLine/\(a==sysModules)=false/\∃vs,KV kvs vs/\h.DictOf (qU P w) a vs:=
 show ObjOk P w H h a (.dK kvs)from uU ok e
theorem oq{kvs:List (qL×V)}(ok:HOk P w H h)(e:H a=some (.dK kvs)):kvs.length<=sizeLine/\(a==sysModules)=false/\∃vs,KV kvs vs/\h.DictOf (qU P w) a vs:=ZN ok (.inl e)
theorem aF{ks:List qL}(ok:HOk P w H h)(e:H a=some (.tup (ks.map kV))):(tupleKind (qU P w)).is h ks a:=by
 obtain⟨_,its,r,o,h1,h2,n,h3⟩:=(show ObjOk P w H h a (.tup (ks.map kV))from ok a _ e)
 exact⟨o,its.toArray,n,h1,h2,h3,by simpa using iw r⟩
theorem bu{kvs:List (List qL×V)}(ok:HOk P w H h)(e:Rd H a (.dT kvs)):kvs.length<=sizeLine/\(a==sysModules)=false/\
  ∃xs,KT H kvs xs/\h.DictOfH (tupleKind (qU P w)) a xs:=by
 obtain⟨z,y,xs,r,o,es,ep,h1,h2,h3,h4,h5⟩:=(show ObjOk P w H h a (.dT kvs)from uU ok e)
 refine⟨z,y,xs,r,o,es,ep,h1,h2,h3,h4,fun x hx=>?_,h5⟩
 have all:∀{l:List (List qL×V)} {m:List (List qL×Addr×Value)},KT H l m->∀x∈m,(tupleKind (qU P w)).is h x.1 x.2.1:=by
  intro l m q
  induction q with
  |nil=>intro x hx;exact nomatch hx
  | @cons p q ps qs hq t ih=>
   intro x hx;rcases Jj.mp hx with e|hx
   ·subst e
    exact aF ok (by rw[<- hq.1];exact hq.2.1)
   ·exact ih x hx
 exact all r x hx
theorem AW{kvs:List (List qL×V)}(ok:HOk P w H h)(e:H a=some (.dT kvs)):kvs.length<=sizeLine/\(a==sysModules)=false/\
  ∃xs,KT H kvs xs/\h.DictOfH (tupleKind (qU P w)) a xs:=bu ok (.inl e)
end
def DGet(H:Hp)(a:Addr)(y:V)(r:Option V):Prop:=
 (∃kvs k,Rd H a (.dK kvs)/\y=kV k/\r=Zd kvs k)\/∃kvs k b,Rd H a (.dT kvs)/\y= .ref b/\H b=some (.tup (k.map kV))/\r=Zd kvs k
def DPut(H:Hp)(a:Addr)(y v:V)(H':Hp):Prop:=
 (∃kvs k,H a=some (.dK kvs)/\y=kV k/\kvs.length<sizeLine/\H'=upd H a (.dK (putK kvs k v)))\/
 ∃kvs k b,H a=some (.dT kvs)/\y= .ref b/\H b=some (.tup (k.map kV))/\kvs.length<sizeLine/\H'=upd H a (.dT (putK kvs k v))
theorem DGet.k{H:Hp}{a:Addr}{kvs:List (qL×V)}{k:qL}(e:H a=some (.dK kvs)):DGet H a (kV k) (Zd kvs k):= .inl ⟨kvs,k,.inl e,rfl,rfl⟩
theorem DPut.k{H:Hp}{a:Addr}{kvs:List (qL×V)}{k:qL}{v:V}(e:H a=some (.dK kvs))(hl:kvs.length<sizeLine):DPut H a (kV k) v (upd H a (.dK (putK kvs k v))):= .inl ⟨kvs,k,e,rfl,hl,rfl⟩
section
variable{X:Cx}{DK:List (Addr×Obj)}{σ:St}{H:Hp}{s:Shared}{a:Addr}{y v:V}{u r:Value}{o:Option V}{A:Around}{E:Value->Shared->Prop}
theorem Inv.big(I:Inv X DK σ H s):sysModules<s.heap.objs.size:=by
 have h:mainGlobals<s.heap.objs.size:=(I.mod.glob.keeps I.bk).lt
 exact Nat.lt_trans (by decide) h
theorem rG{Q:Value->Shared->Prop}(hu:A.units+1<cLine)(I:Inv X DK σ H s)(g:DGet H a y (some v))(ry:RelV y u)(h:∀w' s',Inv X DK σ H s'->RelV v w'->Q w' s'):
  wpAny (model X.prog X.w) A (getItem (.ref a) u) Q E s:=by
 rcases g with⟨kvs,k,e,ey,l⟩|⟨kvs,k,b,e,ey,eb,l⟩
 ·subst ey
  obtain⟨z,hd,vs,rel,dd⟩:=ZN I.hok e;obtain⟨w',hw,rw'⟩:=RelO.some_of (v:=v) (o:=valueAt vs k) (by rw[l];exact rel.val k)
  exact wpAny_getItem_of (bf ry) dd.mapOf hw (h w' _ (I.tok _) rw')
 ·subst ey
  cases(show u=Value.ref b from ry)
  obtain⟨z,hd,xs,rel,dd⟩:=bu I.hok e;obtain⟨w',hw,rw'⟩:=RelO.some_of (v:=v) (o:=(atKey xs k).map (·.2)) (by rw[l];exact rel.val k)
  obtain⟨p,hp,hp2⟩:=BP.mp hw;refine wpAny_getItem_heap (Dl hu) (aF I.hok eb) dd hp ?_
  rw[hp2];exact h w' _ (I.tok _) rw'
theorem Bo{Q:Value->Shared->Prop}(hu:A.units+1<cLine)(I:Inv X DK σ H s)(g:DGet H a y o)(ry:RelV y u)(h:∀s',Inv X DK σ H s'->Q (.bool o.isSome) s'):
  wpAny (model X.prog X.w) A (compareOp .In u (.ref a)) Q E s:=by
 rcases g with⟨kvs,k,e,ey,l⟩|⟨kvs,k,b,e,ey,eb,l⟩
 ·subst ey
  obtain⟨z,hd,vs,rel,dd⟩:=ZN I.hok e;refine wpAny_in_of (bf ry) hd dd.mapOf ?_
  rw[<- (rel.val k).isSome_eq,<- l];exact h _ (I.tok _)
 ·subst ey
  cases(show u=Value.ref b from ry)
  obtain⟨z,hd,xs,rel,dd⟩:=bu I.hok e;refine wpAny_in_heap (Dl hu) (aF I.hok eb) hd dd ?_
  have q:=(rel.val k).isSome_eq;rw[Option.isSome_map]at q;rw[<- q,<- l];exact h _ (I.tok _)
theorem gk{h':Heap}{t':Nat}{ob:HO}(I:Inv X DK σ H s)(mu:pj (H a))(hs:Heap.SameBut a s.heap h')(he:∃q,h'.get? a=some q)(new:ObjOk X.prog X.w (upd H a ob) h' a ob):
  Inv X DK σ (upd H a ob) {s with heap:=h',toks:=t'}:=
 I.write (x:=a) (e:=a) mu (.inl rfl) (fun b q hb z=>(hs.2 b hb).trans z) he new
theorem kC{P:Program}{w:World}{H':Hp}{h':Heap}{kvs:List (qL×V)}{vs:List (qL×Value)}(z:kvs.length<=sizeLine)(hd:(a==sysModules)=false)(rel:KV kvs vs)(dd:h'.DictOf (qU P w) a vs):
  ObjOk P w H' h' a (.dK kvs):=⟨z,hd,vs,rel,dd⟩
theorem oV{H':Hp}{Q:Unit->Shared->Prop}(hu:A.units+1<cLine)(I:Inv X DK σ H s)(g:DPut H a y v H')(ry:RelV y u)(rv:RelV v r)(h:∀s',Inv X DK σ H' s'->Q () s'):
  wpAny (model X.prog X.w) A (setItem (.ref a) u r) Q E s:=by
 rcases g with⟨kvs,k,e,ey,l,eH⟩|⟨kvs,k,b,e,ey,eb,l,eH⟩
 ·subst ey eH
  obtain⟨z,hd,vs,rel,dd⟩:=oq I.hok e;have hz:vs.length<=sizeLine:=by rw[<- rel.length];exact z
  have hl:(putK kvs k v).length<=sizeLine:=by have:=ax kvs k v;omega
  refine wpAny_setItem_pairs (hsz:=hz) (bf ry) dd fun h' dd' hs=>h _ ?_
  have he:∃q,h'.get? a=some q:=let⟨q,_,_,hq,_⟩:=dd';⟨q,hq⟩
  exact gk I (by rw[e];exact True.intro) hs he (kC hl hd (rel.put k rv) dd')
 ·subst ey eH
  cases(show u=Value.ref b from ry)
  obtain⟨z,hd,xs,rel,dd⟩:=AW I.hok e;have hz:xs.length<=sizeLine:=by rw[<- Paired.length rel];exact z
  have hl:(putK kvs k v).length<=sizeLine:=by have:=ax kvs k v;omega
  refine wpAny_setItem_heap (hsz:=hz) (Dl hu) (aF I.hok eb) dd fun h' dd' hs=>h _ ?_
  obtain⟨q,es,ep,hq,h2,h3,h4,_,h5⟩:=dd';refine gk I (by rw[e];exact True.intro) hs ⟨q,hq⟩ ⟨hl,hd,_,(rel.put k eb rv).keeps fun c ys ec=>?_,q,es,ep,hq,h2,h3,h4,h5⟩
  rw[qp (Qf ec e (fun z=>nomatch z))]
  exact ec
end
section
variable{X:Cx}{DK:List (Addr×Obj)}{σ:St}{H:Hp}{s:Shared}{a:Addr}{kvs:List (qL×V)}{k:qL}{u:Value}{A:Around}{E:Value->Shared->Prop}
theorem AM{Q:Value->Shared->Prop}(I:Inv X DK σ H s)(e:Rd H a (.dK kvs))(h:∀t s',Inv X DK σ H s'->Q (.int kvs.length t) s'):wpAny (model X.prog X.w) A (call (.builtin "len") [.ref a]) Q E s:=by
 obtain⟨z,hd,vs,rel,dd⟩:=ZN I.hok e;refine call_len_dict hd dd (by rw[<- rel.length];rw[Jz]at z;omega) ?_
 rw[<- rel.length];exact h _ _ (I.tok _)
end
def sN(i:Expr):Prop:=∀ov iv,subscripted i false ov iv=operate [ov,iv] (getItem ov iv)
theorem wW{prog:Program}{w:World}{A:Around}{E:Value->Shared->Prop}{s:Shared}{env:Env}{value slice:Expr}{pos:Pos}{T id:String}{Q:Value->Shared->Prop}
  (hl:typeLookup (.type T) "__getitem__"=pure (some (.builtin id)))(hs:sN slice)
  (h:wpAny (model prog w) A (eval value env) (fun o s₁=>wpAny (model prog w) A (eval slice env) (fun i s₂=>s₂.TypeIs o T/\wpAny (model prog w) A (getItem o i) Q E s₂) E s₁) E s):
  wpAny (model prog w) A (eval (.Subscript value slice pos) env) Q E s:=by
 refine Subscript_ (JG h (fun o s₁ h₁=>JG h₁ (fun i s₂ h₂=>?_) fun _ _ x=>x) fun _ _ x=>x)
 obtain⟨hT,h₂⟩:=h₂;unfold subscriptTail;refine Ja ?_
 rw[getitemInPython_of_ne hT.not_modules];refine Ja (CG hT hl ?_)
 have fin:wpAny (model prog w) A (subscripted slice false o i) (fun r s₃=>wpAny (model prog w) A (letTemporaryGo value o r >>= fun _=>pure r) Q E s₃) E s₂:=by
  rw[hs o i];exact wpAny_operating (JG h₂ (fun r s₃ h₃=>Ja (wpAny_letTemporaryGo (Jb h₃))) fun _ _ x=>x)
 first
  |exact Jb (Ja fin)
  |exact Ja (Jb (Ja fin))
  |exact Ja fin
theorem kT{X:Cx}{DK:List (Addr×Obj)}{σ:St}{H:Hp}{s:Shared}{a:Addr}{y:V}{o:Option V}(I:Inv X DK σ H s)(g:DGet H a y o):s.TypeIs (.ref a) "dict":=by
 rcases g with⟨kvs,k,e,_,_⟩|⟨kvs,k,b,e,_,_,_⟩
 ·obtain⟨_,_,vs,_,dd⟩:=ZN I.hok e
  exact dd.typeIs
 ·obtain⟨_,_,xs,_,dd⟩:=bu I.hok e
  exact dd.typeIs
def vd(td ty:TE):TE:=fun σ H Q=>td σ H fun x H1=>ty σ H1 fun y H2=>∃a v,x= .ref a/\DGet H2 a y (some v)/\Q v H2
def yW(ty td:TE):TE:=fun σ H Q=>ty σ H fun y H1=>td σ H1 fun x H2=>∃a o,x= .ref a/\DGet H2 a y o/\Q (.bl o.isSome) H2
def vq(td ty tv:TE):TS:=fun D σ H=>tv σ H fun v H1=>td σ H1 fun x H2=>ty σ H2 fun y H3=>∃a H4,x= .ref a/\DPut H3 a y v H4/\D.nx σ H4
section
variable{X:Cx}{o i e value:Expr}{pos pos' tpos:Pos}{td ty tv:TE}
theorem wD(hu:X.A.units+1<cLine)(ho:PE X o td)(hi:PE X i ty)(hs:sN i):PE X (.Subscript o i pos) (vd td ty):=by
 intro DK s σ H Q I h;refine wW PySem.F.slot_dict_getitem.lookup hs (qD (ho DK s σ H _ I h) fun u s1 ⟨x,H1,I1,rx,q1⟩=>qD (hi DK s1 σ H1 _ I1 q1) fun iv s2 zq=>?_)
 obtain⟨y,H2,I2,ry,a,v,ex,g,q2⟩:=zq;subst ex
 obtain rfl:u=Value.ref a:=rx
 exact⟨kT I2 g,rG hu I2 g ry fun w' s3 I3 rw'=>⟨v,H2,I3,rw',q2⟩⟩
theorem xf(hu:X.A.units+1<cLine)(hi:PE X i ty)(ho:PE X o td):PC X .In i o (yW ty td):=by
 intro DK s σ H Q I h;refine qD (hi DK s σ H _ I h) fun iv s1 ⟨y,H1,I1,ry,q1⟩=>qD (ho DK s1 σ H1 _ I1 q1) fun u s2 zq=>?_
 obtain⟨x,H2,I2,rx,a,ov,ex,g,q2⟩:=zq;subst ex
 obtain rfl:u=Value.ref a:=rx
 exact Bo hu I2 g ry fun s3 I3=>⟨.bl ov.isSome,H2,I3,rfl,q2⟩
theorem vY(hu:X.A.units+1<cLine)(ho:PE X o td)(hi:PE X i ty)(hv:PE X value tv)(hs:swapsWith value (some (.Subscript o i pos')) pos.line X.env=pure false):
  PS X (.Assign [.Subscript o i pos'] value pos) (vq td ty tv):=by
 intro DK s σ H D I h;refine wpAny_Assign_Subscript (qD (hv DK s σ H _ I h) fun r s1 ⟨v,H1,I1,rv,q1⟩=>qD (ho DK s1 σ H1 _ I1 q1) fun u s2 ⟨x,H2,I2,rx,q2⟩=>qD (hi DK s2 σ H2 _ I2 q2) fun iv s3 zq=>?_) hs
 obtain⟨y,H3,I3,ry,a,H4,ex,g,q3⟩:=zq;subst ex
 obtain rfl:u=Value.ref a:=rx
 exact oV hu I3 g ry rv fun s4 I4=>⟨σ,H4,I4,q3⟩
end
theorem i9{P:Program}{w:World}{H:Hp}(h:Heap)(hb:sysModules<h.objs.size):ObjOk P w H (h.push {cls:= .type "dict",data:= .dict #[]}) h.objs.size (.dK []):=
 ⟨JC _,CA.mpr (Ne.symm (Jm hb)),[],.nil,Heap.DictOf.new h⟩
def oI:TE:=fun _ H Q=>∀p,H p=none->Q (.ref p) (upd H p (.dK []))
section
variable{X:Cx}{pos:Pos}
theorem sR:PE X (.Dict [] [] pos) oI:=fun DK s σ H Q I h=>
 wpAny_Dict_empty ⟨.ref s.heap.objs.size,_,I.laid (a:=s.heap.objs.size) (o:= .dK []) (t':=s.toks) (fun _ _ q=>Ji _ q) (Jf _) (i9 s.heap I.big),rfl,h _ (I.hok.fresh (Jf _))⟩
end
def jI:List (TE×TE)->St->Hp->(List (V×V)->Hp->Prop)->Prop
 | [],_,H,Q=>Q [] H
 |(tk,tv)::r,σ,H,Q=>tk σ H fun x H1=>tv σ H1 fun y H2=>jI r σ H2 fun ps H3=>Q ((x,y)::ps) H3
abbrev VV:List (V×V)->List (Value×Value)->Prop:=Paired fun p q=>RelV p.1 q.1/\RelV p.2 q.2
def pN(X:Cx)(pos:Pos)(keys:List (Option Expr))(values:List Expr)(trs:List (TE×TE)):Prop:=
 ∀(DK:List (Addr×Obj)) (s:Shared) (σ:St) (H:Hp) (Q:List (V×V)->Hp->Prop),Inv X DK σ H s->jI trs σ H Q->
  wpAny (model X.prog X.w) X.A (evalPairs (pairTrees keys values X.env pos)) (fun vs s'=>∃ps H',Inv X DK σ H' s'/\VV ps vs/\Q ps H') X.xe s
theorem wO{X:Cx}{pos:Pos}:pN X pos [] [] []:=fun DK s σ H Q I h=>pairTrees_nil_walk ⟨[],H,I,.nil,h⟩
theorem uN{X:Cx}{pos:Pos}{k v:Expr}{ks:List (Option Expr)}{vs:List Expr}{tk tv:TE}{trs:List (TE×TE)}(hk:PE X k tk)(hv:PE X v tv)(hr:pN X pos ks vs trs):
  pN X pos (some k::ks) (v::vs) ((tk,tv)::trs):=fun DK s σ H Q I h=>
 pairTrees_cons_walk (qD (hk DK s σ H _ I h) fun u s1 ⟨x,H1,I1,rx,q1⟩=>qD (hv DK s1 σ H1 _ I1 q1) fun w2 s2 ⟨y,H2,I2,ry,q2⟩=>
  qD (hr DK s2 σ H2 _ I2 q2) fun ws s3 ⟨ps,H3,I3,rel,q3⟩=>⟨(x,y)::ps,H3,I3,.cons ⟨rx,ry⟩ rel,q3⟩)
def Zg(kvs more:List (qL×V)):List (qL×V):=more.foldl (fun acc kv=>putK acc kv.1 kv.2) kvs
theorem KV.merge:∀{more:List (qL×V)} {rs:List (qL×Value)} {kvs:List (qL×V)} {vs:List (qL×Value)},KV more rs->KV kvs vs->KV (Zg kvs more) (merged vs rs):=by
 intro more rs kvs vs r;unfold KV at r
 induction r generalizing kvs vs with
 |nil=>intro q;exact q
 | @cons p q ps qs h t ih=>
  intro r0;have e:KV (putK kvs p.1 p.2) (stored vs q.1 q.2):=by
   have:=r0.put p.1 h.2
   rw[<- h.1];exact this
  exact ih e
theorem bA:∀(more kvs:List (qL×V)),(Zg kvs more).length<=kvs.length+more.length
 | [],kvs=>by show kvs.length<=kvs.length+0;omega
 |p::r,kvs=>by
  have h1:=bA r (putK kvs p.1 p.2);have h2:=ax kvs p.1 p.2
  show(Zg (putK kvs p.1 p.2) r).length<=_
  rw[BM];omega
theorem eR{P:Program}{w:World}:∀{kvs:List (qL×V)} {ws:List (Value×Value)},VV (kvs.map fun kv=>(kV kv.1,kv.2)) ws->∃rs,Carries (qU P w) ws rs/\KV kvs rs
 | [],_,r=>by rw[C9]at r;cases r;exact⟨[],True.intro,.nil⟩
 |p::kvs,_,r=>by
  rw[JW]at r;cases r with
  | @cons a b as bs h t=>
   obtain⟨rs,c,q⟩:=eR (P:=P) (w:=w) t
   obtain⟨b1,b2⟩:=b
   exact⟨(p.1,b2)::rs,⟨bf h.1,rfl,c⟩,.cons ⟨rfl,h.2⟩ q⟩
def vb(trs:List (TE×TE)):TE:=fun σ H Q=>∀p,H p=none->jI trs σ (upd H p (.dK [])) fun ps H2=>H2 p=some (.dK [])/\∃kvs:List (qL×V),ps=kvs.map (fun kv=>(kV kv.1,kv.2))/\kvs.length<=15/\Q (.ref p) (upd H2 p (.dK (Zg [] kvs)))
theorem wR{X:Cx}{pos:Pos}{keys:List (Option Expr)}{values:List Expr}{trs:List (TE×TE)}(h:pN X pos keys values trs)(hall:keys.all (·.isSome)=true)(hl:keys.length=values.length)(h0:keys≠[])
  (h15:keys.length<=15):PE X (.Dict keys values pos) (vb trs):=by
 intro DK s σ H Q I q;have hn:=I.hok.fresh (Jf s.heap.objs.size);have I1:=I.laid (a:=s.heap.objs.size) (o:= .dK []) (h':=s.heap.push {cls:= .type "dict",data:= .dict #[]}) (t':=s.toks) (fun _ _ q=>Ji _ q) (Jf _) (i9 s.heap I.big)
 refine wpAny_Dict_walk (knd:=qU X.prog X.w) hall hl h0 h15 (qD (h DK _ σ _ _ I1 (q _ hn)) fun ws s2 zq=>?_)
 obtain⟨ps,H2,I2,rel,e,kvs,ep,lk,q2⟩:=zq;subst ep;obtain⟨rs,c,rk⟩:=eR (P:=X.prog) (w:=X.w) rel
 obtain⟨z,hd,vs0,r0,dd⟩:=oq I2.hok e;cases r0;refine⟨rs,c,dd,fun h' dd' hs=>⟨.ref s.heap.objs.size,_,?_,rfl,q2⟩⟩
 have hz:(Zg [] kvs).length<=sizeLine:=by
  have h1:=bA kvs [];rw[List.length_nil]at h1;rw[Jz];omega
 have he:∃q,h'.get? s.heap.objs.size=some q:=let⟨q,_,_,hq,_⟩:=dd';⟨q,hq⟩
 exact gk I2 (by rw[e];exact True.intro) hs he (kC hz hd (rk.merge .nil) dd')
structure M1(X:Cx)(o:Expr)(m:Str)(apos:Pos)(e:Expr)(cpos:Pos):Prop where
 base:attributeBase o m X.env (eval o X.env)=eval o X.env
 few:((backTo cpos (starEach [e] X.env)).all (fun x=> !x.1)&&(backToKw cpos (keywordEach [] X.env)).all (fun x=>x.1.isSome)
  &&decide (([e]:List Expr).length+([]:List Keyword).length+(if([]:List Keyword).isEmpty then 0 else 1)<30))=true
 line:(apos.endLine==cpos.line)=true
 trees:backTo cpos (starEach [e] X.env)=[(false,eval e X.env)]
structure M2(X:Cx)(o:Expr)(m:Str)(apos:Pos)(e f:Expr)(cpos:Pos):Prop where
 base:attributeBase o m X.env (eval o X.env)=eval o X.env
 few:((backTo cpos (starEach [e,f] X.env)).all (fun x=> !x.1)&&(backToKw cpos (keywordEach [] X.env)).all (fun x=>x.1.isSome)
  &&decide (([e,f]:List Expr).length+([]:List Keyword).length+(if([]:List Keyword).isEmpty then 0 else 1)<30))=true
 line:(apos.endLine==cpos.line)=true
 trees:backTo cpos (starEach [e,f] X.env)=[(false,eval e X.env),(false,eval f X.env)]
def Az(H:Hp)(a:Addr):Prop:=(∃kvs,Rd H a (.dK kvs))\/∃kvs,Rd H a (.dT kvs)
theorem re{X:Cx}{DK:List (Addr×Obj)}{σ:St}{H:Hp}{s:Shared}{a:Addr}(I:Inv X DK σ H s)(d:Az H a):
  s.TypeIs (.ref a) "dict"/\(∀b,Value.ref a= .ref b->∃ob,s.heap.get? b=some ob/\ob.dict=none)/\(a==sysModules)=false:=by
 rcases d with⟨kvs,e⟩|⟨kvs,e⟩
 ·obtain⟨_,hd,vs,_,dd⟩:=ZN I.hok e
  refine⟨dd.typeIs,fun b q=>?_,hd⟩
  cases q;obtain⟨ob,_,_,h1,h2,_⟩:=dd
  exact⟨ob,h1,h2.2.1⟩
 ·obtain⟨_,hd,xs,_,dd⟩:=bu I.hok e
  refine⟨dd.typeIs,fun b q=>?_,hd⟩
  cases q;obtain⟨ob,_,_,h1,h2,_⟩:=dd
  exact⟨ob,h1,h2.2.1⟩
section
variable{X:Cx}{DK:List (Addr×Obj)}{σ:St}{H:Hp}{s:Shared}{a:Addr}{y d:V}{u r:Value}{o:Option V}{A:Around}{E:Value->Shared->Prop}
theorem xv{Q:Value->Shared->Prop}(hu:A.units+1<cLine)(I:Inv X DK σ H s)(g:DGet H a y o)(ry:RelV y u)(h:∀w' s',Inv X DK σ H s'->RelV (o.getD .non) w'->Q w' s'):
  wpAny (model X.prog X.w) A (call (.builtin "dict.get") [.ref a,u]) Q E s:=by
 rcases g with⟨kvs,k,e,ey,l⟩|⟨kvs,k,b,e,ey,eb,l⟩
 ·subst ey
  obtain⟨z,hd,vs,rel,dd⟩:=ZN I.hok e;refine call_meetsIn C4 dd.typeIs PySem.F.entry_dict_get (PySem.F.args_dict_get_2 _ _) (meets_dict_get (qU X.prog X.w) a (bf ry) hd) ⟨_,dd.mapOf,h _ _ (I.tok _) ?_⟩
  rw[l]
  exact(rel.val k).getD rfl
 ·subst ey
  cases(show u=Value.ref b from ry)
  obtain⟨z,hd,xs,rel,dd⟩:=bu I.hok e;refine call_meetsIn C4 dd.typeIs PySem.F.entry_dict_get (PySem.F.args_dict_get_2 _ _) (meetsH_dict_get (tupleKind (qU X.prog X.w)) a b hd) ⟨Dl hu,k,xs,aF I.hok eb,dd,h _ _ (I.tok _) ?_⟩
  rw[l]
  exact(rel.val k).getD rfl
theorem xp{Q:Value->Shared->Prop}(hu:A.units+1<cLine)(I:Inv X DK σ H s)(g:DGet H a y o)(ry:RelV y u)(rd:RelV d r)(h:∀w' s',Inv X DK σ H s'->RelV (o.getD d) w'->Q w' s'):
  wpAny (model X.prog X.w) A (call (.builtin "dict.get") [.ref a,u,r]) Q E s:=by
 rcases g with⟨kvs,k,e,ey,l⟩|⟨kvs,k,b,e,ey,eb,l⟩
 ·subst ey
  obtain⟨z,hd,vs,rel,dd⟩:=ZN I.hok e;refine call_meetsIn C4 dd.typeIs PySem.F.entry_dict_get (PySem.F.args_dict_get_3 _ _ _) (meets_dict_get_default (qU X.prog X.w) a (bf ry) hd r) ⟨_,dd.mapOf,h _ _ (I.tok _) ?_⟩
  rw[l]
  exact(rel.val k).getD rd
 ·subst ey
  cases(show u=Value.ref b from ry)
  obtain⟨z,hd,xs,rel,dd⟩:=bu I.hok e;refine call_meetsIn C4 dd.typeIs PySem.F.entry_dict_get (PySem.F.args_dict_get_3 _ _ _) (meetsH_dict_get_default (tupleKind (qU X.prog X.w)) a b hd r) ⟨Dl hu,k,xs,aF I.hok eb,dd,h _ _ (I.tok _) ?_⟩
  rw[l]
  exact(rel.val k).getD rd
end
def sG(td ty:TE):TE:=fun σ H Q=>td σ H fun x H1=>∃a,x= .ref a/\Az H1 a/\ty σ H1 fun y H2=>∃o,DGet H2 a y o/\Q (o.getD .non) H2
def pI(td ty tx:TE):TE:=fun σ H Q=>td σ H fun x H1=>∃a,x= .ref a/\Az H1 a/\ty σ H1 fun y H2=>tx σ H2 fun z H3=>∃o,DGet H3 a y o/\Q (o.getD z) H3
section
variable{X:Cx}{o e f:Expr}{apos cpos:Pos}{td ty tx:TE}
theorem uH(hu:X.A.units+1<cLine)(ho:PE X o td)(he:PE X e ty)(m:M1 X o "get" apos e cpos):PE X (.Call (.Attribute o "get" apos) [e] [] cpos) (sG td ty):=by
 intro DK s σ H Q I h;refine wpAny_Call_method m.base m.few m.line PySem.F.plainAttrs_dict C4 PySem.F.type_dict_get (qD (ho DK s σ H _ I h) fun u s1 zq=>?_)
 obtain⟨x,H1,I1,rx,a,ex,d,q1⟩:=zq;subst ex
 obtain rfl:u=Value.ref a:=rx
 obtain⟨t1,t2,_⟩:=re I1 d;refine⟨t1,t2,?_⟩
 rw[m.trees];refine Ds rfl (DH (Calls.spliced_cons (qD (he DK s1 σ H1 _ I1 q1) fun iv s2 ⟨y,H2,I2,ry,ov,g,q2⟩=>Calls.spliced_nil ?_)))
 exact xv hu I2 g ry fun w' s3 I3 rw'=>⟨_,H2,I3,rw',q2⟩
theorem uC(hu:X.A.units+1<cLine)(ho:PE X o td)(he:PE X e ty)(hf:PE X f tx)(m:M2 X o "get" apos e f cpos):PE X (.Call (.Attribute o "get" apos) [e,f] [] cpos) (pI td ty tx):=by
 intro DK s σ H Q I h;refine wpAny_Call_method m.base m.few m.line PySem.F.plainAttrs_dict C4 PySem.F.type_dict_get (qD (ho DK s σ H _ I h) fun u s1 zq=>?_)
 obtain⟨x,H1,I1,rx,a,ex,d,q1⟩:=zq;subst ex
 obtain rfl:u=Value.ref a:=rx
 obtain⟨t1,t2,_⟩:=re I1 d;refine⟨t1,t2,?_⟩
 rw[m.trees];refine Ds rfl (DH (Calls.spliced_cons (qD (he DK s1 σ H1 _ I1 q1) fun iv s2 ⟨y,H2,I2,ry,q2⟩=>
  Calls.spliced_cons (qD (hf DK s2 σ H2 _ I2 q2) fun fv s3 ⟨z,H3,I3,rz,ov,g,q3⟩=>Calls.spliced_nil ?_))))
 exact xp hu I3 g ry rz fun w' s4 I4 rw'=>⟨_,H3,I4,rw',q3⟩
end
section
variable{X:Cx}
theorem sC:zg X (.builtin "len") (fun xs H Q=>∃a kvs,xs=[V.ref a]/\H a=some (.dK kvs)/\Q (.int kvs.length) H):=by
 intro DK s σ H xs us Q I r h;obtain⟨a,kvs,rfl,ha,q⟩:=h;obtain⟨u,rfl,ru⟩:=zW r;cases ru;exact AM I (.inl ha) fun t s' I'=>⟨.int kvs.length,H,I',⟨t,rfl⟩,q⟩
end
end L2
namespace L3
open PySem PySem.Spec PyProof.Rows L2
open PySem.W (kdl_dict kdl_extend)
section
variable{prog:Program}{w:World}{A:Around}{E:Value->Shared->Prop}{s:Shared}
theorem jd{d:Addr}{kvs:List (qL×Value)}{ep:Nat}{Q:List Value->Shared->Prop}(hh:A.handled=none)(hm:s.heap.DictAt (qU prog w) d kvs ep)(lo:(d==sysModules)=false)(hn:kvs.length<=sizeLine)
  (h:∀(vs:List Value) (h':Heap) (tk:Nat),s.heap.objs.size<h'.objs.size->(∀b o,s.heap.get? b=some o->h'.get? b=some o)->vs.length=kvs.length->(∀(j:Nat) (v:Value),vs[j]? =some v->∃k x,kvs[j]? =some (k,x)/\(qU prog w).is k v=true)->Q vs {s with heap:=h',toks:=tk}):
  wpAny (model prog w) A (collect (.ref d)) Q E s:=by
 unfold collect;refine Ja (wpAny_runValue (Cd entry_proto_collect' ?_))
 show wpAny _ _ (do again (.builtin "list.__iadd__" ⟨[<- newList [],.ref d],[]⟩)) _ _ s
 refine Ja (wpAny_newList (Jb ⟨Code.quiet_builtin _ (by decide +kernel),Cd entry_list_iadd' ?_⟩))
 rw[Around.under_plainId PySem.F.plain_list_iadd _];have hlt:d<s.heap.objs.size:=hm.lt_size
 refine kdl_extend (s:={s with heap:=s.heap.push (seqObj "list" #[] 0)}) (R:=fun r s'=>match r with
   | .ok (.ret v)=>wpAny (model prog w) A (match v with
    | .ref a=>(do
     let o <- load a
     match o.data with
     | .seq xs _=>pure xs.toList
     |_=>unsupported "internal:collect")
    |_=>unsupported "internal:collect") Q E s'
   | .ok _=>False
   | .error e=>E e s') (kdl_dict (knd:=qU prog w) (ep:=ep) (kvs:=kvs) lo) hh (hm.push _) s.heap.objs.size (JQ hlt) (JQ hlt) _ 0 (Jn _ rfl) (fun h' tk acc' c' hk hS hI=>?_) hn
 show wpAny (model prog w) A (do
   let o <- load s.heap.objs.size
   match o.data with
   | .seq xs _=>pure xs.toList
   |_=>unsupported "internal:collect") Q E {s with heap:=h',toks:=tk}
 refine Ja (wpAny_load hS ?_)
 refine Jb (h acc'.toList h' tk (Jh hS) (fun b o e=>hk b o (Jm (Jh e)) (Ji _ e)) (by rw[J1];exact hI.1) fun j v e=>hI.2 j v (by rw[<- Array.getElem?_toList];exact e))
theorem gE:∀{us:List Value} {ss:List Str},us.length=ss.length->(∀(j:Nat) (v:Value),us[j]? =some v->∃x t,ss[j]? =some x/\v= .str x t)->StrsAre us ss
 | [],[],_,_=> .nil
 |u::us,x::ss,hl,h=>by
  obtain⟨y,t,e1,e2⟩:=h 0 u rfl;cases e1;subst e2;exact .cons _ _ (gE (Nat.succ.inj hl) fun j v e=>h (j+1) v e)
 | [],_::_,hl,_=>by cases hl
 |_::_,[],hl,_=>by cases hl
theorem k5{d:Addr}{kvs:List (qL×Value)}{ep:Nat}{ss:List Str}{Q:Value->Shared->Prop}(hh:A.handled=none)(hm:s.heap.DictAt (qU prog w) d kvs ep)(lo:(d==sysModules)=false)(hks:kvs.map (·.1)=ss.map Sum.inr)(h64:ss.length<64)
  (h:∀(h':Heap) (tk:Nat) (l:Addr) (its:List Value) (n:Nat) (ss':List Str),s.heap.objs.size<=l->(∀b o,s.heap.get? b=some o->h'.get? b=some o)->h'.get? l=some (seqObj "list" its.toArray n)->StrsAre its ss'->ss'.Perm ss->sortedS ss'=true->Q (.ref l) {s with heap:=h',toks:=tk}):
  wpAny (model prog w) A (call (.builtin "sorted") [.ref d]) Q E s:=by
 have hlen:kvs.length=ss.length:=by have:=JP List.length hks;rwa [Je,Je]at this
 refine Calls.call_function_entry kind_sorted plain_sorted entry_sorted (args_sorted1 _) ?_
 unfold Builtin.«sorted»
 refine Ja (m:=checkCount "sorted" 1 1 _) (Jb ?_)
 refine Ja (jd (ep:=ep) (kvs:=kvs) hh hm lo (by rw[Jz];omega) fun us h' tk hlt hk hl hv=>?_)
 have hS:StrsAre us ss:=gE (hl.trans hlen) fun j v e=>by
  obtain⟨k,x,e1,e2⟩:=hv j v e;have e3:(kvs.map (·.1))[j]? =some k:=by rw[Jo,e1];rfl
  rw[hks,Jo]at e3;cases e4:ss[j]? with
  |none=>rw[e4]at e3;cases e3
  |some y=>
   rw[e4]at e3;have e5:Sum.inr y=k:=Jv e3
   subst e5;have e6:Value.isStrOf y v=true:=e2
   cases v<;>simp [Value.isStrOf]at e6
   subst e6
   exact⟨_,_,rfl,rfl⟩
 refine Ja (wpAny_newList ?_)
 have hoL:(h'.push (seqObj "list" us.toArray 0)).get? h'.objs.size=some (seqObj "list" us.toArray 0):=Jn _ rfl
 show wpAny _ _ _ _ _ {s with heap:=h'.push (seqObj "list" us.toArray 0),toks:=tk}
 refine Ja (JV (JT slot_list_sort ⟨_,hoL,rfl⟩ entry_list_sort (list_sort_treeK (κ:=PyProof.Rows.strKind) strKind_oneLt hoL hS.keysOf (fun v₁ v₂ rest e=>keyKind_strs (by rw[<- e];exact hS)) (by rw[hl,hlen];exact h64) fun st' a1 a2=>⟨_,rfl,?_⟩) (args_list_sort _)))
 obtain⟨ss',b1,b2,b3⟩:=sorted_out_str hS a1 a2;obtain⟨n',hn'⟩:∃n',(sortedHeap (h'.push (seqObj "list" us.toArray 0)) h'.objs.size us ((arrOf st').map (·.2))).get? h'.objs.size=some (seqObj "list" ((arrOf st').map (·.2)) n'):=sortedHeap_at hoL
 refine Jb ⟨_,rfl,h _ tk h'.objs.size ((arrOf st').map (·.2)).toList n' ss' (C5 hlt) (fun b o e=>?_) (by rw[hn']) b1 b2 b3⟩
 have e':=hk b o e;have hb:b<h'.objs.size:=Jh e'
 rw[sortedHeap_old (Jm hb) (by rw[JR];exact B9 hb)]
 exact Ji _ e'
end
theorem bO:∀{us:List Value} {ss:List Str},StrsAre us ss->Vals (ss.map V.str) us
 | [],[],.nil=> .nil
 |_,_::_,.cons _ _ t=> .cons ⟨_,rfl⟩ (bO t)
theorem cx{X:Cx}(hc:X.calm=true):zg X (.builtin "sorted") (fun xs H Q=>∃(d:Addr) (kvs:List (qL×V)) (ss:List Str),xs=[.ref d]/\H d=some (.dK kvs)/\kvs.map (·.1)=ss.map Sum.inr/\ss.length<64/\
  ∀l ss',H l=none->ss'.Perm ss->sortedS ss'=true->Q (.ref l) (upd H l (.lst (ss'.map V.str)))):=by
 intro DK s σ H xs us Q I r h;obtain⟨d,kvs,ss,rfl,hH,hks,h64,q⟩:=h;obtain⟨u,rfl,ru⟩:=zW r;cases ru;obtain⟨z,lo,vs,rel,o,es,ep,d1,d2,d3,d4,d5,d6⟩:=oq I.hok hH;have hks':vs.map (·.1)=ss.map Sum.inr:=by rw[<- hks,rel.keys]
 refine k5 (I.ok.hd hc) (⟨o,es,d1,d2,d3,d4,d5,d6⟩:s.heap.DictAt (qU X.prog X.w) d vs ep) lo hks' h64 fun h' tk l its n ss' hl hk hL b1 b2 b3=>?_
 refine⟨.ref l,_,I.laid (a:=l) (o:= .lst (ss'.map V.str)) (t':=tk) hk hl ?_,rfl,q l ss' (I.hok.fresh hl) b2 b3⟩
 have vl:=bO b1;refine⟨?_,its,n,vl,hL⟩
 have:=b2.length_eq
 rw[Je,Jz];omega
end L3
namespace L3
open PySem PySem.Spec PyProof.Rows L2
open Sem (wp)
def rL(k:Nat)(js:List Nat)(g:TG)(tc:TT)(te:TE)(σ:L2.St)(Q:VK)(J:It)(H1:Hp):Prop:=∃W:Nat->Nat->List V->L2.St->Hp->Prop,(∃m,W 0 m [] (σ0 k js σ) H1)/\∀i m ys τ H,W i m ys τ H->
 (J.stop i H/\∀p,H p=none->Q (.ref p) (upd H p (.lst ys)))\/(J.go i H/\ys.length<sizeLine/\∀x H',J.yld i H x H'->g x τ H' fun τ2 H2=>∃(N:V->Hp->Prop) (N0:Hp->Prop),(∀v H3,N v H3->∃m',m'<m/\W (i+1) m' (ys++[v]) τ2 H3)/\
  (∀H3,N0 H3->∃m',m'<m/\W (i+1) m' ys τ2 H3)/\tc τ2 H2 fun c H3=>if c=true then te τ2 H3 N else N0 H3)
def rT(k:Nat)(js:List Nat)(wi:TI)(g:TG)(tc:TT)(te:TE):TE:=fun σ H Q=>wi σ H (rL k js g tc te σ Q)
section
variable{prog:Program}{w:World}{A:Around}{R:Result->Shared->Prop}{s:Shared}
theorem lh{elt target iter cnd:Expr}{scope:Scope}{pos:Pos}{it acc:Value}{env:Env}(I:Nat->Shared->Prop)
  (turn:∀n s,I n s->wpAny (model prog w) A (pyNext it) (fun r s₁=>match r with
   |none=>R (.ok .next) s₁
   | some v=>wpAny (model prog w) A (letOwnedTupleGo target it v) (fun _ s₁'=>wpAny (model prog w) A (assign target env v) (fun _ s₂=>wpAny (model prog w) A (isTrue cnd env (eval cnd env)) (fun ok s₂'=>
     if ok=true then wpAny (model prog w) A (eval elt env) (fun x s₃=>
      wpAny (model prog w) A (call (.builtin "list.append") [acc,x]) (fun _ s₄=>∃m,m<n/\I m s₄) (fun _ _=>False) s₃) (fun _ _=>False) s₂' else∃m,m<n/\I m s₂')
     (fun _ _=>False) s₂) (fun _ _=>False) s₁') (fun _ _=>False) s₁) (fun _ _=>False) s)
  (n:Nat)(h:I n s):
  codeAny (model prog w) A (.compLoop (.ListComp elt [⟨target,iter,[cnd],0⟩] scope pos) 0 it acc env) R s:=by
 refine codeAny_loop rfl I (fun n s hI=>?_) n h
 show wpAny _ _ ((compTurn (.ListComp elt [⟨target,iter,[cnd],0⟩] scope pos) 0 it acc env).onRaise (fun x=>do noteFrame x env;theTreesLotGoes x)) _ _ s
 refine wpAny_noted ?_
 rw[compTurn_list];refine Ja (CB (Ja (JG (turn n s hI) (fun r s₁ h₁=>?_) fun _ _ h'=>h'.elim)))
 cases r with
 |none=>exact Jb h₁
 |some v=>
  refine Ja (JG h₁ (fun _ s₁' h₁'=>?_) fun _ _ h'=>h'.elim)
  refine Ja (JG h₁' (fun _ s₂ h₂=>Ja (wpAny_tests_one (JG h₂ (fun ok s₂' h₂'=>?_) fun _ _ h'=>h'.elim))) fun _ _ h'=>h'.elim)
  cases ok with
  |false=>exact Jb ⟨rfl,h₂'⟩
  |true=>
   exact Ja (Ja (JG h₂' (fun x s₃ h₃=>Ja (JG h₃ (fun _ s₄ h₄=>Jb (Jb ⟨rfl,h₄⟩)) fun _ _ h'=>h'.elim)) fun _ _ h'=>h'.elim))
end
variable{X:Cx}
theorem oU{elt tg iter cnd:Expr}{scope:Scope}{cl:List (Str×Addr)}{pos fpos:Pos}{fr own:List Str}{js:List Nat}{wi:TI}{g:TG}{tc:TT}{te:TE}{use:Option (Value->Sem Unit)}{Post:Value->Shared->Prop}
  {DK:List (Addr×Obj)}{s:Shared}{σ:L2.St}{H:Hp}{Q:VK}
  (hc:X.calm=true)(hi:PI X tg iter wi)(hclos:closureFor scope X.env=pure cl)(hcl:∀y c,cl.lookup y=some c->X.env.cells.lookup y=some c)(hfr:cl.map (·.1)=fr)
  (S:BScope X scope fr js)
  (hg:∀C s H fp,PG (zY X (own++fr) scope cl C s H fp) tg g)(ht:∀C s H fp,PT (zY X (own++fr) scope cl C s H fp) cnd tc)(he:∀C s H fp,PE (zY X (own++fr) scope cl C s H fp) elt te)
  (hs:∀x,foldedSetIterable iter X.env x=pure x)
  (I:L2.Inv X DK σ H s)(h:rT own.length js wi g tc te σ H Q)
  (hfin:∀(acc C:Addr) (s5:Shared) (H':Hp) (m:Str->Option Value),L2.Inv X DK σ H' s5->s5.heap.Ns C m->Away X DK H' C->Q (.ref acc) H'->compPost (model X.prog X.w) X.A X.xe use Post (.ref acc) C (.ok .next) s5):
  wpAny (model X.prog X.w) X.A (comprehension (.ListComp elt [⟨tg,iter,[cnd],0⟩] scope pos) scope X.env fpos (newList []) false (eval iter X.env) use) Post X.xe s:=by
 refine wpAny_comprehension_free (use:=use) rfl hs hclos S.kind S.names (qD (hi DK s σ H _ I h) fun v s1 h1=>qD h1 fun itv s2 h2=>?_)
 obtain⟨it,fp,tn,J,H2,e,I2,T,st2,f2,W,⟨m0,w0⟩,turn⟩:=h2;subst e;refine J3 (wpAny_newFunctionEnv S.nocell (by intro y hy;simp at hy) (fun h₁ hns₁ hsb₁=>?_) S.kind)
 dsimp only at hns₁ hsb₁⊢
 generalize hH2:s2.heap.push {cls:= .type "list",dict:=none,data:= .seq ([]:List Value).toArray}=G at hns₁ hsb₁⊢
 have hC:G.objs.size=s2.heap.objs.size+1:=by rw[<- hH2,JR]
 have hDC:s2.heap.objs.size≠G.objs.size:=by rw[hC];exact Jm (BX _)
 have below:∀b,b<s2.heap.objs.size->b≠G.objs.size/\b≠s2.heap.objs.size:=fun b hb=>⟨by rw[hC];exact Jm (B9 hb),Jm hb⟩
 have old:∀b o,s2.heap.get? b=some o->h₁.get? b=some o:=fun b o e=>hsb₁.extBut b o (below b (Jh e)).1 (Ji _ (hH2▸Ji _ e))
 have hacc:h₁.get? s2.heap.objs.size=some {cls:= .type "list",data:= .seq ([]:List Value).toArray 0}:=hsb₁.extBut _ _ hDC (Ji _ (hH2▸Jn _ rfl))
 let Y:Cx:=zY X (own++fr) scope cl G.objs.size s2 H2 fp
 have fplt:∀b∈fp,b<s2.heap.objs.size:=fun b hb=>by obtain⟨o,e,_⟩:=T.obj _ _ st2 b hb;exact Jh e
 have okY:Y.Ok:=by
  refine⟨I2.ok.mod,S.kind,I2.ok.glob,I2.ok.blt,by show s2.heap.objs.size<=G.objs.size;omega,?_,?_,?_,I2.ok.hd,I2.ok.frames,.inl rfl,?_,I2.bs,JA I2.ok.bsz I2.sz,?_,?_,I2.stack,I2.stkFree⟩
  ·exact fun x y c e1 e2=>I2.ok.inj x y c (hcl x c e1) (hcl y c e2)
  ·intro x hx
   have hx':(relabel scope X.env).names.lookup x=some .cell\/(relabel scope X.env).names.lookup x=some .free:=hx
   have hm:∃k,(x,k)∈scope.names/\k= .free:=by
    have aux:∀kk:NameKind,(kk= .cell\/kk= .free)->(relabel scope X.env).names.lookup x=some kk->∃k,(x,k)∈scope.names/\k= .free:=by
     intro kk hk el;obtain⟨⟨n,k⟩,hmem,e⟩:=Jw.mp (CC el)
     dsimp only at e
     split at e
     ·rename_i hcond
      cases e;refine⟨k,hmem,?_⟩
      simp only[J4,B2]at hcond;exact hcond.1.1
     ·cases e
      rcases hk with z|z
      ·subst z;exact absurd rfl (S.nocell _ hmem)
      ·exact⟨_,hmem,z⟩
    rcases hx' with z|z
    ·exact aux _ (.inl rfl) z
    ·exact aux _ (.inr rfl) z
   obtain⟨k,hmem,hk⟩:=hm;exact zH (l:=cl) (by rw[hfr];exact S.free _ hmem hk)
  ·exact fun x c e _=>nomatch e
  ·refine fun b hb=>⟨?_,fun x c e=>(f2 b hb).2.2.2.2.1 x c (hcl x c e)⟩
   show b≠G.objs.size
   exact(below b (fplt b hb)).1
  ·intro b o e hb
   rcases(f2 b hb).2.2.2.1 with z|z
   ·exact I2.ok.noex b o e z
   ·exact absurd (JB (Jh e) (JA I2.ok.bsz z)) (JU _)
  ·intro b hb hf
   rcases Jj.mp (I2.stkSub b hf)with z|z
   ·exact(f2 b hb).2.1 z
   ·exact(f2 b hb).2.2.1 z
 have lenσ:(σ0 own.length js σ).length=(own++fr).length:=by unfold σ0;simp [S.len]
 have IY:Inv Y [] (σ0 own.length js σ) H2 {s2 with heap:=h₁,toks:=s2.toks+([]:List (Str×Value)).length}:=by
  refine⟨okY,rfl,I2.bare,Un.kept old,⟨_,hns₁,?_⟩,?_,?_,?_,fun p hp=>absurd (show p∈([]:List (Addr×Obj))from hp) (by simp),I2.hok.kept old,lenσ⟩
  ·intro i x v hN hv _
   have hN':(own++fr)[i]? =some x:=hN
   unfold σ0 at hv
   by_cases hlt:i<own.length
   ·rw[J0 (by simpa using hlt),List.getElem?_replicate]at hv
    split at hv<;>cases hv
   ·rw[JX (by simpa using Dc hlt),DD,Jo]at hv
    rw[JX (Dc hlt)]at hN';cases ej:js[i-own.length]? with
    |none=>rw[ej]at hv;cases hv
    |some j=>
     rw[ej]at hv;have hσ:σ[j]? =some (some v):=by
      have hv':(σ[j]?).join=some v:=Jv hv
      cases q:σ[j]? with
      |none=>rw[q]at hv';cases hv'
      |some o=>rw[q]at hv';have:o=some v:=hv';rw[this]
     obtain⟨hNj,hk,hkr⟩:=S.at_ _ j x ej hN';obtain⟨m,hn,hl⟩:=I2.loc;obtain⟨u,ru,lk⟩:=hl j x v hNj hσ (.inr (.inl hk))
     refine⟨u,ru,.inr ?_⟩
     rcases lk with⟨k1,_⟩|⟨_,c,ec,ic⟩
     ·rw[hk]at k1;cases k1
     ·obtain⟨c',hc'⟩:=zH (y:=x) (l:=cl) (by rw[hfr];exact JS hN')
      have:c'=c:=by have:=hcl x c' hc';rw[ec]at this;exact(Jv this).symm
      subst this;refine⟨?_,c',hc',?_⟩
      ·show(relabel scope X.env).names.lookup x=some .cell\/(relabel scope X.env).names.lookup x=some .free
       exact .inl hkr
      ·obtain⟨oc,hoc,hd⟩:=ic
       exact⟨oc,old _ _ hoc,hd⟩
  ·intro x c e
   obtain⟨v,oc,hoc,hd⟩:=I2.cell x c (hcl x c e)
   exact⟨v,oc,old _ _ hoc,hd⟩
  ·exact I2.hok.fresh (by show s2.heap.objs.size<=G.objs.size;omega)
  ·exact fun x c e=>I2.freeC x c (hcl x c e)
 have accfs:s2.heap.objs.size∉aG X.stack:=fun hf=>by
  rcases Jj.mp (I2.stkSub _ hf)with z|z
  ·exact absurd (by rw[<- z];exact Jf _:s2.heap.objs.size<=X.env.locals) (Nat.not_le.mpr I2.lt)
  ·exact I2.nofs (Jf _) z
 have acccell:∀x c,cl.lookup x=some c->c≠s2.heap.objs.size:=fun x c e z=>by
  obtain⟨v,oc,hoc,_⟩:=I2.cell x c (hcl x c e)
  exact absurd (Jh hoc) (by rw[z];exact JU _)
 have fpY:∀{H':Hp} {pl:List (Addr×Obj)},(∀b∈fp,H' b=none)->(∀p∈pl,p.1=s2.heap.objs.size)->∀b∈fp,Zs Y pl H' b:=fun{H' pl} hn hp b hb=>
  ⟨hn b hb,(below b (fplt b hb)).1,okY.exfs b hb,.inl hb,fun x c e=>(f2 b hb).2.2.2.2.1 x c (hcl x c e),fun p hpp=>by
   have hpp':p∈pl:=by simpa [Y,zY]using hpp
   rw[hp p hpp'];exact Ne.symm (below b (fplt b hb)).2⟩
 have loop:∀s₃:Shared,Inv Y [] (σ0 own.length js σ) H2 s₃->tn 0 s₃.heap->s₃.heap.get? s2.heap.objs.size=some {cls:= .type "list",data:= .seq ([]:List Value).toArray 0}->
   codeAny (model X.prog X.w) X.A (.compLoop (.ListComp elt [⟨tg,iter,[cnd],0⟩] scope pos) 0 (.ref it) (.ref s2.heap.objs.size) (compEnvC scope cl G.objs.size X.env))
    (compPost (model X.prog X.w) X.A X.xe use Post (.ref s2.heap.objs.size) G.objs.size) s₃:=by
  intro s₃ I3 st3 ha3;refine lh (fun n s'=>∃i ys τ H' its k,Inv Y [(s2.heap.objs.size,{cls:= .type "list",data:= .seq its.toArray k})] τ H' s'/\tn i s'.heap/\(∀b∈fp,H' b=none)/\Vals ys its/\ys.length<=sizeLine/\W i n ys τ H') ?_ m0 ?_
  ·rintro n s4 ⟨i,ys,τ,H4,its,k,I4,st4,fr4,vl,hz,w4⟩
   have pin4:=I4.pin (s2.heap.objs.size,{cls:= .type "list",data:= .seq its.toArray k}) (by simp [Y,zY])
   rcases turn i n ys τ H4 w4 with⟨stop,qn⟩|⟨go,hlt,step⟩
   ·refine qD (T.done Y rfl rfl rfl hc i _ s4 τ H4 _ I4 (fpY fr4 (by simp)) st4 stop) fun r s5 zq=>?_
    obtain⟨hr,I5⟩:=zq;subst hr
    show compPost _ _ _ _ _ _ _ _ _
    obtain⟨m5,hn5,_⟩:=I5.loc;have pin5:=I5.pin (s2.heap.objs.size,{cls:= .type "list",data:= .seq its.toArray k}) (by simp [Y,zY])
    have nacc:H4 s2.heap.objs.size=none:=pin5.2.1
    have B:=I5.base;have nC:H4 G.objs.size=none:=I5.free
    refine hfin s2.heap.objs.size G.objs.size s5 (upd H4 s2.heap.objs.size (.lst ys)) m5 ?_ hn5 ?_ (qn _ nacc)
    ·refine I2.call' (s':=s5) (ch:=fp) I5.os ⟨B.keep,B.slot,fun b o e n hx=>?_,B.there,fun b xs e=>?_,fun b o u e=>?_,fun b ps e=>?_⟩ ?_ I5.bare ?_
     ·rw[qp (below b (Jh e)).2];exact B.free b o e n hx
     ·have e1:=B.tups b xs e
      rw[qp (qi e1 nacc)];exact e1
     ·have e1:=B.frzs b o u e
      rw[qp (qi e1 nacc)];exact e1
     ·obtain⟨more,e1⟩:=B.tbls b ps e
      exact⟨more,by rw[qp (qi e1 nacc)];exact e1⟩
     ·intro b u e
      by_cases hb:b=s2.heap.objs.size
      ·subst hb
       rw[qd]at e;cases e
       exact⟨hz,its,k,vl,pin5.1⟩
      ·rw[qp hb]at e
       exact(I5.hok b u e).stay (fun c v _ q=>q) (fun c q=>by rw[qp (qi q nacc)];exact q) fun c xs q=>by rw[qp (qi q nacc)];exact q
     ·exact fun b hb=>⟨(f2 b hb).2.2.2.1,(f2 b hb).2.1,(f2 b hb).2.2.2.2.1,(f2 b hb).2.2.2.2.2⟩
    ·have hge:s2.heap.objs.size<=G.objs.size:=by omega
     refine⟨by rw[qp (Ne.symm hDC)];exact nC,?_,JA I2.sz hge,fun x c e z=>?_,fun p hp z=>?_⟩
     ·exact JQ (JB I2.lt hge)
     ·obtain⟨v,oc,hoc,_⟩:=I2.cell x c e
      exact absurd (JB (Jh hoc) hge) (by rw[z];exact JU _)
     ·exact absurd (JB (Jh (I2.pin p hp).1) hge) (by rw[z];exact JU _)
   ·refine qD (T.item Y rfl rfl rfl hc i _ s4 τ H4 _ I4 (fpY fr4 (by simp)) st4 go) fun r s5 zq=>?_
    obtain⟨u,hr,h5⟩:=zq;subst hr;refine qD h5 fun _ s6 zq=>?_
    obtain⟨x,H6,I6,r6,y6,st6,fr6⟩:=zq;have I6':=I6.pinned (fpY fr6 (by simp)) (T.obj _ _ st6)
    refine qD (hg _ _ _ _ _ s6 τ H6 x u _ I6' r6 (step x H6 y6)) fun _ s7 zq=>?_
    obtain⟨τ7,H7,I7,N,N0,hN,hN0,q7⟩:=zq;refine qD (ht _ _ _ _ _ s7 τ7 H7 _ I7 q7) fun ok s7' zq=>?_
    obtain⟨H7',I7',q7'⟩:=zq;cases ok with
    |false=>
     obtain⟨m',hm',w8⟩:=hN0 _ q7';have pin8:=I7'.pin (s2.heap.objs.size,{cls:= .type "list",data:= .seq its.toArray k}) (by simp [zY])
     have pinfp:∀b∈fp,∀o,s6.heap.get? b=some o->s7'.heap.get? b=some o/\H7' b=none:=fun b hb o e=>by
      have:=I7'.pin (b,o) (J2 _ (J2 _ (Zl hb e)))
      exact⟨this.1,this.2.1⟩
     refine⟨m',hm',i+1,ys,τ7,H7',its,k,I7'.pins_of ?_,T.keep _ _ _ st6 fun b hb o e=>(pinfp b hb o e).1,fun b hb=>?_,vl,by omega,w8⟩
     ·intro p hp
      rw[Jg.mp hp];exact pin8
     ·obtain⟨o,e,_⟩:=T.obj _ _ st6 b hb
      exact(pinfp b hb o e).2
    |true=>
    refine qD (he _ _ _ _ _ s7' τ7 H7' _ I7' q7') fun v' s8 zq=>?_
    obtain⟨y,H8,I8,r8,n8⟩:=zq;obtain⟨m',hm',w8⟩:=hN _ _ n8;have pin8:=I8.pin (s2.heap.objs.size,{cls:= .type "list",data:= .seq its.toArray k}) (by simp [zY])
    have pinfp:∀b∈fp,∀o,s6.heap.get? b=some o->s8.heap.get? b=some o/\H8 b=none:=fun b hb o e=>by
     have:=I8.pin (b,o) (J2 _ (J2 _ (Zl hb e)))
     exact⟨this.1,this.2.1⟩
    refine wpAny_list_append_plain (items:=its.toArray) ⟨k,pin8.1⟩ (fun h' ha' hs'=>?_) (by have:=vl.length;simp;omega)
    obtain⟨k',ha'⟩:=ha';have I9:Inv Y [] τ7 H8 {s8 with heap:=h'}:=by
     refine(I8.pins_of (pins':=[]) (by simp)).turned (t':=s8.toks) (it:=s2.heap.objs.size) (fun b o hb e=>(hs'.2 b hb).trans e) pin8.2.1 ?_ (.inr (Jf _)) (fun x c e=>acccell x c e) (fun p hp=>absurd (show p∈([]:List (Addr×Obj))from by simpa [Y,zY]using hp) (by simp))
     exact hDC
    have ea:(its.toArray.push v')=(its++[v']).toArray:=by simp
    rw[ea]at ha';refine⟨m',hm',i+1,ys++[y],τ7,H8,its++[v'],k',I9.pins_of ?_,T.keep _ _ _ st6 fun b hb o e=>(hs'.2 b (below b (fplt b hb)).2).trans (pinfp b hb o e).1,fun b hb=>?_,vl.append (.cons r8 .nil),?_,w8⟩
    ·intro p hp
     rw[Jg.mp hp]
     exact⟨ha',pin8.2.1,hDC,accfs,fun v z=>by cases z⟩
    ·obtain⟨o,e,_⟩:=T.obj _ _ st6 b hb
     exact(pinfp b hb o e).2
    ·rw[Jx,Cr];omega
  ·refine⟨0,[],σ0 own.length js σ,H2,[],0,I3.pins_of ?_,st3,fun b hb=>(f2 b hb).1,.nil,JC _,w0⟩
   intro p hp;rw[Jg.mp hp]
   exact⟨ha3,I2.hok.fresh (Jf _),hDC,accfs,fun v z=>by cases z⟩
 have st1:tn 0 h₁:=T.keep _ _ _ st2 fun b _ o e=>old b o e
 exact codeAny_compStart_list (loop _ IY st1 hacc) (T.self _ 0 _ _ _ st1 (loop _ IY st1 hacc))
section
variable{js:List Nat}{tc:TT}{te:TE}{σ:L2.St}{H:Hp}{Q:VK}{K:Frag}
abbrev ko(J:It)(js:List Nat)(tc:TT)(te:TE)(σ:L2.St)(H1:Hp)(Q:VK):Prop:=rL 1 js (Qu 0) tc te σ Q J H1
theorem ie{J:It}{n:Nat}(hn:n<=sizeLine)(item:Nat->V->Prop)(Pv:Nat->List V->Hp->Prop)(h0:Pv 0 [] H)(hgo:∀i ys H,i<n->Pv i ys H->J.go i H)(hst:∀ys H,Pv n ys H->J.stop n H)
  (hy:∀i ys H x H',i<n->Pv i ys H->J.yld i H x H'->H'=H/\item i x)
  (hs:∀i ys H x,i<n->Pv i ys H->item i x->tc (some x::zV js σ) H fun c H3=>if c=true then te (some x::zV js σ) H3 (fun v H4=>Pv (i+1) (ys++[v]) H4)else Pv (i+1) ys H3)
  (hd:∀ys H,Pv n ys H->∀p,H p=none->Q (.ref p) (upd H p (.lst ys))):ko J js tc te σ H Q:=by
 refine⟨fun i m ys τ H=>m=n-i/\i<=n/\ys.length<=i/\Pv i ys H/\∃o,τ=o::zV js σ,⟨n,by simp,JC _,Jf _,h0,none,rfl⟩,?_⟩
 rintro i m ys τ H ⟨rfl,hi,hl,p,o,rfl⟩
 by_cases hlt:i<n
 ·refine .inr ⟨hgo i ys H hlt p,by omega,fun x H' y=>?_⟩
  obtain⟨e,hx⟩:=hy i ys H x H' hlt p y;subst e
  exact⟨fun v H3=>Pv (i+1) (ys++[v]) H3,fun H3=>Pv (i+1) ys H3,fun v H3 p3=>⟨n-(i+1),by omega,rfl,hlt,by simp;omega,p3,_,rfl⟩,fun H3 p3=>⟨n-(i+1),by omega,rfl,hlt,by omega,p3,_,rfl⟩,hs i ys _ x hlt p hx⟩
 ·have e:i=n:=by omega
  subst e;exact .inl ⟨hst ys H p,hd ys H p⟩
theorem nX{a:Addr}{xs:List V}(hn:xs.length<=sizeLine)(Pv:Nat->List V->Hp->Prop)(h0:Pv 0 [] H)(hl:∀i ys H,Pv i ys H->SqL K H a xs)
  (hs:∀i ys H x,xs[i]? =some x->Pv i ys H->tc (some x::zV js σ) H fun c H3=>if c=true then te (some x::zV js σ) H3 (fun v H4=>Pv (i+1) (ys++[v]) H4)else Pv (i+1) ys H3)
  (hd:∀ys H,Pv xs.length ys H->∀p,H p=none->Q (.ref p) (upd H p (.lst ys))):ko (fU K a) js tc te σ H Q:=
 ie hn (fun i x=>xs[i]? =some x) Pv h0 (fun i ys H hi p=>⟨xs,xs[i],hl _ _ _ p,by simp [hi]⟩) (fun ys H p=>⟨xs,hl _ _ _ p,Jf _⟩) (fun i ys H x H' _ p y=>⟨y.1,y.2 xs (hl _ _ _ p)⟩) (fun i ys H x _ p hx=>hs i ys H x hx p) hd
end
section
variable{o i e value:Expr}{pos pos' tpos:Pos}{td ty tv:TE}
theorem qW{k:Nat}(hr:Room k X.A)(ho:QE X o td)(hi:QE X i ty)(hs:sN i:=by exact fun _ _=>rfl):QE X (.Subscript o i pos) (vd td ty):=⟨wD (by have:=hr.un;omega) ho.h hi.h hs⟩
theorem Q3{k:Nat}(hr:Room k X.A)(ho:QE X o td)(hi:QE X i ty)(hv:QE X value tv)(hs:swapsWith value (some (.Subscript o i pos')) pos.line X.env=pure false:=by rfl):
  QS X (.Assign [.Subscript o i pos'] value pos) (vq td ty tv):=⟨vY (by have:=hr.un;omega) ho.h hi.h hv.h hs⟩
structure QPs(X:Cx)(pos:Pos)(keys:List (Option Expr))(values:List Expr)(trs:List (TE×TE)):Prop where
 h:pN X pos keys values trs
theorem wg:QPs X pos [] [] []:=⟨wO⟩
theorem Z9{k v:Expr}{ks:List (Option Expr)}{vs:List Expr}{tk tv:TE}{trs:List (TE×TE)}(hk:QE X k tk)(hv:QE X v tv)(hr:QPs X pos ks vs trs):QPs X pos (some k::ks) (v::vs) ((tk,tv)::trs):=⟨uN hk.h hv.h hr.h⟩
theorem v8{keys:List (Option Expr)}{values:List Expr}{trs:List (TE×TE)}(h:QPs X pos keys values trs)(hall:keys.all (·.isSome)=true:=by rfl)(hl:keys.length=values.length:=by rfl)(h0:keys≠[]:=by(intro z;cases z))
  (h15:keys.length<=15:=by decide):QE X (.Dict keys values pos) (vb trs):=⟨wR h.h hall hl h0 h15⟩
end
theorem mE{k:qL}{v:V}:∀{kvs:List (qL×V)} (i:Nat),kvs[i]? =some (k,v)->(kvs.map (·.1)).Nodup->Zd kvs k=some v
 | [],i,h,_=>by cases h
 |p::r,0,h,_=>by
  cases Jv h
  exact ZX rfl
 |p::r,i+1,h,nd=>by
  have h':r[i]? =some (k,v):=h
  have nd':p.1∉r.map (·.1)/\(r.map (·.1)).Nodup:=BN.mp nd
  have hm:k∈r.map (·.1):=Jw.mpr ⟨(k,v),JS h',rfl⟩
  have ne:p.1≠k:=fun z=>nd'.1 (z▸hm)
  rw[ZS ne];exact mE i h' nd'.2
theorem vZ{k:qL}{v:V}{kvs:List (qL×V)}(h:k∉kvs.map (·.1)):putK kvs k v=kvs++[(k,v)]:=by
 unfold putK;rw[Jc];intro z;obtain⟨p,hp,e⟩:=List.any_eq_true.mp z;exact h (Jw.mpr ⟨p,hp,Jy e⟩)
end L3
namespace L3
open PySem PySem.Spec PyProof.Rows L2
section
variable{X:Cx}{o e f:Expr}{apos cpos pos:Pos}{td ty tx:TE}
theorem jX{k:Nat}(hr:Room k X.A)(ho:QE X o td)(ha:QE X e ty)(m:M1 X o "get" apos e cpos:=by exact⟨rfl,rfl,rfl,rfl⟩):QE X (.Call (.Attribute o "get" apos) [e] [] cpos) (sG td ty):=⟨uH (by have:=hr.un;omega) ho.h ha.h m⟩
theorem tm{k:Nat}(hr:Room k X.A)(ho:QE X o td)(ha:QE X e ty)(hf:QE X f tx)(m:M2 X o "get" apos e f cpos:=by exact⟨rfl,rfl,rfl,rfl⟩):QE X (.Call (.Attribute o "get" apos) [e,f] [] cpos) (pI td ty tx):=⟨uC (by have:=hr.un;omega) ho.h ha.h hf.h m⟩
theorem jv:QE X (.Dict [] [] pos) oI:=⟨sR⟩
theorem ym{k:Nat}(hr:Room k X.A)(hi:QE X e ty)(ho:QE X o td)(h1:behindInMarks CmpOp.In o=false:=by rfl):QT X (.Compare e [.In] [o] pos) (fN (yW ty td)):=⟨AA (xf (by have:=hr.un;omega) hi.h ho.h) (h1:=h1)⟩
end
structure Kb where
 age:Int
 last:Int
 wt:Option (Int×Int)
abbrev Kw:=List (Str×Kb)
def Wt(H:Hp)(v:V):Option (Int×Int)->Prop
 |none=>v= .non
 |some (x,c)=>∃w,v= .ref w/\H w=some (.tup [.int x,.int c])
def BuAt(H:Hp)(a:Addr)(e:Kb):Prop:=∃v,H a=some (.tup [.int e.age,.int e.last,v])/\Wt H v e.wt
def cX(kn:Kw)(f:Str->Addr):List (qL×V):=kn.map fun e=>(Sum.inr e.1,V.ref (f e.1))
def KnAt(H:Hp)(d:Addr)(kn:Kw):Prop:=∃f:Kw×(Str->Addr),H d=some (.dK (cX f.1 f.2))/\(∀e∈kn,BuAt H (f.2 e.1) e.2)/\f.1.Perm kn/\(kn.map (·.1)).Nodup
def qV(kn:Kw)(nm:Str)(e:Kb):Kw:=if nm∈kn.map (·.1)then kn.map (fun p=>if p.1=nm then(nm,e)else p)else kn++[(nm,e)]
theorem Mv.tup{S:List Addr}{H H':Hp}{a:Addr}{xs:List V}(m:Mv S H H')(n:NT S H)(h:H a=some (.tup xs)):H' a=some (.tup xs):=m _ _ (fun z=>by
 obtain⟨o,e,no⟩:=n a z;rw[e]at h;cases h;exact no) h
theorem Wt.mv{S:List Addr}{H H':Hp}{v:V}{o:Option (Int×Int)}(m:Mv S H H')(n:NT S H)(h:Wt H v o):Wt H' v o:=by
 cases o with
 |none=>exact h
 |some p=>obtain⟨w,e,r⟩:=h;exact⟨w,e,m.tup n r⟩
theorem BuAt.mv{S:List Addr}{H H':Hp}{a:Addr}{e:Kb}(m:Mv S H H')(n:NT S H)(h:BuAt H a e):BuAt H' a e:=by
 obtain⟨v,r,w⟩:=h
 exact⟨v,m.tup n r,w.mv m n⟩
theorem BuAt.same{H H':Hp}{a:Addr}{e:Kb}(s:Same H H')(h:BuAt H a e):BuAt H' a e:=h.mv (S:=[]) s.mv (fun c h=>nomatch h)
theorem KnAt.mv{S:List Addr}{H H':Hp}{d:Addr}{kn:Kw}(m:Mv S H H')(n:NT S H)(hd:d∉S)(h:KnAt H d kn):KnAt H' d kn:=by
 obtain⟨f,r,w,p⟩:=h
 exact⟨f,m _ _ hd r,fun e he=>(w e he).mv m n,p⟩
theorem lm(f:Str->Addr)(nm:Str):∀kn:Kw,Zd (cX kn f) (Sum.inr nm:qL)=(kn.lookup nm).map fun _=>V.ref (f nm)
 | []=>rfl
 |(m,e)::r=>by
  show Zd ((Sum.inr m,V.ref (f m))::cX r f) (Sum.inr nm)=_
  by_cases q:m=nm
  ·subst q
   rw[ZX rfl,List.lookup_cons_self];rfl
  ·rw[ZS (by intro z;injection z with z;exact q z),BU,C3 (fun z=>q z.symm)]
   exact lm f nm r
theorem zI{nm:Str}{e:Kb}:∀{kn:Kw},kn.lookup nm=some e->(nm,e)∈kn
 |(m,x)::r,h=>by
  rw[BU]at h
  by_cases q:nm=m
  ·subst q
   rw[B1]at h;cases h;exact JE ..
  ·rw[C3 q]at h
   exact JJ _ (zI h)
theorem lookup_mem_iff{nm:Str}:∀{kn:Kw},(kn.lookup nm).isSome=true↔nm∈kn.map (·.1)
 | []=>by simp
 |(m,x)::r=>by
  rw[BU,JW,Jj]
  by_cases q:nm=m
  ·subst q;simp
  ·rw[C3 q]
   simp only[q,false_or];exact lookup_mem_iff
theorem ZB(kn:Kw)(nm:Str)(e:Kb):(qV kn nm e).map (·.1)=if nm∈kn.map (·.1)then kn.map (·.1)else kn.map (·.1)++[nm]:=by
 unfold qV;split
 ·rw[Cv]
  refine Dk fun p hp=>?_
  simp only[Function.comp]
  by_cases y:p.1=nm
  ·rw[Jd y,y]
  ·rw[Jc y]
 ·rw[JH];rfl
theorem eB(kn:Kw)(nm:Str)(e:Kb):(qV kn nm e).length<=kn.length+1:=by
 have:=JP List.length (ZB kn nm e)
 rw[Je]at this;rw[this];split
 ·rw[Je];omega
 ·rw[Jx,Je];exact Jf _
theorem cC{kn:Kw}(nd:(kn.map (·.1)).Nodup)(nm:Str)(e:Kb):((qV kn nm e).map (·.1)).Nodup:=by
 rw[ZB];split
 ·exact nd
 ·rename_i z
  exact Dz.mpr ⟨nd,by simp,fun a ha b hb=>by rw[Jg.mp hb];exact fun w=>z (w▸ha)⟩
theorem Zx{nm:Str}{e:Kb}:∀{kn:Kw},(kn.map (·.1)).Nodup->kn.lookup nm=some e->∀p∈kn,p.1=nm->p=(nm,e)
 | [],_,h,_,hp,_=>by cases hp
 |(m,x)::r,nd,h,p,hp,hn=>by
  have nd':m∉r.map (·.1)/\(r.map (·.1)).Nodup:=BN.mp nd
  rw[BU]at h
  by_cases q:nm=m
  ·subst q
   rw[B1]at h;cases h;rcases Jj.mp hp with rfl|hp
   ·rfl
   ·exact absurd (Jw.mpr ⟨p,hp,hn⟩) nd'.1
  ·rw[C3 q]at h
   rcases Jj.mp hp with rfl|hp
   ·exact absurd hn.symm q
   ·exact Zx nd'.2 h p hp hn
theorem kP{k0 kn:Kw}(pm:k0.Perm kn)(nd:(kn.map (·.1)).Nodup)(nm:Str):k0.lookup nm=kn.lookup nm:=by
 cases e:k0.lookup nm with
 |none=>
  cases e':kn.lookup nm with
  |none=>rfl
  |some x=>
   have:(k0.lookup nm).isSome=true:=lookup_mem_iff.mpr ((pm.map (·.1)).mem_iff.mpr (lookup_mem_iff.mp (by rw[e'];rfl)))
   rw[e]at this;cases this
 |some x=>
  obtain⟨y,hy⟩:∃y,kn.lookup nm=some y:=DC.mp (lookup_mem_iff.mpr (Jw.mpr ⟨_,pm.mem_iff.mp (zI e),rfl⟩))
  rw[hy]
  have:=Zx nd hy _ (pm.mem_iff.mp (zI e)) rfl
  cases this;rfl
theorem KnAt.get{H:Hp}{d:Addr}{kn:Kw}(h:KnAt H d kn)(nm:Str):(kn.lookup nm=none/\DGet H d (.str nm) none)\/∃e a,kn.lookup nm=some e/\DGet H d (.str nm) (some (.ref a))/\BuAt H a e:=by
 obtain⟨⟨k0,f⟩,hd,hb,pm,nd⟩:=h;have g:=DGet.k (k:=Sum.inr nm) hd
 rw[lm,kP pm nd]at g;cases q:kn.lookup nm with
 |none=>rw[q]at g;exact .inl ⟨rfl,g⟩
 |some e=>rw[q]at g;exact .inr ⟨e,f nm,rfl,g,hb _ (zI q)⟩
theorem ip{k0 kn:Kw}(pm:k0.Perm kn)(nm:Str)(e:Kb):(qV k0 nm e).Perm (qV kn nm e):=by
 unfold qV
 by_cases z:nm∈kn.map (·.1)
 ·rw[Jd ((pm.map (·.1)).mem_iff.mpr z),Jd z];exact pm.map _
 ·rw[Jc (fun w=>z ((pm.map (·.1)).mem_iff.mp w)),Jc z];exact pm.append_right _
theorem KnAt.put{H:Hp}{d a:Addr}{kn:Kw}{e:Kb}(h:KnAt H d kn)(nm:Str)(hl:kn.length<=100)(hb:BuAt H a e):∃H',DPut H d (.str nm) (.ref a) H'/\Mv [d] H H'/\KnAt H' d (qV kn nm e):=by
 obtain⟨⟨k0,f⟩,hd,hk0,pm,nd⟩:=h;have hlen:(cX k0 f).length=kn.length:=(Je _).trans pm.length_eq
 have hk:∀e∈k0,BuAt H (f e.1) e.2:=fun e he=>hk0 e (pm.mem_iff.mp he)
 refine⟨_,DPut.k (k:=Sum.inr nm) hd (by rw[hlen];exact nB _),Mv.upd1,(qV k0 nm e,fun n=>if n=nm then a else f n),?_,?_,ip pm nm e,cC nd nm e⟩
 ·rw[qd]
  congr 2
  unfold putK qV cX;have ea:((k0.map fun e=>((Sum.inr e.1:qL),V.ref (f e.1))).any fun kv=>decide (kv.1=(Sum.inr nm:qL)))=true↔nm∈k0.map (·.1):=by
   rw[List.any_eq_true];constructor
   ·rintro⟨p,hp,z⟩
    obtain⟨q,hq,rfl⟩:=Jw.mp hp;have z':(Sum.inr q.1:qL)=Sum.inr nm:=Jy z
    injection z' with z'
    exact Jw.mpr ⟨q,hq,z'⟩
   ·intro z
    obtain⟨q,hq,e⟩:=Jw.mp z
    exact⟨_,Jw.mpr ⟨q,hq,rfl⟩,Jk (by rw[e])⟩
  by_cases z:nm∈k0.map (·.1)
  ·rw[Jd (ea.mpr z),Jd z,Cv,Cv]
   refine Dk fun p hp=>?_
   simp only[Function.comp]
   by_cases y:p.1=nm
   ·rw[Jd (by rw[y]),Jd y]
    simp [y]
   ·rw[Jc (by intro w;injection w with w;exact y w),Jc y]
    simp [y]
  ·rw[Jc (fun w=>z (ea.mp w)),Jc z,JH]
   congr 1
   ·refine Dk fun p hp=>?_
    have y:¬p.1=nm:=fun w=>z (Jw.mpr ⟨p,hp,w⟩)
    simp [y]
   ·simp
 ·have nt:NT [d] H:=NT.one hd trivial
  intro p hp;have hp:=(ip pm nm e).mem_iff.mpr hp;have hb':=hb.mv (Mv.upd1 (o:= .dK (putK (cX k0 f) (Sum.inr nm) (.ref a)))) nt
  unfold qV at hp;split at hp
  ·obtain⟨q,hq,rfl⟩:=Jw.mp hp
   by_cases y:q.1=nm
   ·rw[Jd y];simp only[BO];exact hb'
   ·rw[Jc y]
    show BuAt _ (if q.1=nm then a else f q.1) q.2
    rw[Jc y]
    exact(hk q hq).mv Mv.upd1 nt
  ·rename_i z
   rcases JO.mp hp with hq|hq
   ·have y:¬p.1=nm:=fun w=>z (Jw.mpr ⟨p,hq,w⟩)
    show BuAt _ (if p.1=nm then a else f p.1) p.2
    rw[Jc y]
    exact(hk p hq).mv Mv.upd1 nt
   ·rw[Jg.mp hq];simp only[BO];exact hb'
def KsAt(K:Frag)(H:Hp)(hk:Addr)(kss:List (List Int)):Prop:=∃as:List Addr,H hk=some (.lst (as.map V.ref))/\as.length=kss.length/\∀(i:Nat) (a:Addr) (ks:List Int),as[i]? =some a->kss[i]? =some ks->SqT K H a (ks.map V.int)
theorem KsAt.mv{K:Frag}{S:List Addr}{H H':Hp}{hk:Addr}{kss:List (List Int)}(m:Mv S H H')(n:NT S H)(hd:hk∉S)(h:KsAt K H hk kss):KsAt K H' hk kss:=by
 obtain⟨as,e,l,r⟩:=h
 exact⟨as,m _ _ hd e,l,fun i a ks e1 e2=>m.sqt n (r i a ks e1 e2)⟩
structure Dr where
 t:List Int
 kss:List (List Int)
 near:Int
 far:Int
 most:Int
 least:Int
 kn:Kw
def dF(D:Dr)(ta hk bd lg:Addr):List (Str×V):=
 [("table",.ref ta),("house_keys",.ref hk),("near",.int D.near),("far",.int D.far),("most",.int D.most),("least_age",.int D.least),("buttons",.ref bd),("log",.ref lg)]
def dN:List Str:=["table","house_keys","near","far","most","least_age","buttons","log"]
theorem AX:dN.Nodup:=by decide +kernel
theorem vH(D:Dr)(ta hk bd lg:Addr):((dF D ta hk bd lg).map (·.1)).Nodup:=AX
structure DCx(K:Frag)(C:Addr):Prop where
 cl:Cls K C
 n_table:NoAttr K C "table"
 n_house_keys:NoAttr K C "house_keys"
 n_near:NoAttr K C "near"
 n_far:NoAttr K C "far"
 n_most:NoAttr K C "most"
 n_least_age:NoAttr K C "least_age"
 n_buttons:NoAttr K C "buttons"
 n_log:NoAttr K C "log"
structure DoorAt(K:Frag)(C:Addr)(H:Hp)(p ta hk bd lg:Addr)(n:Nat)(D:Dr):Prop where
 ob:∃dx,H p=some (.ins C dx (dF D ta hk bd lg))
 tb:SqT K H ta (D.t.map V.int)
 ks:KsAt K H hk D.kss
 kb:KnAt H bd D.kn
 lo:∃rs:List Addr,H lg=some (.lst (rs.map V.ref))/\rs.length<=n
 ne:lg≠hk
section
variable{K:Frag}{C:Addr}{H H':Hp}{p ta hk bd lg dx:Addr}{n:Nat}{D:Dr}
theorem DoorAt.has(b:DoorAt K C H p ta hk bd lg n D)(U:DCx K C)(i:Nat){f:Str}{v:V}(h:(dF D ta hk bd lg)[i]? =some (f,v))(na:NoAttr K C f):ay K H p f v:=by
 obtain⟨dx,e⟩:=b.ob
 exact⟨C,dx,_,e,U.cl,na,hU i h (vH ..)⟩
theorem DoorAt.h_table(b:DoorAt K C H p ta hk bd lg n D)(U:DCx K C):ay K H p "table" (.ref ta):=b.has U 0 rfl U.n_table
theorem DoorAt.h_house_keys(b:DoorAt K C H p ta hk bd lg n D)(U:DCx K C):ay K H p "house_keys" (.ref hk):=b.has U 1 rfl U.n_house_keys
theorem DoorAt.h_near(b:DoorAt K C H p ta hk bd lg n D)(U:DCx K C):ay K H p "near" (.int D.near):=b.has U 2 rfl U.n_near
theorem DoorAt.h_far(b:DoorAt K C H p ta hk bd lg n D)(U:DCx K C):ay K H p "far" (.int D.far):=b.has U 3 rfl U.n_far
theorem DoorAt.h_most(b:DoorAt K C H p ta hk bd lg n D)(U:DCx K C):ay K H p "most" (.int D.most):=b.has U 4 rfl U.n_most
theorem DoorAt.h_least_age(b:DoorAt K C H p ta hk bd lg n D)(U:DCx K C):ay K H p "least_age" (.int D.least):=b.has U 5 rfl U.n_least_age
theorem DoorAt.h_buttons(b:DoorAt K C H p ta hk bd lg n D)(U:DCx K C):ay K H p "buttons" (.ref bd):=b.has U 6 rfl U.n_buttons
theorem DoorAt.h_log(b:DoorAt K C H p ta hk bd lg n D)(U:DCx K C):ay K H p "log" (.ref lg):=b.has U 7 rfl U.n_log
theorem DoorAt.no(b:DoorAt K C H p ta hk bd lg n D){m:Str}(h:m∉dN:=by decide +kernel):Bk C H p m:=by
 obtain⟨dx,e⟩:=b.ob
 exact⟨dx,_,e,gN h⟩
theorem DoorAt.mv{S:List Addr}(b:DoorAt K C H p ta hk bd lg n D)(m:Mv S H H')(nt:NT S H)(hp:p∉S)(hh:hk∉S)(hb:bd∉S)(hl:lg∉S):DoorAt K C H' p ta hk bd lg n D:=by
 obtain⟨dx,e⟩:=b.ob;obtain⟨rs,el,l⟩:=b.lo
 exact⟨⟨dx,m _ _ hp e⟩,m.sqt nt b.tb,b.ks.mv m nt hh,b.kb.mv m nt hb,⟨rs,m _ _ hl el,l⟩,b.ne⟩
theorem DoorAt.same(b:DoorAt K C H p ta hk bd lg n D)(s:Same H H'):DoorAt K C H' p ta hk bd lg n D:=b.mv (S:=[]) s.mv (fun c h=>nomatch h) (fun h=>nomatch h) (fun h=>nomatch h) (fun h=>nomatch h) (fun h=>nomatch h)
end
def Br:R2:=fun x y H Q=>∃(o:Option (Int×Int)) (b:Addr) (a c:Int),Wt H x o/\y= .ref b/\Rd H b (.tup [.int a,.int c])/\Q (.bl (decide (o=some (a,c)))) H
theorem fD{X:Cx}{k:Nat}(hr:Room k X.A):zv X (compareOp .Eq) Br:=by
 intro DK s σ H x y v u Q I rx ry h;obtain⟨o,b,a,c,hw,rfl,hb,q⟩:=h;cases ry;obtain⟨its2,r2,p2,_⟩:=I.tuple (.inl hb)
 have hu:X.A.units<cLine:=by have:=hr.un;omega
 cases o with
 |none=>
  have hw':x= .non:=hw
  subst hw';cases rx;rw[Jr (by intro z;cases z)]at q
  exact SeqAt.RcAt.none_tuple p2 hu _ _ _ _ ⟨.bl false,H,I,rfl,q⟩
 |some pr=>
  obtain⟨x1,x2⟩:=pr;obtain⟨w,rfl,hw'⟩:=hw;cases rx;obtain⟨its,r1,p1,_⟩:=I.tuple (.inl (.inl hw'))
  have l1:=r1.length;have l2:=r2.length;have e1:=SeqAt.RcAt.tuples (A:=X.A) (e:=fun j=>[x1,x2].getD j 0==[a,c].getD j 0) (show s.heap.IsTuple w its.toArray from p1) (show s.heap.IsTuple b its2.toArray from p2) hu (fun j h1 h2=>by
   have h1':j<its.length:=by simpa using h1
   have h2':j<its2.length:=by simpa using h2
   obtain⟨t,e⟩:=mD (ns:=[x1,x2]) r1 j h1' (by rw[<- l1]at h1';exact h1')
   obtain⟨t',e'⟩:=mD (ns:=[a,c]) r2 j h2' (by rw[<- l2]at h2';exact h2')
   simp only[List.getElem_toArray,e,e',JF,Jl (show j<[x1,x2].length by rw[<- l1]at h1';exact h1'),Jl (show j<[a,c].length by rw[<- l2]at h2';exact h2'),CU]
   exact SeqAt.EqAt.int_int _ _ _ _)
  have z1:its.toArray.size=2:=by rw[Jt,<- l1];rfl
  have z2:its2.toArray.size=2:=by rw[Jt,<- l2];rfl
  refine e1 _ _ _ _ ⟨.bl _,H,I,?_,q⟩
  show Value.bool _=Value.bool _
  congr 1
  rw[z1,z2,show min 2 2=([x1,x2]:List Int).length from rfl,ul [x1,x2] [a,c] rfl]
  simp
def n9(c l n f:Int):Str:=if c<=l then "old" else if c<=l+n then "near" else if c<=l+f then "far" else "beyond"
def lZ:Sp:=fun vs H Q _=>∃c l n f:Int,vs=[.int c,.int l,.int n,.int f]/\Q (.str (n9 c l n f)) H
def zc(near far:Int)(e:Kb)(age c:Int):Str×Kb:=
 if c<=e.last then("old",e)else if c<=e.last+near then("near",⟨age,c,none⟩)
 else if c<=e.last+far then(if e.wt=some (age,c-1)then("near",⟨age,c,none⟩)else("far",⟨e.age,e.last,some (age,c)⟩))else("beyond",e)
def gj:Sp:=fun vs H Q _=>∃(a:Addr) (e:Kb) (age c near far:Int),vs=[.ref a,.int age,.int c,.int near,.int far]/\BuAt H a e/\
 ∀q a' H',Same H H'->H' q=some (.tup [.str (zc near far e age c).1,.ref a'])->BuAt H' a' (zc near far e age c).2->Q (.ref q) H'
def Zh(D:Dr)(age:Int):Bool:=decide (D.least<=age)&&decide (age<D.kss.length)
def qY(D:Dr)(e:Kb)(age:Int):Bool:=Zh D age&&decide (e.age<=age)
def zk(D:Dr)(nm:Str)(age:Int)(r:Option (Int×Int)):List V×Kw:=
 match D.kn.lookup nm with
 |none=>([.str "held",.str "unknown"],D.kn)
 |some e=>if qY D e age=true then(match r with
   |none=>([.str "held",.str "false"],D.kn)
   |some (c,d)=>if(zc D.near D.far e age c).1="near" then([.str "open",.str nm,.int d],qV D.kn nm (zc D.near D.far e age c).2)else([.str "held",.str (zc D.near D.far e age c).1],qV D.kn nm (zc D.near D.far e age c).2))
  else([.str "held",.str "age"],D.kn)
structure DrOk(D:Dr):Prop where
 tp:D.t.Perm digs
 l0:0<=D.least
 kl:D.kss.length<=8
 nl:D.kn.length<=60
 nd:(D.kn.map (·.1)).Nodup
section
variable(K:Frag)(C:Addr)
def lw:Sp:=fun vs H Q _=>∃(p ta hk bd lg:Addr) (n:Nat) (D:Dr),vs=[.ref p]/\DoorAt K C H p ta hk bd lg n D/\Q (.bl (decide (D.most<=(D.kn.length:Int)))) H
def dw:Sp:=fun vs H Q _=>∃(p ta hk bd lg:Addr) (n:Nat) (D:Dr) (age:Int),vs=[.ref p,.int age]/\DoorAt K C H p ta hk bd lg n D/\Q (.bl (Zh D age)) H
def cL:Sp:=fun vs H Q _=>∃(p ta hk bd lg a:Addr) (n:Nat) (D:Dr) (e:Kb) (age:Int),vs=[.ref p,.ref a,.int age]/\DoorAt K C H p ta hk bd lg n D/\BuAt H a e/\Q (.bl (qY D e age)) H
def n5:Sp:=fun vs H Q _=>∃(p ta hk bd lg:Addr) (n:Nat) (D:Dr) (nm:Str),vs=[.ref p,.str nm]/\DoorAt K C H p ta hk bd lg n D/\
 (D.kn.lookup nm=none->Q .non H)/\(∀e a,D.kn.lookup nm=some e->BuAt H a e->Q (.ref a) H)
def mj:Sp:=fun vs H Q _=>∃(p ta hk bd lg a:Addr) (n:Nat) (D:Dr) (e:Kb) (age c:Int),vs=[.ref p,.ref a,.int age,.int c]/\DoorAt K C H p ta hk bd lg n D/\BuAt H a e/\qY D e age=true/\
 ∀q a' H',Same H H'->H' q=some (.tup [.str (zc D.near D.far e age c).1,.ref a'])->BuAt H' a' (zc D.near D.far e age c).2->Q (.ref q) H'
def PrAt(H:Hp)(pr:Addr)(nm:Str)(age:Int)(ds:List Int):Prop:=∃pc,H pr=some (.tup [.str nm,.int age,.ref pc])/\H pc=some (.tup (ds.map V.int))
def Qt(D:Dr)(age:Int):List Int:=D.kss.getD age.toNat []
def gJ:Sp:=fun vs H Q _=>∃(p ta hk bd lg pr:Addr) (n:Nat) (D:Dr) (nm:Str) (age:Int) (ds:List Int),vs=[.ref p,.ref pr]/\DoorAt K C H p ta hk bd lg n D/\DrOk D/\PrAt H pr nm age ds/\zT nm/\ds.length=5/\zu ds/\
 ∀q H',Mv [bd] H H'->H' q=some (.tup (zk D nm age (Zb D.t (Qt D age) nm ds)).1)->DoorAt K C H' p ta hk bd lg n {D with kn:=(zk D nm age (Zb D.t (Qt D age) nm ds)).2}->Q (.ref q) H'
end
theorem PrAt.mv{S:List Addr}{H H':Hp}{pr:Addr}{nm:Str}{age:Int}{ds:List Int}(m:Mv S H H')(n:NT S H)(h:PrAt H pr nm age ds):PrAt H' pr nm age ds:=by
 obtain⟨pc,e1,e2⟩:=h
 exact⟨pc,m.tup n e1,m.tup n e2⟩
theorem PrAt.same{H H':Hp}{pr:Addr}{nm:Str}{age:Int}{ds:List Int}(s:Same H H')(h:PrAt H pr nm age ds):PrAt H' pr nm age ds:=by
 obtain⟨pc,e1,e2⟩:=h
 exact⟨pc,s _ _ e1,s _ _ e2⟩
theorem gQ{X:Cx}:zv X (compareOp .LtE) (fun x y H Q=>∃i j,x= .str i/\y= .str j/\Q (.bl (!decide (j.cps.toList<i.cps.toList))) H):=by
 intro DK s σ H x y v u Q I rx ry h;obtain⟨i,j,rfl,rfl,q⟩:=h;obtain⟨t,rfl⟩:=rx;obtain⟨t',rfl⟩:=ry;exact PySem.P.le_str (qO I q rfl)
theorem uj{js:List Nat}{te:TE}{σ:L2.St}{H:Hp}{Q:VK}{x:Str}(hn:x.cps.size<=sizeLine)(Pv:Nat->List V->Hp->Prop)(h0:Pv 0 [] H)
  (hs:∀i ys H c,x.cps[i]? =some c->ys.length=i->Pv i ys H->te (some (.str ⟨#[c]⟩)::zV js σ) H fun v H3=>Pv (i+1) (ys++[v]) H3)
  (hd:∀ys H,ys.length=x.cps.size->Pv x.cps.size ys H->∀p,H p=none->Q (.ref p) (upd H p (.lst ys))):fO (vy x) js te σ H Q:=
 aN hn (fun i v=>∃c,x.cps[i]? =some c/\v= .str ⟨#[c]⟩) Pv h0 (fun i ys H hi p=>hi) (fun ys H p=>Jf _) (fun i ys H v H' _ p y=>y) (fun i ys H v hi hl p hx=>by
  obtain⟨c,hc,rfl⟩:=hx;exact hs i ys H c hc hl p) hd
theorem ue{ds:List Int}(h:zu ds):(ds.map V.int).all bo=true:=by
 rw[Dg];intro x hx;obtain⟨i,hi,rfl⟩:=Jw.mp hx
 have:=h i hi
 show(decide (0<=i)&&decide (i<16))=true
 rw[Jk this.1,Jk this.2];rfl
theorem Qs{c:Bool}{a b:Prop}(h:c=true)(x:a):if c=true then a else b:=by rw[Jd h];exact x
theorem QB{c:Bool}{a b:Prop}(h:c=false)(x:b):if c=true then a else b:=by rw[Jc (by rw[h];intro z;cases z)];exact x
theorem Qy{K:Frag}{C p dx:Addr}{H:Hp}{fs:List (Str×V)}{f:Str}{v:V}(c:Cls K C)(e:H p=some (.ins C dx fs))(n:NoAttr K C f)(i:Nat)(hns:fs.map (·.1)=dN.take i:=by rfl)(hn:f∉dN.take i:=by decide +kernel):
  jh K H p f v (upd H p (.ins C dx (fs++[(f,v)]))):=⟨C,dx,fs,e,c,n,by
  have h1:fs.length=(dN.take i).length:=by rw[<- hns,Je]
  have h2:(dN.take i).length<=8:=by rw[BS];exact Nat.min_le_right _ _
  omega,by rw[jM (by rw[hns];exact hn)]⟩
theorem KsAt.same{K:Frag}{H H':Hp}{b:Addr}{kss:List (List Int)}(s:Same H H')(h:KsAt K H b kss):KsAt K H' b kss:=h.mv (S:=[]) s.mv (fun c h=>nomatch h) (fun h=>nomatch h)
theorem Mv.nfree{S:List Addr}{H H':Hp}{x:Addr}(m:Mv S H H')(hn:x∉S)(h:H' x=none):H x=none:=by
 cases e:H x with
 |none=>rfl
 |some o=>rw[m x o hn e]at h;cases h
theorem KsAt.at{K:Frag}{H:Hp}{hk:Addr}{D:Dr}{age:Int}(h:KsAt K H hk D.kss)(h0:0<=age)(h1:age<D.kss.length):∃(xs:List V) (ak:Addr),H hk=some (.lst xs)/\QQ xs age=some (.ref ak)/\SqT K H ak ((Qt D age).map V.int):=by
 obtain⟨as,e,l,r⟩:=h;obtain⟨i,rfl⟩:∃i:Nat,age=(i:Int):=⟨age.toNat,by omega⟩
 have hi:i<D.kss.length:=by omega
 have hi':i<as.length:=by omega
 refine⟨_,as[i],e,QK (by rw[Jo,Jl hi'];rfl),?_⟩
 have:=r i as[i] D.kss[i] (Jl hi') (Jl hi)
 unfold Qt;rw[B3,JF,Jl hi];exact this
theorem bI{D:Dr}{e:Kb}{age:Int}(h:qY D e age=true)(h0:0<=D.least):0<=age/\age<D.kss.length:=by
 unfold qY Zh at h;rw[J4,J4]at h;have h1:=Jy h.1.1;have h2:=Jy h.1.2;omega
theorem DoorAt.putK{K:Frag}{C:Addr}{H H':Hp}{p ta hk bd lg:Addr}{n:Nat}{D:Dr}{kn':Kw}(b:DoorAt K C H p ta hk bd lg n D)(m:Mv [bd] H H')(kb:KnAt H' bd kn'):DoorAt K C H' p ta hk bd lg n {D with kn:=kn'}:=by
 obtain⟨dx,e⟩:=b.ob;obtain⟨f,hd,_⟩:=b.kb;obtain⟨rs,el,l⟩:=b.lo;obtain⟨as,eh,_⟩:=id b.ks;have nt:NT [bd] H:=NT.one hd trivial
 exact⟨⟨dx,m _ _ (qR (Qf e hd (by intro z;cases z))) e⟩,m.sqt nt b.tb,b.ks.mv m nt (qR (Qf eh hd (by intro z;cases z))),kb,⟨rs,m _ _ (qR (Qf el hd (by intro z;cases z))) el,l⟩,b.ne⟩
theorem DoorAt.putL{K:Frag}{C:Addr}{H:Hp}{p ta hk bd lg r:Addr}{n:Nat}{D:Dr}{rs:List Addr}(b:DoorAt K C H p ta hk bd lg n D)(el:H lg=some (.lst (rs.map V.ref)))(hl:rs.length<=n):DoorAt K C (upd H lg (.lst (rs.map V.ref++[.ref r]))) p ta hk bd lg (n+1) D:=by
 obtain⟨dx,e⟩:=b.ob;obtain⟨f,hd,_⟩:=id b.kb;have nt:NT [lg] H:=NT.one el trivial
 have m:Mv [lg] H (upd H lg (.lst (rs.map V.ref++[.ref r]))):=Mv.upd1
 exact⟨⟨dx,m _ _ (qR (Qf e el (by intro z;cases z))) e⟩,m.sqt nt b.tb,b.ks.mv m nt (qR b.ne.symm),b.kb.mv m nt (qR (Qf hd el (by intro z;cases z))),⟨rs++[r],by rw[qd,JH];rfl,by rw[Jx];exact Nat.succ_le_succ hl⟩,b.ne⟩
theorem Eqd.pair{H:Hp}{a b:Addr}{z:Str}{i:Int}(h1:H a=some (.tup [.str z,.int i]))(h2:H b=some (.tup [.str z,.int i])):Eqd H 1 (.ref a) (.ref b):=
 .tup (n:=0) (.inl h1) (.inl h2) rfl fun j x y ex ey=>by
  match j,ex,ey with
  |0,ex,ey=>cases ex;cases ey;exact .str _ _
  |1,ex,ey=>cases ex;cases ey;exact .int _ _
  |j+2,ex,ey=>cases ex
abbrev rD(a b:Str):Prop:=a.cps.toList<=b.cps.toList
theorem Ab{a b:Str}(h:ltCps b.cps.toList a.cps.toList=false):rD a b:=by
 rw[ltCps_eq]at h;exact List.not_lt.mp (of_decide_eq_false h)
theorem iz:∀{l:List Str} {p:Str},risingS p l=true->(p::l).Pairwise rD
 | [],p,_=>by simp
 |x::r,p,h=>by
  have h':(!ltCps x.cps.toList p.cps.toList&&risingS x r)=true:=h
  rw[J4,Bool.not_eq_true']at h';have ih:=iz h'.2;have hpx:=Ab h'.1;refine List.pairwise_cons.mpr ⟨fun y hy=>?_,ih⟩
  rcases Jj.mp hy with rfl|hy
  ·exact hpx
  ·exact List.le_trans hpx ((List.pairwise_cons.mp ih).1 y hy)
theorem ZL{l:List Str}(h:sortedS l=true):l.Pairwise rD:=by
 cases l with
 |nil=>exact .nil
 |cons x r=>exact iz h
theorem cU{l a b:List Str}(pa:a.Perm l)(sa:sortedS a=true)(pb:b.Perm l)(sb:sortedS b=true):a=b:=by
 refine List.Perm.eq_of_pairwise (le:=rD) (fun x y _ _ h1 h2=>?_) (ZL sa) (ZL sb) (pa.trans pb.symm)
 have e:x.cps.toList=y.cps.toList:=List.le_antisymm h1 h2
 cases x with
 |mk u=>cases y with
  |mk v=>
   have:u=v:=Array.toList_inj.mp e
   rw[this]
def ShAt(H:Hp)(q:Addr)(ss:List Str)(kn:Kw):Prop:=∃as:List Addr,H q=some (.tup (as.map V.ref))/\as.length=ss.length/\∀(i:Nat) (a:Addr) (nm:Str) (e:Kb),as[i]? =some a->ss[i]? =some nm->kn.lookup nm=some e->∃v,H a=some (.tup [.str nm,.int e.age,.int e.last,v])/\Wt H v e.wt
def eI(K:Frag)(C:Addr):Sp:=fun vs H Q _=>∃(p ta hk bd lg:Addr) (n:Nat) (D:Dr),vs=[.ref p]/\DoorAt K C H p ta hk bd lg n D/\DrOk D/\
 ∀q ss H',Same H H'->ss.Perm (D.kn.map (·.1))->sortedS ss=true->ShAt H' q ss D.kn->Q (.ref q) H'
theorem vL{X:Cx}{K:Frag}{e:Expr}{f:Str}{pos:Pos}{ta:TE}(hK:X.K=K)(he:QE X e ta)(hb:attributeBase e f X.env (eval e X.env)=eval e X.env:=by rfl):QE X (.Attribute e f pos) (vo K ta f):=by
 subst hK;exact za he hb
theorem lT(kn:Kw)(f:Str->Addr):(cX kn f).map (·.1)=(kn.map (·.1)).map Sum.inr:=by
 unfold cX;rw[Cv,Cv];rfl
theorem zE{kn:Kw}{nm:Str}(h:nm∈kn.map (·.1)):∃e,kn.lookup nm=some e:=DC.mp (lookup_mem_iff.mpr h)
theorem jD:∀(more kvs:List (qL×V)),((kvs++more).map (·.1)).Nodup->Zg kvs more=kvs++more
 | [],kvs,_=>by simp [Zg]
 |p::r,kvs,nd=>by
  have hn:p.1∉kvs.map (·.1):=fun z=>by
   rw[JH,JW]at nd
   exact(Dz.mp nd).2.2 _ z _ (JE ..) rfl
  show Zg (putK kvs p.1 p.2) r=_
  rw[vZ hn,jD r (kvs++[(p.1,p.2)]) (by rw[B8];exact nd),B8]
  rfl
theorem mV(ms:List Str)(k:Nat):(ms.map V.str).eraseIdx k=(ms.eraseIdx k).map V.str:=by
 rw[List.eraseIdx_eq_take_drop_succ,List.eraseIdx_eq_take_drop_succ,JH,List.map_take,List.map_drop]
theorem oS{ms zs:List Str}{k:Nat}(h:k<ms.length):(zs++[ms[k]]++ms.eraseIdx k).Perm (zs++ms):=by
 rw[B8];refine List.Perm.append_left zs ?_
 rw[List.eraseIdx_eq_take_drop_succ];have e:ms=ms.take k++ms[k]::ms.drop (k+1):=by rw[<- List.drop_eq_getElem_cons h,List.take_append_drop]
 refine List.Perm.trans (List.perm_middle (a:=ms[k]) (l₁:=ms.take k) (l₂:=ms.drop (k+1))).symm ?_
 rw[<- e]
theorem aK{kn:Kw}{nm:Str}{x:Kb}{e:Str×Kb}(h:e∈qV kn nm x):e∈kn\/e=(nm,x):=by
 unfold qV at h;split at h
 ·obtain⟨p,hp,rfl⟩:=Jw.mp h
  by_cases y:p.1=nm
  ·rw[Jd y];exact .inr rfl
  ·rw[Jc y];exact .inl hp
 ·rcases JO.mp h with h|h
  ·exact .inl h
  ·exact .inr (Jg.mp h)
theorem ku{kn:Kw}{nm:Str}{e:Kb}:∀{l:Kw},(∀p∈l,p.1=nm->p=(nm,e))->l.map (fun p=>if p.1=nm then(nm,e)else p)=l
 | [],_=>rfl
 |p::r,h=>by
  rw[JW,ku (kn:=kn) fun q hq=>h q (JJ _ hq)]
  by_cases y:p.1=nm
  ·rw[Jd y,h p (JE ..) y]
  ·rw[Jc y]
theorem rf{kn:Kw}{nm:Str}{e:Kb}(nd:(kn.map (·.1)).Nodup)(h:kn.lookup nm=some e):qV kn nm e=kn:=by
 unfold qV;rw[Jd (lookup_mem_iff.mp (by rw[h];rfl))]
 exact ku (kn:=kn) (Zx nd h)
theorem fF{kn:Kw}{nm:Str}{e x:Kb}(h:kn.lookup nm=some e):(qV kn nm x).map (·.1)=kn.map (·.1):=by
 rw[ZB,Jd (lookup_mem_iff.mp (by rw[h];rfl))]
theorem wG{X:Cx}:∀u e,([]:List (Str×Addr)).lookup u=some e->X.env.cells.lookup u=some e:=fun u e h=>by cases h
theorem db{X:Cx}{y:Str}{c:Addr}{l:List (Str×Addr)}(h:X.env.cells.lookup y=some c)(r:∀u e,l.lookup u=some e->X.env.cells.lookup u=some e):∀u e,((y,c)::l).lookup u=some e->X.env.cells.lookup u=some e:=fun u e he=>by
 by_cases hu:u=y
 ·subst hu
  simp at he
  rw[<- he];exact h
 ·rw[BU,show(u==y)=false from by simpa using hu]at he
  exact r u e he
section
variable{js:List Nat}{tc:TT}{te:TE}{σ:L2.St}{H:Hp}{Q:VK}{K:Frag}
theorem kO{lo:Int}{n:Nat}(hn:n<=sizeLine)(Pv:Nat->List V->Hp->Prop)(h0:Pv 0 [] H)
  (hs:∀i ys H,i<n->Pv i ys H->tc (some (.int (lo+i))::zV js σ) H fun c H3=>if c=true then te (some (.int (lo+i))::zV js σ) H3 (fun v H4=>Pv (i+1) (ys++[v]) H4)else Pv (i+1) ys H3)
  (hd:∀ys H,Pv n ys H->∀p,H p=none->Q (.ref p) (upd H p (.lst ys))):ko (fq lo n) js tc te σ H Q:=
 ie hn (fun i x=>x= .int (lo+i)) Pv h0 (fun i ys H hi p=>hi) (fun ys H p=>Jf _) (fun i ys H x H' _ p y=>y) (fun i ys H x hi p hx=>by subst hx;exact hs i ys H hi p) hd
end
theorem jS(nm:Str)(e:Kb):List.lookup nm [(nm,e)]=some e:=by simp
end L3
namespace L2
open PySem PySem.Spec PyProof.Rows
section
variable{X:Cx}{DK:List (Addr×Obj)}{σ:St}{H:Hp}{s:Shared}{a:Addr}{kvs:List (qL×V)}{A:Around}{E:Value->Shared->Prop}
theorem sL{Q:Value->Shared->Prop}(I:Inv X DK σ H s)(e:Rd H a (.dK kvs))(h:∀p s',H p=none->Inv X DK σ (upd H p (.dK kvs)) s'->Q (.ref p) s'):wpAny (model X.prog X.w) A (call (.type "dict") [.ref a]) Q E s:=by
 obtain⟨z,hd,vs,rel,dd⟩:=ZN I.hok e;refine kt_call_dict hd dd (by rw[<- rel.length];exact z) fun h' dd' hs=>?_
 refine h _ _ (I.hok.fresh (Jf _)) (I.laid (a:=s.heap.objs.size) (o:= .dK kvs) (t':=s.toks) (fun b q hq=>?_) (Jf _) (kC z (CA.mpr (Ne.symm (Jm I.big))) rel dd'))
 exact(hs.2 b (Jm (Jh hq))).trans (Ji _ hq)
end
end L2
namespace L3
open PySem PySem.Spec PyProof.Rows L2
theorem eU{X:Cx}:zg X (.type "dict") (fun xs H Q=>∃(d:Addr) (kvs:List (qL×V)),xs=[.ref d]/\H d=some (.dK kvs)/\∀p,H p=none->Q (.ref p) (upd H p (.dK kvs))):=by
 intro DK s σ H xs us Q I r h;obtain⟨d,kvs,rfl,hd,q⟩:=h;obtain⟨u,rfl,ru⟩:=zW r;cases ru;exact sL I (.inl hd) fun p s' hp I'=>⟨.ref p,_,I',rfl,q p hp⟩
theorem DoorAt.setF{K:Frag}{C:Addr}{H:Hp}{p dx:Addr}{fs:List (Str×V)}{f:Str}{u v:V}(i:Nat)(c:Cls K C)(na:NoAttr K C f)(e:H p=some (.ins C dx fs))(hf:fs[i]? =some (f,u))(nd:(fs.map (·.1)).Nodup)(hl:fs.length<1000):
  jh K H p f v (upd H p (.ins C dx (fs.set i (f,v)))):=⟨C,dx,fs,e,c,na,hl,by rw[ly i hf nd]⟩
section
variable{K:Frag}{C:Addr}{H:Hp}{p ta hk bd lg dx:Addr}{D:Dr}
theorem oK(U:DCx K C)(e:H p=some (.ins C dx (dF D ta hk bd lg)))(z:Int):jh K H p "least_age" (.int z) (upd H p (.ins C dx (dF {D with least:=z} ta hk bd lg))):=DoorAt.setF 5 U.cl U.n_least_age e rfl (vH ..) (by show 8<1000;decide)
end
theorem kE{kn:Kw}{nm:Str}{x:Kb}(nd:(kn.map (·.1)).Nodup):(qV kn nm x).lookup nm=some x:=by
 have hm:(nm,x)∈qV kn nm x:=by
  unfold qV;split
  ·rename_i h
   obtain⟨p,hp,e⟩:=Jw.mp h;exact Jw.mpr ⟨p,hp,Jd e⟩
  ·exact J2 _ (Jg.mpr rfl)
 obtain⟨y,hy⟩:=zE (Jw.mpr ⟨_,hm,rfl⟩)
 have:=Zx (cC nd nm x) hy _ hm rfl
 cases this;exact hy
def gZ:Option Int->V
 |none=> .non
 |some i=> .int i
theorem ShAt.same{H H':Hp}{q:Addr}{ss:List Str}{kn:Kw}(h:ShAt H q ss kn)(s:Same H H'):ShAt H' q ss kn:=by
 obtain⟨as,e,l,r⟩:=h
 exact⟨as,s _ _ e,l,fun i a nm x e1 e2 e3=>let⟨v,a1,a2⟩:=r i a nm x e1 e2 e3;⟨v,s _ _ a1,a2.mv (S:=[]) s.mv (fun c h=>nomatch h)⟩⟩
theorem DoorAt.putLeast{K:Frag}{C:Addr}{H:Hp}{p ta hk bd lg:Addr}{n:Nat}{D:Dr}(b:DoorAt K C H p ta hk bd lg n D)(U:DCx K C)(z:Int):∃dx,jh K H p "least_age" (.int z) (upd H p (.ins C dx (dF {D with least:=z} ta hk bd lg)))/\Mv [p] H (upd H p (.ins C dx (dF {D with least:=z} ta hk bd lg)))/\DoorAt K C (upd H p (.ins C dx (dF {D with least:=z} ta hk bd lg))) p ta hk bd lg n {D with least:=z}:=by
 obtain⟨dx,e⟩:=b.ob;obtain⟨f,hd,_⟩:=id b.kb;obtain⟨rs,el,l⟩:=b.lo;obtain⟨as,eh,_⟩:=id b.ks;have nt:NT [p] H:=NT.one e trivial
 have m:Mv [p] H (upd H p (.ins C dx (dF {D with least:=z} ta hk bd lg))):=Mv.upd1
 exact⟨dx,oK U e z,m,⟨dx,qd⟩,m.sqt nt b.tb,b.ks.mv m nt (qR (Qf eh e (by intro z;cases z))),b.kb.mv m nt (qR (Qf hd e (by intro z;cases z))),⟨rs,m _ _ (qR (Qf el e (by intro z;cases z))) el,l⟩,b.ne⟩
def zz(D:Dr)(e:Kb)(age c:Int):Str×Kb:=if qY D e age=true then zc D.near D.far e age c else("age",e)
def jw(K:Frag)(C:Addr):Sp:=fun vs H Q _=>∃(p ta hk bd lg a:Addr) (n:Nat) (D:Dr) (e:Kb) (age c:Int),vs=[.ref p,.ref a,.int age,.int c]/\DoorAt K C H p ta hk bd lg n D/\BuAt H a e/\
 ∀q a' H',Same H H'->H' q=some (.tup [.str (zz D e age c).1,.ref a'])->BuAt H' a' (zz D e age c).2->Q (.ref q) H'
inductive Eqk (K:Frag) (H:Hp):Nat->V->V->Prop where
 |int (n:Nat) (i:Int):Eqk K H n (.int i) (.int i)
 |str (n:Nat) (x:Str):Eqk K H n (.str x) (.str x)
 |non (n:Nat):Eqk K H n .non .non
 | tup {n:Nat} {a b:Addr} {xs ys:List V} (h1:SqT K H a xs) (h2:SqT K H b ys) (hl:xs.length=ys.length)
   (hi:∀(i:Nat) (x y:V),xs[i]? =some x->ys[i]? =some y->Eqk K H n x y):Eqk K H (n+1) (.ref a) (.ref b)
section
open SeqAt
variable{X:Cx}{DK:List (Addr×Obj)}{σ:L2.St}{H:Hp}{s:Shared}
theorem xh(I:L2.Inv X DK σ H s){n:Nat}{x y:V}(h:Eqk X.K H n x y):∀{v u:Value} {A:Around},RelV x v->RelV y u->A.units+n<cLine->EqAt A s v u true:=by
 induction h with
 |int n i=>rintro v u A ⟨t,rfl⟩ ⟨t',rfl⟩ _;have:=EqAt.int_int (A:=A) (s:=s) i t i t';rwa [B1]at this
 |str n z=>rintro v u A ⟨t,rfl⟩ ⟨t',rfl⟩ _;have:=EqAt.str_str (A:=A) (s:=s) z t z t';rwa [B1]at this
 |non n=>
  intro v u A r1 r2 _
  cases(show v=Value.none from r1)
  cases(show u=Value.none from r2)
  exact EqAt.same _
 | @tup n a b xs ys h1 h2 hl _ ih=>
  intro v u A r1 r2 hu
  cases(show v=Value.ref a from r1)
  cases(show u=Value.ref b from r2)
  by_cases hab:a=b
  ·rw[hab];exact EqAt.same _
  ·obtain⟨its,q1,p1,_⟩:=I.tuple h1
   obtain⟨its2,q2,p2,_⟩:=I.tuple h2;have l1:=q1.length;have l2:=q2.length;have e:=RcAt.tuples (A:=A) (e:=fun _=>true) (show s.heap.IsTuple a its.toArray from p1) (show s.heap.IsTuple b its2.toArray from p2) (by omega) (fun j z1 z2=>by
    obtain⟨x,ex,rx⟩:=zL q1 (j:=j) (by simpa using z1)
    obtain⟨y,ey,ry⟩:=zL q2 (j:=j) (by simpa using z2)
    exact ih j x y ex ey rx ry (by rw[C2];omega))
   rw[aD,show(its.toArray.size==its2.toArray.size)=true by simp;omega]at e
   exact EqAt.of_refs hab e
theorem Aj(I:L2.Inv X DK σ H s){n:Nat}{x y:V}{v u:Value}{A:Around}(h:Eqk X.K H n x y)(r1:RelV x v)(r2:RelV y u)(hu:A.units+n<cLine):RcAt A s v u true/\RcNeAt A s v u false:=by
 cases h with
 |int n i=>
  obtain⟨t,rfl⟩:=r1;obtain⟨t',rfl⟩:=r2;have e1:=RcAt.int_int (A:=A) (s:=s) i t i t'
  have e2:=RcNeAt.int_int (A:=A) (s:=s) i t i t'
  rw[B1]at e1 e2
  exact⟨e1,e2⟩
 |str n z=>
  obtain⟨t,rfl⟩:=r1;obtain⟨t',rfl⟩:=r2;have e1:=RcAt.str_str (A:=A) (s:=s) z t z t'
  have e2:=RcNeAt.str_str (A:=A) (s:=s) z t z t'
  rw[B1]at e1 e2
  exact⟨e1,e2⟩
 |non n=>
  cases(show v=Value.none from r1)
  cases(show u=Value.none from r2)
  exact⟨RcAt.none_none,RcNeAt.none_none⟩
 | @tup n a b xs ys h1 h2 hl ih=>
  cases(show v=Value.ref a from r1)
  cases(show u=Value.ref b from r2)
  obtain⟨its,q1,p1,_⟩:=I.tuple h1;obtain⟨its2,q2,p2,_⟩:=I.tuple h2;have l1:=q1.length;have l2:=q2.length;have he:∀j (z1:j<its.toArray.size) (z2:j<its2.toArray.size),EqAt A.in1 s its.toArray[j] its2.toArray[j] ((fun _=>true) j):=fun j z1 z2=>by
   obtain⟨x,ex,rx⟩:=zL q1 (j:=j) (by simpa using z1)
   obtain⟨y,ey,ry⟩:=zL q2 (j:=j) (by simpa using z2)
   exact xh I (ih j x y ex ey) rx ry (by rw[C2];omega)
  have e1:=RcAt.tuples (A:=A) (e:=fun _=>true) (show s.heap.IsTuple a its.toArray from p1) (show s.heap.IsTuple b its2.toArray from p2) (by omega) he
  have e2:=RcNeAt.tuples (A:=A) (e:=fun _=>true) (show s.heap.IsTuple a its.toArray from p1) (show s.heap.IsTuple b its2.toArray from p2) (by omega) he
  rw[aD,show(its.toArray.size==its2.toArray.size)=true by simp;omega]at e1 e2
  exact⟨e1,e2⟩
def Bw(K:Frag)(b:Bool):R2:=fun x y H Q=>∃n,n<=32/\Eqk K H n x y/\Q (.bl b) H
theorem AI{k:Nat}(hr:Room k X.A):zv X (compareOp .NotEq) (Bw X.K false):=by
 intro DK s σ H x y v u Q I rx ry h;obtain⟨n,hn,e,q⟩:=h
 exact(Aj I e rx ry (by have:=hr.un;omega)).2 _ _ _ _ ⟨.bl _,H,I,rfl,q⟩
end
section
variable(K:Frag)(C:Addr)(x:Xa)
def gK:Sp:=fun vs H Q _=>∃(p ta hk bd lg:Addr) (n:Nat) (D:Dr),vs=[.ref p]/\DoorAt K C H p ta hk bd lg n D/\∀t H',Same H H'->H' t=some (.tup [.int D.near,.int D.far,.int D.most])->Q (.ref t) H'
end
structure Ac(K:Frag)(mg:Str->Option Value)(x:Str)(st:Stmt):Prop where
 ex:∃(f:Addr) (fd:FuncData),Fun K x x st f fd/\mg x=some (.ref f)
structure Acm(K:Frag)(C:Addr)(m DL:Str)(st:Stmt):Prop where
 ex:∃(f:Addr) (fd:FuncData),Fun K m DL st f fd/\Meth K C m f
section
variable{K:Frag}{mg:Str->Option Value}{h:Heap}{x m DL:Str}{st:Stmt}{C f:Addr}{oc:Value}{od an:Option Addr}{osl:Array (Option Value)}{kV doc pm cdv ct:Value}{ps:List Str}
theorem vC(X:K.In h)(G:h.Ns mainGlobals mg)(a:W.nsIn K mainGlobals x=some (some (.ref f)))(l:K.lookup f=some ⟨oc,od,.func (W.fnOf x x (Qq st) (zB st) (qo st) .none kV doc pm an cdv ct),osl⟩)(c:W.codeIn K cdv x=true)(k:W.keepIn K (.ref f)=true):Ac K mg x st:=⟨f,_,jH l c k,Cy X G a⟩
theorem yQ(a:W.findIn K (.ref C) m=some (some (.ref f)))(i:W.isFn K (.ref f)=true)(l:K.lookup f=some ⟨oc,od,.func (W.fnOf m DL (Qq st) (zB st) (qo st) .none kV doc pm an cdv ct),osl⟩)(c:W.codeIn K cdv DL=true)(k:W.keepIn K (.ref f)=true):Acm K C m DL st:=⟨f,_,jH l c k,a,i,k⟩
theorem BI{p:List Value->Prop}(h:p []):∀us:List Value,us.length=0->p us:=by
 intro us hl;rw[List.eq_nil_of_length_eq_zero hl];exact h
theorem lv{n:Nat}{p:List Value->Prop}(h:∀a us,us.length=n->p (a::us)):∀us:List Value,us.length=n+1->p us:=by
 intro us hl;cases us with
 |nil=>cases hl
 |cons a r=>exact h a r (Nat.succ.inj hl)
theorem QV{p:List Value->Prop}(h:∀a0,p [a0]):∀us:List Value,us.length=1->p us:=lv fun a=>BI (p:=fun r=>p (a::r)) (h a)
theorem Z8{p:List Value->Prop}(h:∀a0 a1,p [a0,a1]):∀us:List Value,us.length=2->p us:=lv fun a=>QV (p:=fun r=>p (a::r)) (h a)
theorem fo{p:List Value->Prop}(h:∀a0 a1 a2,p [a0,a1,a2]):∀us:List Value,us.length=3->p us:=lv fun a=>Z8 (p:=fun r=>p (a::r)) (h a)
theorem fL{p:List Value->Prop}(h:∀a0 a1 a2 a3,p [a0,a1,a2,a3]):∀us:List Value,us.length=4->p us:=lv fun a=>fo (p:=fun r=>p (a::r)) (h a)
theorem Bm{p:List Value->Prop}(h:∀a0 a1 a2 a3 a4,p [a0,a1,a2,a3,a4]):∀us:List Value,us.length=5->p us:=lv fun a=>fL (p:=fun r=>p (a::r)) (h a)
theorem Be{p:List Value->Prop}(h:∀a0 a1 a2 a3 a4 a5,p [a0,a1,a2,a3,a4,a5]):∀us:List Value,us.length=6->p us:=lv fun a=>Bm (p:=fun r=>p (a::r)) (h a)
theorem Ac.at(a:Ac K mg x st)(b:∀(kV doc pm:Value) (an:Option Addr) (cdv ct:Value) (us:List Value),us.length=ps.length->bindArgs (W.fnOf x x (Qq st) (zB st) (qo st) .none kV doc pm an cdv ct) ⟨us,[]⟩=pure (ps.zip us)):At K mg x st ps:=by
 obtain⟨_,_,F,m⟩:=a.ex;exact AN F m (F.binds b)
theorem Acm.at(a:Acm K C m DL st)(b:∀(kV doc pm:Value) (an:Option Addr) (cdv ct:Value) (us:List Value),us.length=ps.length->bindArgs (W.fnOf m DL (Qq st) (zB st) (qo st) .none kV doc pm an cdv ct) ⟨us,[]⟩=pure (ps.zip us)):AtM K C m DL st ps:=by
 obtain⟨_,_,F,m⟩:=a.ex
 exact⟨_,_,F,m,F.binds b⟩
end
structure Ps where
 nm:Str
 age:Int
 ds:List Int
def PsAt(H:Hp)(p:Addr)(P:Ps):Prop:=PrAt H p P.nm P.age P.ds
structure PsOk(P:Ps):Prop where
 nm:zT P.nm
 l:P.ds.length=5
 dg:zu P.ds
def cr(D:Dr)(P:Ps):Option (Int×Int):=if Zh D P.age=true then Zb D.t (Qt D P.age) P.nm P.ds else none
def sr(D:Dr)(P R:Ps):Str×Int×Kw:=match cr D P with
 |none=>("press",0,D.kn)
 |some (c,_)=>match cr D R with
  |none=>("press",1,D.kn)
  |some (c',_)=>if R.nm=P.nm/\R.age=P.age/\c'=c+1 then(match D.kn.lookup P.nm with
    |some _=>("known",0,D.kn)
    |none=>if(D.kn.length:Int)<D.most then("",0,qV D.kn P.nm ⟨P.age,c',none⟩)else("full",0,D.kn))
   else("press",1,D.kn)
def kq(c:Nat):Bool:=decide (97<=c)&&decide (c<=122)
def yH(z:Str):Bool:=z.cps.toList.all kq
def vv(z:Str):Bool:=decide (1<=z.length)&&decide (z.length<=8)&&yH z
theorem nmB_iff{z:Str}:vv z=true↔zT z:=by
 unfold vv yH zT;rw[J4,J4,Dh,Dh,Dg];have zl:z.length=z.cps.toList.length:=rfl
 rw[zl];constructor
 ·rintro⟨⟨h1,h2⟩,h3⟩
  refine⟨fun c hc=>?_,h1,h2⟩
  have:=h3 c hc
  unfold kq at this;rw[J4,Dh,Dh]at this;exact this
 ·rintro⟨h3,h1,h2⟩
  refine⟨⟨h1,h2⟩,fun c hc=>?_⟩
  unfold kq;rw[Jk (h3 c hc).1,Jk (h3 c hc).2];rfl
theorem eQ{a b:Nat}:([a]:List Nat)<[b]↔a<b:=by
 rw[List.cons_lt_cons_iff];constructor
 ·rintro(h|⟨_,h⟩)
  ·exact h
  ·exact absurd h (List.not_lt_nil _)
 ·exact .inl
theorem nO(c:Nat):(!decide ((⟨#[c]⟩:Str).cps.toList<("a":Str).cps.toList))=decide (97<=c)/\(!decide (("z":Str).cps.toList<(⟨#[c]⟩:Str).cps.toList))=decide (c<=122):=by
 have e1:("a":Str).cps.toList=[97]:=by decide +kernel
 have e2:("z":Str).cps.toList=[122]:=by decide +kernel
 rw[e1,e2]
 show(!decide ([c]<[97]))=_/\(!decide ([122]<[c]))=_
 constructor
 ·by_cases h:97<=c
  ·rw[Jk h,Jr (by rw[eQ];omega)];rfl
  ·rw[Jr h,Jk (by rw[eQ];omega)];rfl
 ·by_cases h:c<=122
  ·rw[Jk h,Jr (by rw[eQ];omega)];rfl
  ·rw[Jr h,Jk (by rw[eQ];omega)];rfl
theorem jB{H:Hp}{x:V}{t:String}(h:kd H x=some t):Ty2 H x t:=by
 cases x with
 |non=>cases h;exact .non
 |bl b=>cases h;exact .bl b
 |int i=>cases h;exact .int i
 |str x=>cases h;exact .str x
 |byt b=>cases h
 |flt b=>cases h
 |ty b=>cases h
 |ref a=>
  rcases eZ h with⟨xs,e,rfl⟩|⟨xs,e,rfl⟩
  ·exact .lst e
  ·exact .tup (.inl e)
def Bg(H:Hp)(x:V)(b:Bool):Prop:=(∃z,x= .str z/\z.cps.all (· <128)=true/\z.length<=100/\b=vv z)\/(∃t,kd H x=some t/\zn t "str"=false/\b=false)
def CdK(H:Hp)(x:V)(b:Bool):Prop:=(∃(p:Addr) (ds:List V),x= .ref p/\H p=some (.tup ds)/\ds.length<=100/\(∀v∈ds,∃t,kd H v=some t)/\b=(decide (ds.length=5)&&ds.all bo))\/(∃t,kd H x=some t/\zn t "tuple"=false/\b=false)
inductive TgB (H:Hp) (x:V):Bool->Prop where
 |kd {t:String} (h:kd H x=some t) (n:zn t "tuple"=false):TgB H x false
 |len {a:Addr} {xs:List V} (e:x= .ref a) (h:H a=some (.tup xs)) (l:xs.length<=100) (n:xs.length≠3):TgB H x false
 |tup {a:Addr} {n y c:V} {bn bc:Bool} {ty:String} (e:x= .ref a) (h:H a=some (.tup [n,y,c])) (hn:Bg H n bn) (hy:L3.kd H y=some ty) (hc:CdK H c bc):TgB H x (bn&&eF y&&bc)
theorem CdK.same{H H':Hp}{x:V}{b:Bool}(s:Same H H')(h:CdK H x b):CdK H' x b:=h.elim (fun⟨p,ds,e,h1,h2,h3,h4⟩=> .inl ⟨p,ds,e,s _ _ h1,h2,(fun v hv=>let⟨t,ht⟩:=h3 v hv;⟨t,cz s ht⟩),h4⟩) (fun⟨t,h1,h2⟩=> .inr ⟨t,cz s h1,h2⟩)
def Tg(H:Hp)(x:V)(o:Option Ps):Prop:=match o with
 |none=>TgB H x false
 |some P=>∃pr,x= .ref pr/\PsAt H pr P/\PsOk P
theorem Tg.b{H:Hp}{x:V}{o:Option Ps}(h:Tg H x o):TgB H x o.isSome:=by
 cases o with
 |none=>exact h
 |some P=>
  obtain⟨pr,e,⟨pc,h1,h2⟩,ok⟩:=h;have t:=TgB.tup (bn:=true) (bc:=true) e h1 (.inl ⟨P.nm,rfl,kK ok.nm,by have:=ok.nm.2.2;show P.nm.cps.toList.length<=100;omega,(nmB_iff.mpr ok.nm).symm⟩) (ty:="int") rfl (.inl ⟨pc,_,rfl,h2,by rw[Je,ok.l];decide,(fun v hv=>by obtain⟨i,_,rfl⟩:=Jw.mp hv;exact⟨_,rfl⟩),by rw[Je,ok.l,ue ok.dg];rfl⟩)
  exact t
def hV:Sp:=fun vs H Q _=>∃x b,vs=[x]/\Bg H x b/\∀H',Same H H'->Q (.bl b) H'
def hX:Sp:=fun vs H Q _=>∃x b,vs=[x]/\CdK H x b/\∀H',Same H H'->Q (.bl b) H'
def bb:Sp:=fun vs H Q _=>∃x b,vs=[x]/\TgB H x b/\∀H',Same H H'->Q (.bl b) H'
section
variable(K:Frag)(C:Addr)
def g0:Sp:=fun vs H Q _=>∃(p ta hk bd lg:Addr) (n:Nat) (D:Dr) (x:V) (o:Option Ps),vs=[.ref p,x]/\DoorAt K C H p ta hk bd lg n D/\DrOk D/\Tg H x o/\∀y H',Same H H'->bT H' y (o.bind (cr D))->Q y H'
end
end L3
namespace L3
open PySem PySem.Spec PyProof.Rows L2
open Sem (wp)
section
variable{X:Cx}{DK:List (Addr×Obj)}{σ:L2.St}{H:Hp}{s:Shared}
def t7(a1 a2:Addr):It:=
  ⟨fun i H=>∃xs ys x y,Rd H a1 (.lst xs)/\Rd H a2 (.lst ys)/\xs[i]? =some x/\ys[i]? =some y,
   fun i H v H'=>∃p x y,H p=none/\v= .ref p/\(∀xs,Rd H a1 (.lst xs)->xs[i]? =some x)/\(∀ys,Rd H a2 (.lst ys)->ys[i]? =some y)/\H'=upd H p (.tup [x,y]),
   fun i H=>∃xs,Rd H a1 (.lst xs)/\xs.length=i⟩
theorem pC{P:Program}{w:World}{K:Frag}{elts:List Expr}{x1}{pos:Pos}(a1 a2 z TI TO i1 i2:Addr)(d1:TI≠z)(d2:TO≠z)(d3:i1≠z)(d4:i2≠z)(d5:TI≠TO)(d6:TI≠i1)(d7:TI≠i2)(d8:TO≠i1)(d9:TO≠i2)(d10:i1≠i2):
  Turn P w K (.Tuple elts x1 pos) (t7 a1 a2) [z,TI,TO,i1,i2] z (fun i h=>IsZip h z TI TO .none/\IsPair h TI (.ref i1) (.ref i2)/\(∃a b,IsPair h TO a b)/\h.IsListIter i1 a1 i/\h.IsListIter i2 a2 i) where
 mem:=by simp
 obj:=fun i h st b hb=>by
  obtain⟨hz,hTI,⟨a,b',hTO⟩,⟨o1,ho1,_,hd1⟩,⟨o2,ho2,_,hd2⟩⟩:=st;simp only[Jj,Jp,Jq]at hb;rcases hb with rfl|rfl|rfl|rfl|rfl
  ·exact⟨_,hz,fun v y=>by have y':Data.fields _=Data.cell v:=y;cases y'⟩
  ·exact⟨_,hTI,fun v y=>by have y':Data.seq _ _=Data.cell v:=y;cases y'⟩
  ·exact⟨_,hTO,fun v y=>by have y':Data.seq _ _=Data.cell v:=y;cases y'⟩
  ·exact⟨_,ho1,fun v y=>by rw[hd1]at y;cases y⟩
  ·exact⟨_,ho2,fun v y=>by rw[hd2]at y;cases y⟩
 keep:=fun i h h' st k=>by
  obtain⟨hz,hTI,⟨a,b',hTO⟩,h1,h2⟩:=st
  exact⟨k z (by simp) _ hz,k TI (by simp) _ hTI,⟨a,b',k TO (by simp) _ hTO⟩,h1.at fun o e=>k i1 (by simp) o e,h2.at fun o e=>k i2 (by simp) o e⟩
 item:=by
  intro X hP hw hK hc i DK s σ H E I hf st hg;subst hP hw hK;obtain⟨xs,ys,x,y,ha1,ha2,hx,hy⟩:=hg;obtain⟨its,rv,p,hz0⟩:=I.list (.inl ha1)
  obtain⟨its2,rv2,p2,hz2⟩:=I.list (.inl ha2)
  obtain⟨u,hu,ru⟩:=rv.get hx;obtain⟨u2,hu2,ru2⟩:=rv2.get hy;obtain⟨hz,hTI,⟨a,b',hTO⟩,h1,h2⟩:=st;have n1:∀c∈[z,TI,TO,i1,i2],a1≠c:=fun c hc=>cJ ha1 (hf c hc).1
  have n2:∀c∈[z,TI,TO,i1,i2],a2≠c:=fun c hc=>cJ ha2 (hf c hc).1
  have Z:ZApart z TI TO i1 i2 [i1,a1] [i2,a2]:=⟨d1,d2,d3,d4,d5,d6,d7,d8,d9,d10,by simp [Ne.symm d3,Ne.symm (n1 z (by simp))],by simp [Ne.symm d4,Ne.symm (n2 z (by simp))],by simp [d8,Ne.symm (n1 TO (by simp))],by simp [d9,Ne.symm (n2 TO (by simp))],by simp [Ne.symm d10,Ne.symm (n1 i2 (by simp))],by simp [d10,Ne.symm (n2 i1 (by simp))]⟩
  have hil:i<its.toArray.size:=by have:=(Js.mp hu).1;simpa using this
  have hil2:i<its2.toArray.size:=by have:=(Js.mp hu2).1;simpa using this
  have hT:s.TypeIs (.ref z) "zip":=⟨_,hz,rfl⟩
  unfold pyNext;refine Ja (B4 (wpAny_callSpecial?_slot (name:=Str.ofString "__next__") hT Ct
   (JT Ct hT Dw
    (io (Draws.list (A:=X.A.in1) (I.ok.hd hc) i1 a1 (n1 i1 (by simp)) its.toArray) (Draws.list (A:=X.A.in1) (I.ok.hd hc) i2 a2 (n2 i2 (by simp)) its2.toArray) Z hz hTI hTO ⟨h1,p.isList⟩ ⟨h2,p2.isList⟩ hil hil2
     fun v v2 h' tk hv hv2 ho hTO' q1 q2 ht hk=>Jb ⟨_,rfl,?_⟩) (Dx _))))
  have ev:v=u:=by
   have hv':its[i]? =some v:=by simpa using hv
   rw[hu]at hv';exact(Jv hv').symm
  have ev2:v2=u2:=by
   have hv':its2[i]? =some v2:=by simpa using hv2
   rw[hu2]at hv';exact(Jv hv').symm
  subst ev ev2;refine wpAny_letOwnedTupleGo_zip ho fun h'' hz'' hs''=>?_
  have lt:∀c∈[z,TI,TO,i1,i2],c<s.heap.objs.size:=fun c hc=>by
   simp only[Jj,Jp,Jq]at hc;rcases hc with rfl|rfl|rfl|rfl|rfl
   ·exact Jh hz
   ·exact Jh hTI
   ·exact Jh hTO
   ·obtain⟨_,e,_⟩:=h1;exact Jh e
   ·obtain⟨_,e,_⟩:=h2;exact Jh e
  have hTI':IsPair h'' TI (.ref i1) (.ref i2):=hs''.extBut _ _ d1 (hk _ _ d1 d5 d6 d7 hTI)
  have hTO'':IsPair h'' TO v v2:=hs''.extBut _ _ d2 hTO'
  have h1':h''.IsListIter i1 a1 (i+1):=q1.1.extBut hs''.extBut d3
  have h2':h''.IsListIter i2 a2 (i+1):=q2.1.extBut hs''.extBut d4
  refine⟨.ref s.heap.objs.size,upd H s.heap.objs.size (.tup [x,y]),?_,rfl,⟨_,x,y,I.hok.fresh (Jf _),rfl,fun zs hy'=>by rw[I.list_inj (.inl hy') (.inl ha1)];exact hx,fun zs hy'=>by rw[I.list_inj (.inl hy') (.inl ha2)];exact hy,rfl⟩,⟨hz'',hTI',⟨_,_,hTO''⟩,h1',h2'⟩,?_⟩
  ·show L2.Inv X DK σ _ {s with heap:=h'',toks:=tk}
   refine cA (s:=s) (its:=[v,v2]) I (ch:=[z,TI,TO,i1,i2]) (fun b o hb q=>?_) hf (fun b hb=>?_) (Jf _) (by show 2<=sizeLine;decide) (.cons ru (.cons ru2 .nil)) ?_
   ·simp only[Jj,Jp,Jq,not_or]at hb
    exact hs''.extBut b o hb.1 (hk b o hb.1 hb.2.2.1 hb.2.2.2.1 hb.2.2.2.2 q)
   ·simp only[Jj,Jp,Jq]at hb
    rcases hb with rfl|rfl|rfl|rfl|rfl
    ·exact⟨_,hz''⟩
    ·exact⟨_,hTI'⟩
    ·exact⟨_,hTO''⟩
    ·obtain⟨o,e,_⟩:=h1';exact⟨o,e⟩
    ·obtain⟨o,e,_⟩:=h2';exact⟨o,e⟩
   ·exact⟨_,hs''.extBut _ _ (JQ (lt z (by simp))) ht,rfl,_,rfl⟩
  ·intro b hb
   rw[qp (Jm (lt b hb))]
   exact(hf b hb).1
 done:=by
  intro X hP hw hK hc i DK s σ H E I hf st hg;subst hP hw hK;obtain⟨xs,ha1,hx⟩:=hg;obtain⟨its,rv,p,hz0⟩:=I.list (.inl ha1)
  obtain⟨hz,hTI,⟨a,b',hTO⟩,h1,h2⟩:=st;have n1:∀c∈[z,TI,TO,i1,i2],a1≠c:=fun c hc=>cJ ha1 (hf c hc).1
  have Z:ZApart z TI TO i1 i2 [i1,a1] [i2]:=⟨d1,d2,d3,d4,d5,d6,d7,d8,d9,d10,by simp [Ne.symm d3,Ne.symm (n1 z (by simp))],by simp [Ne.symm d4],by simp [d8,Ne.symm (n1 TO (by simp))],by simp [d9],by simp [Ne.symm d10,Ne.symm (n1 i2 (by simp))],by simp [d10]⟩
  have hl:its.toArray.size=i:=by rw[Jt,<- rv.length];exact hx
  have hT:s.TypeIs (.ref z) "zip":=⟨_,hz,rfl⟩
  unfold pyNext;refine Ja (B4 (wpAny_callSpecial?_slot (name:=Str.ofString "__next__") hT Ct
   (JT Ct hT Dw
    (jO (Draws.list (A:=X.A.in1) (I.ok.hd hc) i1 a1 (n1 i1 (by simp)) its.toArray) Z hz hTI ⟨by rw[hl];exact h1,p.isList⟩ fun h' e hk he=>?_) (Dx _))))
  obtain⟨o,ho,hcl⟩:=he;refine Ja (Cs (T:="StopIteration") (b:=true) ⟨o,ho,hcl⟩ Di ?_)
  refine Jb ⟨rfl,lu (t':=s.toks) I (ch:=[z,i1]) (fun b o hb e=>?_) (fun b hb=>hf b ?_)⟩
  ·simp only[Jj,Jp,Jq,not_or]at hb
   exact hk b o hb.1 hb.2 e
  ·simp only[Jj,Jp,Jq]at hb
   rcases hb with rfl|rfl<;>simp
 self:=fun _ _ _ _ _ st h=>Dy st.1 h
def vf(ta:TA):TI:=fun σ H R=>ta σ H fun vs H1=>∃a1 a2 xs ys,vs=[.ref a1,.ref a2]/\Rd H1 a1 (.lst xs)/\Rd H1 a2 (.lst ys)/\R (t7 a1 a2) H1
theorem wA{a b:Expr}{ta:TA}{p pos:Pos}{elts:List Expr}{x1}{tpos:Pos}(hg:Gl X "zip")(hm:X.mg "zip"=none)(ha:PA X [a,b] ta)(h1:zK a=true:=by rfl)(h2:zK b=true:=by rfl):
  PI X (.Tuple elts x1 tpos) (.Call (.Name "zip" p) [a,b] [] pos) (vf ta):=by
 intro DK s σ H R I h;have hs2:starEach [b] X.env=[(false,eval b X.env)]:=Q8 h2
 refine Call_ (QX I hg hm PyProof.Rows.boot_zip (Cn (qD (ha pos DK s σ H _ I h) fun us s1 zq=>?_) (by rw[Q8 h1,hs2]) (by rw[hs2];rfl)))
 obtain⟨vs,H1,I1,r1,q1⟩:=zq;obtain⟨a1,a2,xs,ys,e,e1,e2,q⟩:=q1;subst e;obtain⟨u,v,rfl,ru,rv⟩:=r1.two;cases ru;cases rv;obtain⟨its,r1',p1,hz⟩:=I1.list (.inl e1)
 obtain⟨its2,r2',p2,hz2⟩:=I1.list (.inl e2)
 have ad:∀(n i j:Nat),i≠j->n+i≠n+j:=fun n i j h=>by omega
 refine call_zip_2 p1.isList p2.isList fun h' hz hTI hTO h1 h2 _ hk=>Dy hz ?_
 refine⟨s1.heap.objs.size+4,[s1.heap.objs.size+4,s1.heap.objs.size+2,s1.heap.objs.size+3,s1.heap.objs.size,s1.heap.objs.size+1],_,_,H1,rfl,I1.kept (t':=s1.toks) hk,
  pC a1 a2 (s1.heap.objs.size+4) (s1.heap.objs.size+2) (s1.heap.objs.size+3) s1.heap.objs.size (s1.heap.objs.size+1) (ad _ 2 4 (by decide)) (ad _ 3 4 (by decide)) (ad _ 0 4 (by decide)) (ad _ 1 4 (by decide)) (ad _ 2 3 (by decide)) (ad _ 2 0 (by decide)) (ad _ 2 1 (by decide)) (ad _ 3 0 (by decide)) (ad _ 3 1 (by decide)) (ad _ 0 1 (by decide)),⟨hz,hTI,⟨_,_,hTO⟩,h1,h2⟩,fun b hb=>?_,q⟩
 have hb':s1.heap.objs.size<=b:=by
  simp only[Jj,Jp,Jq]at hb;rcases hb with rfl|rfl|rfl|rfl|rfl
  ·exact Cc _ 4
  ·exact Cc _ 2
  ·exact Cc _ 3
  ·exact Jf _
  ·exact Cc _ 1
 exact I1.fpOk hb' (I1.hok.fresh hb')
end
theorem rB{K:Frag}{js:List Nat}{te:TE}{σ:L2.St}{H:Hp}{Q:VK}{a1 a2:Addr}{xs ys:List V}(hl:xs.length=ys.length)(hn:xs.length<=sizeLine)(Pv:Nat->List V->Hp->Prop)(h0:Pv 0 [] H)
  (hk:∀i zs H,Pv i zs H->Rd H a1 (.lst xs)/\Rd H a2 (.lst ys))
  (hs:∀i zs H p x y,xs[i]? =some x->ys[i]? =some y->zs.length=i->Pv i zs H->H p=none->te (some x::some y::zV js σ) (upd H p (.tup [x,y])) fun v H3=>Pv (i+1) (zs++[v]) H3)
  (hd:∀zs H,zs.length=xs.length->Pv xs.length zs H->∀p,H p=none->Q (.ref p) (upd H p (.lst zs))):
  iR 2 js (ji K 2 (cI (Qu 0) (cI (Qu 1) mY))) te σ Q (t7 a1 a2) H:=by
 refine⟨fun i m zs τ H=>m=xs.length-i/\i<=xs.length/\zs.length=i/\Pv i zs H/\∃o o',τ=o::o'::zV js σ,⟨xs.length,by simp,JC _,rfl,h0,none,none,rfl⟩,?_⟩
 rintro i m zs τ H ⟨rfl,hi,hzl,p,o,o',rfl⟩
 obtain⟨e1,e2⟩:=hk i zs H p
 by_cases hlt:i<xs.length
 ·have hlt2:i<ys.length:=by omega
  refine .inr ⟨⟨xs,ys,xs[i],ys[i],e1,e2,by simp [hlt],by simp [hlt2]⟩,by omega,fun v H' y=>?_⟩
  obtain⟨pp,x,y,hp,rfl,hx,hy,rfl⟩:=y;refine⟨pp,_,rfl,SqT.of qd,rfl,_,_,rfl,_,_,rfl,rfl,?_⟩
  exact⟨fun v H3=>Pv (i+1) (zs++[v]) H3,fun v H3 p3=>⟨xs.length-(i+1),by omega,rfl,hlt,by simp [hzl],p3,_,_,rfl⟩,hs i zs _ pp x y (hx xs e1) (hy ys e2) hzl p hp⟩
 ·have e:i=xs.length:=by omega
  subst e;exact .inl ⟨⟨xs,e1,rfl⟩,hd zs H hzl p⟩
theorem wT{X:Cx}{a b:Expr}{ta:TA}{p pos:Pos}{elts:List Expr}{x1}{tpos:Pos}(hg:Gl X "zip")(hm:X.mg "zip"=none)(ha:QA X [a,b] ta)(h1:zK a=true:=by rfl)(h2:zK b=true:=by rfl):
  QI X (.Tuple elts x1 tpos) (.Call (.Name "zip" p) [a,b] [] pos) (vf ta):=⟨wA hg hm ha.h h1 h2⟩
inductive Eqw (H:Hp):Nat->V->V->Prop where
 |int (n:Nat) (i:Int):Eqw H n (.int i) (.int i)
 |str (n:Nat) (x:Str):Eqw H n (.str x) (.str x)
 |non (n:Nat):Eqw H n .non .non
 | tup {n:Nat} {a b:Addr} {xs ys:List V} (h1:Rd H a (.tup xs)) (h2:Rd H b (.tup ys)) (hl:xs.length=ys.length) (hz:xs.length<=sizeLine)
   (hi:∀(i:Nat) (x y:V),xs[i]? =some x->ys[i]? =some y->Eqw H n x y):Eqw H (n+1) (.ref a) (.ref b)
 | lst {n:Nat} {a b:Addr} {xs ys:List V} (h1:H a=some (.lst xs)) (h2:H b=some (.lst ys)) (hl:xs.length=ys.length) (hz:xs.length<=sizeLine)
   (hi:∀(i:Nat) (x y:V),xs[i]? =some x->ys[i]? =some y->Eqw H n x y):Eqw H (n+1) (.ref a) (.ref b)
theorem Eqw.same{H H':Hp}(s:Same H H'):∀{n:Nat} {x y:V},Eqw H n x y->Eqw H' n x y:=fun h=>by
 induction h with
 |int n i=>exact .int n i
 |str n x=>exact .str n x
 |non n=>exact .non n
 |tup h1 h2 hl hz _ ih=>exact .tup (Rd.same s h1) (Rd.same s h2) hl hz ih
 |lst h1 h2 hl hz _ ih=>exact .lst (s _ _ h1) (s _ _ h2) hl hz ih
theorem Eqw.two{H:Hp}{n:Nat}{a b:Addr}{x1 x2 y1 y2:V}(h1:Rd H a (.tup [x1,x2]))(h2:Rd H b (.tup [y1,y2]))(e1:Eqw H n x1 y1)(e2:Eqw H n x2 y2):Eqw H (n+1) (.ref a) (.ref b):=
 .tup h1 h2 rfl (by show 2<=sizeLine;decide) fun i x y ex ey=>by
  match i,ex,ey with
  |0,ex,ey=>cases ex;cases ey;exact e1
  |1,ex,ey=>cases ex;cases ey;exact e2
  |i+2,ex,ey=>cases ex
theorem Eqw.ltwo{H:Hp}{n:Nat}{a b:Addr}{x1 x2 y1 y2:V}(h1:H a=some (.lst [x1,x2]))(h2:H b=some (.lst [y1,y2]))(e1:Eqw H n x1 y1)(e2:Eqw H n x2 y2):Eqw H (n+1) (.ref a) (.ref b):=
 .lst h1 h2 rfl (by show 2<=sizeLine;decide) fun i x y ex ey=>by
  match i,ex,ey with
  |0,ex,ey=>cases ex;cases ey;exact e1
  |1,ex,ey=>cases ex;cases ey;exact e2
  |i+2,ex,ey=>cases ex
def sS(n:Nat):Sp:=fun vs H Q _=>∃x y,vs=[x,y]/\Eqw H n x y/\∀H',Same H H'->Q (.bl true) H'
end L3
namespace L3
open PySem PySem.Spec PyProof.Rows L2
theorem ki{X:Cx}{elt tg iter cnd:Expr}{scope:Scope}{cl:List (Str×Addr)}{pos spos py:Pos}{fr own:List Str}{js:List Nat}{wi:TI}{g:TG}{tc:TT}{te:TE}{i:Nat}{y:Str}
  (hN:X.N.Nodup)(hi':X.N[i]? =some y)(hx:e9 X.env.scope y)
  (hc:X.calm=true)(hi:QI X tg iter wi)(hclos:closureFor scope X.env=pure cl)(hcl:∀y c,cl.lookup y=some c->X.env.cells.lookup y=some c)(hfr:cl.map (·.1)=fr)
  (S:BScope X scope fr js)
  (hg:∀C s H fp,QG (zY X (own++fr) scope cl C s H fp) tg g)(ht:∀C s H fp,QT (zY X (own++fr) scope cl C s H fp) cnd tc)(he:∀C s H fp,QE (zY X (own++fr) scope cl C s H fp) elt te)
  (hs:∀x,foldedSetIterable iter X.env x=pure x:=by intro _;rfl)(hsw:swapsWith (.ListComp elt [⟨tg,iter,[cnd],0⟩] scope pos) (some (.Name y py)) spos.line X.env=pure true:=by rfl)
  (hf:X.fn y=true\/X.env.scope.names.lookup y=some .local:=by first|exact .inl rfl|exact .inr rfl|assumption):
  QS X (.Assign [.Name y py] (.ListComp elt [⟨tg,iter,[cnd],0⟩] scope pos) spos) (dv (rT own.length js wi g tc te) (Qu i)):=⟨by
 intro DK s σ H D I h;rw[exec_Assign_Name_used _ _ _ _ hsw];refine Ja (CB (Ja ?_))
 show wpAny _ X.A (do let _ <- comprehension (.ListComp elt [⟨tg,iter,[cnd],0⟩] scope pos) scope X.env _ (newList []) false (eval iter X.env) (some (assign (.Name y py) X.env))) _ _ s
 refine Ja (JG (oU (use:=some (assign (.Name y py) X.env)) (Post:=fun _ s'=>SP X DK D .next s') hc hi.h hclos hcl hfr S (fun C s H fp=>(hg C s H fp).h) (fun C s H fp=>(ht C s H fp).h) (fun C s H fp=>(he C s H fp).h) hs I h ?_) (fun _ s' hq=>Jb (Jb hq)) fun _ _ e=>e)
 intro acc C s5 H' m I5 hn aw q
 show wpAny _ X.A (assign (.Name y py) X.env (.ref acc)) _ _ _
 refine wpAny_assign_Name (bM (v:= .ref acc) I5 hN hi' hx rfl (fun s6 I6 zq=>?_) hf)
 obtain⟨a,hs6,ha⟩:=zq;have hCa:C≠a:=by
  rcases ha with z|z
  ·rw[z];exact aw.loc
  ·exact Ne.symm (aw.cell _ _ z)
 refine⟨m,hn.sameBut hs6 hCa,fun h' hs'=>?_⟩
 exact⟨_,H',I6.turned (t':=s6.toks) (fun b o hb e=>(hs'.2 b hb).trans e) aw.free aw.loc (.inr aw.new) aw.cell aw.pin,q⟩⟩
def KsT(K:Frag)(H:Hp)(b:Addr)(kss:List (List Int)):Prop:=∃as:List Addr,SqT K H b (as.map V.ref)/\as.length=kss.length/\∀(i:Nat) (a:Addr) (ks:List Int),as[i]? =some a->kss[i]? =some ks->SqT K H a (ks.map V.int)
theorem KsT.same{K:Frag}{H H':Hp}{b:Addr}{kss:List (List Int)}(h:KsT K H b kss)(s:Same H H'):KsT K H' b kss:=by
 obtain⟨as,e,l,r⟩:=h
 exact⟨as,Same.sqt s e,l,fun i a ks e1 e2=>Same.sqt s (r i a ks e1 e2)⟩
theorem KsT.upd{K:Frag}{C p dx:Addr}{H:Hp}{b:Addr}{kss:List (List Int)}{fs:List (Str×V)}{o:HO}(h:KsT K H b kss)(e:H p=some (.ins C dx fs)):KsT K (upd H p o) b kss:=by
 obtain⟨as,eb,l,r⟩:=h
 exact⟨as,gF e eb,l,fun i a ks e1 e2=>gF e (r i a ks e1 e2)⟩
theorem xz{X:Cx}{y1 y2 y3:Str}{c1 c2 c3:Addr}(h1:X.env.cells.lookup y1=some c1)(h2:X.env.cells.lookup y2=some c2)(h3:X.env.cells.lookup y3=some c3):
  ∀u e,([(y1,c1),(y2,c2),(y3,c3)]:List (Str×Addr)).lookup u=some e->X.env.cells.lookup u=some e:=db h1 (db h2 (db h3 wG))
theorem yz{X:Cx}{scope:Scope}{y1 y2 y3:Str}{j1 j2 j3:Nat}(kind:scope.kind= .function)(names:∀x∈scope.names,x.2= .local->scope.names.lookup x.1=some .local)(nocell:∀x∈scope.names,x.2≠ .cell)
  (free:∀x∈scope.names,x.2= .free->x.1∈([y1,y2,y3]:List Str))(a1:X.N[j1]? =some y1)(a2:X.env.kindOf y1=some .cell)(a3:(relabel scope X.env).names.lookup y1=some .cell)
  (b1:X.N[j2]? =some y2)(b2:X.env.kindOf y2=some .cell)(b3:(relabel scope X.env).names.lookup y2=some .cell)(c1:X.N[j3]? =some y3)(c2:X.env.kindOf y3=some .cell)(c3:(relabel scope X.env).names.lookup y3=some .cell):BScope X scope [y1,y2,y3] [j1,j2,j3]:=
 ⟨kind,names,nocell,free,rfl,fun i j' y' e1 e2=>by
  match i with
  |0=>cases e1;cases e2;exact⟨a1,a2,a3⟩
  |1=>cases e1;cases e2;exact⟨b1,b2,b3⟩
  |2=>cases e1;cases e2;exact⟨c1,c2,c3⟩
  |i+3=>simp at e1⟩
inductive Rw where
 |learn (P R:Ps)
 |forget (nm:Str)
 |turn (ks:List Int)
 |close (age:Int)
 |hear (P:Ps) (ans:List V)
def lJ:V->Prop
 | .int _=>True
 | .str _=>True
 |_=>False
def RwAt(H:Hp)(a:Addr):Rw->Prop
 | .learn P R=>∃p1 p2,Rd H a (.tup [.str "learn",.ref p1,.ref p2])/\PsAt H p1 P/\PsAt H p2 R/\PsOk P/\PsOk R
 | .forget nm=>Rd H a (.tup [.str "forget",.str nm])
 | .turn ks=>∃k,Rd H a (.tup [.str "turn",.ref k])/\Rd H k (.tup (ks.map V.int))/\ks.length<=8
 | .close age=>Rd H a (.tup [.str "close",.int age])
 | .hear P ans=>∃p q,Rd H a (.tup [.str "hear",.ref p,.ref q])/\PsAt H p P/\PsOk P/\H q=some (.tup ans)/\ans.length<=3/\∀v∈ans,lJ v
def RowsAt(H:Hp)(rs:List Addr)(L:List Rw):Prop:=rs.length=L.length/\∀(i:Nat) (a:Addr) (r:Rw),rs[i]? =some a->L[i]? =some r->RwAt H a r
def LogAt(H:Hp)(lg:Addr)(L:List Rw):Prop:=∃rs:List Addr,H lg=some (.lst (rs.map V.ref))/\RowsAt H rs L
def LogT(H:Hp)(t:Addr)(L:List Rw):Prop:=∃rs:List Addr,Rd H t (.tup (rs.map V.ref))/\RowsAt H rs L
section
variable{S:List Addr}{H H':Hp}{a lg t:Addr}{r:Rw}{rs:List Addr}{L:List Rw}
theorem RwAt.mv(m:Mv S H H')(n:NT S H)(h:RwAt H a r):RwAt H' a r:=by
 cases r with
 |learn P R=>obtain⟨p1,p2,h1,h2,h3,h4⟩:=h;exact⟨p1,p2,m.rd n h1,PrAt.mv m n h2,PrAt.mv m n h3,h4⟩
 |forget nm=>exact m.rd n h
 |turn ks=>obtain⟨k,h1,h2,h3⟩:=h;exact⟨k,m.rd n h1,m.rd n h2,h3⟩
 |close age=>exact m.rd n h
 |hear P ans=>obtain⟨p,q,h1,h2,h3,h4,h5⟩:=h;exact⟨p,q,m.rd n h1,PrAt.mv m n h2,h3,m.tup n h4,h5⟩
theorem RowsAt.mv(m:Mv S H H')(n:NT S H)(h:RowsAt H rs L):RowsAt H' rs L:=⟨h.1,fun i a r e1 e2=>(h.2 i a r e1 e2).mv m n⟩
theorem LogAt.mv(m:Mv S H H')(n:NT S H)(hl:lg∉S)(h:LogAt H lg L):LogAt H' lg L:=by
 obtain⟨rs,e,r⟩:=h
 exact⟨rs,m _ _ hl e,r.mv m n⟩
theorem LogT.mv(m:Mv S H H')(n:NT S H)(h:LogT H t L):LogT H' t L:=by
 obtain⟨rs,e,r⟩:=h
 exact⟨rs,m.rd n e,r.mv m n⟩
theorem cY:NT [] H:=fun c h=>nomatch h
theorem RowsAt.same(s:Same H H')(h:RowsAt H rs L):RowsAt H' rs L:=h.mv (S:=[]) s.mv cY
theorem LogAt.same(s:Same H H')(h:LogAt H lg L):LogAt H' lg L:=h.mv (S:=[]) s.mv cY (fun z=>nomatch z)
theorem LogT.same(s:Same H H')(h:LogT H t L):LogT H' t L:=h.mv (S:=[]) s.mv cY
theorem RowsAt.add(h:RowsAt H rs L)(hr:RwAt H a r):RowsAt H (rs++[a]) (L++[r]):=by
 refine⟨by simp [h.1],fun i b q e1 e2=>?_⟩
 by_cases hi:i<rs.length
 ·rw[J0 hi]at e1
  rw[J0 (by rw[<- h.1];exact hi)]at e2
  exact h.2 i b q e1 e2
 ·rw[JX (by omega)]at e1
  rw[JX (by rw[<- h.1];omega),<- h.1]at e2
  cases e:i-rs.length with
  |zero=>rw[e]at e1 e2;cases e1;cases e2;exact hr
  |succ k=>rw[e]at e1;cases e1
theorem sO{n:Nat}{v:V}(h:lJ v):Eqv H n v v:=by
 cases v with
 |int i=>exact .int _ _
 |str i=>exact .str _ _
 |_=>exact h.elim
theorem PsAt.eqv{p q:Addr}{P:Ps}(h1:PsAt H p P)(h2:PsAt H q P)(o:PsOk P):Eqv H 2 (.ref p) (.ref q):=by
 obtain⟨c1,a1,b1⟩:=h1;obtain⟨c2,a2,b2⟩:=h2;refine .tup (.inl a1) (.inl a2) rfl (by show 3<=sizeLine;decide) fun i x y ex ey=>?_
 match i,ex,ey with
 |0,ex,ey=>cases ex;cases ey;exact .str _ _
 |1,ex,ey=>cases ex;cases ey;exact .int _ _
 |2,ex,ey=>cases ex;cases ey;exact .ints (.inl b1) (.inl b2) (by rw[o.l];decide)
 |i+3,ex,ey=>cases ex
theorem RwAt.eqv{b:Addr}(h1:RwAt H a r)(h2:RwAt H b r):Eqv H 3 (.ref a) (.ref b):=by
 cases r with
 |learn P R=>
  obtain⟨p1,p2,e1,e2,e3,o1,o2⟩:=h1;obtain⟨q1,q2,f1,f2,f3,_⟩:=h2;refine .tup e1 f1 rfl (by show 3<=sizeLine;decide) fun i x y ex ey=>?_
  match i,ex,ey with
  |0,ex,ey=>cases ex;cases ey;exact .str _ _
  |1,ex,ey=>cases ex;cases ey;exact PsAt.eqv e2 f2 o1
  |2,ex,ey=>cases ex;cases ey;exact PsAt.eqv e3 f3 o2
  |i+3,ex,ey=>cases ex
 |forget nm=>
  refine .tup (n:=2) h1 h2 rfl (by show 2<=sizeLine;decide) fun i x y ex ey=>?_
  match i,ex,ey with
  |0,ex,ey=>cases ex;cases ey;exact .str _ _
  |1,ex,ey=>cases ex;cases ey;exact .str _ _
  |i+2,ex,ey=>cases ex
 |turn ks=>
  obtain⟨k1,e1,e2,e3⟩:=h1;obtain⟨k2,f1,f2,_⟩:=h2;refine .tup (n:=2) e1 f1 rfl (by show 2<=sizeLine;decide) fun i x y ex ey=>?_
  match i,ex,ey with
  |0,ex,ey=>cases ex;cases ey;exact .str _ _
  |1,ex,ey=>cases ex;cases ey;exact .ints e2 f2 (by rw[Jz];omega)
  |i+2,ex,ey=>cases ex
 |close age=>
  refine .tup (n:=2) h1 h2 rfl (by show 2<=sizeLine;decide) fun i x y ex ey=>?_
  match i,ex,ey with
  |0,ex,ey=>cases ex;cases ey;exact .str _ _
  |1,ex,ey=>cases ex;cases ey;exact .int _ _
  |i+2,ex,ey=>cases ex
 |hear P ans=>
  obtain⟨p1,p2,e1,e2,o1,e3,e4,e5⟩:=h1;obtain⟨q1,q2,f1,f2,_,f3,_⟩:=h2;refine .tup e1 f1 rfl (by show 3<=sizeLine;decide) fun i x y ex ey=>?_
  match i,ex,ey with
  |0,ex,ey=>cases ex;cases ey;exact .str _ _
  |1,ex,ey=>cases ex;cases ey;exact PsAt.eqv e2 f2 o1
  |2,ex,ey=>
   cases ex;cases ey
   refine .tup (n:=1) (.inl e3) (.inl f3) rfl (by rw[Jz];omega) fun i x y ex ey=>?_
   rw[ex]at ey;cases ey
   exact sO (e5 _ (JS ex))
  |i+3,ex,ey=>cases ex
theorem LogT.eqv{t':Addr}(h1:LogT H t L)(h2:LogT H t' L)(hl:L.length<=2000):Eqv H 4 (.ref t) (.ref t'):=by
 obtain⟨rs,e1,l1,r1⟩:=h1;obtain⟨qs,e2,l2,r2⟩:=h2;refine .tup e1 e2 (by simp [l1,l2]) (by rw[Je,l1,Jz];omega) fun i x y ex ey=>?_
 rw[Jo]at ex ey;cases q1:rs[i]? with
 |none=>rw[q1]at ex;cases ex
 |some a=>
  cases q2:qs[i]? with
  |none=>rw[q2]at ey;cases ey
  |some b=>
   rw[q1]at ex;rw[q2]at ey;cases ex;cases ey
   have hi:i<L.length:=by rw[<- l1];exact(Js.mp q1).1
   exact(r1 i a _ q1 (Jl hi)).eqv (r2 i b _ q2 (Jl hi))
end
theorem _root_.L2.SqT.up{K:Frag}{H:Hp}{a:Addr}{xs:List V}(h:SqT [] H a xs):SqT K H a xs:=h.elim .inl fun⟨_,_,_,z,_⟩=>nomatch z
theorem _root_.L2.SqT.rd{H:Hp}{a:Addr}{xs:List V}(h:SqT [] H a xs):Rd H a (.tup xs):=h.elim id fun⟨_,_,_,z,_⟩=>nomatch z
theorem KsAt.up{K:Frag}{H:Hp}{a:Addr}{kss:List (List Int)}(h:KsAt [] H a kss):KsAt K H a kss:=by
 obtain⟨as,e,l,r⟩:=h
 exact⟨as,e,l,fun i a ks e1 e2=>(r i a ks e1 e2).up⟩
def c7(K:Frag)(C:Addr):Sp:=fun vs H Q _=>∃(p a b dx:Addr) (near far most:Int) (t:List Int) (kss:List (List Int)),vs=[.ref p,.ref a,.ref b,.int near,.int far,.int most]/\H p=some (.ins C dx [])/\Sq K H a (t.map V.int)/\KsT [] H b kss/\kss.length<=8/\
 ∀ta hk bd lg H',H hk=none->H bd=none->H lg=none->Mv [p] H H'->DoorAt K C H' p ta hk bd lg 0 ⟨t,kss,near,far,most,0,[]⟩->KsAt [] H' hk kss->Q .non H'
structure Da where
 p:Addr
 ta:Addr
 hk:Addr
 bd:Addr
 lg:Addr
structure DlAt(K:Frag)(C:Addr)(H:Hp)(a:Da)(D:Dr)(L:List Rw):Prop where
 dr:DoorAt K C H a.p a.ta a.hk a.bd a.lg L.length D
 lo:LogAt H a.lg L
 kr:KsAt [] H a.hk D.kss
section
variable{K:Frag}{C:Addr}{S:List Addr}{H H':Hp}{a:Da}{D:Dr}{L:List Rw}{r:Addr}{rw:Rw}{rs:List Addr}
theorem DlAt.mv(b:DlAt K C H a D L)(m:Mv S H H')(nt:NT S H)(hp:a.p∉S)(hh:a.hk∉S)(hb:a.bd∉S)(hl:a.lg∉S):DlAt K C H' a D L:=⟨b.dr.mv m nt hp hh hb hl,b.lo.mv m nt hl,KsAt.mv m nt hh b.kr⟩
theorem DlAt.same(b:DlAt K C H a D L)(s:Same H H'):DlAt K C H' a D L:=⟨b.dr.same s,b.lo.same s,KsAt.same s b.kr⟩
theorem DlAt.push(b:DoorAt K C H a.p a.ta a.hk a.bd a.lg L.length D)(el:H a.lg=some (.lst (rs.map V.ref)))(ro:RowsAt H rs L)(kr:KsAt [] H a.hk D.kss)(hr:RwAt H r rw):DlAt K C (upd H a.lg (.lst (rs.map V.ref++[.ref r]))) a D (L++[rw]):=by
 have nt:NT [a.lg] H:=NT.one el trivial
 have e:=b.putL (r:=r) el (Nat.le_of_eq ro.1)
 rw[show L.length+1=(L++[rw]).length by simp]at e
 exact⟨e,⟨rs++[r],by rw[qd,JH];rfl,(ro.add hr).mv Mv.upd1 nt⟩,KsAt.mv Mv.upd1 nt (qR b.ne.symm) kr⟩
theorem uZ{p ta hk bd lg:Addr}{n:Nat}{f0:List (qL×V)}(e:H bd=some (.dK f0))(b:DoorAt K C H p ta hk bd lg n D):hk≠bd:=by
 obtain⟨as,eh,_⟩:=b.ks;exact Qf eh e (by intro z;cases z)
theorem Ae{p ta hk bd lg dx:Addr}{n:Nat}{f0:List (Str×V)}(e:H p=some (.ins C dx f0))(b:DoorAt K C H p ta hk bd lg n D):hk≠p:=by
 obtain⟨as,eh,_⟩:=b.ks;exact Qf eh e (by intro z;cases z)
theorem DoorAt.dl{p ta hk bd lg:Addr}(b:DoorAt K C H p ta hk bd lg 0 D)(kr:KsAt [] H hk D.kss):DlAt K C H ⟨p,ta,hk,bd,lg⟩ D []:=by
 obtain⟨rs,e,l⟩:=id b.lo
 obtain rfl:rs=[]:=List.length_eq_zero_iff.mp (Nat.le_zero.mp l)
 exact⟨b,⟨[],e,rfl,fun i a r h=>by cases h⟩,kr⟩
end
inductive Dd where
 |learn (o1 o2:Option Ps)
 |forget (nm:Str)
 |turn (ks:List Int)
 |close (age:Int)
 |hear (o:Option Ps)
def ZO(D:Dr)(P:Ps):List V×Kw:=zk D P.nm P.age (Zb D.t (Qt D P.age) P.nm P.ds)
def BK(D:Dr):Dd->Option (Dr×Rw)
 | .learn (some P) (some R)=>if(sr D P R).1="" then some ({D with kn:=(sr D P R).2.2},.learn P R)else none
 | .learn _ _=>none
 | .forget nm=>if D.kn.lookup nm=none then none else some ({D with kn:=D.kn.filter fun p=>decide (p.1≠nm)},.forget nm)
 | .turn ks=>if D.kss.length<8 then some ({D with kss:=D.kss++[ks]},.turn ks)else none
 | .close age=>some ({D with least:=if age>D.least then age else D.least},.close age)
 | .hear (some P)=>some ({D with kn:=(ZO D P).2},.hear P (ZO D P).1)
 | .hear none=>none
section
variable(K:Frag)(C:Addr)(x:Xa)
def mn:Sp:=fun vs H Q _=>∃(a:Da) (D:Dr) (L:List Rw) (x:V) (o:Option Ps),vs=[.ref a.p,x]/\DlAt K C H a D L/\L.length<=1000/\DrOk D/\Tg H x o/\
 (o=none->∀q H',Same H H'->H' q=some (.tup [.str "held",.str "bad"])->Q (.ref q) H')/\
 ∀P,o=some P->∀pr q H',x= .ref pr->Mv [a.bd,a.lg] H H'->PsAt H' pr P->H' q=some (.tup (ZO D P).1)->DlAt K C H' a {D with kn:=(ZO D P).2} (L++[.hear P (ZO D P).1])->Q (.ref q) H'
def BG(H:Hp)(k:Addr)(ks:List Int):Prop:=H k=some (.lst (ks.map V.int))\/Rd H k (.tup (ks.map V.int))
def kI:Sp:=fun vs H Q _=>∃(a:Da) (D:Dr) (L:List Rw) (age:Int),vs=[.ref a.p,.int age]/\DlAt K C H a D L/\L.length<=1000/\
 ∀D' r,BK D (.close age)=some (D',r)->∀H',Mv [a.p,a.lg] H H'->DlAt K C H' a D' (L++[r])->Q .non H'
def pY:Sp:=fun vs H Q _=>∃(a:Da) (D:Dr) (L:List Rw),vs=[.ref a.p]/\DlAt K C H a D L/\∀t H',Same H H'->LogT H' t L->Q (.ref t) H'
end
theorem lc{X:Cx}:zg X (.type "tuple") (fun xs H Q=>∃kt ks,xs=[.ref kt]/\BG H kt ks/\∀t H2,Same H H2->Rd H2 t (.tup (ks.map V.int))->Q (.ref t) H2):=by
 intro DK s σ H xs us Q I r h;obtain⟨kt,ks,e,h,q⟩:=h;refine qT DK s σ H xs us Q I r ⟨kt,ks.map V.int,e,?_⟩
 rcases h with h|h
 ·exact .inl ⟨SqL.of h,fun t ht=>q t _ (Same.upd ht) (.inl qd)⟩
 ·exact .inr ⟨.inl h,q kt _ (Same.refl _) h⟩
section
variable{D:Dr}{P R:Ps}{o1 o2:Option Ps}
theorem gM(D:Dr)(nm:Str)(age:Int)(r:Option (Int×Int)):(zk D nm age r).1.length<=3/\∀v∈(zk D nm age r).1,lJ v:=by
 have two:∀a b:Str,([V.str a,.str b]:List V).length<=3/\∀v∈([V.str a,.str b]:List V),lJ v:=fun a b=>⟨by show 2<=3;decide,fun v hv=>by simp at hv;rcases hv with rfl|rfl<;>trivial⟩
 have three:∀(a b:Str) (i:Int),([V.str a,.str b,.int i]:List V).length<=3/\∀v∈([V.str a,.str b,.int i]:List V),lJ v:=fun a b i=>⟨by show 3<=3;decide,fun v hv=>by simp at hv;rcases hv with rfl|rfl|rfl<;>trivial⟩
 unfold zk;split
 ·exact two _ _
 ·split
  ·split
   ·exact two _ _
   ·split
    ·exact three _ _ _
    ·exact two _ _
  ·exact two _ _
theorem pD(D:Dr)(P:Ps):(ZO D P).1.length<=3:=(gM ..).1
theorem uE(D:Dr)(P:Ps):∀v∈(ZO D P).1,lJ v:=(gM ..).2
end
theorem gy{t u:TS}{D:Ends}{σ:L2.St}{H:Hp}(G:L2.St->Hp->Prop)(h:∀D':Ends,D'.rt=D.rt->(∀σ' H',G σ' H'->D'.nx σ' H')->t D' σ H)(hG:∀σ' H',G σ' H'->u D σ' H'):ja t u D σ H:=h {D with nx:=u D} rfl hG
section
variable{K:Frag}{C:Addr}{S:List Addr}{H H':Hp}{v:Wa}{W:Wo}
theorem KsT.mv{b:Addr}{kss:List (List Int)}(h:KsT K H b kss)(m:Mv S H H')(n:NT S H):KsT K H' b kss:=by
 obtain⟨as,e,l,r⟩:=h
 exact⟨as,m.sqt n e,l,fun i a ks e1 e2=>m.sqt n (r i a ks e1 e2)⟩
end
structure KlOk(D:Dr)(e:Kb):Prop where
 a0:0<=e.age
 a1:e.age<D.kss.length
 l0:1<=e.last
 l1:e.last<4096
 w:∀x c,e.wt=some (x,c)->e.age<=x/\x<D.kss.length/\e.last+D.near<c/\c<=e.last+D.far/\0<=c/\c<4096
section
variable{K:Frag}{C:Addr}{H H':Hp}{b:Addr}{v:Wa}{W:Wo}{a:Da}{D D':Dr}{L:List Rw}
def dS(a:Da):List Addr:=[a.p,a.hk,a.bd,a.lg]
theorem DlAt.nt(d:DlAt K C H a D L):NT (dS a) H:=fun c hc=>by
 obtain⟨dx,ep⟩:=id d.dr.ob;obtain⟨f0,hd,_⟩:=id d.dr.kb;obtain⟨as,eh,_⟩:=id d.dr.ks;obtain⟨rs,el,_⟩:=id d.lo;simp only[dS,Jj,Jp,Jq]at hc;rcases hc with rfl|rfl|rfl|rfl
 ·exact⟨_,ep,trivial⟩
 ·exact⟨_,eh,trivial⟩
 ·exact⟨_,hd,trivial⟩
 ·exact⟨_,el,trivial⟩
theorem DlAt.outD{x:Addr}{xs:List (qL×V)}(d:DlAt K C H a D L)(hx:H x=some (.dK xs))(n1:x≠a.bd):x∉dS a:=fun hc=>by
 obtain⟨dx,ep⟩:=id d.dr.ob;obtain⟨as,eh,_⟩:=id d.dr.ks;obtain⟨rs,el,_⟩:=id d.lo;simp only[dS,Jj,Jp,Jq]at hc;rcases hc with z|z|z|z
 ·rw[z,ep]at hx;cases hx
 ·rw[z,eh]at hx;cases hx
 ·exact n1 z
 ·rw[z,el]at hx;cases hx
end
theorem KlOk.mono{D D':Dr}{e:Kb}(k:KlOk D e)(h:D.kss.length<=D'.kss.length)(hn:D'.near=D.near:=by rfl)(hf:D'.far=D.far:=by rfl):KlOk D' e:=⟨k.a0,by have:=k.a1;omega,k.l0,k.l1,fun x c z=>by have:=k.w x c z;rw[hn,hf];omega⟩
theorem uD{D:Dr}{e:Kb}{age c:Int}(k:KlOk D e)(a0:e.age<=age)(a1:age<D.kss.length)(c0:0<=c)(c1:c<4096):KlOk D (zc D.near D.far e age c).2:=by
 have e0:=k.a0;have l0:=k.l0;have new:e.last<c->KlOk D ⟨age,c,none⟩:=fun h=>⟨by show 0<=age;omega,a1,by show 1<=c;omega,c1,fun x y z=>by cases z⟩
 unfold zc;split
 ·exact k
 ·split
  ·exact new (by omega)
  ·split
   ·split
    ·exact new (by omega)
    ·exact⟨k.a0,k.a1,k.l0,k.l1,fun x y z=>by cases z;exact⟨a0,a1,by show e.last+D.near<c;omega,by show c<=e.last+D.far;omega,c0,c1⟩⟩
   ·exact k
theorem k9{kn:Kw}{nm:Str}{e:Kb}(h:nm∈kn.map (·.1)):(qV kn nm e).length=kn.length:=by
 unfold qV;rw[Jd h,Je]
theorem nU{D:Dr}{e:Kb}{age:Int}(h:qY D e age=true):e.age<=age:=by
 unfold qY at h;rw[J4]at h;exact Jy h.2
theorem bg{i:Nat}{v:V}{σ:L2.St}{H:Hp}{t u:TS}{D:Ends}{rt:VK}{bk ct:L2.St->Hp->Prop}(G:L2.St->Hp->Prop)(h:∀D':Ends,D'.rt=D.rt->(∀σ' H',G σ' H'->D'.nx σ' H')->t D' (σ.set i (some v)) H)(hG:∀σ' H',G σ' H'->u D σ' H'):Qu i v σ H (Ends.nx {nx:=ja t u D,rt:=rt,bk:=bk,ct:=ct}):=h {D with nx:=u D} rfl hG
theorem yr{K:Frag}{H:Hp}{D:Dr}{age:Int}{as:List Addr}(la:as.length=D.kss.length)(hks:∀(i:Nat) (a:Addr) (ks:List Int),as[i]? =some a->D.kss[i]? =some ks->SqT K H a (ks.map V.int))(h0:0<=age)(h1:age<D.kss.length):∃ak,QQ (as.map V.ref) age=some (.ref ak)/\SqT K H ak ((Qt D age).map V.int):=by
 obtain⟨i,rfl⟩:∃i:Nat,age=(i:Int):=⟨age.toNat,by omega⟩
 have hi:i<D.kss.length:=by omega
 have hi':i<as.length:=by omega
 refine⟨as[i],QK (by rw[Jo,Jl hi'];rfl),?_⟩
 have:=hks i as[i] D.kss[i] (Jl hi') (Jl hi)
 unfold Qt;rw[B3,JF,Jl hi];exact this
theorem mG{nms:List Str}{r:Int}(h0:0<=r)(h1:r<((nms.map V.str).length:Int))(ok:∀z∈nms,zT z):∃z:Str,QQ (nms.map V.str) r=some (.str z)/\zT z:=by
 obtain⟨x,hx,hm⟩:=Qr (xs:=nms.map V.str) h0 h1
 obtain⟨z,hz,rfl⟩:=Jw.mp hm
 exact⟨z,hx,ok z hz⟩
theorem BD{a:Da}{H H':Hp}(m:Mv [a.p,a.lg] H H'):Mv (dS a) H H':=m.mono fun c h z=>h (by simp only[dS,Jj,Jp,Jq]at z⊢;rcases z with z|z<;>simp [z])
theorem Wt.same{H H':Hp}{v:V}{o:Option (Int×Int)}(s:Same H H')(h:Wt H v o):Wt H' v o:=h.mv (S:=[]) s.mv cY
theorem eT{kn:Kw}{nm:Str}(h:nm∉kn.map (·.1)):kn.lookup nm=none:=by
 cases e:kn.lookup nm with
 |none=>rfl
 |some x=>exact absurd (lookup_mem_iff.mp (by rw[e];rfl)) h
section
variable{K:Frag}{H:Hp}
theorem Eqv.eqk{n:Nat}{x y:V}(h:Eqv H n x y):Eqk K H n x y:=by
 induction h with
 |int n i=>exact .int n i
 |str n z=>exact .str n z
 |non n=>exact .non n
 |tup h1 h2 hl _ _ ih=>exact .tup (.inl h1) (.inl h2) hl ih
theorem tH{a b:Addr}{ns:List Int}{n:Nat}(h1:SqT K H a (ns.map V.int))(h2:SqT K H b (ns.map V.int)):Eqk K H (n+1) (.ref a) (.ref b):=by
 refine .tup h1 h2 rfl fun i x y e1 e2=>?_
 rw[e1]at e2;cases e2
 rw[Jo]at e1;cases h:ns[i]? with
 |none=>rw[h]at e1;cases e1
 |some v=>rw[h]at e1;cases e1;exact .int _ _
theorem gS{p q:Addr}{ss:List Str}{k1 k2:Kw}(h1:ShAt H p ss k1)(h2:ShAt H q ss k2)(hs:∀nm∈ss,nm∈k1.map (·.1))(he:∀nm,k2.lookup nm=k1.lookup nm):Eqk K H 3 (.ref p) (.ref q):=by
 obtain⟨as,e1,l1,r1⟩:=h1;obtain⟨bs,e2,l2,r2⟩:=h2;refine .tup (SqT.of e1) (SqT.of e2) (by simp [l1,l2]) fun i x y ex ey=>?_
 rw[Jo]at ex ey;cases q1:as[i]? with
 |none=>rw[q1]at ex;cases ex
 |some a=>
  cases q2:bs[i]? with
  |none=>rw[q2]at ey;cases ey
  |some b=>
   rw[q1]at ex;rw[q2]at ey;cases ex;cases ey
   have hi:i<ss.length:=by rw[<- l1];exact(Js.mp q1).1
   have hn:=Jl hi;obtain⟨e,hee⟩:=zE (hs _ (Ca hi))
   obtain⟨v1,t1,w1⟩:=r1 i a _ e q1 hn hee;obtain⟨v2,t2,w2⟩:=r2 i b _ e q2 hn (by rw[he];exact hee)
   refine .tup (SqT.of t1) (SqT.of t2) rfl fun j x y ex ey=>?_
   match j,ex,ey with
   |0,ex,ey=>cases ex;cases ey;exact .str _ _
   |1,ex,ey=>cases ex;cases ey;exact .int _ _
   |2,ex,ey=>cases ex;cases ey;exact .int _ _
   |3,ex,ey=>
    cases ex;cases ey
    cases hw:e.wt with
    |none=>
     rw[hw]at w1 w2;have w1:v1= .non:=w1
     have w2:v2= .non:=w2
     rw[w1,w2];exact .non _
    |some xc=>
     rw[hw]at w1 w2;obtain⟨z1,rfl,u1⟩:=w1;obtain⟨z2,rfl,u2⟩:=w2;exact tH (ns:=[xc.1,xc.2]) (SqT.of u1) (SqT.of u2)
   |j+4,ex,ey=>cases ex
theorem Eqk.up{n:Nat}{x y:V}(h:Eqk K H n x y):Eqk K H (n+1) x y:=by
 induction h with
 |int n i=>exact .int _ i
 |str n z=>exact .str _ z
 |non n=>exact .non _
 |tup h1 h2 hl _ ih=>exact .tup h1 h2 hl ih
end
theorem rJ{a:Da}{x:Addr}(h:x∈dS a):x=a.p\/x=a.hk\/x=a.bd\/x=a.lg:=by
 simpa only[dS,Jj,Jp,Jq]using h
theorem yv(a:Da):a.p∈dS a:=by simp [dS]
theorem vx(a:Da):a.hk∈dS a:=by simp [dS]
theorem vt(a:Da):a.bd∈dS a:=by simp [dS]
theorem vp(a:Da):a.lg∈dS a:=by simp [dS]
theorem oZ{a:Da}{H H':Hp}(m:Mv [a.bd,a.lg] H H'):Mv (dS a) H H':=m.mono (fun c h z=>h (by simp [dS]at z⊢;rcases z with z|z<;>simp [z]))
def ZD(D:Dr)(kd:Addr):List (qL×V):=[(.inr "near",.int D.near),(.inr "far",.int D.far),(.inr "keys",.int (D.kss.length:Int)),(.inr "closed",.int D.least),(.inr "known",.ref kd)]
theorem oW(D:Dr)(kd:Addr):((ZD D kd).map (·.1)).Nodup:=by
 have:([.inr "near",.inr "far",.inr "keys",.inr "closed",.inr "known"]:List qL).Nodup:=by decide +kernel
 exact this
theorem tD(D:Dr)(kd:Addr):Zg [] (ZD D kd)=ZD D kd:=by
 have:=jD (ZD D kd) [] (oW D kd)
 rwa [List.nil_append]at this
structure MdAt(H:Hp)(m kd:Addr)(D:Dr):Prop where
 di:H m=some (.dK (ZD D kd))
 kn:KnAt H kd D.kn
 ne:m≠kd
section
variable{S:List Addr}{H H':Hp}{m kd:Addr}{D:Dr}
theorem MdAt.get(a:MdAt H m kd D)(i:Nat){k:qL}{x:V}(h:(ZD D kd)[i]? =some (k,x)):DGet H m (kV k) (some x):=by
 have:=DGet.k (k:=k) a.di
 rw[mE i h (oW ..)]at this;exact this
theorem MdAt.g_near(a:MdAt H m kd D):DGet H m (.str "near") (some (.int D.near)):=a.get (k:= .inr "near") 0 rfl
theorem MdAt.g_far(a:MdAt H m kd D):DGet H m (.str "far") (some (.int D.far)):=a.get (k:= .inr "far") 1 rfl
theorem MdAt.g_keys(a:MdAt H m kd D):DGet H m (.str "keys") (some (.int (D.kss.length:Int))):=a.get (k:= .inr "keys") 2 rfl
theorem MdAt.g_closed(a:MdAt H m kd D):DGet H m (.str "closed") (some (.int D.least)):=a.get (k:= .inr "closed") 3 rfl
theorem MdAt.g_known(a:MdAt H m kd D):DGet H m (.str "known") (some (.ref kd)):=a.get (k:= .inr "known") 4 rfl
theorem MdAt.mv(a:MdAt H m kd D)(v:Mv S H H')(n:NT S H)(h1:m∉S)(h2:kd∉S):MdAt H' m kd D:=⟨v _ _ h1 a.di,a.kn.mv v n h2,a.ne⟩
theorem MdAt.same(a:MdAt H m kd D)(s:Same H H'):MdAt H' m kd D:=a.mv (S:=[]) s.mv cY (fun h=>nomatch h) (fun h=>nomatch h)
theorem MdAt.putK{kn':Kw}(a:MdAt H m kd D)(v:Mv [kd] H H')(kb:KnAt H' kd kn'):MdAt H' m kd {D with kn:=kn'}:=⟨v _ _ (qR a.ne) a.di,kb,a.ne⟩
theorem oE(D:Dr)(kd:Addr)(z:Int):L2.putK (ZD D kd) (Sum.inr "closed":qL) (.int z)=ZD {D with least:=z} kd:=by
 unfold L2.putK ZD;rw[Jd (by simp [CW])]
 have h1:¬((Sum.inr ("near":Str):Sum Int Str)=Sum.inr ("closed":Str)):=by decide +kernel
 have h2:¬((Sum.inr ("far":Str):Sum Int Str)=Sum.inr ("closed":Str)):=by decide +kernel
 have h3:¬((Sum.inr ("keys":Str):Sum Int Str)=Sum.inr ("closed":Str)):=by decide +kernel
 have h5:¬((Sum.inr ("known":Str):Sum Int Str)=Sum.inr ("closed":Str)):=by decide +kernel
 simp only[JW,C9,Jc h1,Jc h2,Jc h3,Jc h5,BO]
theorem MdAt.close(a:MdAt H m kd D)(z:Int):∃H',DPut H m (.str "closed") (.int z) H'/\Mv [m] H H'/\MdAt H' m kd {D with least:=z}:=by
 refine⟨_,DPut.k (k:=Sum.inr "closed") a.di (nB _ (by show 5<=100;decide)),Mv.upd1,by rw[qd,oE],a.kn.mv Mv.upd1 (NT.one a.di trivial) (qR a.ne.symm),a.ne⟩
end
structure Em where
 e:Addr
 a:Da
 m:Addr
 kd:Addr
def eS(x:Em):List Addr:=dS x.a++[x.m,x.kd]
structure Ent(K:Frag)(C:Addr)(H:Hp)(x:Em)(D:Dr)(L:List Rw)(E:Dr):Prop where
 tu:H x.e=some (.tup [.ref x.a.p,.ref x.m])
 dl:DlAt K C H x.a D L
 md:MdAt H x.m x.kd E
 n1:x.m≠x.a.bd
 n2:x.kd≠x.a.bd
section
variable{K:Frag}{C:Addr}{S:List Addr}{H H':Hp}{x:Em}{D D' E E':Dr}{L L':List Rw}{z:Addr}
theorem jn(h:z∈eS x):z∈dS x.a\/z=x.m\/z=x.kd:=by
 rcases JO.mp h with h|h
 ·exact .inl h
 ·simp only[Jj,Jp,Jq]at h;exact .inr h
theorem jT(h:z∈dS x.a):z∈eS x:=JO.mpr (.inl h)
theorem BA:x.m∈eS x:=JO.mpr (.inr (by simp))
theorem Bx:x.kd∈eS x:=JO.mpr (.inr (by simp))
theorem Ent.nt(b:Ent K C H x D L E):NT (eS x) H:=fun z hz=>by
 rcases jn hz with h|rfl|rfl
 ·exact b.dl.nt z h
 ·exact⟨_,b.md.di,trivial⟩
 ·obtain⟨f,e,_⟩:=b.md.kn;exact⟨_,e,trivial⟩
theorem Ent.some(b:Ent K C H x D L E)(h:z∈eS x):H z≠none:=fun w=>by
 obtain⟨o,e,_⟩:=b.nt z h;rw[w]at e;cases e
theorem Ent.mv(b:Ent K C H x D L E)(m:Mv S H H')(nt:NT S H)(h:∀z∈eS x,z∉S):Ent K C H' x D L E:=⟨m.tup nt b.tu,b.dl.mv m nt (h _ (jT (yv _))) (h _ (jT (vx _))) (h _ (jT (vt _))) (h _ (jT (vp _))),b.md.mv m nt (h _ BA) (h _ Bx),b.n1,b.n2⟩
theorem Ent.same(b:Ent K C H x D L E)(s:Same H H'):Ent K C H' x D L E:=b.mv (S:=[]) s.mv cY (fun z _ h=>nomatch h)
theorem Ent.m_out(b:Ent K C H x D L E):x.m∉dS x.a:=b.dl.outD b.md.di b.n1
theorem Ent.k_out(b:Ent K C H x D L E):x.kd∉dS x.a:=by
 obtain⟨f,e,_⟩:=b.md.kn;exact b.dl.outD e b.n2
theorem Ent.door(b:Ent K C H x D L E)(m:Mv (dS x.a) H H')(d:DlAt K C H' x.a D' L'):Ent K C H' x D' L' E:=⟨m.tup b.dl.nt b.tu,d,b.md.mv m b.dl.nt b.m_out b.k_out,b.n1,b.n2⟩
theorem Ent.model(b:Ent K C H x D L E)(m:Mv [x.m,x.kd] H H')(md:MdAt H' x.m x.kd E'):Ent K C H' x D L E':=by
 have nt:NT [x.m,x.kd] H:=fun z hz=>b.nt z (JO.mpr (.inr hz))
 have o:∀z∈dS x.a,z∉[x.m,x.kd]:=fun z hz w=>by
  simp only[Jj,Jp,Jq]at w;rcases w with rfl|rfl
  ·exact b.m_out hz
  ·exact b.k_out hz
 exact⟨m.tup nt b.tu,b.dl.mv m nt (o _ (yv _)) (o _ (vx _)) (o _ (vt _)) (o _ (vp _)),md,b.n1,b.n2⟩
theorem gu(m:Mv (dS x.a) H H'):Mv (eS x) H H':=m.mono fun c h z=>h (jT z)
theorem f8(m:Mv [x.m,x.kd] H H'):Mv (eS x) H H':=m.mono fun c h z=>h (JO.mpr (.inr z))
end
abbrev En:=Em×Dr×List Rw
structure Pw(K:Frag)(C:Addr)(H0 H:Hp)(b:Addr)(c:Nat)(pl:Addr)(xs:List En):Prop where
 s:Mv [b] H0 H
 bx:BoxC H b c
 b0:H0 b≠none
 en:∀(i:Nat) (x:En),xs[i]? =some x->Ent K C H x.1 x.2.1 x.2.2 x.2.1
 dj:∀(i j:Nat) (x y:En),i≠j->xs[i]? =some x->xs[j]? =some y->∀z∈eS x.1,z∉eS y.1
 fr:∀(i:Nat) (x:En),xs[i]? =some x->∀z∈eS x.1,H0 z=none
 pe:H pl=some (.lst (xs.map fun x=> .ref x.1.e))
 np:∀(i:Nat) (x:En),xs[i]? =some x->pl∉eS x.1
 fp:H0 pl=none
section
variable{K:Frag}{C:Addr}{H0 H H':Hp}{b:Addr}{c c':Nat}{pl:Addr}{xs:List En}{i:Nat}{x:En}{D':Dr}{L':List Rw}
theorem Pw.nb(p:Pw K C H0 H b c pl xs)(hi:xs[i]? =some x):b∉eS x.1:=fun z=>p.b0 (p.fr i x hi b z)
theorem Pw.npb(p:Pw K C H0 H b c pl xs):pl≠b:=fun z=>p.b0 (z▸p.fp)
theorem Pw.grc(p:Pw K C H0 H b c pl xs)(g:GrC b c' H H'):Pw K C H0 H' b c' pl xs:=by
 have m:Mv [b] H H':=fun c o h e=>g.kp c o (fun z=>h (Jg.mpr z)) e
 exact⟨p.s.trans m,g.bx,p.b0,fun i x hi=>(p.en i x hi).mv m (qX p.bx) (fun z hz w=>p.nb hi (Jg.mp w▸hz)),p.dj,p.fr,g.kp _ _ p.npb p.pe,p.np,p.fp⟩
theorem Pw.same(p:Pw K C H0 H b c pl xs)(s:Same H H'):Pw K C H0 H' b c pl xs:=p.grc (s.grc p.bx)
theorem Pw.mono(p:Pw K C H0 H b c pl xs)(h:c<=c'):Pw K C H0 H b c' pl xs:=⟨p.s,p.bx.mono h,p.b0,p.en,p.dj,p.fr,p.pe,p.np,p.fp⟩
theorem Pw.step(p:Pw K C H0 H b c pl xs)(hi:xs[i]? =some x)(m:Mv (eS x.1) H H')(e:Ent K C H' x.1 D' L' D'):Pw K C H0 H' b c pl (xs.set i (x.1,D',L')):=by
 have hl:i<xs.length:=(Js.mp hi).1
 have nt:=(p.en i x hi).nt;have key:∀{j:Nat} {y:En},(xs.set i (x.1,D',L'))[j]? =some y->(j=i/\y=(x.1,D',L'))\/(j≠i/\xs[j]? =some y):=fun{j y} h=>by
  rw[List.getElem?_set]at h;split at h
  ·rename_i z
   subst z;injection h with h
   exact .inl ⟨rfl,h.symm⟩
  ·rename_i z
   exact .inr ⟨fun w=>z w.symm,h⟩
 have same:∀{j:Nat} {y:En},(xs.set i (x.1,D',L'))[j]? =some y->∃y',xs[j]? =some y'/\y'.1=y.1:=fun h=>by
  rcases key h with⟨rfl,rfl⟩|⟨_,h⟩
  ·exact⟨x,hi,rfl⟩
  ·exact⟨_,h,rfl⟩
 refine⟨fun c o hc e=>m c o (fun z=>?_) (p.s c o hc e),p.bx.mv m (p.nb hi),p.b0,fun j y hj=>?_,fun j k y z hjk hj hk=>?_,fun j y hj=>?_,?_,fun j y hj=>?_,p.fp⟩
 ·rw[p.fr i x hi c z]at e;cases e
 ·rcases key hj with⟨rfl,rfl⟩|⟨n,hj⟩
  ·exact e
  ·exact(p.en j y hj).mv m nt (fun z hz w=>p.dj j i y x n hj hi z hz w)
 ·obtain⟨y',hy,ey⟩:=same hj
  obtain⟨z',hz,ez⟩:=same hk;rw[<- ey,<- ez];exact p.dj j k y' z' hjk hy hz
 ·obtain⟨y',hy,ey⟩:=same hj
  rw[<- ey];exact p.fr j y' hy
 ·have:(xs.set i (x.1,D',L')).map (fun x=>V.ref x.1.e)=xs.map fun x=>V.ref x.1.e:=by
   refine List.ext_getElem? fun j=>?_
   rw[Jo,Jo,List.getElem?_set];split
   ·rename_i z
    subst z;rw[hi];rfl
   ·rfl
  rw[this];exact m _ _ (p.np i x hi) p.pe
 ·obtain⟨y',hy,ey⟩:=same hj
  rw[<- ey];exact p.np j y' hy
theorem Pw.at(p:Pw K C H0 H b c pl xs)(hi:xs[i]? =some x):QQ (xs.map fun x=>V.ref x.1.e) (i:Int)=some (.ref x.1.e):=QK (by rw[Jo,hi];rfl)
theorem Pw.add{Ha:Hp}{y:Em}{D:Dr}(p:Pw K C H0 H b c pl xs)(s:Same H Ha)(e:Ent K C Ha y D [] D)(f:∀z∈eS y,H z=none):Pw K C H0 (upd Ha pl (.lst ((xs.map fun x=>V.ref x.1.e)++[.ref y.e]))) b c pl (xs++[(y,D,[])]):=by
 have pa:=p.same s;have m:Mv [pl] Ha (upd Ha pl (.lst ((xs.map fun x=>V.ref x.1.e)++[.ref y.e]))):=Mv.upd1
 have nt:NT [pl] Ha:=NT.one pa.pe trivial
 have npy:pl∉eS y:=fun z=>by have:=p.pe;rw[f pl z]at this;cases this
 have key:∀{j:Nat} {w:En},(xs++[(y,D,[])])[j]? =some w->xs[j]? =some w\/(j=xs.length/\w=(y,D,[])):=fun{j w} h=>by
  by_cases hj:j<xs.length
  ·rw[J0 hj]at h;exact .inl h
  ·rw[JX (by omega)]at h
   cases q:j-xs.length with
   |zero=>rw[q]at h;cases h;exact .inr ⟨by omega,rfl⟩
   |succ k=>rw[q]at h;cases h
 have fz:∀z∈eS y,H0 z=none:=fun z hz=>by
  cases q:H0 z with
  |none=>rfl
  |some o=>
   by_cases w:z=b
   ·subst w;obtain⟨_,_,_,e1,_⟩:=p.bx;rw[f z hz]at e1;cases e1
   ·have:=p.s z o (qR w) q;rw[f z hz]at this;cases this
 refine⟨fun c o hc e1=>?_,pa.bx.mv m (qR p.npb.symm),p.b0,fun j w hj=>?_,fun j k w u hjk hj hk=>?_,fun j w hj=>?_,?_,fun j w hj=>?_,p.fp⟩
 ·rw[qp (fun z=>by rw[z,p.fp]at e1;cases e1)]
  exact s _ _ (p.s c o hc e1)
 ·rcases key hj with hj|⟨_,rfl⟩
  ·exact(pa.en j w hj).mv m nt (fun z hz u=>p.np j w hj (Jg.mp u▸hz))
  ·exact e.mv m nt (fun z hz u=>npy (Jg.mp u▸hz))
 ·rcases key hj with hj'|⟨ej,rfl⟩
  ·rcases key hk with hk'|⟨_,rfl⟩
   ·exact p.dj j k w u hjk hj' hk'
   ·exact fun z hz v=>(p.en j w hj').some hz (f z v)
  ·rcases key hk with hk'|⟨ek,rfl⟩
   ·exact fun z hz v=>(p.en k u hk').some v (f z hz)
   ·omega
 ·rcases key hj with hj'|⟨_,rfl⟩
  ·exact p.fr j w hj'
  ·exact fz
 ·rw[qd,JH];rfl
 ·rcases key hj with hj'|⟨_,rfl⟩
  ·exact p.np j w hj'
  ·exact npy
end
def zQ(D:Dr)(nm:Str)(age c:Int):Str:=match D.kn.lookup nm with
 |none=>""
 |some e=>if qY D e age=true then(if c-e.last<1\/c-e.last>D.far then "" else if c-e.last<=D.near\/e.wt=some (age,c-1)then "open" else "wait")else ""
def hearK(D:Dr)(nm:Str)(age c:Int):Kw:=(zk D nm age (some (c,0))).2
theorem sI(D:Dr)(nm:Str)(age c d:Int):(zk D nm age (some (c,d))).2=hearK D nm age c:=by
 unfold hearK zk;split
 ·rfl
 ·split
  ·simp only
   split
   ·rfl
   ·rfl
  ·rfl
theorem mR{D:Dr}{nm:Str}{age c:Int}(nd:(D.kn.map (·.1)).Nodup)(nf:D.near<=D.far):hearK D nm age c=match D.kn.lookup nm with
  |none=>D.kn
  |some e=>if zQ D nm age c="open" then qV D.kn nm ⟨age,c,none⟩else if zQ D nm age c="wait" then qV D.kn nm ⟨e.age,e.last,some (age,c)⟩else D.kn:=by
 unfold hearK;cases e1:D.kn.lookup nm with
 |none=>unfold zk;rw[e1]
 |some e=>
  simp only
  have no1:¬(("":Str)="open"):=by decide
  have no2:¬(("":Str)="wait"):=by decide
  have no3:¬(("wait":Str)="open"):=by decide
  have self:=rf nd e1
  by_cases ht:qY D e age=true
  ·have eh:(zk D nm age (some (c,0))).2=qV D.kn nm (zc D.near D.far e age c).2:=by
    unfold zk;rw[e1];simp only
    rw[Jd ht];split<;>rfl
   have ew:zQ D nm age c=(if c-e.last<1\/c-e.last>D.far then("":Str)else if c-e.last<=D.near\/e.wt=some (age,c-1)then("open":Str)else("wait":Str)):=by
    unfold zQ;rw[e1];simp only
    rw[Jd ht]
   rw[eh];unfold zc
   by_cases h1:c<=e.last
   ·rw[Jd (show c-e.last<1\/c-e.last>D.far from .inl (by omega))]at ew
    rw[Jd h1,ew,Jc no1,Jc no2];exact self
   ·rw[Jc h1]
    by_cases h2:c<=e.last+D.near
    ·rw[Jc (show¬(c-e.last<1\/c-e.last>D.far) by omega),Jd (show c-e.last<=D.near\/_ from .inl (by omega))]at ew
     rw[Jd h2,ew,Jd rfl]
    ·rw[Jc h2]
     by_cases h3:c<=e.last+D.far
     ·rw[Jc (show¬(c-e.last<1\/c-e.last>D.far) by omega)]at ew
      rw[Jd h3]
      by_cases h4:e.wt=some (age,c-1)
      ·rw[Jd (show c-e.last<=D.near\/_ from .inr h4)]at ew
       rw[Jd h4,ew,Jd rfl]
      ·rw[Jc (show¬(c-e.last<=D.near\/e.wt=some (age,c-1))from fun z=>z.elim (fun z=>by omega) h4)]at ew
       rw[Jc h4,ew,Jc no3,Jd rfl]
     ·rw[Jd (show c-e.last<1\/c-e.last>D.far from .inr (by omega))]at ew
      rw[Jc h3,ew,Jc no1,Jc no2];exact self
  ·have eh:(zk D nm age (some (c,0))).2=D.kn:=by
    unfold zk;rw[e1];simp only
    rw[Jc ht]
   have ew:zQ D nm age c="":=by
    unfold zQ;rw[e1];simp only
    rw[Jc ht]
   rw[eh,ew,Jc no1,Jc no2]
section
variable(K:Frag)(C:Addr)
def ia:Sp:=fun vs H Q _=>∃(a:Da) (D:Dr) (L:List Rw) (p1 p2:Addr) (P R:Ps) (c d d':Int),vs=[.ref a.p,.ref p1,.ref p2]/\DlAt K C H a D L/\L.length<=1000/\DrOk D/\PsAt H p1 P/\PsAt H p2 R/\PsOk P/\PsOk R/\cr D P=some (c,d)/\cr D R=some (c+1,d')/\R.nm=P.nm/\R.age=P.age/\D.kn.lookup R.nm=none/\(D.kn.length:Int)<D.most/\
 ∀H',Mv [a.bd,a.lg] H H'->DlAt K C H' a {D with kn:=qV D.kn R.nm ⟨R.age,c+1,none⟩} (L++[.learn P R])->Q .non H'
end
def PrL(H:Hp)(t:Addr)(zs:List (Int×Int)):Prop:=∃as:List Addr,H t=some (.lst (as.map V.ref))/\as.length=zs.length/\∀(i:Nat) (a:Addr) (z:Int×Int),as[i]? =some a->zs[i]? =some z->H a=some (.tup [.int z.1,.int z.2])
section
variable{S:List Addr}{H H':Hp}{t x:Addr}{zs:List (Int×Int)}{z:Int×Int}
theorem PrL.mv(m:Mv S H H')(n:NT S H)(hs:t∉S)(h:PrL H t zs):PrL H' t zs:=by
 obtain⟨as,e,l,r⟩:=h
 exact⟨as,m _ _ hs e,l,fun i a z e1 e2=>m.tup n (r i a z e1 e2)⟩
theorem PrL.add{as:List Addr}(e:H t=some (.lst (as.map V.ref)))(l:as.length=zs.length)(r:∀(i:Nat) (a:Addr) (z:Int×Int),as[i]? =some a->zs[i]? =some z->H a=some (.tup [.int z.1,.int z.2]))(hx:H x=some (.tup [.int z.1,.int z.2])):PrL (upd H t (.lst (as.map V.ref++[.ref x]))) t (zs++[z]):=by
 have nt:NT [t] H:=NT.one e trivial
 refine⟨as++[x],by rw[qd,JH];rfl,by simp [l],fun i a y e1 e2=>(Mv.upd1 (a:=t)).tup nt ?_⟩
 by_cases hi:i<as.length
 ·rw[J0 hi]at e1
  rw[J0 (by rw[<- l];exact hi)]at e2
  exact r i a y e1 e2
 ·rw[JX (by omega)]at e1
  rw[JX (by rw[<- l];omega),<- l]at e2
  cases q:i-as.length with
  |zero=>rw[q]at e1 e2;cases e1;cases e2;exact hx
  |succ k=>rw[q]at e1;cases e1
end
section
variable(K:Frag)(C:Addr)
def gr:Sp:=fun vs H Q _=>∃(D:Dr),vs=[.int D.near,.int D.far,.int (D.kss.length:Int)]/\D.least=0/\D.kn=[]/\∀m kd H',Same H H'->H m=none->H kd=none->MdAt H' m kd D->Q (.ref m) H'
def lW:Sp:=fun vs H Q _=>∃(m kd p:Addr) (D:Dr) (nm:Str) (age c:Int),vs=[.ref m,.ref p]/\MdAt H m kd D/\H p=some (.tup [.str nm,.int age,.int c])/\∀H',Same H H'->Q (.str (zQ D nm age c)) H'
def gt:Sp:=fun vs H Q _=>∃(m kd p:Addr) (D:Dr) (nm:Str) (age c:Int),vs=[.ref m,.ref p]/\MdAt H m kd D/\H p=some (.tup [.str nm,.int age,.int c])/\DrOk D/\D.near<=D.far/\∀H',Mv [m,kd] H H'->MdAt H' m kd {D with kn:=hearK D nm age c}->Q (.bl (decide (zQ D nm age c="open"))) H'
structure CdAt(H:Hp)(cd tb kt:Addr)(t:List Int)(kss:List (List Int)):Prop where
 e:H cd=some (.tup [.ref tb,.ref kt])
 tb:Rd H tb (.tup (t.map V.int))
 ks:KsT [] H kt kss
def Qn(t:List Int)(kss:List (List Int))(nm:Str)(age c d:Int):Ps:=⟨nm,age,aP t (kss.getD age.toNat []) nm c d⟩
def dy:Sp:=fun vs H Q _=>∃(cd tb kt p:Addr) (t:List Int) (kss:List (List Int)) (nm:Str) (age c d:Int),vs=[.ref cd,.ref p,.int d]/\CdAt H cd tb kt t kss/\H p=some (.tup [.str nm,.int age,.int c])/\t.Perm digs/\zT nm/\0<=age/\age<kss.length/\0<=c/\c<4096/\af d/\∀pr H',Same H H'->PsAt H' pr (Qn t kss nm age c d)->Q (.ref pr) H'
end
section
variable{K:Frag}{S:List Addr}{H H':Hp}{cd tb kt:Addr}{t:List Int}{kss:List (List Int)}
theorem CdAt.mv(h:CdAt H cd tb kt t kss)(m:Mv S H H')(n:NT S H):CdAt H' cd tb kt t kss:=⟨m.tup n h.e,m.rd n h.tb,h.ks.mv m n⟩
theorem CdAt.same(h:CdAt H cd tb kt t kss)(s:Same H H'):CdAt H' cd tb kt t kss:=h.mv (S:=[]) s.mv cY
end
end L3
namespace S0
open PySem PyProof.Rows
def Rs(xs:Array Nat):Prop:=xs.toList.Pairwise (· < ·)
theorem Rs.at{xs:Array Nat}(h:Rs xs){i j:Nat}(hi:i<xs.size)(hj:j<xs.size)(hij:i<j):xs[i]<xs[j]:=by
 have:=List.pairwise_iff_getElem.mp h i j (by simpa using hi) (by simpa using hj) hij
 simpa using this
theorem f6{xs:Array Nat}(h:Rs xs)(j:Nat):∀(f lo hi:Nat),lo<=hi->hi<=xs.size->hi-lo<=f->(∀i (hx:i<xs.size),i<lo->xs[i]<j)->(∀i (hx:i<xs.size),hi<=i->j<=xs[i])->
  SetTable.below.go xs j f lo hi<=xs.size/\(∀i (hx:i<xs.size),i<SetTable.below.go xs j f lo hi->xs[i]<j)/\(∀i (hx:i<xs.size),SetTable.below.go xs j f lo hi<=i->j<=xs[i])
 |0,lo,hi,h1,h2,h3,h4,h5=>by
  have e:lo=hi:=by omega
  subst e
  exact⟨h2,h4,h5⟩
 |f+1,lo,hi,h1,h2,h3,h4,h5=>by
  unfold SetTable.below.go
  by_cases hlt:lo<hi
  ·rw[Jd hlt]
   have hm:(lo+hi)/2<xs.size:=by omega
   dsimp only
   have eg:xs.getD ((lo+hi)/2) j=xs[(lo+hi)/2]:=by simp [Array.getD,hm]
   rw[eg]
   by_cases hc:xs[(lo+hi)/2]<j
   ·rw[Jd hc]
    refine f6 h j f _ _ (by omega) h2 (by omega) (fun i hi' hi2=>?_) h5
    by_cases e:i=(lo+hi)/2
    ·subst e;exact hc
    ·exact Nat.lt_trans (h.at hi' hm (by omega)) hc
   ·rw[Jc hc]
    refine f6 h j f _ _ (by omega) (by omega) (by omega) h4 fun i hi' hi2=>?_
    by_cases e:i=(lo+hi)/2
    ·subst e;omega
    ·have:=h.at hm hi' (by omega)
     omega
  ·rw[Jc hlt]
   exact⟨by omega,h4,fun i hx hi2=>h5 i hx (by omega)⟩
theorem aM{xs:Array Nat}(h:Rs xs)(j:Nat):SetTable.below xs j<=xs.size/\(∀i (hi:i<xs.size),i<SetTable.below xs j->xs[i]<j)/\(∀i (hx:i<xs.size),SetTable.below xs j<=i->j<=xs[i]):=
 f6 h j xs.size 0 xs.size (JC _) (Jf _) (by omega) (fun i _ h=>absurd h (Nat.not_lt_zero _)) fun i hx hi=>absurd hx (by omega)
theorem Rs.put{xs:Array Nat}(h:Rs xs){j:Nat}(hj:(xs[SetTable.below xs j]? ==some j)=false):Rs (SetTable.insertAt xs (SetTable.below xs j) j):=by
 obtain⟨h1,h2,h3⟩:=aM h j;generalize SetTable.below xs j=p at *
 unfold Rs;rw[SetTable.toList_insertAt,List.pairwise_append];have hs:(xs.toList.take p++xs.toList.drop p).Pairwise (· < ·):=by rw[List.take_append_drop];exact h
 obtain⟨a1,a2,a3⟩:=List.pairwise_append.mp hs;have lo:∀x∈xs.toList.take p,x<j:=by
  intro x hx;obtain⟨m,hm,rfl⟩:=List.mem_iff_getElem.mp hx;simp at hm
  simpa using h2 m (by omega) (by omega)
 have hi:∀x∈xs.toList.drop p,j<x:=by
  intro x hx;obtain⟨m,hm,rfl⟩:=List.mem_iff_getElem.mp hx;simp at hm
  have hpm:p+m<xs.size:=by omega
  have hp:p<xs.size:=by omega
  have e0:j<=xs[p]:=h3 p hp (Jf _)
  have e1:xs[p]≠j:=by
   intro e;rw[getElem?_pos xs p hp,e]at hj;simp at hj
  simp only[List.getElem_drop,Array.getElem_toList]
  by_cases em:m=0
  ·subst em;simp only[Nat.add_zero];omega
  ·have:=h.at hp hpm (by omega)
   omega
 refine⟨a1,List.pairwise_cons.mpr ⟨hi,a2⟩,fun x hx y hy=>?_⟩
 rcases Jj.mp hy with rfl|hy
 ·exact lo x hx
 ·exact a3 x hx y hy
theorem aL{t:SetTable}{h:Int}:∀(f:Nat) (p:SetTable.Probe) {j:Nat} {d:Option Nat},(∀j',p.dummy=some j'->t.slot j'= .dummy)->
  SetTable.probe.go t (fun _=>h+1) h f p=some (.empty j d)->t.slot j= .empty/\∀j',d=some j'->t.slot j'= .dummy
 |0,p,j,d,hp,e=>nomatch e
 |f+1,p,j,d,hp,e=>by
  unfold SetTable.probe.go at e;have ha:∀q:SetTable.Probe,(t.advance q).dummy=q.dummy:=fun q=>by
   unfold SetTable.advance;split
   ·rfl
   ·rfl
  cases hs:t.slot p.j with
  |empty=>
   rw[hs]at e;simp only[Option.some.injEq,SetTable.Met.empty.injEq]at e;obtain⟨rfl,rfl⟩:=e
   exact⟨hs,hp⟩
  |dummy=>
   rw[hs]at e;refine aL f _ (fun j' h'=>?_) e
   rw[ha]at h';have h':some p.j=some j':=h'
   injection h' with h'
   rw[<- h'];exact hs
  |live i=>
   rw[hs]at e;have hne:((h+1:Int)==h)=false:=by simp;omega
   simp only[hne,Bool.false_eq_true,JN]at e;exact aL f _ (fun j' h'=>hp j' (by rw[<- ha p];exact h')) e
theorem rH{t:SetTable}{h:Int}{j:Nat}{b:Bool}(e:t.freeSlot h=some (j,b)):∀i,t.slot j≠ .live i:=by
 unfold SetTable.freeSlot at e;split at e
 ·rename_i j' d he
  obtain⟨a1,a2⟩:=aL _ _ (fun j' h'=>by cases h') he
  simp only[Option.some.injEq,Prod.mk.injEq]at e;obtain⟨e1,_⟩:=e;intro i z;cases d with
  |none=>
   have e1:j'=j:=e1
   rw[<- e1,a1]at z;cases z
  |some k=>
   have e1:k=j:=e1
   rw[<- e1,a2 k rfl]at z;cases z
 ·cases e
def TOk(t:SetTable):Prop:=t.plain=true->Rs t.place
theorem TOk.standIn(t:SetTable)(n:Nat):TOk (t.standIn n):=fun h=>nomatch h
theorem y9{t:SetTable}{j:Nat}(h:TOk t)(h3:∀i,t.slot j≠ .live i):TOk (t.put j).1:=by
 intro hp;have h1:=h hp;unfold SetTable.put
 dsimp only
 refine h1.put ?_
 cases e:(t.place[SetTable.below t.place j]? ==some j)with
 |false=>rfl
 |true=>
  refine absurd ?_ (h3 (SetTable.below t.place j))
  unfold SetTable.slot
  dsimp only
  rw[e];rfl
theorem rc{t:SetTable}(h:TOk t)(es:Array (Int×Value))(hh:Int)(x:Value):TOk (layNew t es hh x).2.1/\(layNew t es hh x).2.1.led=t.led:=by
 unfold layNew;split
 ·rename_i slot wd he
  dsimp only
  have hk:=y9 (j:=slot) h (rH he)
  unfold SetTable.orStandIn;split
  ·exact⟨hk,rfl⟩
  ·exact⟨TOk.standIn _ _,rfl⟩
 ·exact⟨TOk.standIn _ _,rfl⟩
theorem dc(f:Nat->Option Nat):∀l:List Nat,(l.filterMap fun j=>(f j).map (j,·)).map (·.1)=l.filter fun j=>(f j).isSome
 | []=>rfl
 |j::l=>by
  rw[CM,List.filter_cons];cases e:f j with
  |none=>simpa using dc f l
  |some k=>simpa using dc f l
theorem wl{mask fg mv:Nat}{led plain:Bool}{hs:Array Int}{t:SetTable}{o:Array Nat}(e:SetTable.laid mask fg mv led plain hs=some (t,o)):Rs t.place/\t.dummies= #[]/\t.led=led:=by
 unfold SetTable.laid at e;cases hl:SetTable.layClean mask hs with
 |none=>rw[hl]at e;exact nomatch e
 |some ow=>
  rw[hl]at e;have e':some (({mask,place:=(((List.range (mask+1)).filterMap fun j=>(ow.getD j none).map (j,·)).map (·.1)).toArray,dummies:= #[],finger:=fg,led,moves:=mv,plain}:SetTable),(((List.range (mask+1)).filterMap fun j=>(ow.getD j none).map (j,·)).map (·.2)).toArray)=some (t,o):=e
  injection e' with e'
  injection e' with e1 e2
  subst e1;refine⟨?_,rfl,rfl⟩
  unfold Rs
  dsimp only
  rw[dc];exact List.Pairwise.filter _ List.pairwise_lt_range
theorem tM(t:SetTable)(es:Array (Int×Value))(wn:Nat):TOk (relayAll t es wn).2.1/\(relayAll t es wn).2.1.led=t.led:=by
 unfold relayAll;split
 ·rename_i t' order he
  dsimp only
  obtain⟨a1,a2,a3⟩:=wl he;split
  ·exact⟨fun _=>a1,a3⟩
  ·exact⟨TOk.standIn _ _,rfl⟩
 ·exact⟨TOk.standIn _ _,rfl⟩
end S0
namespace S0
open PySem PySem.Spec PyProof.Rows
def zo(w:World):Bool:=w.params.followText "set-order"
def TW(w:World)(t:SetTable):Prop:=zo w=true\/(t.led=true/\TOk t)
section
variable{prog:Program}{w:World}{K:Type} [DecidableEq K](knd:PySem.KeyKind prog w K)(kf:Value->K)
def SetK(h:Heap)(a:Addr)(ks:List K):Prop:=∃o es ep t,h.get? a=some o/\o.ExactSet/\o.data= .set es ep t/\t.fits es.size=true/\es.size<scanBound/\
 ElemsOf knd es.toList/\(es.toList.map fun e=>kf e.2).Perm ks/\TW w t
variable{knd kf}
theorem SetK.at{h h':Heap}{a:Addr}{ks:List K}(x:SetK knd kf h a ks)(e:∀o,h.get? a=some o->h'.get? a=some o):SetK knd kf h' a ks:=by
 obtain⟨o,es,ep,t,h1,r⟩:=x
 exact⟨o,es,ep,t,e _ h1,r⟩
theorem SetK.lt{h:Heap}{a:Addr}{ks:List K}(x:SetK knd kf h a ks):a<h.objs.size:=by
 obtain⟨o,es,ep,t,h1,r⟩:=x;exact Jh h1
theorem jb(hkf:∀k v,knd.is k v=true->kf v=k){es:Array (Int×Value)}(hel:ElemsOf knd es.toList)(k:K):
  k∈(es.toList.map fun e=>kf e.2)↔∃e∈es.toList,knd.is k e.2=true:=by
 rw[Jw];constructor
 ·rintro⟨e,he,rfl⟩
  obtain⟨⟨k',hk',_⟩,_⟩:=hel e he
  exact⟨e,he,by rw[hkf k' _ hk'];exact hk'⟩
 ·rintro⟨e,he,hk⟩
  exact⟨e,he,hkf k _ hk⟩
theorem gx{h:Heap}{a:Addr}{o:Obj}{es:Array (Int×Value)}{ep:Nat}{t:SetTable}(ho:h.get? a=some o)(hd:o.data= .set es ep t)(es':Array (Int×Value))(t':SetTable):
  (h.update a (Obj.putSet es' t')).get? a=some {o with data:= .set es' (ep+1) t'}:=by
 have:=Cp (Obj.putSet es' t') ho (by rw[putSet_of es' t' hd];rfl)
 rw[putSet_of es' t' hd]at this;exact this
variable{A:Around}{E:Value->Shared->Prop}{s:Shared}
theorem uW(hkf:∀k v,knd.is k v=true->kf v=k){a:Addr}{ks:List K}{k:K}{x:Value}{Q:Bool->Shared->Prop}(hkey:knd.is k x=true)(hsc:x.scannable=true)
  (hS:SetK knd kf s.heap a ks)(hroom:ks.length+1<scanBound)
  (h:∀h',Heap.SameBut a s.heap h'->SetK knd kf h' a (if k∈ks then ks else ks++[k])->Q (decide (k∉ks)) {s with heap:=h'}):
  wpAny (model prog w) A (setAddHashed a x (knd.hash k)) Q E s:=by
 obtain⟨o,es,ep,t,ho,hex,hd,hf,hb,hel,hpm,htw⟩:=hS;have hmem:k∈ks↔∃e∈es.toList,knd.is k e.2=true:=by rw[<- hpm.mem_iff];exact jb hkf hel k
 have hsz:es.size=ks.length:=by rw[<- hpm.length_eq,Je,J1]
 unfold setAddHashed setAddHashedIn;refine JV (Ja (wpAny_setState_of ho hd hf ?_))
 dsimp only
 rw[byScan_of hsc hb hel];simp only[↓reduceIte];unfold setAddByScan;refine Ja (Ja (BW (Ja (wpAny_setScan_of hkey ho hd hf hel ?_))))
 cases hr:List.findIdx? (fun e=>knd.is k e.2) es.toList with
 |some j=>
  obtain⟨hj,hpj,_⟩:=List.findIdx?_eq_some_iff_getElem.mp hr
  have hk:k∈ks:=hmem.mpr ⟨es.toList[j],Ca hj,hpj⟩
  refine Jb (Jb ?_)
  have:=h s.heap (Heap.SameBut.refl a s.heap) (by rw[Jd hk];exact⟨o,es,ep,t,ho,hex,hd,hf,hb,hel,hpm,htw⟩)
  rw[Jr (by simpa using hk)]at this
  exact this
 |none=>
  have hk:k∉ks:=fun z=>by
   obtain⟨e,he,hp⟩:=hmem.mp z
   have:=List.findIdx?_eq_none_iff.mp hr e he
   rw[hp]at this;cases this
  have hgw:∀(b:Bool) {s₁:Shared} {Q':Unit->Shared->Prop},Q' () s₁->wpAny (model prog w) A (match b with|true=>rule "set.scan.the-table-gave-way"|false=>pure ()) Q' E s₁:=
   fun b s₁ Q' hq=>by cases b<;>first|exact Jb hq|exact BW hq
  have hperm:=layNew_perm t es (knd.hash k) x;have hfits:=layNew_fits t es (knd.hash k) x;have htk:TW w (layNew t es (knd.hash k) x).2.1:=by
   rcases htw with z|⟨z1,z2⟩
   ·exact .inl z
   ·obtain⟨b1,b2⟩:=rc z2 es (knd.hash k) x
    exact .inr ⟨b2.trans z1,b1⟩
  dsimp only
  generalize hL:layNew t es (knd.hash k) x=L at hperm hfits htk⊢
  obtain⟨es1,t1,wd,gave⟩:=L
  dsimp only at hperm hfits htk⊢
  rw[Array.toList_push]at hperm;have hel1:ElemsOf knd es1.toList:=(hel.push hkey hsc).perm hperm
  have hpm1:(es1.toList.map fun e=>kf e.2).Perm (ks++[k]):=by
   refine(hperm.map _).trans ?_
   rw[JH];refine hpm.append ?_
   show [kf x].Perm [k]
   rw[hkf k x hkey]
  have hsz1:es1.size=ks.length+1:=by rw[<- J1,hperm.length_eq,Jx,J1,hsz];rfl
  have hb1:es1.size<scanBound:=by rw[hsz1];exact hroom
  have key:∀t2:SetTable,t2.fits es1.size=true->TW w t2->∀(Z:Option Bool->Shared->Prop),(∀h',Heap.SameBut a s.heap h'->SetK knd kf h' a (ks++[k])->Z (some true) {s with heap:=h'})->
    wpAny (model prog w) A (do
     storeSet a es1 t2
     if(!wd&&t2.tooFull)=true then do
       (match(relayAll t2 es1 (SetTable.grown es1.size)).2.2 with|true=>rule "set.scan.the-table-gave-way"|false=>pure ())
       storeSet a (relayAll t2 es1 (SetTable.grown es1.size)).1 (relayAll t2 es1 (SetTable.grown es1.size)).2.1
       pure (some true)
      else pure (some true)) Z E s:=by
   intro t2 f2 w2 Z hZ;refine Ja (wpAny_storeSet_of ho hd ?_ (fits_of_scanBound hb1))
   have ho1:=gx ho hd es1 t2;have sb1:=BZ s.heap a (Obj.putSet es1 t2);split
   ·have hp:=relayAll_perm t2 es1 (SetTable.grown es1.size)
    have hfr:=relayAll_fits t2 es1 (SetTable.grown es1.size);obtain⟨k1,k2⟩:=tM t2 es1 (SetTable.grown es1.size)
    have wr:TW w (relayAll t2 es1 (SetTable.grown es1.size)).2.1:=by
     rcases w2 with z|⟨z1,z2⟩
     ·exact .inl z
     ·exact .inr ⟨k2.trans z1,k1⟩
    generalize relayAll t2 es1 (SetTable.grown es1.size)=Rl at hp hfr wr⊢
    obtain⟨es2,t3,g2⟩:=Rl
    dsimp only at hp hfr wr⊢
    have hb2:es2.size<scanBound:=by rw[<- J1,hp.length_eq,J1];exact hb1
    refine Ja (hgw _ (Ja (wpAny_storeSet_of ho1 rfl ?_ (fits_of_scanBound hb2))))
    exact Jb (hZ _ (sb1.trans (BZ _ a _)) ⟨_,es2,_,t3,gx ho1 rfl es2 t3,hex,rfl,hfr,hb2,hel1.perm hp,(hp.map _).trans hpm1,wr⟩)
   ·exact Jb (hZ _ sb1 ⟨_,es1,_,t2,ho1,hex,rfl,f2,hb1,hel1,hpm1,w2⟩)
  have fin:∀h',Heap.SameBut a s.heap h'->SetK knd kf h' a (ks++[k])->Q true {s with heap:=h'}:=fun h' b1 b2=>by
   have:=h h' b1 (by rw[Jc hk];exact b2)
   rw[Jk (by simpa using hk)]at this
   exact this
  refine Ja (hgw _ ?_)
  split
  ·refine Ja ?_
   rw[hashByValue_scannable 8 hsc];refine Jb ?_
   refine key _ ?_ ?_ _ fun h' b1 b2=>Jb (fin h' b1 b2)
   ·split
    ·exact hfits
    ·exact SetTable.fits_plain_off hfits
   ·split
    ·exact htk
    ·rcases htk with z|⟨z1,z2⟩
     ·exact .inl z
     ·exact .inr ⟨z1,fun z=>nomatch z⟩
  ·refine Ja (Jb ?_)
   simp only[↓reduceIte];exact key _ hfits htk _ fun h' b1 b2=>Jb (fin h' b1 b2)
end
def Zw{K:Type} [DecidableEq K](acc:List K)(k:K):List K:=if k∈acc then acc else acc++[k]
def aE{K:Type} [DecidableEq K](val:Nat->K)(i:Nat):List K:=((List.range i).map val).foldl Zw []
theorem kg{K:Type} [DecidableEq K](val:Nat->K)(i:Nat):aE val (i+1)=Zw (aE val i) (val i):=by
 unfold aE;rw[List.range_succ,JH,List.foldl_append];rfl
theorem mH{K:Type} [DecidableEq K](val:Nat->K):∀i,(aE val i).length<=i
 |0=>Jf _
 |i+1=>by
  rw[kg];unfold Zw
  have:=mH val i
  split
  ·omega
  ·rw[Jx,Cr];omega
def ddL{K:Type} [DecidableEq K](l:List K):List K:=l.foldl Zw []
theorem yo{K:Type} [DecidableEq K] [Inhabited K](l:List K):aE (fun i=>l.getD i default) l.length=ddL l:=by
 unfold aE ddL;congr 1
 apply List.ext_getElem
 ·simp
 ·intro i h1 h2
  simp [JF,h2]
abbrev zR(led:Bool):Obj:={cls:= .type "set",dict:=none,data:= .set #[] 0 (.fresh 0 0 led)}
section
variable{prog:Program}{w:World}{K:Type} [DecidableEq K]{knd:PySem.KeyKind prog w K}{kf:Value->K}
theorem lp{h:Heap}{a:Addr}(hg:h.get? a=some (zR (!zo w))):SetK knd kf h a []:=by
 refine⟨_,#[],0,_,hg,⟨rfl,rfl,rfl⟩,rfl,rfl,by unfold scanBound;simp,(fun e he=>nomatch he),List.Perm.nil,?_⟩
 cases e:zo w with
 |true=>exact .inl e
 |false=>exact .inr ⟨rfl,fun _=>List.Pairwise.nil⟩
section
variable{A:Around}{R:Result->Shared->Prop}{I:Addr}{fp wr:List Addr}{G:Array GenState->Array GenState->Prop}{n:Nat}{P:Nat->Value->Prop}{St:Nat->Shared->Prop}
theorem AH(hkf:∀k v,knd.is k v=true->kf v=k)(W:WalksS prog w A.in1 I fp wr G n P St)(S:Addr)(hSf:S∉fp)
  (val:Nat->K)(hval:∀i v,P i v->knd.is (val i) v=true/\v.scannable=true)(hb:n+1<scanBound):
  ∀(k i:Nat) (s:Shared),n-i=k->i<=n->St i s->SetK knd kf s.heap S (aE val i)->
   (∀s',Moved (S::wr) G s s'->SetK knd kf s'.heap S (aE val n)->R (.ok (.ret .none)) s')->
   codeAny (model prog w) A (.builtin "set.update.loop" ⟨[.ref S,.ref I],[]⟩) R s:=by
 have hSw:S∉wr:=fun h=>hSf (W.sub _ h)
 have hsub:∀b∈wr,b∈S::wr:=fun b hb=>JJ _ hb
 intro k
 induction k with
 |zero=>
  intro i s hk hi hst hS hR;have hin:i=n:=by omega
  subst hin;refine Cd PyProof.Rows.F.entry_set_update_loop ?_
  rw[Around.under_plainId PyProof.Rows.F.plain_set_update_loop _]
  show wpAny _ A.in1 (pyNext (.ref I) >>= _) _ _ s
  refine Ja (W.done s _ _ hst fun s' hm=>?_)
  show wpAny _ A.in1 (ret Value.none) _ _ s'
  exact Jb (hR s' (hm.mono hsub) (hS.at fun o e=>hm.heap S _ hSw e))
 |succ k ih=>
  intro i s hk hi hst hS hR;have hlt:i<n:=by omega
  refine Cd PyProof.Rows.F.entry_set_update_loop ?_
  rw[Around.under_plainId PyProof.Rows.F.plain_set_update_loop _]
  show wpAny _ A.in1 (pyNext (.ref I) >>= _) _ _ s
  refine Ja (W.item i s _ _ hlt hst fun v s' hP hst' hm=>?_)
  obtain⟨hv1,hv2⟩:=hval i v hP;have hS':SetK knd kf s'.heap S (aE val i):=hS.at fun o e=>hm.heap S _ hSw e
  show wpAny _ A.in1 (holding [v] (setAdd S v) >>= _) _ _ s'
  refine Ja (JV ?_)
  unfold setAdd;refine JV (Ja (knd.pyHash (k:=val i) hv1 ?_))
  have:=mH val i
  refine uW (s:={s' with toks:=s'.toks+1}) hkf hv1 hv2 hS' (by omega) fun h' hsb hS2=>?_
  have hSi:SetK knd kf h' S (aE val (i+1)):=by rw[kg];exact hS2
  refine Jb ⟨plainId_quiet PyProof.Rows.F.plain_set_update_loop _,ih (i+1) _ (by omega) hlt (W.frame _ s' _ _ hst' (Co _) fun b hb o e=>?_) hSi fun s'' hm'' hS''=>?_⟩
  ·rw[hsb.2 b (fun h:b=S=>hSf (by rw[<- h];exact hb))];exact e
  ·refine hR s'' (Moved.trans W.gtrans ((hm.mono hsub).then_heap (Co _) fun b o hb e=>?_) hm'') hS''
   rw[hsb.2 b (fun h:b=S=>hb (by rw[h];exact JE))];exact e
end
variable{A:Around}{E:Value->Shared->Prop}{s:Shared}
theorem Bb(a:Value){Q₁:Value->Shared->Prop}(h:Q₁ (.ref s.heap.objs.size) {s with heap:=s.heap.push (zR (!zo w))}):
  codeAny (model prog w) A (.call (.builtin "set.__new__") ⟨[.type "set",a],[]⟩) (wants Q₁ E) s:=by
 refine codeAny_of_tree ?_
 show wpAny _ A.in1 (do checkBuiltinCall "set.__new__" ⟨[.type "set",a],[]⟩;again (.builtin "set.__new__" ⟨[.type "set",a],[]⟩)) _ _ s
 refine Ja (BV (PySem.F.newCall_set_1 a) (Jb ⟨plainId_quiet PySem.F.plain_set_new _,Cd PySem.F.entry_set_new ?_⟩))
 rw[Around.under_plainId PySem.F.plain_set_new _];unfold Builtin.«set.__new__» Builtin.Frozenset.newClass
 have hsub:=sub_set_self;obtain⟨hp,g,d,tk,os⟩:=s
 dsimp only
 wp_walk
 refine wpAny_askSetting (Jb ?_)
 dsimp only
 simp only[newObj];refine Ja (wpAny_alloc (Jb ?_))
 exact Jb h
def vi(knd:PySem.KeyKind prog w K)(kf:Value->K)(s:Shared)(ks:List K)(r:Value)(s₂:Shared):Prop:=
 r= .none/\∃h' tk,s₂={s with heap:=h',toks:=tk}/\SetK knd kf h' s.heap.objs.size ks/\∀b o,b<s.heap.objs.size->s.heap.get? b=some o->h'.get? b=some o
theorem Af(hkf:∀k v,knd.is k v=true->kf v=k){t:Addr}{items:Array Value}{val:Nat->K}(hh:A.handled=none)(ht:s.heap.IsList t items)
  (hv:∀i v,items[i]? =some v->knd.is (val i) v=true/\v.scannable=true)(hb:items.size+1<scanBound):
  wpAny (model prog w) A.in1.in1 (Builtin.«set.__init__» ⟨[.ref s.heap.objs.size,.ref t],[]⟩) (fun fin s'=>∃v,fin= .done (.ret v)/\vi knd kf s (aE val items.size) v s') E {s with heap:=s.heap.push (zR (!zo w))}:=by
 obtain⟨⟨oc,od,ot,os⟩,e1,e2,n,e3⟩:=ht;simp only at e2 e3
 subst e2 e3;have e1':(s.heap.push (zR (!zo w))).get? t=some ⟨.type "list",od,.seq items n,os⟩:=Ji _ e1
 have f1:=PySem.F.sub_list_set;have f2:=PySem.F.sub_list_frozenset;have f3:(Value.type "list"==Value.type "dict")=false:=by decide
 have t1:(s.heap.push (zR (!zo w))).IsList t items:=⟨_,e1',rfl,n,rfl⟩
 have hS:(s.heap.push (zR (!zo w))).get? s.heap.objs.size=some (zR (!zo w)):=Jn _ rfl
 unfold Builtin.«set.__init__» noKeywords Builtin.Frozenset.updateFrom
 generalize hPI:pyIter=PI
 wp_walk
 subst hPI;refine CN t1 (Ja (wpAny_runValue ?_))
 have lt:t<s.heap.objs.size:=Jh e1
 have sz:(s.heap.push (zR (!zo w))).objs.size=s.heap.objs.size+1:=JR ..
 have h3:A.in1.in1.in1.handled=none:=by simp [hh]
 have ni:t≠(s.heap.push (zR (!zo w))).objs.size:=by rw[sz];exact Jm (B9 lt)
 have nS:s.heap.objs.size∉[(s.heap.push (zR (!zo w))).objs.size,t]:=by
  rw[sz];simp only[Jj,Jp,Jq,not_or]
  exact⟨Jm (BX _),JQ lt⟩
 refine AH hkf ((Walks.list h3 _ t ni items).toS) s.heap.objs.size nS val hv hb items.size 0 _ (by omega) (JC _) ⟨⟨_,Jn _ rfl,rfl,rfl⟩,t1.push _⟩ (lp (Ji _ hS)) fun s' mv hS'=>?_
 obtain⟨h',g',d',tk',os'⟩:=s'
 obtain rfl:g'=s.gens:=mv.gens
 obtain rfl:d'=s.drawn:=mv.drawn
 obtain rfl:os'=s.os:=mv.os
 show wpAny _ _ _ _ _ _
 refine Jb ?_
 show wpAny _ _ (ret Value.none) _ _ _
 refine Jb ⟨_,rfl,rfl,h',tk',rfl,hS',fun b o hb' e=>mv.heap b o ?_ (Ji _ (Ji _ e))⟩
 rw[sz];simp only[Jj,Jp,Jq,not_or]
 exact⟨Jm hb',Jm (B9 hb')⟩
theorem yy(hkf:∀k v,knd.is k v=true->kf v=k){t:Addr}{items:Array Value}{val:Nat->K}{Q:Value->Shared->Prop}(hh:A.handled=none)(ht:s.heap.IsList t items)
  (hv:∀i v,items[i]? =some v->knd.is (val i) v=true/\v.scannable=true)(hb:items.size+1<scanBound)
  (h:∀(h':Heap) (tk:Nat),SetK knd kf h' s.heap.objs.size (aE val items.size)->(∀b o,s.heap.get? b=some o->h'.get? b=some o)->Q (.ref s.heap.objs.size) {s with heap:=h',toks:=tk}):
  wpAny (model prog w) A (call (.type "set") [.ref t]) Q E s:=by
 obtain⟨c,tl,hmro⟩:=PySem.F.called_set.mro;have m1:=PySem.F.called_set.made;have m2:=PySem.F.called_set.sub;have m3:=PySem.F.called_set.notType;have m4:=PySem.F.called_set.canCreate;have m5:=PySem.F.typeCall_set_1 (.ref t);refine wpAny_call (codeAny_of_tree ?_)
 show wpAny _ _ (callAny (.type "set") _) _ _ _
 refine Jb ⟨Code.quiet_builtin _ (by decide +kernel),Cd PySem.F.entry_type_call ?_⟩
 rw[Around.under_plain (weight_type_call_type "set" [.ref t] []) rfl]
 repeat (any_goals (first|assumption|wp_step))
 refine CQ (Bb (.ref t) (E:=E) (Q₁:=fun obj s₁=>obj= .ref s.heap.objs.size/\s₁={s with heap:=s.heap.push (zR (!zo w))}) ⟨rfl,rfl⟩) fun r s₁ hr=>?_
 cases r with
 |error e=>exact hr
 |ok fl=>
  cases fl with
  |ret obj=>
   obtain⟨rfl,rfl⟩:=hr;have hT:Shared.TypeIs {s with heap:=s.heap.push (zR (!zo w))} (.ref s.heap.objs.size) "set":=⟨_,Jn _ rfl,rfl⟩
   have n1:=PySem.F.called_set.init.lookup;have n2:=PySem.F.called_set.init.bind (.ref s.heap.objs.size)
   repeat (any_goals (first|assumption|wp_step))
   refine CQ (codeAny_call_builtin (R:=wants (vi knd kf s (aE val items.size)) E) PySem.F.called_set.init.plain PySem.F.entry_set_init (check_set_init_1 hT (JG (Af hkf hh ht hv hb) (fun fin s' ⟨v,e,d⟩=>by subst e;exact d) fun _ _ z=>z))) fun r₂ s₂ hr₂=>?_
   cases r₂ with
   |error e=>exact hr₂
   |ok fl₂=>
    cases fl₂ with
    |ret r=>
     obtain⟨rfl,h',tk,rfl,hS',hk'⟩:=hr₂
     repeat (any_goals (first|assumption|wp_step))
     exact h _ _ hS' fun b o e=>hk' b o (Jh e) e
    |_=>exact hr₂.elim
  |_=>exact hr.elim
end
theorem aQ{α:Type}:∀(l:List α) (i:Nat) (x:α),l[i]? =some x->(x::l.eraseIdx i).Perm l
 | [],i,x,h=>by simp at h
 |y::l,0,x,h=>by simp at h;subst h;exact List.Perm.refl _
 |y::l,i+1,x,h=>by
  have ih:=aQ l i x (by simpa using h)
  rw[List.eraseIdx_cons_succ]
  exact(List.Perm.swap y x _).trans (ih.cons y)
theorem mz{α:Type}(next:Nat->Nat):∀(f k:Nat) (l:List α) (out:Array α),l.length=f->(pickOrder.go next f k l out).toList.Perm (out.toList++l)
 |0,k,l,out,h=>by
  have e:l=[]:=List.length_eq_zero_iff.mp h
  subst e;unfold pickOrder.go;simp
 |f+1,k,l,out,h=>by
  unfold pickOrder.go;have hm:next k%l.length<l.length:=Nat.mod_lt _ (by omega)
  have hg:=Jl hm;rw[hg]
  dsimp only
  have hp:=aQ l _ _ hg;refine(mz next f (k+1) _ _ (by rw[List.length_eraseIdx,Jd hm];omega)).trans ?_
  rw[Array.toList_push,B8];exact List.Perm.append_left _ hp
theorem gR{α:Type}(next:Nat->Nat)(xs:Array α):(pickOrder next xs).toList.Perm xs.toList:=by
 have:=mz next xs.size 0 xs.toList #[] (by simp)
 simpa [pickOrder]using this
section
variable{M:Model}{A:Around}{E:Value->Shared->Prop}
theorem jr{s:Shared}{src:Source}{n:Nat}{Q:Nat->Shared->Prop}(hn:n≠0)(h:∀i,i<n->Q i {s with drawn:=s.drawn.bump src}):wpAny M A (choose src n) Q E s:=
 fun _ _ _=>⟨hn,h _ (Nat.mod_lt _ (Nat.pos_of_ne_zero hn))⟩
theorem fP{α:Type}:∀(n:Nat) (xs:List α) {s:Shared} {Q:List α->Shared->Prop},xs.length<=n->(∀ys d,ys.Perm xs->Q ys {s with drawn:=d})->wpAny M A (drawOrder n xs) Q E s
 |0,xs,s,Q,hl,h=>by
  have e:xs=[]:=List.length_eq_zero_iff.mp (by omega)
  subst e;exact Jb (h [] s.drawn (List.Perm.refl _))
 |n+1,[],s,Q,hl,h=>Jb (h [] s.drawn (List.Perm.refl _))
 |n+1,x::xs,s,Q,hl,h=>by
  show wpAny M A (do
   let i <- choose .order (x::xs).length
   match(x::xs)[i]? with
   |some y=>return y::(<- drawOrder n ((x::xs).eraseIdx i))
   |none=>unsupported "internal:drawOrder") Q E s
  refine Ja (jr (by simp) fun i hi=>?_)
  have hg:=Jl hi;rw[hg]
  dsimp only
  refine Ja (fP n _ (by rw[List.length_eraseIdx,Jd hi];simp at hl⊢;omega) fun ys d hp=>Jb (h _ d ?_))
  exact(hp.cons _).trans (aQ _ _ _ hg)
end
abbrev jR(f:Value)(i:Nat)(a:Addr)(n ep:Nat):Obj:={cls:= .type "set_iterator",data:= .fields #[f,.int i 0,.ref a,.int n 0,.int ep 0]}
def Way(w:World)(a T:Addr)(es:Array (Int×Value))(ep:Nat)(t:SetTable)(vs:List Value)(i:Nat)(f:Value)(h:Heap):Prop:=
 (zo w=true/\(∃z:Nat,f= .int z 0)/\vs=(pickOrder (w.params.setOrder a ep) es).toList.map (·.2))\/
 (zo w=false/\(!t.plain&&decide (es.size>1))=false/\t.led=true/\Rs t.place/\(∃z:Nat,f= .int z 0/\SetTable.below t.place z=i)/\vs=es.toList.map (·.2))\/
 (∃ps:List Nat,f= .ref T/\h.IsTuple T (ps.map fun p:Nat=>Value.int (p:Int) 0).toArray/\vs.map some=ps.map fun p=>es[p]?.map (·.2))
theorem Way.keep{w:World}{a T:Addr}{es:Array (Int×Value)}{ep:Nat}{t:SetTable}{vs:List Value}{i:Nat}{f:Value}{h h':Heap}(x:Way w a T es ep t vs i f h)
  (e:∀o,h.get? T=some o->h'.get? T=some o):Way w a T es ep t vs i f h':=by
 rcases x with x|x|⟨ps,x1,⟨o,x2,x3⟩,x4⟩
 ·exact .inl x
 ·exact .inr (.inl x)
 ·exact .inr (.inr ⟨ps,x1,⟨o,e _ x2,x3⟩,x4⟩)
theorem nA(a:Addr)(sl gv ep:Nat):setNext a sl gv ep=(do
 let(es,ec,t) <- setState a
 if <- setsByText then
  if ec != ep then unsupported "set_iterator.__next__:elements-changed"
  return ((<- setWalk a)[gv]?).map fun e=>(e.2,sl)
 if !t.plain&&es.size>1 then unsupported "set_iterator.__next__:the-table-is-plain-no-more"
 (do if !t.led&& !es.isEmpty then unsupported "set:maker-not-led":Sem Unit)
 let i:=SetTable.below t.place sl
 return match es[i]?,t.place[i]? with
  |some (_,x),some j=>some (x,j+1)
  |_,_=>none):=rfl
section
variable{prog:Program}{w:World}{A:Around}{E:Value->Shared->Prop}{s:Shared}
theorem Qv{Q:Bool->Shared->Prop}(h:Q (zo w) s):wpAny (model prog w) A setsByText Q E s:=
 Ja (wpAny_askSetting (Jb h))
variable{a T:Addr}{o:Obj}{es:Array (Int×Value)}{ep:Nat}{t:SetTable}{vs:List Value}{i:Nat}{f:Value}
theorem mB{Q:Option (Value×Nat)->Shared->Prop}(ho:s.heap.get? a=some o)(hd:o.data= .set es ep t)(hf:t.fits es.size=true){z:Nat}(W:Way w a T es ep t vs i (.int z 0) s.heap)
  (h:∀r,r.map (·.1)=vs[i]? ->(∀z':Nat,r.map (·.2)=some z'->Way w a T es ep t vs (i+1) (.int z' 0) s.heap)->Q r s):wpAny (model prog w) A (setNext a z i ep) Q E s:=by
 rw[nA];refine Ja (wpAny_setState_of ho hd hf ?_)
 dsimp only
 refine Ja (Qv ?_)
 rcases W with⟨w1,⟨z1,w2⟩,w3⟩|⟨w1,w2,w3,w4,⟨z1,w5,w6⟩,w7⟩|⟨ps,w1,_⟩
 ·rw[w1,Jd rfl]
  simp only[bne_self_eq_false,Bool.false_eq_true,JN];refine Ja ?_
  unfold setWalk;refine Ja (wpAny_setState_of ho hd hf ?_)
  dsimp only
  refine Ja (Qv ?_)
  rw[w1,Jd rfl];refine Ja (wpAny_askSetting (Jb (Jb (h _ ?_ fun z' _=> .inl ⟨w1,⟨z',rfl⟩,w3⟩))))
  rw[w3,Jo,Option.map_map,Array.getElem?_toList];rfl
 ·rw[w1,Jc (by decide),w2]
  simp only[Bool.false_eq_true,JN,w3,Bool.not_true,BL];refine Ja (Jb ?_)
  have ez:z=z1:=by injection w5 with w5;omega
  subst ez;rw[w6];have hps:t.place.size=es.size:=by
   simp only[SetTable.fits,J4,B2]at hf;exact hf.1
  refine Jb (h _ ?_ fun z' hz=> .inr (.inl ⟨w1,w2,w3,w4,⟨z',rfl,?_⟩,w7⟩))
  ·rw[w7,Jo,Array.getElem?_toList]
   by_cases hi:i<es.size
   ·rw[getElem?_pos es i hi,getElem?_pos t.place i (by omega)];rfl
   ·rw[Array.getElem?_eq_none (by omega)];rfl
  ·by_cases hi:i<es.size
   ·have hi':i<t.place.size:=by omega
    rw[getElem?_pos es i hi,getElem?_pos t.place i hi']at hz;simp only[Option.map_some,Option.some.injEq]at hz;subst hz;obtain⟨b1,b2,b3⟩:=aM w4 (t.place[i]+1)
    generalize SetTable.below t.place (t.place[i]+1)=p at *
    have c1:¬p<=i:=fun c=>by have:=b3 i hi' c;omega
    have c2:¬i+2<=p:=fun c=>by
     have hj:i+1<t.place.size:=by omega
     have d1:=b2 (i+1) hj (by omega)
     have d2:=w4.at hi' hj (by omega)
     omega
    omega
   ·rw[Array.getElem?_eq_none (by omega)]at hz;simp at hz
 ·cases w1
end
theorem slot_si_next:Slot "set_iterator" "__next__" "set_iterator.__next__":=
 .of (owner:="set_iterator") (n:="__next__") (by rw[CZ,C1];kernel_rfl) (by decide +kernel) (by decide +kernel) (by decide +kernel)
  (by first|exact .inl (by decide +kernel)|exact .inr (by decide +kernel)) (by rw[Cu];kernel_rfl)
theorem bv:entryFor table "set_iterator.__next__"=some Builtin.«set_iterator.__next__»:=entryFor_of_tree (by kernel_rfl)
theorem ce(a:Value):argsOk "set_iterator.__next__" ⟨[a],[]⟩:=by unfold argsOk;kernel_rfl
theorem bW:Slot "set_iterator" "__iter__" "set_iterator.__iter__":=
 .of (owner:="set_iterator") (n:="__iter__") (by rw[CZ,C1];kernel_rfl) (by decide +kernel) (by decide +kernel) (by decide +kernel)
  (by first|exact .inl (by decide +kernel)|exact .inr (by decide +kernel)) (by rw[Cu];kernel_rfl)
theorem iD:entryFor table "set_iterator.__iter__"=some Builtin.«dict_keyiterator.__iter__»:=
 entryFor_alias (id':="dict_keyiterator.__iter__") (by kernel_rfl) rfl (by decide +kernel) (by kernel_rfl)
theorem iV(a:Value):argsOk "set_iterator.__iter__" ⟨[a],[]⟩:=by unfold argsOk;kernel_rfl
theorem f7:entryFor table "set.__iter__"=some Builtin.«frozenset.__iter__»:=
 entryFor_alias (id':="frozenset.__iter__") (by kernel_rfl) rfl (by decide +kernel) (by kernel_rfl)
section
variable{prog:Program}{w:World}{A:Around}{E:Value->Shared->Prop}{s:Shared}
variable{a T:Addr}{o:Obj}{es:Array (Int×Value)}{ep:Nat}{t:SetTable}{vs:List Value}{i:Nat}{f:Value}
theorem cF{h:Heap}{I:Addr}{o:Obj}{xs:Array Value}(ho:h.get? I=some o)(hd:o.data= .fields xs)(k:Nat)(x:Value):
  (h.update I (Obj.mapFields (·.setIfInBounds k x))).get? I=some {o with data:= .fields (xs.setIfInBounds k x)}:=by
 rw[Cp _ ho (Dv (CF hd _))];obtain⟨c,d,dt,sl⟩:=o
 dsimp only at hd
 subst hd;rfl
theorem wQ{I:Addr}{v:Value}{Q:Option Value->Shared->Prop}(hI:s.heap.get? I=some (jR f i a es.size ep))(ho:s.heap.get? a=some o)(hd:o.data= .set es ep t)(hf:t.fits es.size=true)
  (W:Way w a T es ep t vs i f s.heap)(nT:T≠I)(hv:vs[i]? =some v)
  (hQ:∀f' h',Heap.SameBut I s.heap h'->h'.get? I=some (jR f' (i+1) a es.size ep)->Way w a T es ep t vs (i+1) f' h'->Q (some v) {s with heap:=h'}):
  wpAny (model prog w) A (pyNext (.ref I)) Q E s:=by
 have hT:s.TypeIs (.ref I) "set_iterator":=⟨_,hI,rfl⟩
 unfold pyNext;refine Ja (B4 (wpAny_callSpecial?_slot (name:=Str.ofString "__next__") hT slot_si_next (JT slot_si_next hT bv ?_ (ce _))))
 unfold Builtin.«set_iterator.__next__»
 refine Ja (Jb (Ja (wpAny_fieldsOf hI rfl ?_)))
 dsimp only
 refine Ja ?_
 unfold setEntries;refine Ja (wpAny_setState_of ho hd hf (Jb ?_))
 dsimp only
 simp only[bne_self_eq_false,Bool.false_eq_true,JN];have keep:∀(k:Nat) (x:Value),∀(h:Heap),∀o,h.get? T=some o->(h.update I (Obj.mapFields (·.setIfInBounds k x))).get? T=some o:=fun k x h o e=>by
  rw[CS _ _ (Ne.symm nT)];exact e
 have fin:∀(E':Value->Shared->Prop) (z:Nat),f= .int z 0->wpAny (model prog w) A.in1 (do
   match <- setNext a z i ep with
   |some (x,next)=>
    setField (.ref I) 0 (rawInt next)
    setField (.ref I) 1 (rawInt ((i:Int)+1))
    ret x
   |none=>setField (.ref I) 2 .none;raiseNew (<- newExc (.type "StopIteration") [])) (fun fin s'=>∃v,fin= .done (.ret v)/\(wpAny (model prog w) A (pure (some v)) Q E s')) E' s:=by
  intro E' z hz;subst hz;refine Ja (mB ho hd hf W fun r h1 h2=>?_)
  rw[hv]at h1;cases r with
  |none=>cases h1
  |some p=>
   obtain⟨x,j⟩:=p;simp only[Option.map_some,Option.some.injEq]at h1;subst h1
   dsimp only
   refine Ja (BY hI rfl (by simp) ?_)
   have g1:=cF hI rfl 0 (rawInt (j:Int))
   refine Ja (BY g1 rfl (by simp) ?_)
   have g2:=cF g1 rfl 1 (rawInt ((i:Int)+1))
   refine Jb ⟨_,rfl,Jb (hQ (.int j 0) _ ((BZ ..).trans (BZ ..)) ?_ ((h2 j rfl).keep fun o e=>keep _ _ _ _ (keep _ _ _ _ e)))⟩
   rw[g2];simp [rawInt]
 rcases id W with⟨_,⟨z,rfl⟩,_⟩|⟨_,_,_,_,⟨z,rfl,_⟩,_⟩|⟨ps,rfl,⟨oT,k1,k2,n,k3⟩,k4⟩
 ·exact fin _ z rfl
 ·exact fin _ z rfl
 ·dsimp only
  refine Ja (Cb k1 k3 ?_)
  dsimp only
  have h1:(vs.map some)[i]? =some (some v):=by rw[Jo,hv];rfl
  rw[k4,Jo]at h1;obtain⟨p,hp,h2⟩:=BP.mp h1;obtain⟨e,he,h3⟩:=BP.mp h2;have h4:((ps.map fun p:Nat=>Value.int (p:Int) 0).toArray)[((i:Nat):Int).toNat]? =some (.int (p:Int) 0):=by
   rw[B3,List.getElem?_toArray,Jo,hp];rfl
  rw[h4]
  dsimp only
  refine Ja ?_
  unfold setNextDrawn;refine Ja (wpAny_setState_of ho hd hf ?_)
  dsimp only
  rw[B3,B3,he];simp only[bne_self_eq_false,Bool.false_eq_true,JN];refine Jb (Ja (BY hI rfl (by simp) ?_))
  have g1:=cF hI rfl 1 (rawInt ((i:Int)+1))
  refine Jb ⟨_,rfl,Jb ?_⟩
  rw[h3];refine hQ (.ref T) _ (BZ ..) ?_ (.inr (.inr ⟨ps,rfl,⟨oT,keep _ _ _ _ k1,k2,n,k3⟩,k4⟩))
  rw[g1];simp [rawInt]
theorem pJ{B:Around}{s:Shared}{Q:Option Value->Shared->Prop}(hh:B.handled=none)(h:∀h',(∀b o,s.heap.get? b=some o->h'.get? b=some o)->Q none {s with heap:=h'}):
  wpAny (model prog w) B.in1 (newExc (.type "StopIteration") [] >>= raiseNew) (fun(fin:Fin) s'=>∃v,fin= .done (.ret v)/\wpAny (model prog w) B (pure (some v)) Q E s')
   (fun e s'=>wpAny (model prog w) B (do
     let __do_lift <- isInstance e (Value.type "StopIteration")
     if __do_lift=true then pure none else throw e) Q E s') s:=by
 refine Ja ?_
 simp only[newExc,newTuple];refine Ja (J3 ?_ (by size_fits))
 refine Ja (m:=firstArgMember _ _) (BV (a:=Value.none) (by first|rfl|(simp only[firstArgMember];rfl)) ?_)
 refine J3 ?_ (by size_fits)
 simp only[raiseNew];refine Ja (wpAny_handled ?_)
 rw[show B.in1.handled=none from hh]
 refine Ja (Jb (wpAny_throw ?_))
 refine Ja (Cs (T:="StopIteration") (b:=true) ⟨_,Jn _ rfl,rfl⟩ Di ?_)
 exact Jb (h _ fun b o e=>Ji _ (Ji _ e))
theorem Ay{I:Addr}{Q:Option Value->Shared->Prop}(hh:A.handled=none)(hI:s.heap.get? I=some (jR f i a es.size ep))(ho:s.heap.get? a=some o)(hd:o.data= .set es ep t)(hf:t.fits es.size=true)
  (W:Way w a T es ep t vs i f s.heap)(hv:vs[i]? =none)
  (hQ:∀h',(∀b o,b≠I->s.heap.get? b=some o->h'.get? b=some o)->Q none {s with heap:=h'}):
  wpAny (model prog w) A (pyNext (.ref I)) Q E s:=by
 have hT:s.TypeIs (.ref I) "set_iterator":=⟨_,hI,rfl⟩
 unfold pyNext;refine Ja (B4 (wpAny_callSpecial?_slot (name:=Str.ofString "__next__") hT slot_si_next (JT slot_si_next hT bv ?_ (ce _))))
 unfold Builtin.«set_iterator.__next__»
 refine Ja (Jb (Ja (wpAny_fieldsOf hI rfl ?_)))
 dsimp only
 refine Ja ?_
 unfold setEntries;refine Ja (wpAny_setState_of ho hd hf (Jb ?_))
 dsimp only
 simp only[bne_self_eq_false,Bool.false_eq_true,JN];have oth:∀(k:Nat) (x:Value) (h:Heap) (b:Addr) (o:Obj),b≠I->h.get? b=some o->(h.update I (Obj.mapFields (·.setIfInBounds k x))).get? b=some o:=fun k x h b o n e=>by
  rw[CS _ _ (Ne.symm n)];exact e
 have fin:∀(z:Nat),f= .int z 0->wpAny (model prog w) A.in1 (do
   match <- setNext a z i ep with
   |some (x,next)=>
    setField (.ref I) 0 (rawInt next)
    setField (.ref I) 1 (rawInt ((i:Int)+1))
    ret x
   | none=>setField (.ref I) 2 .none;raiseNew (<- newExc (.type "StopIteration") [])) (fun fin s'=>∃v,fin= .done (.ret v)/\(wpAny (model prog w) A (pure (some v)) Q E s')) (fun e s'=>wpAny (model prog w) A (do
     let __do_lift <- isInstance e (Value.type "StopIteration")
     if __do_lift=true then pure none else throw e) Q E s') s:=by
  intro z hz;subst hz;refine Ja (mB ho hd hf W fun r h1 h2=>?_)
  rw[hv]at h1;cases r with
  |some p=>cases h1
  |none=>
   dsimp only
   refine Ja (BY hI rfl (by simp) ?_)
   exact pJ hh fun h' hk=>hQ h' fun b o n e=>hk b o (oth _ _ _ _ _ n e)
 rcases id W with⟨_,⟨z,rfl⟩,_⟩|⟨_,_,_,_,⟨z,rfl,_⟩,_⟩|⟨ps,rfl,⟨oT,k1,k2,n,k3⟩,k4⟩
 ·exact fin z rfl
 ·exact fin z rfl
 ·dsimp only
  refine Ja (Cb k1 k3 ?_)
  dsimp only
  have h1:(vs.map some)[i]? =none:=by rw[Jo,hv];rfl
  rw[k4,Jo]at h1;have h4:((ps.map fun p:Nat=>Value.int (p:Int) 0).toArray)[((i:Nat):Int).toNat]? =none:=by
   rw[B3,List.getElem?_toArray,Jo];cases hp:ps[i]? with
   |none=>rfl
   |some p=>rw[hp]at h1;cases h1
  rw[h4]
  dsimp only
  refine Ja (BY hI rfl (by simp) ?_)
  have g1:=cF hI rfl 0 (rawInt 0);refine Ja (BY g1 rfl (by simp) ?_)
  exact pJ hh fun h' hk=>hQ h' fun b o n e=>hk b o (oth _ _ _ _ _ n (oth _ _ _ _ _ n e))
theorem tP{I:Addr}(hh:A.handled=none)(nT:T≠I)(na:a≠I)(hl:vs.length=es.size):Walks prog w A I [I,a,T] [I] es.size (fun i v=>vs[i]? =some v)
  (fun i h=>(∃o,h.get? a=some o/\o.data= .set es ep t/\t.fits es.size=true)/\∃f,h.get? I=some (jR f i a es.size ep)/\Way w a T es ep t vs i f h) where
 sub:=fun b hb=>by simp at hb;simp [hb]
 frame:=fun i h h' ⟨⟨o,x1,x2⟩,f,x3,x4⟩ hk=>⟨⟨o,hk a (by simp) o x1,x2⟩,f,hk I (by simp) _ x3,x4.keep fun o e=>hk T (by simp) o e⟩
 item:=fun i s Q E hi ⟨⟨o,x1,x2,x2'⟩,f,x3,x4⟩ hQ=>by
  have hv:vs[i]? =some vs[i]:=Jl (by omega)
  refine wQ x3 x1 x2 x2' x4 nT hv fun f' h' hs h1 h2=>hQ _ h' s.toks hv ⟨⟨o,by rw[hs.2 a na];exact x1,x2,x2'⟩,f',h1,h2⟩ fun b o hb e=>?_
  rw[hs.2 b (fun h=>hb (by simp [h]))];exact e
 done:=fun s Q E ⟨⟨o,x1,x2,x2'⟩,f,x3,x4⟩ hQ=>Ay hh x3 x1 x2 x2' x4 (DI (by omega)) fun h' hk=>hQ h' s.toks fun b o hb e=>hk b o (fun h=>hb (by simp [h])) e
 self:=fun i s Q E ⟨_,f,x3,_⟩ hQ=>by
  have hT:s.TypeIs (.ref I) "set_iterator":=⟨_,x3,rfl⟩
  refine wpAny_pyIter_slot hT bW (JT bW hT iD ?_ (iV _))
  show wpAny _ _ (ret (.ref I)) _ _ s
  exact Jb ⟨_,rfl,"set_iterator",_,hT,slot_si_next.lookup,hQ⟩
end
section
variable{prog:Program}{w:World}{A:Around}{E:Value->Shared->Prop}{s:Shared}
variable{a:Addr}{o:Obj}{es:Array (Int×Value)}{ep:Nat}{t:SetTable}
theorem nu{xs:Array Nat}(h:Rs xs):SetTable.below xs 0=0:=by
 obtain⟨h1,h2,h3⟩:=aM h 0;generalize SetTable.below xs 0=p at *
 cases p with
 |zero=>rfl
 |succ p=>exact absurd (h2 0 (by omega) (by omega)) (Nat.not_lt_zero _)
theorem Rs.few{xs:Array Nat}(h:xs.size<=1):Rs xs:=by
 unfold Rs;rw[List.pairwise_iff_getElem];intro i j hi hj hij;simp at hi hj
 omega
theorem nR{ps:List Nat}(hp:ps.Perm (List.range es.size)):∃vs:List Value,vs.map some=(ps.map fun p=>es[p]?.map (·.2))/\vs.Perm (es.toList.map (·.2)):=by
 refine⟨ps.map fun p=>(es[p]?.map (·.2)).getD .none,?_,?_⟩
 ·rw[Cv]
  refine Dk fun p h=>?_
  have hlt:p<es.size:=B6.mp (hp.mem_iff.mp h)
  show some ((es[p]?.map (·.2)).getD .none)=_
  rw[getElem?_pos es p hlt];rfl
 ·refine(hp.map _).trans (List.Perm.of_eq ?_)
  apply List.ext_getElem
  ·simp
  ·intro i h1 h2
   simp at h1
   simp [h1]
theorem w9{Q:Value->Shared->Prop}(ho:s.heap.get? a=some o)(hex:o.ExactSet)(hd:o.data= .set es ep t)(hf:t.fits es.size=true)(hb:es.size<scanBound)(tw:TW w t)
  (hQ:∀(h':Heap) (d:Drawn) (I T:Addr) (vs:List Value) (f:Value),s.heap.objs.size<=I->T≠I->a≠I->(T=a\/s.heap.objs.size<=T)->(∀b o,s.heap.get? b=some o->h'.get? b=some o)->vs.Perm (es.toList.map (·.2))->
   h'.get? I=some (jR f 0 a es.size ep)->Way w a T es ep t vs 0 f h'->Q (.ref I) {s with heap:=h',drawn:=d}):
  wpAny (model prog w) A (pyIter (.ref a)) Q E s:=by
 have hT:s.TypeIs (.ref a) "set":=⟨o,ho,hex.1⟩
 have hlt:a<s.heap.objs.size:=Jh ho
 refine wpAny_pyIter_slot hT PySem.F.slot_set_iter (JT PySem.F.slot_set_iter hT f7 ?_ (PySem.F.args_set_iter_1 _))
 unfold Builtin.«frozenset.__iter__»
 refine Ja ?_
 show wpAny _ _ (pure a) _ _ _
 refine Jb (Ja ?_)
 unfold Builtin.Frozenset.sizeOf setEntries;refine Ja (Ja (wpAny_setState_of ho hd hf (Jb (Jb ?_))))
 refine Ja ?_
 unfold setDrawn;refine Ja (wpAny_setState_of ho hd hf ?_)
 dsimp only
 refine Ja (Qv (Jb ?_))
 show wpAny _ _ (if(!zo w&&(!t.plain&&decide (es.size>1)))=true then _ else _) _ _ _
 by_cases hdr:(!zo w&&(!t.plain&&decide (es.size>1)))=true
 ·rw[Jd hdr]
  refine Ja (fP _ _ (by simp) fun ps d hp=>?_)
  obtain⟨vs,v1,v2⟩:=nR hp;refine Ja (wpAny_newTuple (items:=ps.map fun i:Nat=>rawInt (i:Int)) ?_ (by rw[Je,hp.length_eq,List.length_range];exact fits_of_scanBound hb))
  have hT1:(s.heap.push {cls:= .type "tuple",data:= .seq (ps.map fun i:Nat=>rawInt (i:Int)).toArray}).get? s.heap.objs.size=some {cls:= .type "tuple",data:= .seq (ps.map fun i:Nat=>rawInt (i:Int)).toArray}:=Jn _ rfl
  have ho1:=Ji {cls:= .type "tuple",data:= .seq (ps.map fun i:Nat=>rawInt (i:Int)).toArray} ho
  unfold setEpoch;refine Ja (Ja (wpAny_setState_of (s:={s with heap:=s.heap.push {cls:= .type "tuple",data:= .seq (ps.map fun i:Nat=>rawInt (i:Int)).toArray},drawn:=d}) ho1 hd hf (Jb ?_)))
  unfold newFields;refine Ja (J3 (Jb ⟨_,rfl,"set_iterator",_,⟨_,Jn _ rfl,rfl⟩,slot_si_next.lookup,?_⟩))
  refine hQ _ d _ s.heap.objs.size vs (.ref s.heap.objs.size) (by rw[JR];exact Co _) (by rw[JR];exact Jm (BX _)) (by rw[JR];exact Jm (B9 hlt)) (.inr (Jf _))
   (fun b o e=>Ji _ (Ji _ e)) v2 (Jn _ rfl) (.inr (.inr ⟨ps,rfl,?_,v1⟩))
  exact⟨_,Ji _ hT1,rfl,0,rfl⟩
 ·rw[Jc hdr]
  refine Ja (Jb ?_)
  unfold setEpoch;refine Ja (Ja (wpAny_setState_of ho hd hf (Jb ?_)))
  unfold newFields;refine Ja (J3 (Jb ⟨_,rfl,"set_iterator",_,⟨_,Jn _ rfl,rfl⟩,slot_si_next.lookup,?_⟩))
  have go:∀vs:List Value,vs.Perm (es.toList.map (·.2))->Way w a a es ep t vs 0 (.int (0:Nat) 0) (s.heap.push (jR (.int (0:Nat) 0) 0 a es.size ep))->Q (.ref s.heap.objs.size) {s with heap:=s.heap.push (jR (.int (0:Nat) 0) 0 a es.size ep)}:=fun vs b1 b2=>
   hQ _ s.drawn _ a vs (.int (0:Nat) 0) (Jf _) (Jm hlt) (Jm hlt) (.inl rfl) (fun b o e=>Ji _ e) b1 (Jn _ rfl) b2
  cases hbt:zo w with
  |true=>exact go _ ((gR _ es).map _) (.inl ⟨hbt,⟨0,rfl⟩,rfl⟩)
  |false=>
   rw[hbt]at hdr;have hdr':(!t.plain&&decide (es.size>1))=false:=by simpa using hdr
   rcases tw with z|⟨z1,z2⟩
   ·rw[hbt]at z;cases z
   ·have hRs:Rs t.place:=by
     cases hp:t.plain with
     |true=>exact z2 hp
     |false=>
      rw[hp]at hdr';refine Rs.few ?_
      simp only[SetTable.fits,J4,B2]at hf;simp at hdr'
      omega
    exact go _ (List.Perm.refl _) (.inr (.inl ⟨hbt,hdr',z1,hRs,⟨0,rfl,nu hRs⟩,rfl⟩))
theorem uk{Q:Bool->Shared->Prop}(hT:s.TypeIs (.ref a) "set")(h:Q false s):wpAny (model prog w) A (Builtin.List.listLengthHint (.ref a)) Q E s:=by
 unfold Builtin.List.listLengthHint;refine Ja (CG hT PySem.F.slot_set_len.lookup ?_)
 generalize hid:("set.__len__":String)=id0
 wp_delta
 rw[show splitId id0=some ("set","__len__")from by subst hid;decide +kernel]
 subst hid;refine Ja (Cs (T:="set") (b:=true) hT (by rw[Cu];kernel_rfl) ?_)
 refine wpAny_ite_split (fun hab=>absurd hab (by decide)) (fun _=>?_)
 refine wpAny_ite_split (fun _=>?_) (fun hab=>absurd (by decide +kernel) hab)
 exact Ja (C7 hT (Jb h))
theorem pB{Q:List Value->Shared->Prop}(hh:A.handled=none)(ho:s.heap.get? a=some o)(hex:o.ExactSet)(hd:o.data= .set es ep t)(hf:t.fits es.size=true)(hb:es.size<scanBound)(tw:TW w t)
  (h:∀(vs:List Value) (h':Heap) (tk:Nat) (d:Drawn),(∀b o,s.heap.get? b=some o->h'.get? b=some o)->s.heap.objs.size<=h'.objs.size->vs.Perm (es.toList.map (·.2))->Q vs {s with heap:=h',toks:=tk,drawn:=d}):
  wpAny (model prog w) A (collect (.ref a)) Q E s:=by
 unfold collect;refine Ja (wpAny_runValue (Cd entry_proto_collect' ?_))
 show wpAny _ _ (do again (.builtin "list.__iadd__" ⟨[<- newList [],.ref a],[]⟩)) _ _ s
 refine Ja (wpAny_newList (Jb ⟨Code.quiet_builtin _ (by decide +kernel),Cd entry_list_iadd' ?_⟩))
 rw[Around.under_plainId PySem.F.plain_list_iadd _];have hlt:a<s.heap.objs.size:=Jh ho
 have hLs:(s.heap.push (seqObj "list" #[] 0)).get? s.heap.objs.size=some (seqObj "list" #[] 0):=Jn _ rfl
 have ho1:=Ji (seqObj "list" #[] 0) ho
 show wpAny _ _ (Builtin.List.listExtendWith (.ref s.heap.objs.size) (.ref a) (.ref s.heap.objs.size)) _ _ {s with heap:=s.heap.push (seqObj "list" #[] 0)}
 unfold Builtin.List.listExtendWith;have hT1:Shared.TypeIs {s with heap:=s.heap.push (seqObj "list" #[] 0)} (.ref a) "set":=⟨o,ho1,hex.1⟩
 refine Ja (C7 hT1 ?_)
 have e1:Builtin.List.listSameRef (.ref s.heap.objs.size) (.ref a)=false:=by
  simp [Builtin.List.listSameRef,JQ hlt]
 have e2:(Value.type "set"==Value.type "list")=false:=by decide
 have e3:(Value.type "set"==Value.type "tuple")=false:=by decide
 simp only[e1,e2,e3,Bool.or_false,Bool.false_eq_true,JN];refine Ja (w9 ho1 hex hd hf hb tw fun h1 d I T vs f b1 b2 b3 b4 b5 b6 b7 b8=>?_)
 have sz:(s.heap.push (seqObj "list" #[] 0)).objs.size=s.heap.objs.size+1:=JR ..
 dsimp only at b1 b4
 rw[sz]at b1 b4;have hT2:Shared.TypeIs {s with heap:=h1,drawn:=d} (.ref a) "set":=⟨o,b5 _ _ ho1,hex.1⟩
 refine Ja (JV (uk hT2 ?_))
 have hL1:=b5 _ _ hLs;have hvl:vs.length=es.size:=by rw[b6.length_eq,Je,J1]
 have W:=tP (prog:=prog) (w:=w) (A:=A.in1) (ep:=ep) (t:=t) (by simp [hh]) b2 b3 hvl
 have nL:s.heap.objs.size∉[I,a,T]:=by
  simp only[Jj,Jp,Jq,not_or];refine⟨by omega,JQ hlt,?_⟩
  rcases b4 with z|z
  ·rw[z];exact JQ hlt
  ·omega
 have key:∀(h:Heap) (c₁:Nat),(∀b o,b≠s.heap.objs.size->h1.get? b=some o->h.get? b=some o)->h.get? s.heap.objs.size=some {cls:= .type "list",data:= .seq #[] c₁}->
   ∀R:Result->Shared->Prop,(∀(vs':Array Value) (h':Heap) (tk c':Nat),vs'.toList=vs->(∀b o,s.heap.get? b=some o->h'.get? b=some o)->h'.get? s.heap.objs.size=some {cls:= .type "list",dict:=none,data:= .seq vs' c',slots:= #[]}->
    R (.ok (.ret (.ref s.heap.objs.size))) {s with heap:=h',toks:=tk,drawn:=d})->
   codeAny (model prog w) A (.builtin "list.extend.loop" ⟨[.ref s.heap.objs.size,.ref I,.ref s.heap.objs.size],[]⟩) R {s with heap:=h,drawn:=d}:=by
  intro h c₁ hk hS₁ R hR;have nI:I≠s.heap.objs.size:=JQ b1
  refine codeAny_extend_loopS W.toS (fits_of_scanBound hb) s.heap.objs.size nL _ es.size 0 _ #[] c₁ (by omega) (JC _) ⟨⟨o,hk _ _ (Jm hlt) (b5 _ _ ho1),hd,hf⟩,f,hk _ _ nI b7,b8.keep fun o e=>hk _ _ ?_ e⟩ hS₁ (ItemsOf.nil _) fun s' acc' c' hm hS' hacc=>?_
  ·rcases b4 with z|z
   ·rw[z];exact Jm hlt
   ·omega
  ·rw[Moved.eq_with hm]
   refine hR acc' s'.heap s'.toks c' ?_ (fun b o e=>hm.heap b o (fun hmem=>?_) (hk b o (Jm (Jh e)) (b5 _ _ (Ji _ e)))) hS'
   ·apply List.ext_getElem?
    intro j;rw[Array.getElem?_toList]
    by_cases hj:j<es.size
    ·have hj':j<acc'.size:=by rw[hacc.1];exact hj
     have:=hacc.2 j acc'[j] (getElem?_pos acc' j hj')
     rw[getElem?_pos acc' j hj',this]
    ·rw[Array.getElem?_eq_none (by rw[hacc.1];omega),DI (by omega)]
   ·have hb':=Jh e
    rcases Jj.mp hmem with z|z
    ·exact absurd z (Jm hb')
    ·exact absurd (Jg.mp z) (Jm (Nat.lt_trans hb' b1))
 have fin:∀(vs':Array Value) (h':Heap) (tk c':Nat),vs'.toList=vs->(∀b o,s.heap.get? b=some o->h'.get? b=some o)->h'.get? s.heap.objs.size=some {cls:= .type "list",dict:=none,data:= .seq vs' c',slots:= #[]}->
   wpAny (model prog w) A (do
    let o <- load s.heap.objs.size
    match o.data with
    | .seq xs _=>pure xs.toList
    |_=>unsupported "internal:collect") Q E {s with heap:=h',toks:=tk,drawn:=d}:=by
  intro vs' h' tk c' c1 c2 c3;refine Ja (wpAny_load c3 (Jb (h _ h' tk d c2 (C5 (Jh c3)) ?_)))
  rw[c1];exact b6
 refine wpAny_ite_split (fun _=>?_) (fun _=>Jb ⟨plainId_quiet PySem.F.plain_extend_loop _,key h1 0 (fun _ _ _ e=>e) hL1 _ fin⟩)
 refine Ja (BW (Ja ?_))
 show wpAny _ _ (updateSeq s.heap.objs.size (·.push .none) >>= fun _=>updateSeq s.heap.objs.size (·.pop)) _ _ _
 refine Ja (wpAny_updateSeq hL1 rfl ?_)
 have hL2:=Cp (Obj.mapSeq (·.push Value.none)) hL1 rfl
 refine wpAny_updateSeq (hz:=by seq_fits) hL2 rfl ?_
 have hL3:=Cp (Obj.mapSeq (·.pop)) hL2 rfl
 refine Jb ⟨plainId_quiet PySem.F.plain_extend_loop _,key _ _ (fun b o hb e=>?_) hL3 _ fin⟩
 exact(CS _ _ (Ne.symm hb)).trans ((CS _ _ (Ne.symm hb)).trans e)
end
end S0
namespace L3
open PySem PySem.Spec PyProof.Rows L2 S0
theorem _root_.L2.Inv.drw{X:Cx}{DK:List (Addr×Obj)}{σ:List (Option V)}{H:Hp}{s:Shared}(I:Inv X DK σ H s)(d:Drawn):Inv X DK σ H {s with drawn:=d}:=
 ⟨I.ok,I.os,I.bare,I.base,I.loc,I.cell,I.free,I.freeC,I.pin,I.hok,I.len⟩
end L3
namespace S0
open PySem PySem.Spec PyProof.Rows
theorem nq(a:Addr):setWalk a=(do
 let(es,epoch,t) <- setState a
 if <- setsByText then return pickOrder ((<- ask).params.setOrder a epoch) es
 if !t.plain&&es.size>1 then return (<- drawOrder es.size es.toList).toArray
 (do if !t.led&&es.size>1 then unsupported "set:maker-not-led":Sem Unit)
 return es):=rfl
section
variable{prog:Program}{w:World}{K:Type} [DecidableEq K]{knd:PySem.KeyKind prog w K}{kf:Value->K}
variable{A:Around}{E:Value->Shared->Prop}{s:Shared}
theorem As(hkf:∀k v,knd.is k v=true->kf v=k){a:Addr}{ks:List K}{k:K}{x:Value}{Q:Option Nat->Shared->Prop}(hkey:knd.is k x=true)(hsc:x.scannable=true)
  (hS:SetK knd kf s.heap a ks)(h:∀r:Option Nat,r.isSome=decide (k∈ks)->Q r s):wpAny (model prog w) A (setFind a x (knd.hash k)) Q E s:=by
 obtain⟨o,es,ep,t,ho,hex,hd,hf,hb,hel,hpm,htw⟩:=hS;refine wpAny_setFind_of (S:=fun k=>decide (k∈ks)) (n:=es.size) hkey hsc ⟨o,es,ep,t,ho,hex,hd,hel,fun k'=>?_,hb,hf,rfl⟩ h
 rw[decide_eq_true_eq,<- hpm.mem_iff];exact jb hkf hel k'
theorem wL{Q:Bool->Shared->Prop}{bs:List Addr}(hS:∀b∈bs,∃ks,SetK knd kf s.heap b ks)(h:Q true s):wpAny (model prog w) A (setsQuiet bs) Q E s:=by
 unfold setsQuiet;refine Ja (wpAny_forIn_list _ (fun rest b s'=>b.1=none/\s'=s/\∀x∈rest,∃ks,SetK knd kf s.heap x ks) _ ?_ ?_ bs _ ⟨rfl,rfl,hS⟩)
 ·rintro x rest b s' ⟨hb,rfl,hr⟩
  obtain⟨ks,o,es,ep,t,ho,hex,hd,hf,_,hel,_,_⟩:=hr x JE;unfold setEntries;refine Ja (Ja (wpAny_setState_of ho hd hf (Jb ?_)))
  refine Ja (PySem.MeetsSeq2.wpAny_forIn_array _ (fun rest2 b2 s2=>b2.1=none/\s2=s'/\∀e∈rest2,e.2.scannable=true) _ ?_ ?_ es _ ⟨rfl,rfl,fun e he=>(hel e he).2⟩)
  ·rintro⟨h1,y⟩ r2 b2 s2 ⟨hb2,rfl,hr2⟩
   have hy:=hr2 _ JE;have hrest:∀e∈r2,e.2.scannable=true:=fun e he=>hr2 e (JJ _ he)
   cases y<;>first|(cases hy;done)|exact Jb ⟨rfl,rfl,hrest⟩
  ·rintro⟨b21,b22⟩ s2 ⟨hb2,rfl,_⟩
   simp only at hb2
   subst hb2;exact Jb ⟨rfl,rfl,fun y hy=>hr y (JJ _ hy)⟩
 ·rintro⟨b1,b2⟩ s' ⟨hb,rfl,_⟩
  simp only at hb
  subst hb;exact Jb h
theorem wc{a b r:Addr}{o:Obj}{es:Array (Int×Value)}{ep:Nat}{t:SetTable}{kb kr:List K}{Q:Array (Int×Value)->Shared->Prop}(ho:s.heap.get? a=some o)(hex:o.ExactSet)(hd:o.data= .set es ep t)(hf:t.fits es.size=true)(hb:es.size<scanBound)(hel:ElemsOf knd es.toList)(tw:TW w t)
  (hS:SetK knd kf s.heap b kb)(hR:SetK knd kf s.heap r kr)
  (h:∀arr h',arr.toList.Perm es.toList->Heap.SameBut r s.heap h'->SetK knd kf h' r kr->Q arr {s with heap:=h'}):wpAny (model prog w) A (setWalkUnseen a [b,r] (some r)) Q E s:=by
 have same:∀arr,arr.toList.Perm es.toList->Q arr s:=fun arr p=>h arr s.heap p (Heap.SameBut.refl r s.heap) hR
 have tX:(zo w||(t.led&&t.plain)||decide (es.size<=1))=true->wpAny (model prog w) A (setWalk a) Q E s:=fun c=>by
  rw[nq];refine Ja (wpAny_setState_of ho hd hf ?_)
  dsimp only
  refine Ja (Qv ?_)
  cases hbt:zo w with
  |true=>
   rw[Jd rfl];exact Ja (wpAny_askSetting (Jb (same _ (gR _ es))))
  |false=>
   rw[Jc (by decide)]
   rw[hbt]at c;have hl:t.led=true:=by
    rcases tw with z|⟨z1,_⟩
    ·rw[hbt]at z;cases z
    ·exact z1
   have hdr:(!t.plain&&decide (es.size>1))=false:=by
    rw[hl]at c;cases hp:t.plain with
    |true=>rfl
    |false=>rw[hp]at c;simp at c;simp;omega
   rw[hdr];simp only[Bool.false_eq_true,JN,hl,Bool.not_true,BL];exact Ja (Jb (Jb (same _ (List.Perm.refl _))))
 unfold setWalkUnseen;refine Ja (wpAny_setState_of ho hd hf ?_)
 dsimp only
 refine Ja (Qv ?_)
 by_cases c:(zo w||(t.led&&t.plain)||decide (es.size<=1))=true
 ·rw[Jd c]
  exact tX c
 ·rw[Jc c]
  have hbt:zo w=false:=by
   cases e:zo w with
   |true=>rw[e]at c;simp at c
   |false=>rfl
  have hl:t.led=true:=by
   rcases tw with z|⟨z1,_⟩
   ·rw[hbt]at z;cases z
   ·exact z1
  refine Ja (wL (knd:=knd) (kf:=kf) (fun x hx=>?_) ?_)
  ·simp only[Jj,Jp,Jq]at hx
   rcases hx with rfl|rfl|rfl
   ·exact⟨_,o,es,ep,t,ho,hex,hd,hf,hb,hel,List.Perm.refl _,tw⟩
   ·exact⟨_,hS⟩
   ·exact⟨_,hR⟩
  ·simp only[Bool.not_true,Bool.false_eq_true,JN]
   refine Ja (BW ?_)
   obtain⟨o2,es2,ep2,t2,ho2,hex2,hd2,hf2,hb2,hel2,hpm2,tw2⟩:=hR;refine Ja (wpAny_setState_of ho2 hd2 hf2 ?_)
   dsimp only
   by_cases c2:((t2.led&& !t.led)||(t2.plain&& !t.plain))=true
   ·rw[Jd c2]
    refine Ja (wpAny_storeSet_of ho2 hd2 (Jb ?_) (fits_of_scanBound hb2))
    refine h _ _ (List.Perm.refl _) (BZ s.heap r _) ⟨_,es2,_,_,gx ho2 hd2 es2 _,hex2,rfl,hf2,hb2,hel2,hpm2,?_⟩
    rcases tw2 with z|⟨z1,z2⟩
    ·exact .inl z
    ·refine .inr ⟨by show(t2.led&&t.led)=true;rw[z1,hl];rfl,fun z=>?_⟩
     have z:(t2.plain&&t.plain)=true:=z
     rw[J4]at z;exact z2 z.1
   ·rw[Jc c2]
    exact Jb (same _ (List.Perm.refl _))
theorem iP:entryFor table "set.__and__"=some Builtin.«frozenset.__and__»:=
 entryFor_alias (id':="frozenset.__and__") (by kernel_rfl) rfl (by decide +kernel) (by kernel_rfl)
theorem xq(x y:Value):Builtin.«frozenset.__and__» ⟨[x,y],[]⟩=(do
 if !(<- Builtin.Frozenset.isAnySet x <&&> Builtin.Frozenset.isAnySet y)then
  rule s!"frozenset.{"__and__"}.declined"
  return <- ret .notImplemented
 ret (<- Builtin.Frozenset.intersection s!"frozenset.{"__and__"}" (<- Builtin.Frozenset.addrOf x) y)):=rfl
theorem fX{a:Addr}{Q:Bool->Shared->Prop}(hT:s.TypeIs (.ref a) "set")(h:Q true s):wpAny (model prog w) A (Builtin.Frozenset.isAnySet (.ref a)) Q E s:=by
 unfold Builtin.Frozenset.isAnySet;refine Ja (Cs hT sub_set_self ?_)
 exact Jb h
theorem SetK.type{h:Heap}{a:Addr}{ks:List K}{s:Shared}(x:SetK knd kf s.heap a ks):s.TypeIs (.ref a) "set":=by
 obtain⟨o,es,ep,t,h1,h2,_⟩:=x
 exact⟨o,h1,h2.1⟩
theorem pF{K:Type} [DecidableEq K]:∀(l acc:List K) (k:K),k∈l.foldl Zw acc↔k∈acc\/k∈l
 | [],acc,k=>by simp
 |x::l,acc,k=>by
  rw[List.foldl_cons,pF l _ k];unfold Zw;split
  ·rename_i hx
   constructor
   ·rintro(h|h)
    ·exact .inl h
    ·exact .inr (JJ _ h)
   ·rintro(h|h)
    ·exact .inl h
    ·rcases Jj.mp h with rfl|h
     ·exact .inl hx
     ·exact .inr h
  ·rw[JO,Jg,Jj]
   constructor
   ·rintro((h|h)|h)
    ·exact .inl h
    ·exact .inr (.inl h)
    ·exact .inr (.inr h)
   ·rintro(h|h|h)
    ·exact .inl (.inl h)
    ·exact .inl (.inr h)
    ·exact .inr h
theorem rX{K:Type} [DecidableEq K]:∀(l acc:List K),(l.foldl Zw acc).length<=acc.length+l.length
 | [],acc=>by simp
 |x::l,acc=>by
  have:=rX l (Zw acc x)
  rw[List.foldl_cons,BM];have h2:(Zw acc x).length<=acc.length+1:=by
   unfold Zw;split
   ·omega
   ·rw[Jx,Cr];omega
  omega
theorem oY(hkf:∀k v,knd.is k v=true->kf v=k){a b r:Addr}(id:String)(nar:a≠r)(nbr:b≠r){o:Obj}{es:Array (Int×Value)}{ep:Nat}{t:SetTable}{kb:List K}{Q:PUnit->Shared->Prop}(hd:o.data= .set es ep t)(hf:t.fits es.size=true)(arr:Array (Int×Value))(harr:ElemsOf knd arr.toList)(hn:arr.size+1<scanBound)
  (ho:s.heap.get? a=some o)(hS:SetK knd kf s.heap b kb)(hR:SetK knd kf s.heap r [])
  (h:∀h' ks,Heap.SameBut r s.heap h'->SetK knd kf h' r ks->ks.Nodup->(∀k,k∈ks↔k∈(arr.toList.map fun e=>kf e.2)/\k∈kb)->Q ⟨⟩ {s with heap:=h'}):
  wpAny (model prog w) A (forIn arr PUnit.unit fun x _=>do
   holding [x.2] (do
    if(<- setFind b x.2 x.1).isSome then
     let _ <- setAddHashed r x.2 x.1
     pure PUnit.unit
    else pure PUnit.unit)
   Builtin.Frozenset.unchanged id a ep
   pure (ForInStep.yield PUnit.unit)) Q E s:=by
 obtain⟨hp,g,dr,tk,os⟩:=s;refine PySem.MeetsSeq2.wpAny_forIn_array _ (fun rest _ s'=>∃h' done ks,s'=⟨h',g,dr,tk,os⟩/\arr.toList=done++rest/\Heap.SameBut r hp h'/\SetK knd kf h' r ks/\ks.Nodup/\(∀k,k∈ks↔k∈(done.map fun e=>kf e.2)/\k∈kb)/\ks.length<=done.length) _ ?_ ?_ arr _ ⟨hp,[],[],rfl,rfl,Heap.SameBut.refl r hp,hR,CI,fun k=>by simp,Jf _⟩
 ·rintro⟨hh,x⟩ rest _ s' ⟨h',done,ks,rfl,e,sb,hR',nd,mem,len⟩
  have hx:(hh,x)∈arr.toList:=by rw[e];exact J2 _ JE
  obtain⟨⟨k,hk,hhash⟩,hsc⟩:=harr _ hx
  dsimp only at hk hhash hsc⊢
  subst hhash;have hdl:done.length+1<=arr.size:=by
   have:=JP List.length e
   rw[J1,Jx,BM]at this;omega
  have hS':SetK knd kf h' b kb:=hS.at fun o1 e1=>by rw[sb.2 b nbr];exact e1
  have ho':h'.get? a=some o:=by rw[sb.2 a nar];exact ho
  have fin:∀h2 ks2,Heap.SameBut r h' h2->SetK knd kf h2 r ks2->ks2.Nodup->(∀k',k'∈ks2↔k'∈((done++[(knd.hash k,x)]).map fun e=>kf e.2)/\k'∈kb)->ks2.length<=(done++[(knd.hash k,x)]).length->∀(Z:Shared->Prop),(∀s',(∃h' done ks,s'=(⟨h',g,dr,tk,os⟩:Shared)/\arr.toList=done++rest/\Heap.SameBut r hp h'/\SetK knd kf h' r ks/\ks.Nodup/\(∀k,k∈ks↔k∈(done.map fun e=>kf e.2)/\k∈kb)/\ks.length<=done.length)->Z s')->wpAny (model prog w) A (do
    Builtin.Frozenset.unchanged id a ep
    pure (ForInStep.yield PUnit.unit)) (fun rr s'=>match rr with| .yield _=>Z s'| .done b'=>Q b' s') E ⟨h2,g,dr,tk,os⟩:=by
   intro h2 ks2 sb2 hR2 nd2 mem2 len2 Z hZ;unfold Builtin.Frozenset.unchanged;have ho2:h2.get? a=some o:=by rw[sb2.2 a nar];exact ho'
   refine Ja (Ja (wpAny_setEpoch_of (s:=⟨h2,g,dr,tk,os⟩) ho2 hd hf ?_))
   simp only[bne_self_eq_false,Bool.false_eq_true,JN];refine Jb (Jb (hZ _ ⟨h2,done++[(knd.hash k,x)],ks2,rfl,by rw[e,B8];rfl,sb.trans sb2,hR2,nd2,mem2,len2⟩))
  have kx:kf x=k:=hkf k x hk
  refine Ja (JV (Ja (As (s:=⟨h',g,dr,tk,os⟩) hkf hk hsc hS' fun rr hrr=>?_)))
  rw[hrr]
  by_cases hm:k∈kb
  ·rw[Jk hm,Jd rfl]
   refine Ja (uW (s:=⟨h',g,dr,tk,os⟩) hkf hk hsc hR' (by omega) fun h2 sb2 hR2=>Jb ?_)
   refine JG (fin h2 _ sb2 hR2 ?_ ?_ ?_ _ fun s' z=>z) (fun rr s' z=>by cases rr<;>exact z) fun _ _ z=>z
   ·split
    ·exact nd
    ·rename_i hnk
     rw[Dz]
     exact⟨nd,by simp,fun x1 hx1 y1 hy1 e1=>hnk (by rw[Jg.mp hy1]at e1;rw[<- e1];exact hx1)⟩
   ·intro k'
    rw[JH,JO]
    show _↔(_\/k'∈[kf x])/\_
    rw[kx,Jg];split
    ·rename_i hik
     rw[mem];constructor
     ·rintro⟨h1,h2⟩;exact⟨.inl h1,h2⟩
     ·rintro⟨h1|rfl,h2⟩
      ·exact⟨h1,h2⟩
      ·exact(mem k').mp hik
    ·rw[JO,mem,Jg]
     constructor
     ·rintro(⟨h1,h2⟩|rfl)
      ·exact⟨.inl h1,h2⟩
      ·exact⟨.inr rfl,hm⟩
     ·rintro⟨h1|rfl,h2⟩
      ·exact .inl ⟨h1,h2⟩
      ·exact .inr rfl
   ·rw[Jx,Cr]
    split
    ·omega
    ·rw[Jx,Cr];omega
  ·rw[Jr hm,Jc (by decide)]
   refine Jb ?_
   refine JG (fin h' ks (Heap.SameBut.refl r h') hR' nd ?_ (by rw[Jx];omega) _ fun s' z=>z) (fun rr s' z=>by cases rr<;>exact z) fun _ _ z=>z
   intro k';rw[mem,JH,JO]
   show _↔(_\/k'∈[kf x])/\_
   rw[kx,Jg];constructor
   ·rintro⟨h1,h2⟩;exact⟨.inl h1,h2⟩
   ·rintro⟨h1|rfl,h2⟩
    ·exact⟨h1,h2⟩
    ·exact absurd h2 hm
 ·rintro _ s' ⟨h',done,ks,rfl,e,sb,hR',nd,mem,len⟩
  rw[CP]at e;refine h h' ks sb hR' nd (by rw[e];exact mem)
theorem uQ{Q:Value->Shared->Prop}(h:Q (.ref s.heap.objs.size) {s with heap:=s.heap.push (zR (!zo w))}):wpAny (model prog w) A (newSet (.type "set")) Q E s:=by
 unfold newSet;obtain⟨hp,g,d,tk,os⟩:=s
 wp_walk
 refine wpAny_askSetting (Jb ?_)
 dsimp only
 simp only[newObj];exact Ja (wpAny_alloc (Jb h))
theorem AV(hkf:∀k v,knd.is k v=true->kf v=k){a b:Addr}{ka kb:List K}{Q:Value->Shared->Prop}(nab:a≠b)(hA:SetK knd kf s.heap a ka)(hB:SetK knd kf s.heap b kb)(la:ka.length+1<scanBound)(lb:kb.length+1<scanBound)
  (h:∀h' ks,(∀c o,s.heap.get? c=some o->h'.get? c=some o)->SetK knd kf h' s.heap.objs.size ks->ks.Nodup->(∀k,k∈ks↔k∈ka/\k∈kb)->Q (.ref s.heap.objs.size) {s with heap:=h'}):
  wpAny (model prog w) A (binaryOp .BitAnd (.ref a) (.ref b)) Q E s:=by
 have hTa:=hA.type (h:=s.heap)
 have hTb:=hB.type (h:=s.heap)
 refine wpAny_binaryOp_same (op:= .BitAnd) (T:="set") hTa hTb PySem.F.fills_set_and PySem.F.slot_set_and (JT PySem.F.slot_set_and hTa iP ?_ (PySem.F.args_set_and_2 _ _))
 rw[xq];refine Ja (Ja (fX hTa ?_))
 show wpAny _ _ (Builtin.Frozenset.isAnySet (Value.ref b)) _ _ _
 refine fX hTb ?_
 simp only[Bool.not_true,Bool.false_eq_true,JN];refine Ja (Jb (Ja ?_))
 unfold Builtin.Frozenset.intersection;have hne:((Value.ref b:Value)==Value.ref a)=false:=by
  rw[CA];intro e;cases e;exact nab rfl
 rw[hne];simp only[Bool.false_eq_true,JN];unfold Builtin.Frozenset.baseOf;refine Ja (Ja (Cs hTa sub_set_self (Jb ?_)))
 rw[Jd rfl];refine Ja (uQ ?_)
 refine Ja (Jb (Ja (JV ?_)))
 have hr:(s.heap.push (zR (!zo w))).get? s.heap.objs.size=some (zR (!zo w)):=Jn _ rfl
 have old:∀c o,s.heap.get? c=some o->(s.heap.push (zR (!zo w))).get? c=some o:=fun c o e=>Ji _ e
 have hR:SetK knd kf (s.heap.push (zR (!zo w))) s.heap.objs.size []:=lp hr
 have lta:=hA.lt;have ltb:=hB.lt;have hA1:SetK knd kf (s.heap.push (zR (!zo w))) a ka:=hA.at (old a)
 have hB1:SetK knd kf (s.heap.push (zR (!zo w))) b kb:=hB.at (old b)
 have core:∀(x y:Addr) (kx ky:List K),SetK knd kf (s.heap.push (zR (!zo w))) x kx->SetK knd kf (s.heap.push (zR (!zo w))) y ky->x≠s.heap.objs.size->y≠s.heap.objs.size->kx.length+1<scanBound->(∀k,(k∈kx/\k∈ky)↔(k∈ka/\k∈kb))->
   wpAny (model prog w) A.in1 (do
     let was <- setEpoch x
     let __do_lift_2 <- setWalkUnseen x [y,s.heap.objs.size] (some s.heap.objs.size)
     forIn __do_lift_2 PUnit.unit fun x1 __s=>do
       holding [x1.snd] do
         let __do_lift <- setFind y x1.snd x1.fst
         if __do_lift.isSome=true then do
           let _ <- setAddHashed s.heap.objs.size x1.snd x1.fst
           pure ()
          else pure ()
       Builtin.Frozenset.unchanged (toString "frozenset."++toString "__and__") x was
       pure (ForInStep.yield PUnit.unit)
     pure ())
    (fun _ s'=>Q (.ref s.heap.objs.size) s') E {s with heap:=s.heap.push (zR (!zo w))}:=by
  intro x y kx ky hx hy nx ny lx mem;obtain⟨o,es,ep,t,ho,hex,hd,hf,hb,hel,hpm,htw⟩:=id hx;refine Ja (wpAny_setEpoch_of (s:={s with heap:=s.heap.push (zR (!zo w))}) ho hd hf ?_)
  refine Ja (wc (s:={s with heap:=s.heap.push (zR (!zo w))}) ho hex hd hf hb hel htw hy hR fun arr h1 hp sb hR1=>?_)
  have esz:es.size=kx.length:=by rw[<- hpm.length_eq,Je,J1]
  have asz:arr.size=es.size:=by rw[<- J1,hp.length_eq,J1]
  have ho1:h1.get? x=some o:=by rw[sb.2 x nx];exact ho
  refine Ja (oY (s:={s with heap:=h1}) hkf (toString "frozenset."++toString "__and__") nx ny hd hf arr (hel.perm hp) (by omega) ho1 (hy.at fun o1 e1=>by rw[sb.2 y ny];exact e1) hR1 fun h2 ks sb2 hR2 nd mem2=>Jb ?_)
  refine h h2 ks (fun c o1 e1=>?_) hR2 nd fun k=>?_
  ·have nc:c≠s.heap.objs.size:=Jm (Jh e1)
   rw[sb2.2 c nc,sb.2 c nc];exact old c o1 e1
  ·rw[mem2,<- mem,(hp.map fun e=>kf e.2).mem_iff,hpm.mem_iff]
 have hTb1:Shared.TypeIs {s with heap:=s.heap.push (zR (!zo w))} (.ref b) "set":=hB1.type (s:={s with heap:=s.heap.push (zR (!zo w))}) (h:=s.heap)
 refine Ja (fX hTb1 ?_)
 rw[Jd rfl];refine Ja (Jb ?_)
 obtain⟨oa,ea,epa,ta,hoa,hexa,hda,hfa,_⟩:=id hA1;obtain⟨ob,eb,epb,tb,hob,hexb,hdb,hfb,_⟩:=id hB1;unfold Builtin.Frozenset.sizeOf setEntries;refine Ja (Ja (Ja (wpAny_setState_of (s:={s with heap:=s.heap.push (zR (!zo w))}) hob hdb hfb (Jb (Jb ?_)))))
 refine Ja (Ja (Ja (wpAny_setState_of (s:={s with heap:=s.heap.push (zR (!zo w))}) hoa hda hfa (Jb (Jb ?_)))))
 dsimp only
 have fin:∀{Z:PUnit->Shared->Prop},(∀s',Q (.ref s.heap.objs.size) s'->Z ⟨⟩ s')->∀{m:Sem Unit},wpAny (model prog w) A.in1 m (fun _ s'=>Q (.ref s.heap.objs.size) s') E {s with heap:=s.heap.push (zR (!zo w))}->wpAny (model prog w) A.in1 m Z E {s with heap:=s.heap.push (zR (!zo w))}:=fun hz m hm=>JG hm (fun _ s' z=>hz s' z) fun _ _ z=>z
 by_cases c:eb.size>ea.size
 ·simp only[Jd c]
  refine fin (fun s' z=>?_) (core a b ka kb hA1 hB1 (Jm lta) (Jm ltb) la fun k=>Iff.rfl)
  refine Jb ?_
  exact Jb ⟨_,rfl,(fun e=>nomatch e),z⟩
 ·simp only[Jc c]
  refine fin (fun s' z=>?_) (core b a kb ka hB1 hA1 (Jm ltb) (Jm lta) lb fun k=>And.comm)
  refine Jb ?_
  exact Jb ⟨_,rfl,(fun e=>nomatch e),z⟩
end
end S0
namespace L3
open PySem PySem.Spec PyProof.Rows L2 S0
def a9:Value->Str
 | .str x _=>x
 |_=>Str.empty
def Z1(prog:Program)(w:World)(a:Addr)(ks:List Str):HO:= .ext fun h=>SetK (PySem.strKind prog w) a9 h a ks
theorem rS(prog:Program)(w:World):∀k v,(PySem.strKind prog w).is k v=true->a9 v=k:=fun k v h=>by
 obtain⟨t,rfl⟩:=Value.isStrOf_shape h;rfl
section
variable{prog:Program}{w:World}{A:Around}{E:Value->Shared->Prop}{s:Shared}
theorem pK{a:Addr}{ks:List Str}{Q:Value->Shared->Prop}(hh:A.handled=none)(hS:SetK (PySem.strKind prog w) a9 s.heap a ks)(h64:ks.length<64)
  (h:∀(h':Heap) (tk:Nat) (d:Drawn) (l:Addr) (its:List Value) (n:Nat) (ss:List Str),s.heap.objs.size<=l->(∀b o,s.heap.get? b=some o->h'.get? b=some o)->h'.get? l=some (seqObj "list" its.toArray n)->
   StrsAre its ss->ss.Perm ks->sortedS ss=true->Q (.ref l) {s with heap:=h',toks:=tk,drawn:=d}):
  wpAny (model prog w) A (call (.builtin "sorted") [.ref a]) Q E s:=by
 obtain⟨o,es,ep,t,ho,hex,hd,hf,hb,hel,hpm,htw⟩:=hS;refine Calls.call_function_entry kind_sorted plain_sorted entry_sorted (args_sorted1 _) ?_
 unfold Builtin.«sorted»
 refine Ja (m:=checkCount "sorted" 1 1 _) (Jb ?_)
 refine Ja (pB hh ho hex hd hf hb htw fun vs h' tk d hk hz hp=>?_)
 have hI:StrsAre vs (vs.map a9):=by
  refine gE (by rw[Je]) fun j v e=>?_
  obtain⟨e1,he,rfl⟩:=Jw.mp (hp.mem_iff.mp (JS e))
  obtain⟨⟨k,h1,_⟩,_⟩:=hel e1 he;obtain⟨tt,h2⟩:=Value.isStrOf_shape h1;refine⟨k,tt,by rw[Jo,e,h2];rfl,h2⟩
 have hvk:(vs.map a9).Perm ks:=by
  refine(hp.map a9).trans ?_
  rw[Cv];exact hpm
 have hvl:vs.length<=sizeLine:=by
  rw[hp.length_eq,Je,J1];exact fits_of_scanBound hb
 have hl64:vs.length<64:=by
  have:=hvk.length_eq
  rw[Je]at this;omega
 refine Ja (wpAny_newList ?_ hvl)
 have hoL:(h'.push (seqObj "list" vs.toArray 0)).get? h'.objs.size=some (seqObj "list" vs.toArray 0):=Jn _ rfl
 show wpAny _ _ _ _ _ {s with heap:=h'.push (seqObj "list" vs.toArray 0),toks:=tk,drawn:=d}
 refine Ja (JV (JT slot_list_sort ⟨_,hoL,rfl⟩ entry_list_sort (list_sort_treeK (κ:=PyProof.Rows.strKind) strKind_oneLt hoL hI.keysOf (fun v₁ v₂ rest e=>keyKind_strs (by rw[<- e];exact hI)) hl64 fun st' a1 a2=>⟨_,rfl,?_⟩) (args_list_sort _)))
 obtain⟨ss',b1,b2,b3⟩:=sorted_out_str hI a1 a2;obtain⟨n',hn'⟩:∃n',(sortedHeap (h'.push (seqObj "list" vs.toArray 0)) h'.objs.size vs ((arrOf st').map (·.2))).get? h'.objs.size=some (seqObj "list" ((arrOf st').map (·.2)) n'):=sortedHeap_at hoL
 refine Jb ⟨_,rfl,h _ tk d h'.objs.size ((arrOf st').map (·.2)).toList n' ss' hz (fun b o e=>?_) (by rw[hn']) b1 (b2.trans hvk) b3⟩
 have e':=hk b o e;have hb':b<h'.objs.size:=Jh e'
 rw[sortedHeap_old (Jm hb') (by rw[JR];exact B9 hb')]
 exact Ji _ e'
end
theorem jy:∀{us:List Value} {ss:List Str},StrsAre us ss->∀(i:Nat) (v:Value),us[i]? =some v->∃t,v= .str (ss.getD i default) t
 |_,_,.nil,i,v,e=>by simp at e
 |_,_,.cons x t r,0,v,e=>by
  simp at e;subst e;exact⟨t,rfl⟩
 |_,_,.cons x t r,i+1,v,e=>by
  have e':=jy r i v (by simpa using e)
  simpa [JF]using e'
section
variable{X:Cx}
theorem fQ(hc:X.calm=true):zg X (.type "set") (fun xs H Q=>∃(p:Addr) (ss:List Str),xs=[.ref p]/\SqL X.K H p (ss.map V.str)/\ss.length+1<scanBound/\∀l,H l=none->Q (.ref l) (upd H l (Z1 X.prog X.w l (ddL ss)))):=by
 intro DK s σ H xs us Q I r h;obtain⟨p,ss,rfl,hp,hb,q⟩:=h;obtain⟨u,rfl,ru⟩:=zW r;cases ru;obtain⟨its,rv,pt,_⟩:=I.list hp;have hl:=rv.length;rw[Je]at hl;refine yy (knd:=PySem.strKind X.prog X.w) (kf:=a9) (val:=fun i=>ss.getD i default) (rS _ _) (I.ok.hd hc) pt.isList (fun i v hv=>?_) (by rw[Jt];omega) fun h' tk hS kp=>?_
 ·have hv':its[i]? =some v:=by rw[List.getElem?_toArray]at hv;exact hv
  have hi:i<ss.length:=by rw[hl];exact(Js.mp hv').1
  obtain⟨t,rfl⟩:=jy (lD rv) i v hv'
  exact⟨strKind_is _ _ _ _,rfl⟩
 ·have e:its.toArray.size=ss.length:=by rw[Jt];exact hl.symm
  rw[e,yo]at hS;refine⟨.ref s.heap.objs.size,_,I.laid (t':=tk) (o:=Z1 X.prog X.w s.heap.objs.size (ddL ss)) kp (Jf _) ⟨hS,?_,fun h1 h2 z1 z2=>z1.at z2⟩,rfl,q _ (I.hok.fresh (Jf _))⟩
  obtain⟨o,_,_,_,e,_⟩:=hS
  exact⟨o,e⟩
theorem iK(hc:X.calm=true):zg X (.builtin "sorted") (fun xs H Q=>∃(p:Addr) (ks:List Str),xs=[.ref p]/\H p=some (Z1 X.prog X.w p ks)/\ks.length<64/\
  ∀l (ss:List Str),H l=none->ss.Perm ks->sortedS ss=true->Q (.ref l) (upd H l (.lst (ss.map V.str)))):=by
 intro DK s σ H xs us Q I r h;obtain⟨p,ks,rfl,hp,h64,q⟩:=h;obtain⟨u,rfl,ru⟩:=zW r;cases ru;obtain⟨hS,_⟩:=I.hok p _ hp;refine pK (I.ok.hd hc) hS h64 fun h' tk d l its n ss hl hk hL b1 b2 b3=>?_
 refine⟨.ref l,_,(I.laid (a:=l) (o:= .lst (ss.map V.str)) (t':=tk) hk hl ?_).drw d,rfl,q l ss (I.hok.fresh hl) b2 b3⟩
 refine⟨?_,its,n,bO b1,hL⟩
 have:=b2.length_eq
 rw[Je,Jz];omega
def AO(X:Cx):R2:=fun x y H Q=>∃(a b:Addr) (ka kb:List Str),x= .ref a/\y= .ref b/\a≠b/\H a=some (Z1 X.prog X.w a ka)/\H b=some (Z1 X.prog X.w b kb)/\ka.length<=1000/\kb.length<=1000/\
 ∀l ks,H l=none->ks.Nodup->(∀k,k∈ks↔k∈ka/\k∈kb)->Q (.ref l) (upd H l (Z1 X.prog X.w l ks))
theorem vO:zv X (binaryOp .BitAnd) (AO X):=by
 intro DK s σ H x y v u Q I rx ry h;obtain⟨a,b,ka,kb,rfl,rfl,nab,ha,hb,la,lb,q⟩:=h;cases rx;cases ry;obtain⟨hA,_⟩:=I.hok a _ ha;obtain⟨hB,_⟩:=I.hok b _ hb;have e:scanBound=4096:=rfl
 refine AV (rS _ _) nab hA hB (by omega) (by omega) fun h' ks kp hS nd mem=>?_
 refine⟨.ref s.heap.objs.size,_,I.laid (t':=s.toks) (o:=Z1 X.prog X.w s.heap.objs.size ks) kp (Jf _) ⟨hS,?_,fun h1 h2 z1 z2=>z1.at z2⟩,rfl,q _ _ (I.hok.fresh (Jf _)) nd mem⟩
 obtain⟨o,_,_,_,e,_⟩:=hS
 exact⟨o,e⟩
end
theorem fV{K:Type} [DecidableEq K](l:List K)(k:K):k∈ddL l↔k∈l:=by unfold ddL;rw[pF];simp
theorem mF{K:Type} [DecidableEq K](l:List K):(ddL l).length<=l.length:=by have:=rX l ([]:List K);simpa [ddL]using this
end L3
namespace L3
open PySem PySem.Spec PyProof.Rows L2
structure DpOk(t:List Int)(kss:List (List Int))(base:Int)(D:Dr):Prop where
 ok:DrOk D
 t:D.t=t
 ks:D.kss=kss
 k1:1<=kss.length
 n0:1<=D.near
 n1:D.near<=4
 f0:D.near<=D.far
 f1:D.far<=12
 ms:D.most=12
 lk:D.least<kss.length
 nm:∀e∈D.kn,zT e.1
 kb:∀e∈D.kn,KlOk D e.2/\base<e.2.last/\e.2.last<=base+23
section
variable{t:List Int}{kss:List (List Int)}{base:Int}{D:Dr}{nm:Str}{age c:Int}
theorem DpOk.learn(h:DpOk t kss base D)(hn:zT nm)(hl:D.kn.length<=11)(a0:0<=age)(a1:age<kss.length)(c0:1<=c)(c1:c<4096)(b0:base<c)(b1:c<=base+23):DpOk t kss base {D with kn:=qV D.kn nm ⟨age,c,none⟩}:=by
 have hle:=eB D.kn nm ⟨age,c,none⟩;have k:KlOk {D with kn:=qV D.kn nm ⟨age,c,none⟩} ⟨age,c,none⟩:=⟨a0,by show age<(D.kss.length:Int);rw[h.ks];exact a1,c0,c1,fun x y z=>by cases z⟩
 refine⟨⟨h.ok.tp,h.ok.l0,h.ok.kl,by show(qV _ _ _).length<=60;omega,cC h.ok.nd _ _⟩,h.t,h.ks,h.k1,h.n0,h.n1,h.f0,h.f1,h.ms,h.lk,fun e he=>?_,fun e he=>?_⟩
 ·rcases aK he with he|rfl
  ·exact h.nm e he
  ·exact hn
 ·rcases aK he with he|rfl
  ·exact⟨(h.kb e he).1.mono (Jf _),(h.kb e he).2⟩
  ·exact⟨k,b0,b1⟩
theorem e8{D:Dr}{nm:Str}{age c:Int}:hearK D nm age c=D.kn\/∃e,D.kn.lookup nm=some e/\qY D e age=true/\hearK D nm age c=qV D.kn nm (zc D.near D.far e age c).2:=by
 unfold hearK zk;cases e1:D.kn.lookup nm with
 |none=>exact .inl rfl
 |some e=>
  simp only
  by_cases ht:qY D e age=true
  ·rw[Jd ht]
   exact .inr ⟨e,rfl,ht,by split<;>rfl⟩
  ·rw[Jc ht];exact .inl rfl
theorem DpOk.hear(h:DpOk t kss base D)(c0:0<=c)(c1:c<4096)(b1:c<=base+23):DpOk t kss base {D with kn:=hearK D nm age c}/\(hearK D nm age c).map (·.1)=D.kn.map (·.1):=by
 rcases e8 (D:=D) (nm:=nm) (age:=age) (c:=c)with e|⟨e,he,ht,ek⟩
 ·rw[e];exact⟨h,rfl⟩
 ·rw[ek]
  have hin:=zI he;have hk:=(h.kb _ hin).1;have hb:=(h.kb _ hin).2;simp only at hb
  obtain⟨a0,a1⟩:=bI ht h.ok.l0;have hm:nm∈D.kn.map (·.1):=Jw.mpr ⟨_,hin,rfl⟩
  have hl:=k9 (e:=(zc D.near D.far e age c).2) hm
  have ks:=uD hk (nU ht) a1 c0 c1;have lst:(zc D.near D.far e age c).2.last=e.last\/((zc D.near D.far e age c).2.last=c/\e.last<c):=by
   unfold zc;split
   ·exact .inl rfl
   ·split
    ·exact .inr ⟨rfl,by omega⟩
    ·split
     ·split
      ·exact .inr ⟨rfl,by omega⟩
      ·exact .inl rfl
     ·exact .inl rfl
  refine⟨⟨⟨h.ok.tp,h.ok.l0,h.ok.kl,by show(qV _ _ _).length<=60;rw[hl];exact h.ok.nl,cC h.ok.nd _ _⟩,h.t,h.ks,h.k1,h.n0,h.n1,h.f0,h.f1,h.ms,h.lk,fun x hx=>?_,fun x hx=>?_⟩,fF he⟩
  ·rcases aK hx with hx|rfl
   ·exact h.nm x hx
   ·exact h.nm (nm,e) hin
  ·rcases aK hx with hx|rfl
   ·exact⟨(h.kb x hx).1.mono (Jf _),(h.kb x hx).2⟩
   ·refine⟨ks.mono (Jf _),?_⟩
    show base<(zc D.near D.far e age c).2.last/\(zc D.near D.far e age c).2.last<=base+23
    rcases lst with l|⟨l,q⟩
    ·rw[l];exact hb
    ·rw[l];omega
theorem DpOk.close{a:Int}(h:DpOk t kss base D)(a1:a<kss.length):DpOk t kss base {D with least:=if a>D.least then a else D.least}:=by
 have lk:=h.lk;have l0:=h.ok.l0
 exact⟨⟨h.ok.tp,(by show 0<=if a>D.least then a else D.least;split<;>omega),h.ok.kl,h.ok.nl,h.ok.nd⟩,h.t,h.ks,h.k1,h.n0,h.n1,h.f0,h.f1,h.ms,(by show(if a>D.least then a else D.least)<(kss.length:Int);split<;>omega),h.nm,fun e he=>⟨(h.kb e he).1.mono (Jf _),(h.kb e he).2⟩⟩
theorem ci{d:Int}(tp:t.Perm digs)(hn:zT nm)(c0:0<=c)(c1:c<4096)(hd:af d):PsOk (Qn t kss nm age c d):=⟨hn,pE ..,tG tp c0 c1 hd⟩
theorem iZ{d:Int}(h:DpOk t kss base D)(c0:0<=c)(c1:c<4096)(hd:af d):ZO D (Qn t kss nm age c d)=zk D nm age (some (c,d)):=by
 unfold ZO Qn;simp only
 rw[h.t,show Qt D age=kss.getD age.toNat [] by unfold Qt;rw[h.ks],gT (h.t▸h.ok.tp) c0 c1 hd]
end
def Stp(f:Nat->Dr->Dr)(k:Nat)(xs xs':List En):Prop:=xs'.length=xs.length/\∀(i:Nat) (x:En),xs[i]? =some x->∃L',xs'[i]? =some (x.1,f i x.2.1,L')/\L'.length<=x.2.2.length+k
theorem Stp.refl(xs:List En):Stp (fun _ D=>D) 0 xs xs:=⟨rfl,fun i x hx=>⟨x.2.2,hx,Jf _⟩⟩
theorem Stp.set{f g:Nat->Dr->Dr}{k i:Nat}{xs xs':List En}{x:En}{L' L'':List Rw}(h:Stp f k xs xs')(hx:xs[i]? =some x)(hx':xs'[i]? =some (x.1,f i x.2.1,L'))(hl:L''.length<=L'.length+1)(hg:g i x.2.1=D')(ho:∀j,j≠i->g j=f j):Stp g (k+1) xs (xs'.set i (x.1,D',L'')):=by
 refine⟨by rw[CD];exact h.1,fun j y hy=>?_⟩
 obtain⟨M,hM,hMl⟩:=h.2 j y hy
 by_cases z:j=i
 ·subst z
  rw[hx]at hy;cases hy
  rw[hx']at hM
  have:L'=M:=by injection hM with hM;injection hM with _ hM;injection hM
  subst this
  exact⟨L'',by rw[Dn (by rw[h.1];exact(Js.mp hx).1),hg],by omega⟩
 ·exact⟨M,by rw[Do (fun w=>z w.symm),ho j z];exact hM,by omega⟩
theorem Stp.mono{f:Nat->Dr->Dr}{k k':Nat}{xs xs':List En}(h:Stp f k xs xs')(l:k<=k'):Stp f k' xs xs':=⟨h.1,fun i x hx=>let⟨L',e,q⟩:=h.2 i x hx;⟨L',e,by omega⟩⟩
theorem Stp.ext{f g:Nat->Dr->Dr}{k:Nat}{xs xs':List En}(h:Stp f k xs xs')(e:∀i x,xs[i]? =some x->f i x.2.1=g i x.2.1):Stp g k xs xs':=⟨h.1,fun i x hx=>let⟨L',q,r⟩:=h.2 i x hx;⟨L',by rw[q,e i x hx],r⟩⟩
theorem Stp.all{p q:Dr->Prop}{f:Nat->Dr->Dr}{k n:Nat}{xs xs':List En}(h:Stp f k xs xs')(hp:∀(i:Nat) (x:En),xs[i]? =some x->p x.2.1/\x.2.2.length<=n)(hf:∀i D,p D->q (f i D)):∀(i:Nat) (x:En),xs'[i]? =some x->q x.2.1/\x.2.2.length<=n+k:=by
 intro i x hx;have hi:i<xs.length:=by rw[<- h.1];exact(Js.mp hx).1
 obtain⟨L',e,l⟩:=h.2 i xs[i] (Jl hi)
 rw[e]at hx;cases hx
 obtain⟨h1,h2⟩:=hp i xs[i] (Jl hi)
 exact⟨hf i _ h1,by show L'.length<=n+k;omega⟩
def Olv(H:Hp)(v:V):Option (Int×Int)->Prop
 |none=>v= .non
 |some (a,l)=>∃t,v= .ref t/\H t=some (.tup [.int a,.int l])
def OlAt(H:Hp)(tl:Addr)(os:List (Option (Int×Int))):Prop:=∃vs:List V,H tl=some (.lst vs)/\vs.length=os.length/\∀(i:Nat) (v:V) (o:Option (Int×Int)),vs[i]? =some v->os[i]? =some o->Olv H v o
theorem Olv.mv{S:List Addr}{H H':Hp}{v:V}{o:Option (Int×Int)}(m:Mv S H H')(n:NT S H)(h:Olv H v o):Olv H' v o:=by
 cases o with
 |none=>exact h
 |some p=>obtain⟨t,e,r⟩:=h;exact⟨t,e,m.tup n r⟩
theorem OlAt.mv{S:List Addr}{H H':Hp}{tl:Addr}{os:List (Option (Int×Int))}(h:OlAt H tl os)(m:Mv S H H')(n:NT S H)(hs:tl∉S):OlAt H' tl os:=by
 obtain⟨vs,e,l,r⟩:=h
 exact⟨vs,m _ _ hs e,l,fun i v o e1 e2=>(r i v o e1 e2).mv m n⟩
theorem OlAt.same{H H':Hp}{tl:Addr}{os:List (Option (Int×Int))}(h:OlAt H tl os)(s:Same H H'):OlAt H' tl os:=h.mv (S:=[]) s.mv cY (fun h=>nomatch h)
def Zt(nm:Str)(D:Dr):Option (Int×Int)->Dr
 |none=>D
 |some (a,l)=>{D with kn:=qV D.kn nm ⟨a,l,none⟩}
section
variable(K:Frag)(C:Addr)
def ee:Sp:=fun vs H Q _=>∃(cd tb kt pl p ps b:Addr) (c:Nat) (H0:Hp) (t:List Int) (kss:List (List Int)) (xs:List En) (nm:Str) (age n:Int) (is:List Nat) (base:Int),vs=[.ref cd,.ref pl,.ref p,.ref ps]/\Pw K C H0 H b c pl xs/\xs.length=2/\CdAt H cd tb kt t kss/\zT nm/\0<=age/\age<kss.length/\0<=n/\n<4096/\H p=some (.tup [.str nm,.int age,.int n])/\Rd H ps (.tup (is.map fun i:Nat=>V.int (i:Int)))/\is.Nodup/\(∀i∈is,i<2)/\
 (∀(i:Nat) (x:En),xs[i]? =some x->DpOk t kss base x.2.1/\x.2.2.length<=900)/\
 ∀H' xs',Pw K C H0 H' b c pl xs'->CdAt H' cd tb kt t kss->Stp (fun i D=>if i∈is then{D with kn:=hearK D nm age n}else D) 2 xs xs'->Q .non H'
end
def Qa(D:Dr)(e:Kb)(age c:Int):Kb:=(zz D (zz D e age c).2 age (c+1)).2
def QN(D:Dr)(e:Kb)(age c:Int):Int×Int:=((Qa D e age c).age,(Qa D e age c).last)
def Qc(a b:Int):Int:=if a<b then b else a
def Q1(a b:Int):Int:=if b<a then b else a
def Zv(D:Dr)(e:Kb)(D':Dr)(e':Kb):Int:=Q1 (e.last+D.far) (e'.last+D'.far)
def zZ(D:Dr)(e:Kb)(D':Dr)(e':Kb)(age c:Int):Bool:=decide (QN D e age c=QN D' e' age c)
def Qi(lo hi:Int)(p:Int->Bool):Option Int:=((List.range (hi-lo).toNat).map fun i:Nat=>lo+(i:Int)).find? p
def zS(D:Dr)(e:Kb)(D':Dr)(e':Kb):Option Int:=
 Qi (Qc e.last e'.last-1) (Q1 (Zv D e D' e'+1) 4095) (zZ D e D' e' (Qc e.age e'.age))
theorem c5{D:Dr}{e:Kb}{age c:Int}(h:c<=e.last):(zz D e age c).2=e:=by
 unfold zz zc;rw[Jd h];split<;>rfl
theorem jc{D:Dr}{e:Kb}{age c:Int}(nf:D.near<=D.far)(n0:1<=D.near)(h:e.last+D.far<c):(zz D e age c).2=e:=by
 unfold zz zc;split
 ·rw[Jc (by omega),Jc (by omega),Jc (by omega)]
 ·rfl
theorem ij(D:Dr)(e:Kb)(age c:Int):(zz D e age c).2.last=e.last\/(zz D e age c).2.last=c:=by
 unfold zz zc;split
 ·split
  ·exact .inl rfl
  ·split
   ·exact .inr rfl
   ·split
    ·split
     ·exact .inr rfl
     ·exact .inl rfl
    ·exact .inl rfl
 ·exact .inl rfl
theorem lR{D:Dr}{e:Kb}{age c:Int}(h:c+1<=e.last):QN D e age c=(e.age,e.last):=by
 unfold QN Qa;rw[c5 (c:=c) (by omega),c5 h]
theorem vW{D:Dr}{e:Kb}{age c:Int}(nf:D.near<=D.far)(n0:1<=D.near)(h:e.last+D.far<c):QN D e age c=(e.age,e.last):=by
 unfold QN Qa;rw[jc nf n0 h,jc nf n0 (by omega)]
theorem iU(D:Dr)(e:Kb)(age c:Int):(QN D e age c).2=e.last\/(QN D e age c).2=c\/(QN D e age c).2=c+1:=by
 show(Qa D e age c).last=_\/(Qa D e age c).last=_\/(Qa D e age c).last=_
 unfold Qa;rcases ij D (zz D e age c).2 age (c+1)with h|h
 ·rcases ij D e age c with h'|h'
  ·exact .inl (h.trans h')
  ·exact .inr (.inl (h.trans h'))
 ·exact .inr (.inr h)
section
variable{D D':Dr}{e e':Kb}{age c:Int}
theorem tK:zZ D e D' e' age c=zZ D' e' D e age c:=by
 unfold zZ;exact decide_eq_decide.mpr ⟨Eq.symm,Eq.symm⟩
theorem wm(h:e.last≠e'.last)(hc:c<Qc e.last e'.last-1):zZ D e D' e' age c=false:=by
 have key:∀{D D':Dr} {e e':Kb},e'.last<e.last->c<e.last-1->QN D e age c≠QN D' e' age c:=fun{D D' e e'} h hc q=>by
  have h2:=JP (·.2) q
  rw[lR (by omega)]at h2
  rcases iU D' e' age c with z|z|z<;>(rw[z]at h2;dsimp only at h2;omega)
 unfold zZ;refine Jr fun q=>?_
 unfold Qc at hc;split at hc
 ·exact key (by omega) hc q.symm
 ·exact key (by omega) hc q
theorem we(h:e.last≠e'.last)(nf:D.near<=D.far)(n0:1<=D.near)(nf':D'.near<=D'.far)(n0':1<=D'.near)(hc:Zv D e D' e'<c):zZ D e D' e' age c=false:=by
 have key:∀{D D':Dr} {e e':Kb},e.last≠e'.last->D.near<=D.far->1<=D.near->e.last+D.far<c->QN D e age c≠QN D' e' age c:=fun{D D' e e'} h nf n0 hc q=>by
  have h2:=JP (·.2) q
  rw[vW nf n0 hc]at h2;rcases iU D' e' age c with z|z|z<;>(rw[z]at h2;dsimp only at h2;omega)
 unfold zZ;refine Jr fun q=>?_
 unfold Zv Q1 at hc;split at hc
 ·exact key (Ne.symm h) nf' n0' hc q.symm
 ·exact key h nf n0 hc q
end
theorem aT{lo hi:Int}{p:Int->Bool}{c:Int}(h:Qi lo hi p=some c):lo<=c/\c<hi/\p c=true/\∀x,lo<=x->x<c->p x=false:=by
 unfold Qi at h;obtain⟨h1,as,bs,e,h2⟩:=List.find?_eq_some_iff_append.mp h
 have len:=JP List.length e;rw[Je,List.length_range,Jx,BM]at len;have ec:c=lo+(as.length:Int):=by
  have z:((List.range (hi-lo).toNat).map fun i:Nat=>lo+(i:Int))[as.length]? =some c:=by rw[e];simp
  rw[Jo,List.getElem?_range (by omega)]at z
  exact(Jv z).symm
 refine⟨by omega,by omega,h1,fun x hx1 hx2=>?_⟩
 have hm:x∈as:=by
  have hj:(x-lo).toNat<as.length:=by omega
  have z:((List.range (hi-lo).toNat).map fun i:Nat=>lo+(i:Int))[(x-lo).toNat]? =some x:=by
   rw[Jo,List.getElem?_range (by omega)]
   show some (lo+((x-lo).toNat:Int))=some x
   congr 1;omega
  rw[e,J0 hj]at z;exact JS z
 have:=h2 x hm
 simpa using this
theorem fM{lo hi:Int}{p:Int->Bool}(h:Qi lo hi p=none):∀x,lo<=x->x<hi->p x=false:=by
 intro x h1 h2
 have:=List.find?_eq_none.mp h x (Jw.mpr ⟨(x-lo).toNat,B6.mpr (by omega),by omega⟩)
 simpa using this
theorem aX{lo hi:Int}{p:Int->Bool}{c:Int}(h1:lo<=c)(h2:c<hi)(h3:p c=true)(h4:∀x,lo<=x->x<c->p x=false):Qi lo hi p=some c:=by
 cases e:Qi lo hi p with
 |none=>rw[fM e c h1 h2]at h3;cases h3
 |some d=>
  obtain⟨d1,d2,d3,d4⟩:=aT e;rcases Int.lt_trichotomy c d with z|z|z
  ·rw[d4 c h1 z]at h3;cases h3
  ·rw[z]
  ·rw[h4 d d1 z]at d3;cases d3
theorem gU{lo hi:Int}{p:Int->Bool}(h:∀x,lo<=x->x<hi->p x=false):Qi lo hi p=none:=by
 cases e:Qi lo hi p with
 |none=>rfl
 |some d=>
  obtain⟨d1,d2,d3,d4⟩:=aT e;rw[h d d1 d2]at d3;cases d3
theorem mO{lo hi lo' hi':Int}{p:Int->Bool}(hl:lo'<=lo)(hh:hi<=hi')(h1:∀x,lo'<=x->x<lo->p x=false)(h2:∀x,hi<=x->x<hi'->p x=false):Qi lo' hi' p=Qi lo hi p:=by
 cases e:Qi lo hi p with
 |some c=>
  obtain⟨c1,c2,c3,c4⟩:=aT e;refine aX (by omega) (by omega) c3 fun x x1 x2=>?_
  by_cases hx:x<lo
  ·exact h1 x x1 hx
  ·exact c4 x (by omega) x2
 |none=>
  refine gU fun x x1 x2=>?_
  by_cases hx:x<lo
  ·exact h1 x x1 hx
  ·by_cases hy:x<hi
   ·exact fM e x (by omega) hy
   ·exact h2 x (by omega) x2
theorem tf{t:List Int}{kss:List (List Int)}{base:Int}{D D':Dr}{nm nm':Str}{e e':Kb}(dp:DpOk t kss base D)(dp':DpOk t kss base D')(he:D.kn.lookup nm=some e)(he':D'.kn.lookup nm'=some e')(h:e.last≠e'.last):
  Qi base (Q1 4095 (base+42)) (zZ D e D' e' (Qc e.age e'.age))=zS D e D' e':=by
 obtain⟨_,b1,b2⟩:=dp.kb _ (zI he)
 obtain⟨_,b1',b2'⟩:=dp'.kb _ (zI he')
 have f1:=dp.f1;have f1':=dp'.f1;simp only at b1 b2 b1' b2'
 unfold zS;refine mO (by unfold Qc;split<;>omega) (by unfold Q1 Zv Q1;split<;>split<;>split<;>omega) (fun x _ hx=>wm h hx) (fun x h1 h2=>?_)
 refine we h dp.f0 dp.n0 dp'.f0 dp'.n0 ?_
 unfold Q1 at h1 h2;split at h1<;>split at h2<;>omega
theorem eu(D D':Dr)(e e':Kb):zS D e D' e'=zS D' e' D e:=by
 have m1:∀a b:Int,Qc a b=Qc b a:=fun a b=>by unfold Qc;split<;>split<;>omega
 have m2:Zv D e D' e'=Zv D' e' D e:=by unfold Zv Q1;split<;>split<;>omega
 unfold zS;rw[m1 e.last,m1 e.age,m2];congr 1
 funext c
 exact tK
def zJ(D D':Dr)(ss:List Str):List (Str×Option Int):=ss.filterMap fun nm=>match D.kn.lookup nm,D'.kn.lookup nm with
 |some e,some e'=>if e.last=e'.last then none else some (nm,zS D e D' e')
 |_,_=>none
theorem wX(D D':Dr)(ss:List Str):zJ D D' ss=zJ D' D ss:=by
 unfold zJ;congr 1
 funext nm
 cases D.kn.lookup nm with
 |none=>cases D'.kn.lookup nm<;>rfl
 |some e=>
  cases D'.kn.lookup nm with
  |none=>rfl
  |some e'=>
   show(if e.last=e'.last then none else some (nm,zS D e D' e'))=(if e'.last=e.last then none else some (nm,zS D' e' D e))
   rw[eu D D' e e']
   by_cases z:e.last=e'.last
   ·rw[Jd z,Jd z.symm]
   ·rw[Jc z,Jc (Ne.symm z)]
theorem pS(D D':Dr)(ss:List Str):zJ D D' (ss.filter fun nm=>(D'.kn.lookup nm).isSome)=zJ D D' ss:=by
 unfold zJ;rw[List.filterMap_filter];congr 1
 funext nm
 cases D'.kn.lookup nm with
 |none=>cases D.kn.lookup nm<;>rfl
 |some e'=>rfl
theorem j4{D D':Dr}{ss cs:List Str}(hs:ss.Perm (D.kn.map (·.1)))(so:sortedS ss=true)(nd:cs.Nodup)(nD:(D.kn.map (·.1)).Nodup)(hc:∀k,k∈cs↔k∈D.kn.map (·.1)/\k∈D'.kn.map (·.1))(sc:sortedS cs=true):zJ D D' cs=zJ D D' ss:=by
 rw[<- pS D D' ss];congr 1
 have hp:cs.Perm (ss.filter fun nm=>(D'.kn.lookup nm).isSome):=by
  refine(List.perm_ext_iff_of_nodup nd (List.Pairwise.filter _ (hs.nodup_iff.mpr nD))).mpr fun k=>?_
  rw[hc,List.mem_filter,hs.mem_iff];constructor
  ·rintro⟨a,b⟩;exact⟨a,lookup_mem_iff.mpr b⟩
  ·rintro⟨a,b⟩;exact⟨a,lookup_mem_iff.mp b⟩
 refine List.Perm.eq_of_pairwise (le:=rD) (fun x y _ _ h1 h2=>?_) (ZL sc) ((ZL so).filter _) hp
 have e:x.cps.toList=y.cps.toList:=List.le_antisymm h1 h2
 cases x with
 |mk u=>cases y with
  |mk v=>
   have:u=v:=Array.toList_inj.mp e
   rw[this]
theorem jx{D:Dr}{a l age c:Int}(tk:qY D ⟨a,l,none⟩ age=true)(n0:1<=D.near)(h1:l+D.near<c)(h2:c+1<=l+D.far):QN D ⟨a,l,none⟩ age c=(age,c+1):=by
 have e1:(zz D ⟨a,l,none⟩ age c).2=⟨a,l,some (age,c)⟩:=by
  unfold zz zc;rw[Jd tk,Jc (show¬c<=l by omega),Jc (show¬c<=l+D.near by omega),Jd (show c<=l+D.far by omega),Jc (by simp)]
 have tk2:qY D ⟨a,l,some (age,c)⟩ age=true:=tk
 have e2:(zz D ⟨a,l,some (age,c)⟩ age (c+1)).2=⟨age,c+1,none⟩:=by
  unfold zz zc;rw[Jd tk2,Jc (show¬c+1<=l by omega),Jc (show¬c+1<=l+D.near by omega),Jd (show c+1<=l+D.far by omega),Jd (show some (age,c)=some (age,c+1-1) by congr 2;omega)]
 unfold QN Qa;rw[e1,e2]
theorem sM{D:Dr}{a l age:Int}(tk:qY D ⟨a,l,none⟩ age=true)(n0:1<=D.near):QN D ⟨a,l,none⟩ age l=(age,l+1):=by
 have e1:(zz D ⟨a,l,none⟩ age l).2=⟨a,l,none⟩:=c5 (Cz _)
 have e2:(zz D ⟨a,l,none⟩ age (l+1)).2=⟨age,l+1,none⟩:=by
  unfold zz zc;rw[Jd tk,Jc (show¬l+1<=l by omega),Jd (show l+1<=l+D.near by omega)]
 unfold QN Qa;rw[e1,e2]
theorem mw{D D':Dr}{a0 a1 l L:Int}(ha:a1<=a0)(tk:qY D ⟨a0,l,none⟩ a0=true)(tk':qY D' ⟨a1,L,none⟩ a0=true)(n0:1<=D.near)(n1:D.near<=63)(n0':1<=D'.near)(f0:900<=D.far)(f0':900<=D'.far)
  (m0:l+70<=L)(m1:L<=l+894)(hL:L<=4000):zS D ⟨a0,l,none⟩ D' ⟨a1,L,none⟩=some (L-1+if a1<a0 then 1 else 0):=by
 have eM:Qc l L=L:=by unfold Qc;rw[Jd (by omega)]
 have eA:Qc a0 a1=a0:=by unfold Qc;split<;>omega
 have eE:L<Q1 (Zv D ⟨a0,l,none⟩ D' ⟨a1,L,none⟩+1) 4095:=by
  show L<Q1 (Q1 (l+D.far) (L+D'.far)+1) 4095
  unfold Q1;split<;>split<;>omega
 unfold zS
 show Qi (Qc l L-1) _ (zZ D _ D' _ (Qc a0 a1))=_
 rw[eM,eA];have p1:QN D ⟨a0,l,none⟩ a0 (L-1)=(a0,L):=by rw[jx tk n0 (by omega) (by omega)];congr 1;omega
 have q1:QN D' ⟨a1,L,none⟩ a0 (L-1)=(a1,L):=lR (by show L-1+1<=L;omega)
 by_cases h:a1<a0
 ·rw[Jd h]
  refine aX (by omega) (by omega) ?_ fun x h1 h2=>?_
  ·rw[show L-1+1=L by omega]
   unfold zZ;rw[jx tk n0 (by omega) (by omega),sM tk' n0']
   exact Jk rfl
  ·obtain rfl:x=L-1:=by omega
   unfold zZ;rw[p1,q1];exact Jr fun z=>by injection z with z;omega
 ·rw[Jc h]
  refine aX (by omega) (by omega) ?_ fun x h1 h2=>by omega
  rw[show L-1+0=L-1 by omega]
  unfold zZ;rw[p1,q1,show a1=a0 by omega]
  exact Jk rfl
end L3
namespace Lw
open PySem L2 L3
def qZ(i:Nat):Stmt:=PySem.Challenge.pw_rollcode_k36_brought_together.main.body.getD i (.Pass ⟨0,0,0,0⟩)
abbrev ai:Stmt:=qZ 3
abbrev aV:Stmt:=qZ 4
abbrev ZZ:Stmt:=qZ 5
abbrev Z2:Stmt:=qZ 6
abbrev fY:Stmt:=qZ 7
abbrev cy:Stmt:=qZ 8
abbrev bU:Stmt:=qZ 14
abbrev bQ:Stmt:=qZ 15
abbrev aW:Stmt:=qZ 16
abbrev Ze:Stmt:=qZ 17
abbrev c6:Stmt:=qZ 18
abbrev Zu:Stmt:=qZ 19
abbrev aU:Stmt:=qZ 20
abbrev ZT:Stmt:=qZ 21
abbrev bJ:Stmt:=qZ 34
abbrev cu:Stmt:=qZ 35
abbrev ZI:Stmt:=zD (qZ 37) 0
abbrev Zo:Stmt:=zD (qZ 37) 2
abbrev Q2:Stmt:=zD (qZ 37) 8
abbrev Q5:Stmt:=zD (qZ 37) 11
abbrev QU:Stmt:=zD (qZ 37) 10
abbrev Qd:Stmt:=zD (qZ 37) 9
abbrev Q0:Stmt:=zD (qZ 37) 7
abbrev aA:Stmt:=zD (qZ 37) 6
abbrev QR:Stmt:=zD (qZ 37) 12
abbrev ZV:Stmt:=zD (qZ 37) 1
abbrev Qw:Stmt:=zD (qZ 37) 5
abbrev Q4:Stmt:=zD (qZ 37) 13
abbrev QC:Stmt:=zD (qZ 37) 16
abbrev Zp:Stmt:=zD (qZ 37) 18
abbrev ZH:Stmt:=qZ 23
abbrev Z5:Stmt:=qZ 24
abbrev Zr:Stmt:=qZ 27
abbrev Zc:Stmt:=qZ 26
abbrev cg:Stmt:=qZ 25
abbrev cj:Stmt:=qZ 39
abbrev bm:Stmt:=qZ 40
abbrev aj:Stmt:=qZ 41
abbrev bP:Stmt:=qZ 42
abbrev am:Stmt:=qZ 43
abbrev aR:Stmt:=qZ 45
abbrev bi:Stmt:=qZ 46
abbrev ap:Stmt:=qZ 47
abbrev ZU:Stmt:=qZ 48
abbrev ar:Stmt:=qZ 49
abbrev Z7:Stmt:=qZ 50
abbrev bh:Stmt:=qZ 51
abbrev az:Stmt:=qZ 52
abbrev ao:Stmt:=qZ 53
abbrev Z3:Stmt:=qZ 44
abbrev bK:Stmt:=qZ 54
abbrev bL:Stmt:=qZ 55
abbrev Zk:Stmt:=qZ 56
abbrev ZJ:Stmt:=qZ 57
theorem q8{N P:List Str}{c:Scope}(h1:c.kind= .function:=by rfl)(h2:c.isCoroutine=false:=by rfl)(h3:c.isGenerator=false:=by rfl)(h4:N.Nodup:=by decide +kernel)(h5:N.take P.length=P:=by rfl)(h6:∀x∈P,c.names.lookup x=some .local\/c.names.lookup x=some .cell:=by decide +kernel)(h7:∀y∈c.names,y.2≠ .free:=by decide +kernel):FnScope N P c:=⟨h1,h2,h3,h4,h5,h6,h7⟩
theorem jY:FnScope (["thing"]:List Str) (["thing"]:List Str) (qo ai):=q8
theorem kL:FnScope (["thing"]:List Str) (["thing"]:List Str) (qo aV):=q8
theorem iL:FnScope (["things"]:List Str) (["things"]:List Str) (qo ZZ):=q8
theorem sc_back_table:FnScope (["table","back","place","digit"]:List Str) (["table"]:List Str) (qo Z2):=q8
theorem sc_coded:FnScope (["table","key","digits","row","shift","place","ahead"]:List Str) (["table","key","digits"]:List Str) (qo fY):=q8
theorem sc_decoded:FnScope (["table","key","digits","back","row","shift","place","ahead"]:List Str) (["table","key","digits"]:List Str) (qo cy):=q8
theorem nz:FnScope (["thing"]:List Str) (["thing"]:List Str) (qo bU):=q8
theorem oG:FnScope (["thing"]:List Str) (["thing"]:List Str) (qo bQ):=q8
theorem sc_is_press:FnScope (["thing","name","age","code"]:List Str) (["thing"]:List Str) (qo aW):=q8
theorem sc_letter_digits:FnScope (["name","digits","letter","place"]:List Str) (["name"]:List Str) (qo Ze):=q8
theorem sc_key_of:FnScope (["table","key","name","sums","place","digit"]:List Str) (["table","key","name"]:List Str) (qo c6):=q8
theorem fi:FnScope (["count"]:List Str) (["count"]:List Str) (qo Zu):=q8
theorem sc_press_of:FnScope (["table","key","name","age","count","deed","four","five"]:List Str) (["table","key","name","age","count","deed"]:List Str) (qo aU):=q8
theorem sc_read_press:FnScope (["table","key","press","name","age","code","low","middle","high","deed","check"]:List Str) (["table","key","press"]:List Str) (qo ZT):=q8
theorem nM:FnScope (["count","last","near","far"]:List Str) (["count","last","near","far"]:List Str) (qo bJ):=q8
theorem sc_step_by:FnScope (["button","age","count","near","far","own_age","last","waiting","word"]:List Str) (["button","age","count","near","far"]:List Str) (qo cu):=q8
theorem gc:FnScope (["self","table","keys","near","far","most"]:List Str) (["self","table","keys","near","far","most"]:List Str) (qo ZI):=q8
theorem fC:FnScope (["self"]:List Str) (["self"]:List Str) (qo Zo):=q8
theorem cM:FnScope (["self","name"]:List Str) (["self","name"]:List Str) (qo Q2):=q8
theorem cO:FnScope (["self","age"]:List Str) (["self","age"]:List Str) (qo Q5):=q8
theorem bN:FnScope (["self","button","age"]:List Str) (["self","button","age"]:List Str) (qo QU):=q8
theorem ZE:FnScope (["self","button","age","count"]:List Str) (["self","button","age","count"]:List Str) (qo Qd):=q8
theorem sc_Door_answer_to:FnScope (["self","press","name","age","code","button","pair","count","deed","word","behind"]:List Str) (["self","press"]:List Str) (qo Q0):=q8
theorem sc_Door_hear:FnScope (["self","thing","answer"]:List Str) (["self","thing"]:List Str) (qo aA):=q8
theorem bH:FnScope (["self","thing"]:List Str) (["self","thing"]:List Str) (qo QR):=q8
theorem sc_Door_learn:FnScope (["self","one","other","first","second","name","age","code"]:List Str) (["self","one","other"]:List Str) (qo ZV):=q8
theorem bE:FnScope (["self","age"]:List Str) (["self","age"]:List Str) (qo Qw):=q8
theorem cP:FnScope (["self"]:List Str) (["self"]:List Str) (qo Q4):=q8
theorem bC:FnScope (["self"]:List Str) (["self"]:List Str) (qo QC):=q8
theorem fA:FnScope (["self"]:List Str) (["self"]:List Str) (qo Zp):=q8
theorem gs:FnScope (["door"]:List Str) (["door"]:List Str) (qo ZH):=q8
theorem iC:FnScope (["one","first","other","second"]:List Str) (["one","first","other","second"]:List Str) (qo Z5):=q8
theorem sc_age_and_last:FnScope (["door","button","age","count","word"]:List Str) (["door","button","age","count"]:List Str) (qo Zr):=q8
theorem sc_count_brought:FnScope (["one","first","other","second","age","least","end","count"]:List Str) (["one","first","other","second"]:List Str) (qo Zc):=q8
theorem sc_brought:FnScope (["one","other","told","name","first","second"]:List Str) (["one","other"]:List Str) (qo cg):=q8
theorem sc_law_box:FnScope (["_law_script","_law_k","_law_cell","_law_fold","_law_one"]:List Str) (["_law_script","_law_k"]:List Str) (qo cj):=q8
theorem sc_law_take:FnScope (["_law_box_here","_law_many","_law_digit","_law_m","_law_turn"]:List Str) (["_law_box_here","_law_many"]:List Str) (qo bm):=q8
theorem sc_law_table:FnScope (["_law_box_here","_law_rest"]:List Str) (["_law_box_here"]:List Str) (qo aj):=q8
theorem ng:FnScope (["_law_box_here"]:List Str) (["_law_box_here"]:List Str) (qo bP):=q8
theorem ju:FnScope (["_law_near","_law_far","_law_keys"]:List Str) (["_law_near","_law_far","_law_keys"]:List Str) (qo am):=q8
theorem sc_law_word:FnScope (["_law_own","_law_plain","_law_name","_law_age","_law_count","_law_row","_law_gone"]:List Str) (["_law_own","_law_plain"]:List Str) (qo aR):=q8
theorem sc_law_hear:FnScope (["_law_own","_law_plain","_law_word_here","_law_name","_law_age","_law_count"]:List Str) (["_law_own","_law_plain"]:List Str) (qo bi):=q8
theorem sc_law_press:FnScope (["_law_code","_law_plain","_law_deed","_law_name","_law_age","_law_count"]:List Str) (["_law_code","_law_plain","_law_deed"]:List Str) (qo ap):=q8
theorem sc_law_learnt:FnScope (["_law_code","_law_pair_here","_law_name","_law_told","_law_place","_law_age","_law_last","_law_presses"]:List Str) (["_law_code","_law_pair_here","_law_name","_law_told"]:List Str) (qo ZU):=q8
theorem sc_law_heard:FnScope (["_law_code","_law_pair_here","_law_plain","_law_places","_law_place"]:List Str) (["_law_code","_law_pair_here","_law_plain","_law_places"]:List Str) (qo ar):=q8
theorem sc_law_bounds:FnScope (["_law_box_here","_law_near","_law_far","_law_other"]:List Str) (["_law_box_here"]:List Str) (qo Z7):=q8
theorem sc_law_pair:FnScope (["_law_box_here","_law_drawn_here","_law_names","_law_many","_law_base","_law_code","_law_pair_here","_law_near","_law_far","_law_name","_law_age","_law_last","_law_other","_law_way","_law_some","_law_told","_law_turn","_law_plain","_law_door","_law_own"]:List Str) (["_law_box_here","_law_drawn_here"]:List Str) (qo bh):=q8
theorem sc_law_drawn:FnScope (["_law_box_here","_law_some","_law_many","_law_names"]:List Str) (["_law_box_here"]:List Str) (qo az):=q8
theorem bX:FnScope (["_law_found","_law_due_here"]:List Str) (["_law_found","_law_due_here"]:List Str) (qo ao):=q8
theorem sc_law_copied:FnScope (["_law_own","_law_made"]:List Str) (["_law_own"]:List Str) (qo Z3):=q8
theorem sc_law_met:FnScope (["_law_owns","_law_name","_law_age","_law_count","_law_made","_law_own"]:List Str) (["_law_owns","_law_name","_law_age","_law_count"]:List Str) (qo bK):=q8
theorem sc_law_due:FnScope (["_law_owns","_law_base","_law_found","_law_name","_law_here","_law_there","_law_age","_law_some"]:List Str) (["_law_owns","_law_base"]:List Str) (qo bL):=q8
theorem sc_law_far_right:FnScope (["_law_box_here","_law_code","_law_far","_law_pair_here","_law_last","_law_more","_law_ages","_law_first","_law_told","_law_due_here"]:List Str) (["_law_box_here"]:List Str) (qo Zk):=q8
theorem sc_law:FnScope (["_law_script","_law_k","_law_box_here","_law_names","_law_many","_law_base","_law_code","_law_pair_here","_law_more","_law_name","_law_told","_law_door","_law_own","_law_age","_law_turn","_law_plain","_law_one","_law_here","_law_other","_law_there","_law_held","_law_due_here"]:List Str) (["_law_script"]:List Str) (qo ZJ):=q8
structure Txt(K:Frag)(mg:Str->Option Value)(tk:Nat->Tok):Prop where
 g_DIGITS:mg "DIGITS"=some (.int 16 (tk 0))
 g_KEY_PLACES:mg "KEY_PLACES"=some (.int 4 (tk 1))
 g_LONGEST_NAME:mg "LONGEST_NAME"=some (.int 8 (tk 2))
 g_CODE_DIGITS:mg "CODE_DIGITS"=some (.int 5 (tk 3))
 g_COUNTS:mg "COUNTS"=some (.int 4096 (tk 4))
 b_isinstance:mg "isinstance"=none
 b_bool:mg "bool"=none
 b_int:mg "int"=none
 b_tuple:mg "tuple"=none
 b_all:mg "all"=none
 b_any:mg "any"=none
 b_len:mg "len"=none
 b_abs:mg "abs"=none
 b_list:mg "list"=none
 b_enumerate:mg "enumerate"=none
 b_range:mg "range"=none
 b_max:mg "max"=none
 b_min:mg "min"=none
 b_str:mg "str"=none
 b_zip:mg "zip"=none
 b_ord:mg "ord"=none
 b_sum:mg "sum"=none
 b_reversed:mg "reversed"=none
 b_sorted:mg "sorted"=none
 b_dict:mg "dict"=none
 b_set:mg "set"=none
section
variable{P:Program}{w:World}{K:Frag}{mg:Str->Option Value}{base:Heap}{tk:Nat->Tok}
theorem jf(a:At K mg "is_number" ai ["thing"])(T:Txt K mg tk):Df P w K mg base "is_number" ["thing"] 1 c8:=by
 refine a.dq jY (fun vs H Q E h=>?_) (fun f cdv A outer s H vs Q E hr h=>?_)
 ·obtain⟨x,t,rfl,_⟩:=h
  rfl
 ·obtain⟨x,t,rfl,hk,q⟩:=h
  obtain⟨ty,ht⟩:=Bd (K:=K) hk
  refine⟨_,(qg (qu (zA (qm jJ (by rfl) T.b_isinstance Ju (qc (qv 0) (qc (qG (v:= .ty "int") rfl T.b_int B5 rfl) qb))) (QD (Z0 (qm jJ (by rfl) T.b_isinstance Ju (qc (qv 0) (qc (qG (v:= .ty "bool") rfl T.b_bool CJ rfl) qb)))))))),?_⟩
  rw[wV hk]at q;refine⟨_,rfl,x,"int",t,rfl,ty,ht,by simp,_,rfl,?_⟩
  cases hi:zn t "int" with
  |false=>
   refine zr ?_
   rw[hi,BL]at q;exact q
  |true=>
   refine zx ?_
   rw[hi,Cg]at q
   exact⟨_,rfl,x,"bool",t,rfl,ty,ht,by simp,_,rfl,q⟩
theorem li(a:At K mg "is_digit" aV ["thing"])(T:Txt K mg tk)(dQ:Df P w K mg base "is_number" ["thing"] 1 c8):Df P w K mg base "is_digit" ["thing"] 2 mI:=by
 refine a.dq kL (fun vs H Q E h=>?_) (fun f cdv A outer s H vs Q E hr h=>?_)
 ·obtain⟨x,t,rfl,_⟩:=h
  rfl
 ·obtain⟨x,t,rfl,hk,q⟩:=h
  refine⟨_,(qg (qu (zA (qq dQ hr.mo (qc (qv 0) qb)) (QD (eD ZK eO qf (qv 0) (zm (v:= .int 16) rfl T.g_DIGITS ⟨_,rfl⟩)))))),?_⟩
  refine⟨_,rfl,x,t,rfl,hk,_,rfl,?_⟩
  cases hn:eF x with
  |false=>
   refine zr ?_
   rw[sq hn]at q;exact q
  |true=>
   refine zx ?_
   obtain⟨i,rfl⟩:=uA hn;refine⟨_,rfl,_,_,rfl,rfl,_,rfl,?_⟩
   have q':Q (.bl (decide (0<=i)&&decide (i<16))) H:=q
   refine q9 (fun h0=>?_) (fun h0=>?_)
   ·refine⟨_,_,rfl,rfl,?_⟩
    rw[h0,Cg]at q';exact q'
   ·rw[DJ.mpr h0,BL]at q'
    exact q'
theorem iM(a:At K mg "are_digits" ZZ ["things"])(T:Txt K mg tk)(xW:Df P w K mg base "is_digit" ["thing"] 2 mI):Df P w K mg base "are_digits" ["things"] 3 kJ:=by
 refine a.dq iL (fun vs H Q E h=>?_) (fun f cdv A outer s H vs Q E hr h=>?_)
 ·obtain⟨x,t,rfl,_⟩:=h
  rfl
 ·obtain⟨p,xs,rfl,hp,hz,hk,q⟩:=h
  refine⟨_,(qg (qu (qm (ac rfl) (by rfl) T.b_all DA (qc (zU (own:=["thing"]) (fr:=[]) (js:=[]) rfl (bY (qv 0)) rfl (fun _ _ h=>nomatch h) rfl (cm rfl (by decide +kernel) (by decide +kernel) (by decide +kernel)) (fun _ _ _ _=>qh (i:=0) (show List.Nodup (["thing"]:List Str)from by decide +kernel) rfl (Or.inl rfl) (.inr rfl)) (fun _ _ _ _=>(qq xW hr.mo (qc (qv 0) qb)))) qb)))),?_⟩
  refine⟨_,rfl,p,rfl,⟨xs,SqT.of hp⟩,bt (xs:=xs) hz (fun i ys H2=>ys=(xs.take i).map (fun x=>V.bl (bo x))/\Same H H2) ⟨by simp,Same.refl H⟩ (fun i ys H2 ⟨_,s2⟩=>SqT.of (s2 _ _ hp)) ?_ ?_⟩
  ·rintro i ys H2 x hx _ ⟨rfl,s2⟩
   obtain⟨t,ht⟩:=hk x (JS hx)
   refine⟨_,rfl,x,t,rfl,cz s2 ht,?_,s2⟩
   rw[J5,hx];simp
  ·rintro ys H2 _ ⟨rfl,s2⟩ l hl
   rw[B0];refine⟨l,xs.map bo,rfl,SqL.of (by rw[Cv];exact qd),?_⟩
   rw[List.all_map];exact q _ (s2.trans (Same.upd hl))
theorem nv(a:At K mg "is_name" bU ["thing"])(T:Txt K mg tk):Df P w K mg base "is_name" ["thing"] 1 hV:=by
 refine a.dq nz (fun vs H Q E h=>?_) (fun f cdv A outer s H vs Q E hr h=>?_)
 ·obtain⟨_,_,rfl,_⟩:=h
  rfl
 ·obtain⟨x,b,rfl,hx,q⟩:=h
  refine⟨_,(qe (qJ (QW.pt (Qe (Qh (zd (qm qK (by rfl) T.b_isinstance Ju (qc (qv 0) (qc (qG (v:= .ty "str") rfl T.b_str CK rfl) qb))))) (zP (Qh (jk ZK ZK qf (qm jq (by rfl) T.b_len JY (qc (qv 0) qb)) (zm (v:= .int 8) rfl T.g_LONGEST_NAME ⟨_,rfl⟩)))))) (qg (qu Zj)) qB)
   (qg (qu (qm (ac rfl) (by rfl) T.b_all DA (qc (zU (own:=["letter"]) (fr:=[]) (js:=[]) rfl (rb (qv 0)) rfl (fun _ _ h=>nomatch h) rfl (cm rfl (by decide +kernel) (by decide +kernel) (by decide +kernel)) (fun _ _ _ _=>qh (i:=0) (show List.Nodup (["letter"]:List Str)from by decide +kernel) rfl (Or.inl rfl) (.inr rfl)) (fun _ _ _ _=>(eD gQ gQ qz (qv 0) qz))) qb))))),?_⟩
  rcases hx with⟨z,rfl,hz,hl,rfl⟩|⟨t,hk,hs,rfl⟩
  case inr=>
   refine⟨_,rfl,x,"str",t,rfl,jB hk,by simp,_,rfl,?_⟩
   rw[hs];exact zx (q _ (Same.refl _))
  have zl:z.length=z.cps.toList.length:=rfl
  refine⟨_,rfl,_,"str","str",rfl,.str z,by simp,_,rfl,?_⟩
  refine zr ?_
  refine⟨_,rfl,z,rfl,by rw[Jz];omega,_,_,rfl,rfl,_,rfl,?_⟩
  unfold vv at q
  by_cases h1:1<=z.length
  case neg=>
   refine QB (Jr (by omega)) ⟨_,rfl,zx ?_⟩
   rw[Jr h1,BL,BL]at q;exact q _ (Same.refl _)
  refine Qs (Jk (by omega)) ?_
  refine⟨_,_,rfl,rfl,_,rfl,?_⟩
  rw[Jk h1,Cg]at q
  by_cases h8:z.length<=8
  case neg=>
   refine Qs (by rw[Jr (by omega:¬((z.length:Nat):Int)<=8)];rfl) ?_
   rw[Jr h8,BL]at q;exact q _ (Same.refl _)
  refine QB (by rw[Jk (by omega:((z.length:Nat):Int)<=8)];rfl) ?_
  rw[Jk h8,Cg]at q;refine⟨_,rfl,z,rfl,hz,uj (by show z.cps.toList.length<=_;rw[Jz];omega) (fun i ys H2=>H2=H/\ys=((z.cps.toList.take i).map kq).map V.bl) ⟨rfl,rfl⟩ ?_ ?_⟩
  ·rintro i ys H2 c hc _ ⟨rfl,rfl⟩
   have hc':=mf hc;obtain⟨l1,l2⟩:=nO c;refine⟨_,rfl,_,_,rfl,rfl,_,rfl,?_⟩
   rw[J5,hc',JH,JH]
   by_cases h97:97<=c
   ·refine Qs (by rw[l1,Jk h97]) ⟨_,_,rfl,rfl,rfl,?_⟩
    rw[l2]
    show _=_++[V.bl (decide (97<=c)&&decide (c<=122))]
    rw[Jk h97,Cg]
   ·refine QB (by rw[l1,Jr h97]) ⟨rfl,?_⟩
    show _=_++[V.bl (decide (97<=c)&&decide (c<=122))]
    rw[Jr h97,BL]
  ·rintro ys H2 hl ⟨rfl,rfl⟩ l hl'
   refine⟨l,z.cps.toList.map kq,rfl,SqL.of (by rw[show z.cps.size=z.cps.toList.length from rfl,B0];exact qd),?_⟩
   rw[List.all_map];exact q _ (Same.upd hl')
theorem om(a:At K mg "is_code" bQ ["thing"])(T:Txt K mg tk)(xR:Df P w K mg base "are_digits" ["things"] 3 kJ):Df P w K mg base "is_code" ["thing"] 4 hX:=by
 refine a.dq oG (fun vs H Q E h=>?_) (fun f cdv A outer s H vs Q E hr h=>?_)
 ·obtain⟨_,_,rfl,_⟩:=h
  rfl
 ·obtain⟨x,b,rfl,hx,q⟩:=h
  refine⟨_,(qe (qJ (Qh (zd (qm qK (by rfl) T.b_isinstance Ju (qc (qv 0) (qc (qG (v:= .ty "tuple") rfl T.b_tuple JD rfl) qb))))) (qg (qu Zj)) qB)
   (qg (qu (zA (zf zp (qm qQ (by rfl) T.b_len JY (qc (qv 0) qb)) (zm (v:= .int 5) rfl T.g_CODE_DIGITS ⟨_,rfl⟩) (qA _)) (QD (qq xR hr.mo (qc (qv 0) qb))))))),?_⟩
  rcases hx with⟨pc,ds,rfl,hp,hl,hk,rfl⟩|⟨t,hk,hs,rfl⟩
  case inr=>
   refine⟨_,rfl,x,"tuple",t,rfl,jB hk,by simp,_,rfl,?_⟩
   rw[hs];exact zx (q _ (Same.refl _))
  refine⟨_,rfl,_,"tuple","tuple",rfl,.tup (.inl hp),by simp,_,rfl,?_⟩
  refine zr ?_
  refine⟨_,rfl,pc,_,rfl,.inr (SqT.of hp),rfl,_,rfl,?_⟩
  by_cases h5:ds.length=5
  ·refine Qs (Jk (by rw[h5];rfl)) ?_
   refine⟨_,rfl,pc,_,rfl,hp,by rw[Jz];omega,hk,fun H' s'=>?_⟩
   rw[Jk h5,Cg]at q;exact q _ s'
  ·rw[Jr h5,BL]at q
   refine QB (Jr (by intro z;injection z with z;omega)) ?_
   exact q _ (Same.refl _)
theorem kM(a:At K mg "is_press" aW ["thing"])(T:Txt K mg tk)(x6:Df P w K mg base "is_name" ["thing"] 1 hV)(dQ:Df P w K mg base "is_number" ["thing"] 1 c8)(x8:Df P w K mg base "is_code" ["thing"] 4 hX):Df P w K mg base "is_press" ["thing"] 5 bb:=by
 refine a.dq sc_is_press (fun vs H Q E h=>?_) (fun f cdv A outer s H vs Q E hr h=>?_)
 ·obtain⟨_,_,rfl,_⟩:=h
  rfl
 ·obtain⟨x,b,rfl,hx,q⟩:=h
  refine⟨_,(qe (qJ (QW.pt (Qe (Qh (zd (qm qK (by rfl) T.b_isinstance Ju (qc (qv 0) (qc (qG (v:= .ty "tuple") rfl T.b_tuple JD rfl) qb))))) (zP (qE Zi (qm qQ (by rfl) T.b_len JY (qc (qv 0) qb)) qf (qA _))))) (qg (qu Zj)) qB)
   (qe (ze (qv 0) (zj rfl (qr (qh (i:=1) sc_is_press.nd rfl (Or.inl rfl)) (qr (qh (i:=2) sc_is_press.nd rfl (Or.inl rfl)) (qr (qh (i:=3) sc_is_press.nd rfl (Or.inl rfl)) qN)))))
   (qg (qu (zA (qq x6 hr.mo (qc (qv 1) qb)) (zA (qq dQ hr.mo (qc (qv 2) qb)) (QD (qq x8 hr.mo (qc (qv 3) qb))))))))),?_⟩
  cases hx with
  | @kd t hk hs=>
   refine⟨_,rfl,x,"tuple",t,rfl,jB hk,by simp,_,rfl,?_⟩
   rw[hs];exact zx (q _ (Same.refl _))
  | @len a xs e h l n=>
   subst e;refine⟨_,rfl,_,"tuple","tuple",rfl,.tup (.inl h),by simp,_,rfl,?_⟩
   refine zr ?_
   refine⟨_,rfl,a,_,rfl,.inr (SqT.of h),rfl,_,rfl,?_⟩
   refine Qs (by rw[Jr (by intro z;injection z with z;omega)];rfl) ?_
   exact q _ (Same.refl _)
  | @tup a n y c bn bc ty e h hn hy hc=>
   subst e;refine⟨_,rfl,_,"tuple","tuple",rfl,.tup (.inl h),by simp,_,rfl,?_⟩
   refine zr ?_
   refine⟨_,rfl,a,_,rfl,.inr (SqT.of h),rfl,_,rfl,?_⟩
   refine ZP rfl ?_
   refine⟨_,rfl,a,_,rfl,.tup h,rfl,_,_,rfl,_,_,rfl,_,_,rfl,rfl,?_⟩
   refine⟨_,rfl,n,bn,rfl,hn,fun H1 s1=>⟨_,rfl,?_⟩⟩
   cases bn with
   |false=>exact zr (q _ s1)
   |true=>
    refine zx ?_
    refine⟨_,rfl,y,ty,rfl,cz s1 hy,_,rfl,?_⟩
    cases hnum:eF y with
    |false=>
     rw[hnum]at q;exact zr (q _ s1)
    |true=>
     rw[hnum]at q;refine zx ?_
     exact⟨_,rfl,c,bc,rfl,hc.same s1,fun H2 s2=>q _ (s1.trans s2)⟩
theorem nV(a:At K mg "word_of" bJ ["count","last","near","far"])(T:Txt K mg tk):Df P w K mg base "word_of" ["count","last","near","far"] 1 lZ:=by
 refine a.dq nM (fun vs H Q E h=>?_) (fun f cdv A outer s H vs Q E hr h=>?_)
 ·obtain⟨c,l,n,f,rfl,_⟩:=h
  rfl
 ·obtain⟨c,l,n,f,rfl,q⟩:=h
  unfold n9 at q;refine⟨_,(qe (qJ (qE ZK (qv 0) (qv 1) (qA _)) (qg (qu qz)) qB)
   (qe (qJ (qE ZK (qv 0) (qw qH (qv 1) (qv 2)) (qA _)) (qg (qu qz)) qB)
   (qe (qJ (qE ZK (qv 0) (qw qH (qv 1) (qv 3)) (qA _)) (qg (qu qz)) qB)
   (qg (qu qz))))),?_⟩
  refine⟨_,rfl,_,rfl,_,_,rfl,rfl,_,rfl,?_⟩
  refine q9 (fun z=>?_) (fun z=>?_)
  ·rw[Jd (Jy z)]at q;exact q
  ·rw[Jc (fun y=>z (Jk y))]at q
   refine⟨_,rfl,_,rfl,_,rfl,_,_,rfl,rfl,_,_,rfl,rfl,_,rfl,?_⟩
   refine q9 (fun z=>?_) (fun z=>?_)
   ·rw[Jd (Jy z)]at q;exact q
   ·rw[Jc (fun y=>z (Jk y))]at q
    refine⟨_,rfl,_,rfl,_,rfl,_,_,rfl,rfl,_,_,rfl,rfl,_,rfl,?_⟩
    refine q9 (fun z=>?_) (fun z=>?_)
    ·rw[Jd (Jy z)]at q;exact q
    ·rw[Jc (fun y=>z (Jk y))]at q;exact q
theorem mZ(a:At K mg "step_by" cu ["button","age","count","near","far"])(T:Txt K mg tk)(yB:Df P w K mg base "word_of" ["count","last","near","far"] 1 lZ):Df P w K mg base "step_by" ["button","age","count","near","far"] 2 gj:=by
 refine a.dq sc_step_by (fun vs H Q E h=>?_) (fun f cdv A outer s H vs Q E hr h=>?_)
 ·obtain⟨_,_,_,_,_,_,rfl,_⟩:=h
  rfl
 ·obtain⟨a,e,age,c,near,far,rfl,⟨v,hb,hw⟩,q⟩:=h
  refine⟨_,(qe (ze (qv 0) (zj rfl (qr (qh (i:=5) sc_step_by.nd rfl (Or.inl rfl)) (qr (qh (i:=6) sc_step_by.nd rfl (Or.inl rfl)) (qr (qh (i:=7) sc_step_by.nd rfl (Or.inl rfl)) qN)))))
   (qe (qC (i:=8) sc_step_by.nd rfl (Or.inl rfl) (qq yB hr.mo (qc (qv 2) (qc (qv 6) (qc (qv 3) (qc (qv 4) qb))))))
   (qe (qJ (QW.pt (pZ (qE zp (qv 8) qz (qA _)) (lL (qE (fD hr) (qv 7) (qx (qc (qv 1) (qc (qw zG (qv 2) qf) qb))) (qA _))))) (qg (qC (i:=8) sc_step_by.nd rfl (Or.inl rfl) qz)) qB)
   (qe (qJ (qE zp (qv 8) qz (qA _)) (qg (qu (qx (qc (qv 8) (qc (qx (qc (qv 1) (qc (qv 2) (qc zh qb)))) qb))))) qB)
   (qe (qJ (qE zp (qv 8) qz (qA _)) (qg (qu (qx (qc (qv 8) (qc (qx (qc (qv 5) (qc (qv 6) (qc (qx (qc (qv 1) (qc (qv 2) qb))) qb)))) qb))))) qB)
   (qg (qu (qx (qc (qv 8) (qc (qv 0) qb)))))))))),?_⟩
  refine⟨_,rfl,a,_,rfl,.tup hb,rfl,_,_,rfl,_,_,rfl,_,_,rfl,rfl,?_⟩
  refine⟨_,rfl,_,rfl,_,rfl,_,rfl,c,e.last,near,far,rfl,?_⟩
  unfold zc at q;unfold n9
  by_cases h1:c<=e.last
  ·rw[Jd h1]
   rw[Jd h1]at q;refine⟨_,rfl,rfl,_,rfl,?_⟩
   refine q9 (fun y=>absurd (Jy y) (by decide +kernel)) (fun _=>?_)
   refine⟨_,rfl,rfl,_,rfl,?_⟩
   refine q9 (fun y=>absurd (Jy y) (by decide +kernel)) (fun _=>?_)
   refine⟨_,rfl,rfl,_,rfl,?_⟩
   refine q9 (fun y=>absurd (Jy y) (by decide +kernel)) (fun _=>?_)
   refine⟨_,rfl,_,rfl,by show 2<=sizeLine;decide,fun q1 hq1=>?_⟩
   exact q q1 a _ (Same.upd hq1) qd (BuAt.same (Same.upd hq1) ⟨v,hb,hw⟩)
  ·rw[Jc h1]
   rw[Jc h1]at q
   by_cases h2:c<=e.last+near
   ·rw[Jd h2]
    rw[Jd h2]at q;refine⟨_,rfl,rfl,_,rfl,?_⟩
    refine q9 (fun y=>absurd (Jy y) (by decide +kernel)) (fun _=>?_)
    refine⟨_,rfl,rfl,_,rfl,?_⟩
    refine q9 (fun _=>?_) (fun y=>absurd (Jk rfl) y)
    refine⟨_,rfl,_,rfl,_,rfl,by show 3<=sizeLine;decide,fun t ht=>⟨by show 2<=sizeLine;decide,fun q1 hq1=>?_⟩⟩
    have u1:=Same.upd (o:= .tup [.int age,.int c,.non]) ht
    have u2:=Same.upd (o:= .tup [.str "near",.ref t]) hq1
    exact q q1 t _ (u1.trans u2) qd ⟨.non,u2 _ _ qd,rfl⟩
   ·rw[Jc h2]
    rw[Jc h2]at q
    by_cases h3:c<=e.last+far
    ·rw[Jd h3]
     rw[Jd h3]at q;refine⟨_,rfl,rfl,_,rfl,?_⟩
     refine q9 (fun _=>?_) (fun y=>absurd (Jk rfl) y)
     refine⟨_,rfl,_,rfl,_,rfl,_,_,rfl,rfl,by show 2<=sizeLine;decide,fun t0 ht0=>?_⟩
     have u0:=Same.upd (o:= .tup [.int age,.int (c-1)]) ht0
     have hw0:=hw.mv (S:=[]) u0.mv (fun c h=>nomatch h)
     refine⟨e.wt,t0,age,c-1,hw0,rfl,.inl qd,_,rfl,?_⟩
     by_cases h4:e.wt=some (age,c-1)
     ·rw[Jd h4]at q
      refine Qs (Jk h4) ?_
      refine⟨_,rfl,rfl,_,rfl,?_⟩
      refine q9 (fun _=>?_) (fun y=>absurd (Jk rfl) y)
      refine⟨_,rfl,_,rfl,_,rfl,by show 3<=sizeLine;decide,fun t ht=>⟨by show 2<=sizeLine;decide,fun q1 hq1=>?_⟩⟩
      have u1:=Same.upd (o:= .tup [.int age,.int c,.non]) ht
      have u2:=Same.upd (o:= .tup [.str "near",.ref t]) hq1
      exact q q1 t _ ((u0.trans u1).trans u2) qd ⟨.non,u2 _ _ qd,rfl⟩
     ·rw[Jc h4]at q
      refine QB (Jr h4) ?_
      refine⟨_,rfl,rfl,_,rfl,?_⟩
      refine q9 (fun y=>absurd (Jy y) (by decide +kernel)) (fun _=>?_)
      refine⟨_,rfl,rfl,_,rfl,?_⟩
      refine q9 (fun _=>?_) (fun y=>absurd (Jk rfl) y)
      refine⟨_,rfl,_,rfl,_,rfl,_,rfl,_,rfl,by show 2<=sizeLine;decide,fun t1 ht1=>⟨by show 3<=sizeLine;decide,fun t ht=>⟨by show 2<=sizeLine;decide,fun q1 hq1=>?_⟩⟩⟩
      have u1:=Same.upd (o:= .tup [.int age,.int c]) ht1
      have u2:=Same.upd (o:= .tup [.int e.age,.int e.last,.ref t1]) ht
      have u3:=Same.upd (o:= .tup [.str "far",.ref t]) hq1
      exact q q1 t _ (((u0.trans u1).trans u2).trans u3) qd ⟨.ref t1,u3 _ _ qd,t1,rfl,u3 _ _ (u2 _ _ qd)⟩
    ·rw[Jc h3]
     rw[Jc h3]at q;refine⟨_,rfl,rfl,_,rfl,?_⟩
     refine q9 (fun y=>absurd (Jy y) (by decide +kernel)) (fun _=>?_)
     refine⟨_,rfl,rfl,_,rfl,?_⟩
     refine q9 (fun y=>absurd (Jy y) (by decide +kernel)) (fun _=>?_)
     refine⟨_,rfl,rfl,_,rfl,?_⟩
     refine q9 (fun y=>absurd (Jy y) (by decide +kernel)) (fun _=>?_)
     refine⟨_,rfl,_,rfl,by show 2<=sizeLine;decide,fun q1 hq1=>?_⟩
     exact q q1 a _ (Same.upd hq1) qd (BuAt.same (Same.upd hq1) ⟨v,hb,hw⟩)
end
section
variable{P:Program}{w:World}{K:Frag}{mg:Str->Option Value}{base:Heap}{tk:Nat->Tok}{C:Addr}
theorem fR(a:AtM K C "is_full" "Door.is_full" Zo ["self"])(T:Txt K mg tk)(U:DCx K C):Mf P w K mg base C "is_full" ["self"] 1 (lw K C):=by
 refine a.mq fC (fun vs H Q E h=>?_) (fun f cdv A outer s H vs Q E hr h=>?_)
 ·obtain⟨_,_,_,_,_,_,_,rfl,_⟩:=h
  rfl
 ·obtain⟨p,ta,hk,bd,lg,n,D,rfl,b,q⟩:=h
  obtain⟨fn,hd,_,hpm,_⟩:=b.kb;refine⟨_,(qg (qu (zf oF (qm sC (by rfl) T.b_len JY (qc (za (qv 0)) qb)) (za (qv 0)) (qA _)))),?_⟩
  refine⟨_,rfl,p,_,rfl,b.h_buttons U,bd,_,rfl,hd,_,rfl,p,_,rfl,b.h_most U,_,_,rfl,rfl,?_⟩
  rw[show(cX fn.1 fn.2).length=D.kn.length from(Je _).trans hpm.length_eq]
  exact q
theorem cQ(a:AtM K C "button_of" "Door.button_of" Q2 ["self","name"])(T:Txt K mg tk)(U:DCx K C):Mf P w K mg base C "button_of" ["self","name"] 1 (n5 K C):=by
 refine a.mq cM (fun vs H Q E h=>?_) (fun f cdv A outer s H vs Q E hr h=>?_)
 ·obtain⟨_,_,_,_,_,_,_,_,rfl,_⟩:=h
  rfl
 ·obtain⟨p,ta,hk,bd,lg,n,D,nm,rfl,b,q1,q2⟩:=h
  refine⟨_,(qg (qu (jX hr (za (qv 0)) (qv 1)))),?_⟩
  obtain⟨fn,hd,_⟩:=id b.kb;refine⟨_,rfl,p,_,rfl,b.h_buttons U,bd,rfl,.inl ⟨_,.inl hd⟩,_,rfl,?_⟩
  rcases b.kb.get nm with⟨e1,g⟩|⟨e,x,e1,g,hx⟩
  ·exact⟨_,g,q1 e1⟩
  ·exact⟨_,g,q2 e x e1 hx⟩
theorem cN(a:AtM K C "takes_age" "Door.takes_age" Q5 ["self","age"])(T:Txt K mg tk)(U:DCx K C):Mf P w K mg base C "takes_age" ["self","age"] 1 (dw K C):=by
 refine a.mq cO (fun vs H Q E h=>?_) (fun f cdv A outer s H vs Q E hr h=>?_)
 ·obtain⟨_,_,_,_,_,_,_,_,rfl,_⟩:=h
  rfl
 ·obtain⟨p,ta,hk,bd,lg,n,D,age,rfl,b,q⟩:=h
  obtain⟨as,eh,la,_⟩:=b.ks;refine⟨_,(qg (qu (eD ZK eO (za (qv 0)) (qv 1) (qm qQ (by rfl) T.b_len JY (qc (za (qv 0)) qb))))),?_⟩
  unfold Zh at q;refine⟨_,rfl,p,_,rfl,b.h_least_age U,_,rfl,_,_,rfl,rfl,_,rfl,?_⟩
  refine q9 (fun z=>?_) (fun z=>?_)
  ·rw[z,Cg]at q
   refine⟨_,rfl,p,_,rfl,b.h_house_keys U,hk,_,rfl,.inl (SqL.of eh),_,_,rfl,rfl,?_⟩
   rw[Je,la];exact q
  ·rw[DJ.mpr z,BL]at q
   exact q
theorem bV(a:AtM K C "takes_from" "Door.takes_from" QU ["self","button","age"])(T:Txt K mg tk)(U:DCx K C)(dH:Mf P w K mg base C "takes_age" ["self","age"] 1 (dw K C)):Mf P w K mg base C "takes_from" ["self","button","age"] 2 (cL K C):=by
 refine a.mq bN (fun vs H Q E h=>?_) (fun f cdv A outer s H vs Q E hr h=>?_)
 ·obtain⟨_,_,_,_,_,_,_,_,_,_,rfl,_⟩:=h
  rfl
 ·obtain⟨p,ta,hk,bd,lg,x,n,D,e,age,rfl,b,⟨v,hx,hw⟩,q⟩:=h
  refine⟨_,(qg (qu (zA (zt dH U.cl hr.mo (qv 0) (qc (qv 2) qb)) (QD (zf oF (qv 2) (qy qI (qv 1) qf (fun _ _=>rfl)) (qA _)))))),?_⟩
  unfold qY at q;refine⟨_,rfl,p,rfl,b.no,_,rfl,p,ta,hk,bd,lg,n,D,age,rfl,b,_,rfl,?_⟩
  refine q9 (fun z=>?_) (fun z=>?_)
  ·rw[z,Cg]at q
   exact⟨_,rfl,_,rfl,x,_,_,_,rfl,rfl,SqT.of hx,rfl,_,_,rfl,rfl,q⟩
  ·rw[DJ.mpr z,BL]at q
   exact q
theorem cw(a:AtM K C "plain_step" "Door.plain_step" Qd ["self","button","age","count"])(T:Txt K mg tk)(U:DCx K C)(dB:Mf P w K mg base C "takes_from" ["self","button","age"] 2 (cL K C))(xE:Df P w K mg base "step_by" ["button","age","count","near","far"] 2 gj):Mf P w K mg base C "plain_step" ["self","button","age","count"] 3 (mj K C):=by
 refine a.mq ZE (fun vs H Q E h=>?_) (fun f cdv A outer s H vs Q E hr h=>?_)
 ·obtain⟨_,_,_,_,_,_,_,_,_,_,_,rfl,_⟩:=h
  rfl
 ·obtain⟨p,ta,hk,bd,lg,x,n,D,e,age,c,rfl,b,hx,ht,q⟩:=h
  refine⟨_,(qe (qJ (Qh (zd (zt dB U.cl hr.mo (qv 0) (qc (qv 1) (qc (qv 2) qb))))) (qg (qu (qx (qc qz (qc (qv 1) qb))))) qB)
   (qg (qu (qq xE hr.mo (qc (qv 1) (qc (qv 2) (qc (qv 3) (qc (za (qv 0)) (qc (za (qv 0)) qb))))))))),?_⟩
  refine⟨_,rfl,p,rfl,b.no,_,rfl,_,rfl,p,ta,hk,bd,lg,x,n,D,e,age,rfl,b,hx,_,rfl,?_⟩
  rw[ht];refine zr ?_
  exact⟨_,rfl,_,rfl,_,rfl,_,rfl,p,_,rfl,b.h_near U,_,rfl,p,_,rfl,b.h_far U,x,e,age,c,D.near,D.far,rfl,hx,q⟩
theorem cR(a:AtM K C "answer_to" "Door.answer_to" Q0 ["self","press"])(T:Txt K mg tk)(U:DCx K C)(dE:Mf P w K mg base C "button_of" ["self","name"] 1 (n5 K C))(dB:Mf P w K mg base C "takes_from" ["self","button","age"] 2 (cL K C))(dG:Mf P w K mg base C "plain_step" ["self","button","age","count"] 3 (mj K C))
  (dO:Df P w K mg base "read_press" ["table","key","press"] 3 (kB K)):Mf P w K mg base C "answer_to" ["self","press"] 4 (gJ K C):=by
 refine a.mq sc_Door_answer_to (fun vs H Q E h=>?_) (fun f cdv A outer s H vs Q E hr h=>?_)
 ·obtain⟨_,_,_,_,_,_,_,_,_,_,_,rfl,_⟩:=h
  rfl
 ·obtain⟨p,ta,hk,bd,lg,pr,n,D,nm,age,ds,rfl,b,ok,⟨pc,hp,hpc⟩,hn,l5,hdd,q⟩:=h
  refine⟨_,(qe (ze (qv 1) (zj rfl (qr (qh (i:=2) sc_Door_answer_to.nd rfl (Or.inl rfl)) (qr (qh (i:=3) sc_Door_answer_to.nd rfl (Or.inl rfl)) (qr (qh (i:=4) sc_Door_answer_to.nd rfl (Or.inl rfl)) qN)))))
   (qe (qC (i:=5) sc_Door_answer_to.nd rfl (Or.inl rfl) (zt dE U.cl hr.mo (qv 0) (qc (qv 2) qb)))
   (qe (qJ (qE Qz (qv 5) zh (qA _)) (qg (qu (qx (qc qz (qc qz qb))))) qB)
   (qe (qJ (Qh (zd (zt dB U.cl hr.mo (qv 0) (qc (qv 5) (qc (qv 3) qb))))) (qg (qu (qx (qc qz (qc qz qb))))) qB)
   (qe (qC (i:=6) sc_Door_answer_to.nd rfl (Or.inl rfl) (qq dO hr.mo (qc (za (qv 0)) (qc (qy qF (za (qv 0)) (qv 3) (fun _ _=>rfl)) (qc (qv 1) qb)))))
   (qe (qJ (qE Qz (qv 6) zh (qA _)) (qg (qu (qx (qc qz (qc qz qb))))) qB)
   (qe (ze (qv 6) (zj rfl (qr (qh (i:=7) sc_Door_answer_to.nd rfl (Or.inl rfl)) (qr (qh (i:=8) sc_Door_answer_to.nd rfl (Or.inl rfl)) qN))))
   (qe (ze (zt dG U.cl hr.mo (qv 0) (qc (qv 5) (qc (qv 3) (qc (qv 7) qb)))) (zj rfl (qr (qh (i:=9) sc_Door_answer_to.nd rfl (Or.inl rfl)) (qr (qh (i:=10) sc_Door_answer_to.nd rfl (Or.inl rfl)) qN))))
   (qe (Q3 hr (za (qv 0)) (qv 2) (qv 10))
   (qe (qJ (qE zp (qv 9) qz (qA _)) (qg (qu (qx (qc qz (qc (qv 2) (qc (qv 8) qb)))))) qB)
   (qg (qu (qx (qc qz (qc (qv 9) qb))))))))))))))),?_⟩
  refine⟨_,rfl,pr,_,rfl,.tup hp,rfl,_,_,rfl,_,_,rfl,_,_,rfl,rfl,?_⟩
  refine⟨_,rfl,p,rfl,b.no,_,rfl,p,ta,hk,bd,lg,n,D,nm,rfl,b,fun e1=>?_,fun e x e1 hx=>?_⟩
  ·have eJ:zk D nm age (Zb D.t (Qt D age) nm ds)=([.str "held",.str "unknown"],D.kn):=by unfold zk;rw[e1]
   rw[eJ]at q;refine⟨_,rfl,rfl,_,rfl,?_⟩
   refine q9 (fun _=>?_) (fun y=>absurd (Jk rfl) y)
   refine⟨by show 2<=sizeLine;decide,fun q1 hq1=>?_⟩
   exact q q1 _ (Same.upd hq1).mv qd (b.same (Same.upd hq1))
  ·refine⟨_,rfl,rfl,_,rfl,?_⟩
   refine q9 (fun y=>nomatch (Jy y)) (fun _=>?_)
   refine⟨_,rfl,p,rfl,b.no,_,rfl,_,rfl,p,ta,hk,bd,lg,x,n,D,e,age,rfl,b,hx,_,rfl,?_⟩
   cases ht:qY D e age with
   |false=>
    have eJ:zk D nm age (Zb D.t (Qt D age) nm ds)=([.str "held",.str "age"],D.kn):=by unfold zk;rw[e1];simp only;rw[ht];rfl
    rw[eJ]at q;refine zx ?_
    refine⟨by show 2<=sizeLine;decide,fun q1 hq1=>?_⟩
    exact q q1 _ (Same.upd hq1).mv qd (b.same (Same.upd hq1))
   |true=>
    refine zr ?_
    obtain⟨a0,a1⟩:=bI ht ok.l0;obtain⟨xs,ak,eh,hat,hak⟩:=b.ks.at a0 a1;refine⟨_,rfl,p,_,rfl,b.h_table U,_,rfl,p,_,rfl,b.h_house_keys U,_,rfl,hk,_,_,_,rfl,rfl,SqL.of eh,hat,_,rfl,ta,ak,pr,pc,nm,age,D.t,Qt D age,ds,rfl,.inr b.tb,.inr hak,.tup hp,.tup hpc,hn,ok.tp,l5,hdd,fun y H1 s1 told=>?_⟩
    have b1:=b.same s1;have hx1:=hx.same s1;have told':bT H1 y (Zb D.t (Qt D age) nm ds):=told
    cases er:Zb D.t (Qt D age) nm ds with
    |none=>
     rw[er]at told' q;have ey:y= .non:=told'
     subst ey;have eJ:zk D nm age none=([.str "held",.str "false"],D.kn):=by unfold zk;rw[e1];simp only;rw[ht];rfl
     rw[eJ]at q;refine⟨_,rfl,rfl,_,rfl,?_⟩
     refine q9 (fun _=>?_) (fun y=>absurd (Jk rfl) y)
     refine⟨by show 2<=sizeLine;decide,fun q1 hq1=>?_⟩
     exact q q1 _ (s1.trans (Same.upd hq1)).mv qd (b1.same (Same.upd hq1))
    |some cd=>
     obtain⟨c,d⟩:=cd;rw[er]at told' q;obtain⟨pp,ey,hpp⟩:=told';subst ey;refine⟨_,rfl,rfl,_,rfl,?_⟩
     refine q9 (fun y=>nomatch (Jy y)) (fun _=>?_)
     refine⟨_,rfl,pp,_,rfl,.tup hpp,rfl,_,_,rfl,_,_,rfl,rfl,?_⟩
     refine⟨_,rfl,p,rfl,b1.no,_,rfl,_,rfl,_,rfl,p,ta,hk,bd,lg,x,n,D,e,age,c,rfl,b1,hx1,ht,fun q1 a' H2 s2 hq1 hb'=>⟨q1,_,rfl,.tup hq1,rfl,_,_,rfl,_,_,rfl,rfl,?_⟩⟩
     have b2:=b1.same s2;obtain⟨H3,dp,m3,kb3⟩:=b2.kb.put nm (by have:=ok.nl;omega) hb'
     refine⟨_,rfl,_,rfl,p,_,rfl,b2.h_buttons U,_,rfl,bd,H3,rfl,dp,?_⟩
     have b3:=b2.putK m3 kb3;have mm:Mv [bd] H H3:=(s1.trans s2).mv.trans m3
     refine⟨_,rfl,rfl,_,rfl,?_⟩
     by_cases hw:(zc D.near D.far e age c).1="near"
     ·have eJ:zk D nm age (some (c,d))=([.str "open",.str nm,.int d],qV D.kn nm (zc D.near D.far e age c).2):=by unfold zk;rw[e1];simp only;rw[Jd ht,Jd hw]
      rw[eJ]at q;refine q9 (fun _=>?_) (fun y=>absurd (Jk (by rw[hw])) y)
      refine⟨_,rfl,_,rfl,by show 3<=sizeLine;decide,fun q2 hq2=>?_⟩
      exact q q2 _ (mm.trans (Same.upd hq2).mv) qd (b3.same (Same.upd hq2))
     ·have eJ:zk D nm age (some (c,d))=([.str "held",.str (zc D.near D.far e age c).1],qV D.kn nm (zc D.near D.far e age c).2):=by unfold zk;rw[e1];simp only;rw[Jd ht,Jc hw]
      rw[eJ]at q;refine q9 (fun y=>absurd (Jy y) (by intro z;injection z with z;exact hw z)) (fun _=>?_)
      refine⟨_,rfl,by show 2<=sizeLine;decide,fun q2 hq2=>?_⟩
      exact q q2 _ (mm.trans (Same.upd hq2).mv) qd (b3.same (Same.upd hq2))
theorem ca(a:AtM K C "read_right" "Door.read_right" QR ["self","thing"])(T:Txt K mg tk)(U:DCx K C)(xA:Df P w K mg base "is_press" ["thing"] 5 bb)(dH:Mf P w K mg base C "takes_age" ["self","age"] 1 (dw K C))(dO:Df P w K mg base "read_press" ["table","key","press"] 3 (kB K)):Mf P w K mg base C "read_right" ["self","thing"] 6 (g0 K C):=by
 refine a.mq bH (fun vs H Q E h=>?_) (fun f cdv A outer s H vs Q E hr h=>?_)
 ·obtain⟨_,_,_,_,_,_,_,_,_,rfl,_⟩:=h
  rfl
 ·obtain⟨p,ta,hk,bd,lg,n,D,x,o,rfl,b,ok,tg,q⟩:=h
  refine⟨_,(qe (qJ (QW.pt (Qe (Qh (zd (qq xA hr.mo (qc (qv 1) qb)))) (zP (Qh (zd (zt dH U.cl hr.mo (qv 0) (qc (qy qI (qv 1) qf (fun _ _=>rfl)) qb))))))) (qg (qu zh)) qB)
   (qg (qu (qq dO hr.mo (qc (za (qv 0)) (qc (qy qF (za (qv 0)) (qy qI (qv 1) qf (fun _ _=>rfl)) (fun _ _=>rfl)) (qc (qv 1) qb))))))),?_⟩
  refine⟨_,rfl,x,_,rfl,tg.b,fun H1 s1=>⟨_,rfl,?_⟩⟩
  cases o with
  |none=>exact zx (zx (q .non _ s1 rfl))
  |some PP=>
  obtain⟨pr,rfl,hp,hn,l5,hdd⟩:=tg;have q:∀y H',Same H H'->bT H' y (cr D PP)->Q y H':=q
  obtain⟨nm,age,ds⟩:=PP;simp only at hn l5 hdd
  refine zr ?_
  have b1:=b.same s1;obtain⟨pc,hp1,hpc1⟩:=PrAt.same s1 hp;refine⟨_,rfl,p,rfl,b1.no,_,rfl,pr,_,_,_,rfl,rfl,SqT.of hp1,rfl,p,ta,hk,bd,lg,n,D,age,rfl,b1,_,rfl,?_⟩
  unfold cr at q;cases ht:Zh D age with
  |false=>
   rw[Jc (by rw[ht];intro z;cases z)]at q
   exact zx (q _ _ s1 rfl)
  |true=>
  rw[Jd ht]at q;refine zr ?_
  have ht':qY D ⟨age,0,none⟩ age=true:=by unfold qY;rw[ht,Jk (Cz _)];rfl
  obtain⟨a0,a1⟩:=bI ht' ok.l0;obtain⟨xs,ak,eh,hat,hak⟩:=b1.ks.at a0 a1
  exact⟨_,rfl,p,_,rfl,b1.h_table U,_,rfl,p,_,rfl,b1.h_house_keys U,_,rfl,pr,_,_,_,rfl,rfl,SqT.of hp1,rfl,hk,_,_,_,rfl,rfl,SqL.of eh,hat,_,rfl,ta,ak,pr,pc,nm,age,D.t,Qt D age,ds,rfl,.inr b1.tb,.inr hak,.tup hp1,.tup hpc1,hn,ok.tp,l5,hdd,fun y H2 s2 told=>q y H2 (s1.trans s2) told⟩
theorem cS(a:AtM K C "known_now" "Door.known_now" Q4 ["self"])(T:Txt K mg tk)(U:DCx K C):Mf P w K mg base C "known_now" ["self"] 1 (eI K C):=by
 refine a.mq cP (fun vs H Q E h=>?_) (fun f cdv A outer s H vs Q E hr h=>?_)
 ·obtain⟨_,_,_,_,_,_,_,rfl,_⟩:=h
  rfl
 ·obtain⟨p,ta,hk,bd,lg,n,D,rfl,b,ok,q⟩:=h
  obtain⟨fn,hd,hbu,hpm,_⟩:=id b.kb;refine⟨_,(qg (qu (qM qT (by rfl) T.b_tuple JD (qc (zU (own:=["name"]) (fr:=["self"]) (js:=[0]) rfl (zM (qm (cx rfl) (by rfl) T.b_sorted PyProof.Rows.boot_sorted (qc (za (qv 0)) qb))) rfl (kj rfl) rfl (jz rfl (by decide +kernel) (by decide +kernel) (by decide +kernel) rfl rfl rfl) (fun _ _ _ _=>qh (i:=0) (show List.Nodup (["name","self"]:List Str)from by decide +kernel) rfl (Or.inl rfl) (.inr rfl)) (fun _ _ _ _=>(qw cB (qx (qc (qv 0) qb)) (qW hr (vL (K:=K) rfl (qv 1)) (qv 0))))) qb)))),?_⟩
  refine⟨_,rfl,p,_,rfl,b.h_buttons U,bd,_,fn.1.map (·.1),rfl,hd,lT _ _,by rw[Je,hpm.length_eq];have:=ok.nl;omega,fun l ss hl pm0 so=>⟨l,rfl,⟨_,SqL.of qd⟩,?_⟩⟩
  have pm:=pm0.trans (hpm.map (·.1))
  have u1:=Same.upd (o:= .lst (ss.map V.str)) hl
  have ls:ss.length<=60:=by rw[pm.length_eq,Je];exact ok.nl
  refine bZ (K:=K) (xs:=ss.map V.str) (by rw[Je,Jz];omega) (fun i ys H3=>Same (upd H l (.lst (ss.map V.str))) H3/\∃as:List Addr,ys=as.map V.ref/\as.length=i/\∀(j:Nat) (x:Addr) (nm:Str) (e:Kb),as[j]? =some x->ss[j]? =some nm->D.kn.lookup nm=some e->∃v,H3 x=some (.tup [.str nm,.int e.age,.int e.last,v])/\Wt H3 v e.wt) ⟨Same.refl _,[],rfl,rfl,fun j x nm e h=>by(cases h)⟩ (fun i ys H3 ⟨s3,_⟩=>s3.seq (SqL.of qd)) ?_ ?_
  ·rintro i ys H3 x hx hyl ⟨s3,as,rfl,hal,has⟩
   rw[Jo]at hx;cases es:ss[i]? with
   |none=>rw[es]at hx;cases hx
   |some nm=>
    rw[es]at hx
    obtain rfl:V.str nm=x:=Jv hx
    have hmem:nm∈D.kn.map (·.1):=pm.mem_iff.mp (JS es)
    obtain⟨e,he⟩:=zE hmem;have b3:=b.same (u1.trans s3);obtain⟨e',x0,he',g,v0,hx0,hw0⟩:=(b3.kb.get nm).resolve_left (fun z=>by rw[he]at z;cases z.1)
    rw[he]at he';cases he';refine⟨_,rfl,by show 1<=sizeLine;decide,fun t ht=>?_⟩
    have u4:=Same.upd (o:= .tup [.str nm]) ht
    have b4:=b3.same u4;obtain⟨e',x0,he',g,v0,hx0,hw0⟩:=(b4.kb.get nm).resolve_left (fun z=>by rw[he]at z;cases z.1)
    rw[he]at he';cases he';refine⟨_,rfl,p,_,rfl,b4.h_buttons U,_,rfl,bd,_,rfl,g,t,x0,_,_,rfl,rfl,qd,hx0,by show 4<=sizeLine;decide,fun q1 H5 s5 hq1=>?_⟩
    refine⟨(s3.trans u4).trans s5,as++[q1],by simp,by simp [hal],fun j y m2 e2 h1 h2 h3=>?_⟩
    rw[Dm]at h1;split at h1
    ·obtain⟨v,a1,a2⟩:=has j y m2 e2 h1 h2 h3
     exact⟨v,s5 _ _ (u4 _ _ a1),a2.mv (S:=[]) (u4.trans s5).mv (fun c h=>nomatch h)⟩
    ·have hj:j-as.length=0:=by
      cases hj:j-as.length with
      |zero=>rfl
      |succ k=>rw[hj]at h1;cases h1
     rw[hj]at h1;cases h1
     obtain rfl:j=i:=by omega
     rw[es]at h2;cases h2;rw[he]at h3;cases h3
     exact⟨v0,hq1,hw0.mv (S:=[]) s5.mv (fun c h=>nomatch h)⟩
  ·rintro ys H3 hyl ⟨s3,as,rfl,hal,has⟩ l2 hl2
   have u4:=Same.upd (o:= .lst (as.map V.ref)) hl2
   refine⟨l2,_,rfl,.inl ⟨SqL.of qd,fun q1 hq1=>?_⟩⟩
   have u5:=Same.upd (o:= .tup (as.map V.ref)) hq1
   have S:=u4.trans u5;refine q q1 ss _ ((u1.trans s3).trans S) pm so ⟨as,qd,by rw[hal,Je],fun j x nm e h1 h2 h3=>?_⟩
   obtain⟨v,a1,a2⟩:=has j x nm e h1 h2 h3
   exact⟨v,S _ _ a1,a2.mv (S:=[]) S.mv (fun c h=>nomatch h)⟩
end
section
variable{P:Program}{w:World}{K:Frag}{mg:Str->Option Value}{base:Heap}{tk:Nat->Tok}{C:Addr}
theorem km(a:AtM K C "hear" "Door.hear" aA ["self","thing"])(T:Txt K mg tk)(U:DCx K C)(xA:Df P w K mg base "is_press" ["thing"] 5 bb)(xC:Mf P w K mg base C "answer_to" ["self","press"] 4 (gJ K C)):Mf P w K mg base C "hear" ["self","thing"] 6 (mn K C):=by
 refine a.mq sc_Door_hear (fun vs H Q E h=>?_) (fun f cdv A outer s H vs Q E hr h=>?_)
 ·obtain⟨_,_,_,_,_,rfl,_⟩:=h
  rfl
 ·obtain⟨⟨p,ta,hk,bd,lg⟩,D,L,x,o,rfl,⟨b,⟨rs,el,ro⟩,kr⟩,n1,ok,tg,qn,qs⟩:=h
  simp only at b el kr qs
  refine⟨_,(qe (qJ (Qh (zd (qq xA hr.mo (qc (qv 1) qb)))) (qg (qu (qx (qc qz (qc qz qb))))) qB)
   (qe (qC (i:=2) sc_Door_hear.nd rfl (Or.inl rfl) (zt xC U.cl hr.mo (qv 0) (qc (qv 1) qb)))
   (qe (zb (Zz BQ Ci Cj zX (za (qv 0)) (qc (qx (qc qz (qc (qv 1) (qc (qv 2) qb)))) qb)))
   (qg (qu (qv 2)))))),?_⟩
  refine⟨_,rfl,x,_,rfl,tg.b,fun H1 s1=>⟨_,rfl,?_⟩⟩
  cases o with
  |none=>exact zx ⟨by show 2<=sizeLine;decide,fun q hq=>qn rfl q _ (s1.trans (Same.upd hq)) qd⟩
  |some PP=>
  obtain⟨pr,rfl,hp,okP⟩:=tg;have q:=qs PP rfl;refine zr ?_
  have b1:=b.same s1;obtain⟨f0,hd,_⟩:=id b1.kb;have ntb:NT [bd] H1:=NT.one hd trivial
  refine⟨_,rfl,p,rfl,b1.no,_,rfl,p,ta,hk,bd,lg,pr,L.length,D,PP.nm,PP.age,PP.ds,rfl,b1,ok,PrAt.same s1 hp,okP.nm,okP.l,okP.dg,fun q1 H2 m2 hq1 b2=>?_⟩
  have el2:=m2 _ _ (qR (Qf (s1 _ _ el) hd (by intro z;cases z))) (s1 _ _ el)
  have ro2:=(ro.same s1).mv m2 ntb;refine⟨_,rfl,p,_,rfl,b2.h_log U,.inl ⟨rfl,_,SqL.of el2⟩,_,rfl,_,rfl,by show 3<=sizeLine;decide,fun r hr'=>?_⟩
  have u3:=Same.upd (o:= .tup [.str "hear",.ref pr,.ref q1]) hr'
  have b3:=b2.same u3;have pr3:=PrAt.same u3 (PrAt.mv m2 ntb (PrAt.same s1 hp));have ntl:NT [lg] _:=NT.one (u3 _ _ el2) trivial
  refine⟨lg,_,_,rfl,rfl,u3 _ _ el2,by rw[Je,ro.1,Jz];omega,⟨_,rfl,?_⟩⟩
  exact q pr q1 _ rfl (((s1.mv.trans (m2.mono (fun c h z=>h (by rw[Jg.mp z];exact JE ..)))).trans u3.mv).trans (Mv.upd1.mono (fun c h z=>h (by rw[Jg.mp z];exact JJ _ (JE ..))))) (PrAt.mv Mv.upd1 ntl pr3) (Mv.upd1.tup ntl (u3 _ _ hq1)) (DlAt.push (a:=⟨p,ta,hk,bd,lg⟩) b3 (u3 _ _ el2) (ro2.same u3) ((KsAt.mv m2 ntb (qR (uZ hd b1)) (KsAt.same s1 kr)).same u3) ⟨pr,q1,.inl qd,pr3,okP,u3 _ _ hq1,pD D PP,uE D PP⟩)
theorem bG(a:AtM K C "close_below" "Door.close_below" Qw ["self","age"])(T:Txt K mg tk)(U:DCx K C):Mf P w K mg base C "close_below" ["self","age"] 1 (kI K C):=by
 refine a.mq bE (fun vs H Q E h=>?_) (fun f cdv A outer s H vs Q E hr h=>?_)
 ·obtain⟨_,_,_,_,rfl,_⟩:=h
  rfl
 ·obtain⟨⟨p,ta,hk,bd,lg⟩,D,L,age,rfl,⟨b,⟨rs,el,ro⟩,kr⟩,n1,q⟩:=h
  simp only at b el kr q
  refine⟨_,(qe (Zf (qv 0) (qm (QH rfl) (by rfl) T.b_max CL (qc (za (qv 0)) (qc (qv 1) qb))))
   (qg (zb (Zz BQ Ci Cj zX (za (qv 0)) (qc (qx (qc qz (qc (qv 1) qb))) qb))))),?_⟩
  have q:=q _ _ rfl;obtain⟨z,hz⟩:∃z:Int,z=if age>D.least then age else D.least:=⟨_,rfl⟩
  rw[<- hz]at q;obtain⟨dx0,ep⟩:=id b.ob;obtain⟨dx,pf,m,b3⟩:=b.putLeast U z;have el3:=m _ _ (qR (Qf el ep (by intro z;cases z))) el
  have ro3:=ro.mv m (NT.one ep trivial);refine⟨_,rfl,p,_,rfl,b.h_least_age U,_,rfl,_,_,rfl,_,rfl,p,_,rfl,by rw[<- hz];exact pf,?_⟩
  refine⟨_,rfl,p,_,rfl,b3.h_log U,.inl ⟨rfl,_,SqL.of el3⟩,_,rfl,by show 2<=sizeLine;decide,fun r hr'=>?_⟩
  have u7:=Same.upd (o:= .tup [.str "close",.int age]) hr'
  have b7:=b3.same u7;refine⟨lg,_,_,rfl,rfl,u7 _ _ el3,by rw[Je,ro.1,Jz];omega,?_⟩
  exact q _ (((m.mono (fun c h z=>h (by rw[Jg.mp z];exact JE ..))).trans u7.mv).trans (Mv.upd1.mono (fun c h z=>h (by rw[Jg.mp z];exact JJ _ (JE ..))))) (DlAt.push (a:=⟨p,ta,hk,bd,lg⟩) b7 (u7 _ _ el3) (ro3.same u7) ((KsAt.mv m (NT.one ep trivial) (qR (Ae ep b)) kr).same u7) (show RwAt _ r (.close age)from .inl qd))
theorem fB(a:AtM K C "log_now" "Door.log_now" Zp ["self"])(T:Txt K mg tk)(U:DCx K C):Mf P w K mg base C "log_now" ["self"] 1 (pY K C):=by
 refine a.mq fA (fun vs H Q E h=>?_) (fun f cdv A outer s H vs Q E hr h=>?_)
 ·obtain⟨_,_,_,rfl,_⟩:=h
  rfl
 ·obtain⟨⟨p,ta,hk,bd,lg⟩,D,L,rfl,⟨b,⟨rs,el,ro⟩,kr⟩,q⟩:=h
  simp only at b el kr
  refine⟨_,(qg (qu (qM qT (by rfl) T.b_tuple JD (qc (za (qv 0)) qb)))),?_⟩
  exact⟨_,rfl,p,_,rfl,b.h_log U,lg,_,rfl,.inl ⟨SqL.of el,fun t ht=>q t _ (Same.upd ht) ⟨rs,.inl qd,ro.same (Same.upd ht)⟩⟩⟩
theorem iN(a:AtM K C "learn" "Door.learn" ZV ["self","one","other"])(T:Txt K mg tk)(U:DCx K C)(dM:Mf P w K mg base C "read_right" ["self","thing"] 6 (g0 K C))(xI:Mf P w K mg base C "is_full" ["self"] 1 (lw K C)):Mf P w K mg base C "learn" ["self","one","other"] 7 (ia K C):=by
 refine a.mq sc_Door_learn (fun vs H Q E h=>?_) (fun f cdv A outer s H vs Q E hr h=>?_)
 ·obtain⟨_,_,_,_,_,_,_,_,_,_,rfl,_⟩:=h
  rfl
 ·obtain⟨⟨p,ta,hk,bd,lg⟩,D,L,p1,p2,⟨nm,age,ds1⟩,⟨nm2,age2,ds2⟩,c,d1,d2,rfl,⟨b,⟨rs,el,ro⟩,kr⟩,n1,ok,hp1,hp2,ok1,ok2,r1,r2,en,ea,hno,hmo,q⟩:=h
  simp only at b el kr q en ea hno
  subst en;subst ea
  refine⟨_,(qe (qC (i:=3) sc_Door_learn.nd rfl (Or.inl rfl) (zt dM U.cl hr.mo (qv 0) (qc (qv 1) qb)))
   (qe (qJ (qE Qz (qv 3) zh (qA _)) Qk qB)
   (qe (qC (i:=4) sc_Door_learn.nd rfl (Or.inl rfl) (zt dM U.cl hr.mo (qv 0) (qc (qv 2) qb)))
   (qe (qJ (QW.pt (Qe (qE Qz (qv 4) zh (qA _)) (Qe (qE (xi hr) (Qb Q9 (qv 2) Qp (Qo qf)) (Qb Q9 (qv 1) Qp (Qo qf)) (qA _)) (zP (qE Zi (qy qI (qv 4) qf (fun _ _=>rfl)) (qw qH (qy qI (qv 3) qf (fun _ _=>rfl)) qf) (qA _)))))) Qk qB)
   (qe (ze (qv 1) (zj rfl (qr (qh (i:=5) sc_Door_learn.nd rfl (Or.inl rfl)) (qr (qh (i:=6) sc_Door_learn.nd rfl (Or.inl rfl)) (qr (qh (i:=7) sc_Door_learn.nd rfl (Or.inl rfl)) qN)))))
   (qe (qJ (ym hr (qv 5) (za (qv 0))) Qk qB)
   (qe (qJ (zd (zF xI U.cl hr.mo (qv 0))) Qk qB)
   (qe (Q3 hr (za (qv 0)) (qv 5) (qx (qc (qv 6) (qc (qy qI (qv 4) qf (fun _ _=>rfl)) (qc zh qb)))))
   (qg (zb (Zz BQ Ci Cj zX (za (qv 0)) (qc (qx (qc qz (qc (qv 1) (qc (qv 2) qb)))) qb)))))))))))),?_⟩
  refine⟨_,rfl,p,rfl,b.no,_,rfl,p,ta,hk,bd,lg,L.length,D,.ref p1,some _,rfl,b,ok,⟨p1,rfl,hp1,ok1⟩,fun y1 H1 s1 t1=>?_⟩
  have t1:bT H1 y1 (cr D _):=t1
  rw[r1]at t1;obtain⟨f1,rfl,hf1⟩:=t1;refine⟨_,rfl,rfl,_,rfl,q9 (fun y=>nomatch (Jy y)) (fun _=>?_)⟩
  have b1:=b.same s1;refine⟨_,rfl,p,rfl,b1.no,_,rfl,p,ta,hk,bd,lg,L.length,D,.ref p2,some _,rfl,b1,ok,⟨p2,rfl,PrAt.same s1 hp2,ok2⟩,fun y2 H2 s2 t2=>?_⟩
  have t2:bT H2 y2 (cr D _):=t2
  rw[r2]at t2;obtain⟨f2,rfl,hf2⟩:=t2;have b2:=b1.same s2;have hp1':=PrAt.same (s1.trans s2) hp1;have hp2':=PrAt.same (s1.trans s2) hp2;obtain⟨c1,e1,_⟩:=id hp1';obtain⟨c2,e2,_⟩:=id hp2';simp only at e1 e2
  refine⟨_,rfl,rfl,_,rfl,?_⟩
  refine q9 (fun y=>nomatch (Jy y)) (fun _=>?_)
  refine⟨_,rfl,_,rfl,p2,_,rfl,e2,fun t3 H3 s3 h3 _=>⟨_,rfl,_,rfl,p1,_,rfl,s3 _ _ e1,fun t4 H4 s4 h4 _=>?_⟩⟩
  have h3':H4 t3=some (.tup [.str nm2,.int age2]):=s4 _ _ h3
  have h4':H4 t4=some (.tup [.str nm2,.int age2]):=h4
  have S4:=(s3.trans s4);have SS:=(s1.trans s2).trans S4;refine⟨1,by decide,Eqd.pair h3' h4',_,rfl,zr ?_⟩
  refine⟨_,rfl,f2,_,_,_,rfl,rfl,SqT.of (S4 _ _ hf2),rfl,_,rfl,f1,_,_,_,rfl,rfl,SqT.of (S4 _ _ (s2 _ _ hf1)),rfl,_,_,rfl,rfl,rfl,_,rfl,?_⟩
  refine ZP rfl ?_
  have b4:=b2.same S4;refine⟨_,rfl,p1,_,rfl,.tup (S4 _ _ e1),rfl,_,_,rfl,_,_,rfl,_,_,rfl,rfl,?_⟩
  have g4:DGet H4 bd (.str nm2) none:=by
   rcases b4.kb.get nm2 with⟨_,g⟩|⟨e,x,e5,_⟩
   ·exact g
   ·rw[hno]at e5;cases e5
  refine⟨_,rfl,_,rfl,p,_,rfl,b4.h_buttons U,bd,_,rfl,g4,_,rfl,?_⟩
  refine zr ?_
  refine⟨_,rfl,p,rfl,b4.no,p,ta,hk,bd,lg,L.length,D,rfl,b4,_,rfl,?_⟩
  refine q9 (fun y=>absurd (Jy y) (by omega)) (fun _=>?_)
  refine⟨_,rfl,_,rfl,f2,_,_,_,rfl,rfl,SqT.of (S4 _ _ hf2),rfl,by show 3<=sizeLine;decide,fun t5 ht5=>?_⟩
  have u5:=Same.upd (o:= .tup [.int age2,.int (c+1),.non]) ht5
  have b5:=b4.same u5;obtain⟨f0,hd,_⟩:=id b5.kb;have SQ:=SS.trans u5;obtain⟨H6,dp,m6,kb6⟩:=b5.kb.put nm2 (a:=t5) (e:=⟨age2,c+1,none⟩) (by have:=ok.nl;omega) ⟨.non,qd,rfl⟩
  refine⟨_,rfl,p,_,rfl,b5.h_buttons U,_,rfl,bd,H6,rfl,dp,?_⟩
  have b6:=b5.putK m6 kb6;have el6:=m6 _ _ (qR (Qf (SQ _ _ el) hd (by intro z;cases z))) (SQ _ _ el)
  have nt5:NT [bd] _:=NT.one hd trivial
  have ro6:=(ro.same SQ).mv m6 nt5;refine⟨_,rfl,p,_,rfl,b6.h_log U,.inl ⟨rfl,_,SqL.of el6⟩,_,rfl,_,rfl,by show 3<=sizeLine;decide,fun r hr'=>?_⟩
  have u7:=Same.upd (o:= .tup [.str "learn",.ref p1,.ref p2]) hr'
  have b7:=b6.same u7;refine⟨lg,_,_,rfl,rfl,u7 _ _ el6,by rw[Je,ro.1,Jz];omega,?_⟩
  exact q _ (((SQ.mv.trans (m6.mono (fun c h z=>h (by rw[Jg.mp z];exact JE ..)))).trans u7.mv).trans (Mv.upd1.mono (fun c h z=>h (by rw[Jg.mp z];exact JJ _ (JE ..))))) (DlAt.push (a:=⟨p,ta,hk,bd,lg⟩) b7 (u7 _ _ el6) (ro6.same u7) ((KsAt.mv m6 nt5 (qR (uZ hd b5)) (KsAt.same SQ kr)).same u7) ⟨p1,p2,.inl qd,PrAt.same u7 (PrAt.mv m6 nt5 (PrAt.same SQ hp1)),PrAt.same u7 (PrAt.mv m6 nt5 (PrAt.same SQ hp2)),ok1,ok2⟩)
theorem fK(a:AtM K C "__init__" "Door.__init__" ZI ["self","table","keys","near","far","most"])(T:Txt K mg tk)(U:DCx K C):Mf P w K mg base C "__init__" ["self","table","keys","near","far","most"] 1 (c7 K C):=by
 refine a.mq gc (fun vs H Q E h=>?_) (fun f cdv A outer s H vs Q E hr h=>?_)
 ·obtain⟨_,_,_,_,_,_,_,_,_,rfl,_⟩:=h
  rfl
 ·obtain⟨p,a,b,dx,near,far,most,t,kss,rfl,hp,ha,hb,hl,q⟩:=h
  refine⟨_,(qe (Zf (qv 0) (qM k6 (by rfl) T.b_tuple JD (qc (qv 1) qb)))
   (qe (Zf (qv 0) (zU (own:=["key"]) (fr:=[]) (js:=[]) rfl (bY (qv 2)) rfl (fun _ _ h=>nomatch h) rfl (cm rfl (by decide +kernel) (by decide +kernel) (by decide +kernel)) (fun _ _ _ _=>qh (i:=0) (show List.Nodup (["key"]:List Str)from by decide +kernel) rfl (Or.inl rfl) (.inr rfl)) (fun _ _ _ _=>(qM lc (by rfl) T.b_tuple JD (qc (qv 0) qb)))))
   (qe (Zf (qv 0) (qv 3))
   (qe (Zf (qv 0) (qv 4))
   (qe (Zf (qv 0) (qv 5))
   (qe (Zf (qv 0) qf)
   (qe (Zf (qv 0) jv)
   (qg (Zf (qv 0) (qS qb)))))))))),?_⟩
  refine⟨_,rfl,a,_,rfl,ha,fun ta H2 s2 ht=>⟨_,rfl,p,_,rfl,Qy U.cl (s2 _ _ hp) U.n_table 0,?_⟩⟩
  have e2:=s2 _ _ hp;have hb2:=(hb.same s2).upd (o:= .ins C dx [("table",.ref ta)]) e2
  obtain⟨as,eb,la,hks⟩:=hb2;have ht2:=gF (o:= .ins C dx [("table",.ref ta)]) e2 ht
  refine⟨_,rfl,b,rfl,⟨_,eb.up⟩,bt (K:=K) (xs:=as.map V.ref) (by rw[Je,la,Jz];omega) (fun i ys H3=>Same (upd H2 p (.ins C dx [("table",.ref ta)])) H3/\∃bs:List Addr,ys=bs.map V.ref/\bs.length=i/\∀(j:Nat) (x:Addr) (ks:List Int),bs[j]? =some x->kss[j]? =some ks->SqT [] H3 x (ks.map V.int)) ⟨Same.refl _,[],rfl,rfl,fun j x ks e=>by(cases e)⟩ (fun i ys H3 ⟨s3,_⟩=>(Same.sqt s3 eb).up) ?_ ?_⟩
  ·rintro i ys H3 x hx hyl ⟨s3,bs,rfl,hbl,hbs⟩
   rw[Jo]at hx;cases ea:as[i]? with
   |none=>rw[ea]at hx;cases hx
   |some x0=>
    rw[ea]at hx
    obtain rfl:V.ref x0=x:=Jv hx
    have hi:i<kss.length:=by rw[<- la];exact(Js.mp ea).1
    have hk0:=hks i x0 kss[i] ea (Jl hi);refine⟨_,rfl,x0,_,rfl,.inr (Same.sqt s3 hk0).rd,fun l H4 s4 hl4=>⟨s3.trans s4,bs++[l],by simp,by simp [hbl],fun j y ks e1 e2'=>?_⟩⟩
    rw[Dm]at e1;split at e1
    ·exact Same.sqt s4 (hbs j y ks e1 e2')
    ·have hj:j-bs.length=0:=by
      cases hj:j-bs.length with
      |zero=>rfl
      |succ k=>rw[hj]at e1;cases e1
     rw[hj]at e1;cases e1
     have:j=i:=by omega
     subst this;rw[Jl hi]at e2';cases e2';exact .inl hl4
  ·rintro ys H3 hyl ⟨s3,bs,rfl,hbl,hbs⟩ hk hhk
   have u3:=Same.upd (o:= .lst (bs.map V.ref)) hhk
   have e3:=u3 _ _ (s3 _ _ qd);refine⟨_,rfl,p,_,rfl,Qy U.cl e3 U.n_house_keys 1,?_⟩
   refine⟨_,rfl,_,rfl,p,_,rfl,Qy U.cl qd U.n_near 2,?_⟩
   refine⟨_,rfl,_,rfl,p,_,rfl,Qy U.cl qd U.n_far 3,?_⟩
   refine⟨_,rfl,_,rfl,p,_,rfl,Qy U.cl qd U.n_most 4,?_⟩
   refine⟨_,rfl,p,_,rfl,Qy U.cl qd U.n_least_age 5,?_⟩
   refine fun bd hbd=>⟨_,rfl,p,_,rfl,Qy U.cl (by rw[qp (qi qd hbd)];exact qd) U.n_buttons 6,?_⟩
   have nbd:=qi qd hbd;refine⟨by show 0<=sizeLine;decide,fun lg hlg=>⟨_,rfl,p,_,rfl,Qy U.cl (by rw[qp (qi qd hlg)];exact qd) U.n_log 7,?_⟩⟩
   have nlg:=qi qd hlg;have m3:Mv [p] H H3:=((s2.mv (S:=[p])).trans Mv.upd1).trans s3.mv
   have nhk:hk≠p:=(qi (s3 _ _ qd) hhk).symm
   have m4:Mv [p] H (upd H3 hk (.lst (bs.map V.ref))):=m3.trans u3.mv
   have M:∀o1 o2 o3 o4 o5,Mv [p] (upd H3 hk (.lst (bs.map V.ref))) (upd (upd (upd (upd (upd (upd H3 hk (.lst (bs.map V.ref))) p o1) p o2) p o3) p o4) p o5):=fun o1 o2 o3 o4 o5=>(((Mv.upd1.trans Mv.upd1).trans Mv.upd1).trans Mv.upd1).trans Mv.upd1
   have M6:Mv [p] (upd H3 hk (.lst (bs.map V.ref))) _:=(((M _ _ _ _ _).trans (Same.upd hbd).mv).trans Mv.upd1).trans (Same.upd (o:= .lst []) hlg).mv
   have M7:=M6.trans (Mv.upd1 (o:= .ins C dx (dF ⟨t,kss,near,far,most,0,[]⟩ ta hk bd lg)))
   have nt:NT [p] (upd H3 hk (.lst (bs.map V.ref))):=NT.one e3 trivial
   have hbdlg:bd≠lg:=qi (by rw[qp nbd.symm];exact qd) hlg
   have KR:=KsAt.mv M7 nt (qR nhk) (show KsAt [] _ hk kss from⟨bs,qd,by rw[hbl,Je,la],fun j x ks e1 e2'=>Same.sqt u3 (hbs j x ks e1 e2')⟩)
   refine q ta hk bd lg _ (m3.nfree (qR nhk) hhk) ((m4.trans (M _ _ _ _ _)).nfree (qR nbd.symm) hbd) ((m4.trans ((((M _ _ _ _ _).trans (Same.upd hbd).mv).trans Mv.upd1))).nfree (qR nlg.symm) hlg) (m4.trans M7) ⟨⟨dx,qd⟩,?_,KsAt.up KR,?_,?_,?_⟩ KR
   ·exact M7.sqt nt (Same.sqt u3 (Same.sqt s3 ht2))
   ·exact⟨([],fun _=>0),by rw[qp nbd.symm,qp hbdlg,qp nbd.symm];exact qd,fun e he=>by(cases he),.refl _,CI⟩
   ·exact⟨[],by rw[qp nlg.symm];exact qd,Jf _⟩
   ·refine(qi (o:= .lst (bs.map V.ref)) ?_ hlg).symm
    rw[qp nhk];rw[qp (qi (o:= .lst (bs.map V.ref)) (by rw[qp nhk,qp nhk,qp nhk,qp nhk,qp nhk];exact qd) hbd)]
    rw[qp nhk,qp nhk,qp nhk,qp nhk,qp nhk];exact qd
theorem bF(a:AtM K C "bounds_told" "Door.bounds_told" QC ["self"])(T:Txt K mg tk)(U:DCx K C):Mf P w K mg base C "bounds_told" ["self"] 1 (gK K C):=by
 refine a.mq bC (fun vs H Q E h=>?_) (fun f cdv A outer s H vs Q E hr h=>?_)
 ·obtain⟨_,_,_,_,_,_,_,rfl,_⟩:=h
  rfl
 ·obtain⟨p,ta,hk,bd,lg,n,D,rfl,b,q⟩:=h
  refine⟨_,(qg (qu (qx (qc (za (qv 0)) (qc (za (qv 0)) (qc (za (qv 0)) qb)))))),?_⟩
  exact⟨_,rfl,p,_,rfl,b.h_near U,_,rfl,p,_,rfl,b.h_far U,_,rfl,p,_,rfl,b.h_most U,by show 3<=sizeLine;decide,fun t ht=>q t _ (Same.upd ht) qd⟩
end
section
variable{P:Program}{w:World}{K:Frag}{mg:Str->Option Value}{base:Heap}{tk:Nat->Tok}
theorem kQ(a:At K mg "_law_take" bm ["_law_box_here","_law_many"])(T:Txt K mg tk):Df P w K mg base "_law_take" ["_law_box_here","_law_many"] 1 Za:=by
 refine a.dq sc_law_take (fun vs H Q E h=>?_) (fun f cdv A outer s H vs Q E hr h=>?_)
 ·obtain⟨b,many,c,rfl,_⟩:=h
  rfl
 ·obtain⟨b,many,c,rfl,⟨n,m,k,hb,m0,m1,k0,k1⟩,hc,h0,h1,q⟩:=h
  refine⟨_,(qe (qJ (qE nQ (qy qF (qv 0) qf (fun _ _=>rfl)) qf (qA _)) (qe (qC (i:=2) sc_law_take.nd rfl (Or.inl rfl) (qw zO (qy qF (qv 0) qf (fun _ _=>rfl)) (qv 1)))
   (qe (ze (qw aC (qy qF (qv 0) qf (fun _ _=>rfl)) (qv 1)) (cn (qv 0) qf Zn))
   (qg (qu (qv 2))))) qB)
   (qe (ze (qw qH (qy qF (qv 0) qf (fun _ _=>rfl)) qf) (cn (qv 0) qf Zn))
   (qe (qC (i:=3) sc_law_take.nd rfl (Or.inl rfl) (qw qH (qy qF (qv 0) qf (fun _ _=>rfl)) (qw Qm qf (qy qF (qv 0) qf (fun _ _=>rfl)))))
   (qe (zi JI rfl (zy rfl T.b_range (qc qf qb)) (qh (i:=4) sc_law_take.nd rfl (Or.inl rfl))
   (qg (qC (i:=3) sc_law_take.nd rfl (Or.inl rfl) (qw zO (qw qH (qw qH (qw Qm (qv 3) (qv 3)) (qw Qm qf (qy qF (qv 0) qf (fun _ _=>rfl)))) qf) qf))))
   (qg (qu (qw zO (qw aC (qv 3) qf) (qv 1)))))))),?_⟩
  refine⟨_,rfl,b,_,_,_,rfl,rfl,SqL.of hb,rfl,_,_,rfl,rfl,_,rfl,?_⟩
  refine q9 (fun _=>?_) (fun _=>?_)
  ·refine⟨_,rfl,b,_,_,_,rfl,rfl,SqL.of hb,rfl,_,rfl,_,_,rfl,rfl,h0,?_⟩
   refine⟨_,rfl,b,_,_,_,rfl,rfl,SqL.of hb,rfl,_,rfl,_,_,rfl,rfl,⟨h0,h1⟩,_,rfl,b,_,_,0,rfl,rfl,hb,rfl,?_⟩
   refine⟨_,rfl,?_⟩
   refine q _ _ (Ce _ (by omega)) (Cf _ h0) ⟨fun c o hc e=>?_,_,_,_,qd,m0,m1,k0,by omega⟩
   rw[qp hc];exact e
  ·refine⟨_,rfl,b,_,_,_,rfl,rfl,SqL.of hb,rfl,_,_,rfl,rfl,_,rfl,b,_,_,2,rfl,rfl,hb,rfl,?_⟩
   have hb2:(upd H b (nZ n m (k+1))) b=some (nZ n m (k+1)):=qd
   refine⟨_,rfl,b,_,_,_,rfl,rfl,SqL.of hb2,rfl,_,rfl,b,_,_,_,rfl,rfl,SqL.of hb2,rfl,_,_,rfl,rfl,.inl ⟨by decide,by decide⟩,_,_,rfl,rfl,?_⟩
   refine⟨3,rfl,by decide,by decide,QF (n:=3) (Pv:=fun i σ H2=>H2=upd H b (nZ n m (k+1))/\∃(z:Int) (o:Option V),σ=[some (.ref b),some (.int many),none,some (.int z),o]/\0<=z/\z<2 ^ 64) ⟨rfl,_,_,rfl,by omega,by omega⟩ ?_ ?_⟩
   ·rintro i σ H2 hi ⟨rfl,z,o,rfl,z0,z1⟩
    refine⟨_,rfl,_,rfl,_,_,rfl,rfl,.inl ⟨by omega,by omega⟩,_,rfl,b,_,_,_,rfl,rfl,SqL.of hb2,rfl,_,_,rfl,rfl,.inl ⟨by decide,by decide⟩,_,_,rfl,rfl,_,_,rfl,rfl,_,_,rfl,rfl,(by decide:(0:Int)<2305843009213693951),rfl,_,_,rfl,?_,?_⟩
    ·exact Ce _ (by decide)
    ·exact Int.lt_trans (Cf _ (by decide)) (by decide)
   ·rintro σ H2 ⟨rfl,z,o,rfl,z0,z1⟩
    refine⟨_,rfl,_,_,rfl,rfl,⟨by decide,by decide⟩,_,rfl,_,_,rfl,rfl,h0,?_⟩
    refine q _ _ (Ce _ (by omega)) (Cf _ h0) ⟨fun c o hc e=>?_,_,_,_,qd,m0,m1,by omega,by omega⟩
    rw[qp hc];exact e
theorem oo(a:At K mg "_law_box" cj ["_law_script","_law_k"])(T:Txt K mg tk):Df P w K mg base "_law_box" ["_law_script","_law_k"] 1 (sw K):=by
 refine a.dq sc_law_box (fun vs H Q E h=>?_) (fun f cdv A outer s H vs Q E hr h=>?_)
 ·obtain⟨b,ns,k,rfl,_⟩:=h
  rfl
 ·obtain⟨b,ns,k,rfl,hS,q⟩:=h
  refine⟨_,(qe (ze (qx (qc qf (qc qf qb))) (eV rfl (qr (qh (i:=2) sc_law_box.nd rfl (Or.inl rfl)) (qr (qh (i:=3) sc_law_box.nd rfl (Or.inl rfl)) qN))))
   (qe (qJ (qE eO (qv 1) (qm qQ (by rfl) T.b_len JY (qc (qv 0) qb)) (qA _)) (qg (qC (i:=2) sc_law_box.nd rfl (Or.inl rfl) (qy qF (qv 0) (qv 1) (fun _ _=>rfl)))) qB)
   (qe (zi JI rfl (zM (Qb lG (qv 0) Qp (Qo qf))) (qh (i:=4) sc_law_box.nd rfl (Or.inl rfl))
   (qg (qC (i:=3) sc_law_box.nd rfl (Or.inl rfl) (qw zO (qw qH (qw Qm (qv 3) qf) (qv 4)) qf))))
   (qg (qu (qS (qc (qw Qm (qm ke (by rfl) T.b_abs PyProof.Rows.boot_abs (qc (qv 2) qb)) (qM cq (by rfl) T.b_int B5 (qc (zf oF (qm ke (by rfl) T.b_abs PyProof.Rows.boot_abs (qc (qv 2) qb)) (qw yJ qf qf) (qA _)) qb))) (qc (qw zO (qw qH (qw qH (qw Qm (qv 3) qf) (qv 2)) (qw Qm qf (qv 1))) qf) (qc qf qb))))))))),?_⟩
  refine⟨by show 2<=sizeLine;decide,fun tp htp=>⟨tp,_,rfl,SqT.of qd,rfl,_,_,rfl,_,_,rfl,rfl,?_⟩⟩
  have s1:=Same.upd (o:= .tup [.int 0,.int 7]) htp
  refine⟨_,rfl,_,rfl,b,_,rfl,.inl (s1.seq hS),_,_,rfl,rfl,_,rfl,?_⟩
  refine q9 (fun hk=>?_) (fun _=>?_)
  ·have hk':k<ns.length:=by have:=Jy hk;rw[Je]at this;omega
   refine⟨_,rfl,_,rfl,b,_,_,.int ns[k],rfl,rfl,s1.seq hS,QK (by rw[Jo,Jl hk'];rfl),?_⟩
   refine⟨_,rfl,_,rfl,b,_,rfl,s1.seq hS,fun l hl=>⟨l,rfl,⟨_,SqL.of qd⟩,?_⟩⟩
   rw[ZY];have s2:=s1.trans (Same.upd (o:= .lst ((ZF ns none (some 63)).map V.int)) hl)
   refine zN (K:=K) (a:=l) (xs:=(ZF ns none (some 63)).map V.int) (fun i σ H2=>H2=upd (upd H tp (.tup [.int 0,.int 7])) l (.lst ((ZF ns none (some 63)).map V.int))/\∃(z:Int) (o:Option V),σ=[some (.ref b),some (.int (k:Int)),some (.int ns[k]),some (.int z),o]/\0<=z/\z<2147483647) ⟨rfl,_,_,rfl,by decide,by decide⟩ (fun i σ H2 _ ⟨e,_⟩=>by subst e;exact SqL.of qd) ?_ ?_
   ·rintro i x σ H2 hx ⟨rfl,z,o,rfl,z0,z1⟩
    obtain⟨y,rfl,hy⟩:=Ql hx;refine⟨_,rfl,_,_,rfl,rfl,.inr ⟨by decide,by decide⟩,_,rfl,_,_,rfl,rfl,_,_,rfl,rfl,(by decide:(0:Int)<2147483647),rfl,_,_,rfl,Ce _ (by decide),Cf _ (by decide)⟩
   ·rintro σ H2 ⟨rfl,z,o,rfl,z0,z1⟩
    refine⟨_,rfl,_,rfl,_,rfl,_,rfl,_,_,rfl,rfl,⟨by decide,by decide,by decide⟩,_,_,rfl,rfl,.inr ⟨_,rfl,?_⟩⟩
    refine⟨_,_,rfl,rfl,.inr ⟨pT _,rU _⟩,_,rfl,_,_,rfl,rfl,.inr ⟨by decide,by decide⟩,_,rfl,_,_,rfl,rfl,_,rfl,_,_,rfl,rfl,.inl ⟨by decide,by decide⟩,_,_,rfl,rfl,_,_,rfl,rfl,(by decide:(0:Int)<2305843009213693951),?_⟩
    exact⟨by show 3<=sizeLine;decide,fun p hp=>q _ _ (QM hp s2) (s2.trans (Same.upd hp)) ⟨_,_,_,qd,Ce _ (by decide),Int.lt_trans (Cf _ (by decide)) (by decide),by decide,by decide⟩⟩
  ·refine⟨_,rfl,_,rfl,b,_,rfl,s1.seq hS,fun l hl=>⟨l,rfl,⟨_,SqL.of qd⟩,?_⟩⟩
   rw[ZY];have s2:=s1.trans (Same.upd (o:= .lst ((ZF ns none (some 63)).map V.int)) hl)
   refine zN (K:=K) (a:=l) (xs:=(ZF ns none (some 63)).map V.int) (fun i σ H2=>H2=upd (upd H tp (.tup [.int 0,.int 7])) l (.lst ((ZF ns none (some 63)).map V.int))/\∃(z:Int) (o:Option V),σ=[some (.ref b),some (.int (k:Int)),some (.int 0),some (.int z),o]/\0<=z/\z<2147483647) ⟨rfl,_,_,rfl,by decide,by decide⟩ (fun i σ H2 _ ⟨e,_⟩=>by subst e;exact SqL.of qd) ?_ ?_
   ·rintro i x σ H2 hx ⟨rfl,z,o,rfl,z0,z1⟩
    obtain⟨y,rfl,hy⟩:=Ql hx;refine⟨_,rfl,_,_,rfl,rfl,.inr ⟨by decide,by decide⟩,_,rfl,_,_,rfl,rfl,_,_,rfl,rfl,(by decide:(0:Int)<2147483647),rfl,_,_,rfl,Ce _ (by decide),Cf _ (by decide)⟩
   ·rintro σ H2 ⟨rfl,z,o,rfl,z0,z1⟩
    refine⟨_,rfl,_,rfl,_,rfl,_,rfl,_,_,rfl,rfl,⟨by decide,by decide,by decide⟩,_,_,rfl,rfl,.inr ⟨_,rfl,?_⟩⟩
    refine⟨_,_,rfl,rfl,.inr ⟨pT _,rU _⟩,_,rfl,_,_,rfl,rfl,.inr ⟨by decide,by decide⟩,_,rfl,_,_,rfl,rfl,_,rfl,_,_,rfl,rfl,.inl ⟨by decide,by decide⟩,_,_,rfl,rfl,_,_,rfl,rfl,(by decide:(0:Int)<2305843009213693951),?_⟩
    exact⟨by show 3<=sizeLine;decide,fun p hp=>q _ _ (QM hp s2) (s2.trans (Same.upd hp)) ⟨_,_,_,qd,Ce _ (by decide),Int.lt_trans (Cf _ (by decide)) (by decide),by decide,by decide⟩⟩
theorem jt(a:At K mg "_law_table" aj ["_law_box_here"])(T:Txt K mg tk)(dA:Df P w K mg base "_law_take" ["_law_box_here","_law_many"] 1 Za):Df P w K mg base "_law_table" ["_law_box_here"] 2 ef:=by
 refine a.dq sc_law_table (fun vs H Q E h=>?_) (fun f cdv A outer s H vs Q E hr h=>?_)
 ·obtain⟨x,c,rfl,_⟩:=h
  rfl
 ·obtain⟨b,c,rfl,hb,hc,q⟩:=h
  refine⟨_,(qe (qC (i:=1) sc_law_table.nd rfl (Or.inr rfl) (qM (nH rfl) (by rfl) T.b_list BR (qc (qM gI (by rfl) T.b_range PyProof.Rows.boot_range (qc qf qb)) qb)))
   (qg (qu (qM qT (by rfl) T.b_tuple JD (qc (zU (own:=["_law_k"]) (fr:=["_law_rest","_law_box_here"]) (js:=[1,0]) rfl (zy rfl T.b_range (qc qf qb)) rfl (tR rfl rfl) rfl (tO rfl (by decide +kernel) (by decide +kernel) (by decide +kernel) rfl rfl rfl rfl rfl rfl) (fun _ _ _ _=>qh (i:=0) (show List.Nodup (["_law_k","_law_rest","_law_box_here"]:List Str)from by decide +kernel) rfl (Or.inl rfl) (.inr rfl)) (fun _ _ _ _=>(p8 (K:=K) rfl BQ PySem.F.slot_list_pop PySem.F.type_list_pop kG (qv 1) (qc (qq dA hr.mo (qc (qv 2) (qc (qm (bz (K:=K) rfl) (by rfl) T.b_len JY (qc (qv 1) qb)) qb))) qb)))) qb))))),?_⟩
  refine⟨_,rfl,fun r hr0=>⟨r,16,rfl,qd,by decide,fun l hl=>?_⟩⟩
  rw[AF];have s1:=(Same.upd (o:= .rng 0 16) hr0).trans (Same.upd (o:= .lst (digs.map V.int)) hl)
  have nlb:l≠b:=qP ((Same.upd hr0).grc hb).bx hl
  refine⟨_,rfl,by decide,by decide,QL (n:=16) (by decide) (fun i ys H2=>GrC b (c+i) H H2/\∃ms zs:List Int,H2 l=some (.lst (ms.map V.int))/\ys=zs.map V.int/\ms.length+i=16/\(zs++ms).Perm digs) ⟨s1.grc hb,digs,[],qd,rfl,by rw[jP],.refl _⟩ ?_ ?_⟩
  ·rintro i ys H2 hi hl2 ⟨G2,ms,zs,hm,rfl,hml,pm⟩
   refine⟨_,rfl,.inl ⟨rfl,_,SqL.of hm⟩,?_⟩
   refine⟨_,rfl,_,rfl,l,_,rfl,.inl (SqL.of hm),b,_,_,rfl,G2.bx,by omega,by rw[Je];omega,by rw[Je];omega,fun x H3 x0 x1 g3=>?_⟩
   rw[Je]at x1;obtain⟨k,rfl⟩:∃k:Nat,x=(k:Int):=⟨x.toNat,by omega⟩
   have hk:k<ms.length:=by omega
   have hm3:=g3.kp _ _ nlb hm;refine⟨l,_,_,k,.int ms[k],rfl,rfl,hm3,by omega,by omega,?_,?_,?_⟩
   ·rw[Je];exact bS hk
   ·rw[Jo,Jl hk];rfl
   ·refine⟨⟨fun c o hcb e=>?_,?_⟩,ms.eraseIdx k,zs++[ms[k]],?_,by simp,?_,?_⟩
    ·by_cases z:c=l
     ·subst z
      rw[Same.upd hr0 _ _ e]at hl;cases hl
     ·rw[qp z];exact g3.kp _ _ hcb (G2.kp _ _ hcb e)
    ·obtain⟨n,m,k',e,r⟩:=g3.bx
     exact⟨n,m,k',by rw[qp nlb.symm];exact e,r⟩
    ·rw[qd,mN]
    ·rw[List.length_eraseIdx_of_lt hk];omega
    ·exact(uF hk).trans pm
  ·rintro ys H2 hyl ⟨G2,ms,zs,hm,rfl,hml,pm⟩ p hp
   have e0:ms=[]:=List.eq_nil_of_length_eq_zero (by omega)
   subst e0;rw[CP]at pm;refine⟨p,_,rfl,.inl ⟨SqL.of qd,fun t ht=>?_⟩⟩
   have G3:=G2.same (Same.upd (o:= .lst (zs.map V.int)) hp)
   exact q t zs _ (G3.same (Same.upd ht)) (G3.fresh (hb.mono (by omega)) ht) qd pm
theorem mX(a:At K mg "_law_key" bP ["_law_box_here"])(T:Txt K mg tk)(dA:Df P w K mg base "_law_take" ["_law_box_here","_law_many"] 1 Za):Df P w K mg base "_law_key" ["_law_box_here"] 2 gi:=by
 refine a.dq ng (fun vs H Q E h=>?_) (fun f cdv A outer s H vs Q E hr h=>?_)
 ·obtain⟨x,c,rfl,_⟩:=h
  rfl
 ·obtain⟨b,c,rfl,hb,hc,q⟩:=h
  refine⟨_,(qg (qu (qM qT (by rfl) T.b_tuple JD (qc (zU (own:=["_law_k"]) (fr:=["_law_box_here"]) (js:=[0]) rfl (zy rfl T.b_range (qc (qw qH qf (qq dA hr.mo (qc (qv 0) (qc qf qb)))) qb)) rfl (kj rfl) rfl (jz rfl (by decide +kernel) (by decide +kernel) (by decide +kernel) rfl rfl rfl) (fun _ _ _ _=>qh (i:=0) (show List.Nodup (["_law_k","_law_box_here"]:List Str)from by decide +kernel) rfl (Or.inl rfl) (.inr rfl)) (fun _ _ _ _=>(qq dA hr.mo (qc (qv 1) (qc qf qb))))) qb)))),?_⟩
  refine⟨_,rfl,b,_,_,rfl,hb,by omega,by decide,by decide,fun r H1 r0 r1 g1=>⟨_,_,rfl,rfl,_,rfl,by omega,by omega,?_⟩⟩
  obtain⟨n,rfl,n8⟩:∃n:Nat,r=(n:Int)/\n<8:=⟨r.toNat,by omega,by omega⟩
  have en:(1+(n:Int)).toNat=n+1:=by omega
  rw[en];refine QL (n:=n+1) (JA (by omega:n+1<=8) (by decide)) (fun i ys H2=>GrC b (c+1+i) H H2/\∃ks:List Int,ys=ks.map V.int/\zu ks) ⟨g1,[],rfl,fun _ h=>nomatch h⟩ ?_ ?_
  ·rintro i ys H2 hi hl2 ⟨G2,ks,rfl,hk⟩
   refine⟨_,rfl,b,_,_,rfl,G2.bx,by omega,by decide,by decide,fun x H3 x0 x1 g3=>⟨G2.trans g3,ks++[x],by simp,fun z hz=>?_⟩⟩
   rcases JO.mp hz with y|y
   ·exact hk z y
   ·rw[Jg.mp y];exact⟨x0,x1⟩
  ·rintro ys H2 hyl ⟨G2,ks,rfl,hk⟩ p hp
   rw[Je]at hyl;refine⟨p,_,rfl,.inl ⟨SqL.of qd,fun t ht=>?_⟩⟩
   have G3:=G2.same (Same.upd (o:= .lst (ks.map V.int)) hp)
   exact q t ks _ ((G3.same (Same.upd ht)).mono (by omega)) (G3.fresh (hb.mono (by omega)) ht) qd hk (by omega) (by omega)
end
section
variable{P:Program}{w:World}{K:Frag}{mg:Str->Option Value}{base:Heap}{tk:Nat->Tok}
theorem iI(a:At K mg "back_table" Z2 ["table"])(T:Txt K mg tk):Df P w K mg base "back_table" ["table"] 1 (p7 K):=by
 refine a.dq sc_back_table (fun vs H Q E h=>?_) (fun f cdv A outer s H vs Q E hr h=>?_)
 ·obtain⟨x,t,rfl,_⟩:=h
  rfl
 ·obtain⟨c,t,rfl,hS,pm,q⟩:=h
  refine⟨_,(qe (qC (i:=1) sc_back_table.nd rfl (Or.inl rfl) (qw pG (qS (qc qf qb)) (zm (v:= .int 16) rfl T.g_DIGITS ⟨_,rfl⟩)))
   (qe (zi JI rfl (uc rfl T.b_enumerate (qc (qv 0) qb)) (eV rfl (qr (qh (i:=2) sc_back_table.nd rfl (Or.inl rfl)) (qr (qh (i:=3) sc_back_table.nd rfl (Or.inl rfl)) qN)))
   (qg (ze (qv 2) (cn (qv 1) (qv 3) Zn))))
   (qg (qu (qM qT (by rfl) T.b_tuple JD (qc (qv 1) qb)))))),?_⟩
  refine⟨by show 1<=sizeLine;decide,fun p hp=>⟨p,16,_,rfl,rfl,qd,by decide,by decide,by show 16<=sizeLine;decide,fun l hl=>?_⟩⟩
  have e0:(List.replicate (16:Int).toNat [V.int 0]).flatten=(QP t 0).map V.int:=by rw[ux];rfl
  rw[e0];have s1:=(Same.upd (o:= .lst [V.int 0]) hp)
  have s2:=s1.trans (Same.upd (o:= .lst ((QP t 0).map V.int)) hl)
  have step:∀(i:Nat) (x:V) (H2:Hp) (pp:Addr),(t.map V.int)[i]? =some x->H2 l=some (.lst ((QP t i).map V.int))->Same H H2->H2 pp=none->
    ∃j:Nat,∃z:Int,x= .int z/\bw ((QP t i).map V.int).length z=some j/\(upd H2 pp (.tup [.int i,x])) l=some (.lst ((QP t i).map V.int))/\
     (upd (upd H2 pp (.tup [.int i,x])) l (.lst (((QP t i).map V.int).set j (.int i)))) l=some (.lst ((QP t (i+1)).map V.int))/\Same H (upd (upd H2 pp (.tup [.int i,x])) l (.lst (((QP t i).map V.int).set j (.int i)))):=by
   intro i x H2 pp hx hm sm hpp;obtain⟨z,rfl,hz⟩:=Ql hx;have hi:i<t.length:=(Js.mp hz).1
   have ez:t[i]=z:=(Js.mp hz).2
   have bd:=j8 pm hi;have sp:=Same.upd (o:= .tup [.int i,.int z]) hpp
   refine⟨z.toNat,z,rfl,gb (by omega) (by rw[Je,aH];omega),sp _ _ hm,?_,fun d o e=>?_⟩
   ·rw[qd,bj,<- ez,tW pm hi]
   ·have ndl:d≠l:=fun y=>by
     rw[y]at e;rw[s1 _ _ e]at hl;cases hl
    rw[qp ndl];exact sp _ _ (sm _ _ e)
  have fin:∀(o:Option V) (o':Option V) (H2:Hp),H2 l=some (.lst ((QP t t.length).map V.int))->Same H H2->∀p',H2 p'=none->Q (.ref p') (upd H2 p' (.tup ((QP t t.length).map V.int))):=fun _ _ H2 hm sm p' hp'=>
   q _ _ (sm.trans (Same.upd hp')) (by rw[qd,wa pm])
  rcases hS with hS|hS
  ·refine⟨_,rfl,c,rfl,.inl ⟨⟨_,s2.seq hS⟩,?_⟩⟩
   refine j5 (K:=K) (a:=c) (xs:=t.map V.int) (fun i σ H2=>∃(o2 o3:Option V),σ=[some (.ref c),some (.ref l),o2,o3]/\H2 l=some (.lst ((QP t i).map V.int))/\Same H H2) ⟨none,none,rfl,qd,s2⟩ (fun i σ H2 _ ⟨_,_,_,_,sm⟩=>sm.seq hS) ?_ ?_
   ·rintro i x σ H2 pp hx ⟨o2,o3,rfl,hm,sm⟩ hpp
    obtain⟨j,z,rfl,hj,e1,e2,s3⟩:=step i x H2 pp hx hm sm hpp;refine⟨pp,_,rfl,SqT.of qd,rfl,_,_,rfl,_,_,rfl,rfl,?_⟩
    exact⟨_,rfl,_,rfl,_,rfl,l,_,_,j,rfl,rfl,e1,hj,_,_,rfl,e2,s3⟩
   ·rintro σ H2 ⟨o2,o3,rfl,hm,sm⟩
    rw[Je]at hm
    exact⟨_,rfl,l,_,rfl,.inl ⟨SqL.of hm,fin o2 o3 H2 hm sm⟩⟩
  ·refine⟨_,rfl,c,rfl,.inr ⟨⟨_,Same.sqt s2 hS⟩,?_⟩⟩
   refine rZ (K:=K) (a:=c) (xs:=t.map V.int) (fun i σ H2=>∃(o2 o3:Option V),σ=[some (.ref c),some (.ref l),o2,o3]/\H2 l=some (.lst ((QP t i).map V.int))/\Same H H2) ⟨none,none,rfl,qd,s2⟩ (fun i σ H2 _ ⟨_,_,_,_,sm⟩=>Same.sqt sm hS) ?_ ?_
   ·rintro i x σ H2 pp hx ⟨o2,o3,rfl,hm,sm⟩ hpp
    obtain⟨j,z,rfl,hj,e1,e2,s3⟩:=step i x H2 pp hx hm sm hpp;refine⟨pp,_,rfl,SqT.of qd,rfl,_,_,rfl,_,_,rfl,rfl,?_⟩
    exact⟨_,rfl,_,rfl,_,rfl,l,_,_,j,rfl,rfl,e1,hj,_,_,rfl,e2,s3⟩
   ·rintro σ H2 ⟨o2,o3,rfl,hm,sm⟩
    rw[Je]at hm
    exact⟨_,rfl,l,_,rfl,.inl ⟨SqL.of hm,fin o2 o3 H2 hm sm⟩⟩
theorem tV(a:At K mg "coded" fY ["table","key","digits"])(T:Txt K mg tk):Df P w K mg base "coded" ["table","key","digits"] 1 (gG K):=by
 refine a.dq sc_coded (fun vs H Q E h=>?_) (fun f cdv A outer s H vs Q E hr h=>?_)
 ·obtain⟨a,b,c,t,ks,ds,rfl,_⟩:=h
  rfl
 ·obtain⟨a,b,c,t,ks,ds,rfl,ha,hb,hc,lt,l1,l64,q⟩:=h
  refine⟨_,(qe (qC (i:=3) sc_coded.nd rfl (Or.inl rfl) (qM cv (by rfl) T.b_list BR (qc (qv 2) qb)))
   (qe (zi JI rfl (AE (qv 1)) (qh (i:=4) sc_coded.nd rfl (Or.inl rfl))
   (qg (zi JI rfl (zy rfl T.b_range (qc (qm qQ (by rfl) T.b_len JY (qc (qv 2) qb)) qb)) (qh (i:=5) sc_coded.nd rfl (Or.inl rfl))
   (qe (qC (i:=6) sc_coded.nd rfl (Or.inl rfl) (qy qF (qv 3) (qw zG (qv 5) qf) (fun _ _=>rfl)))
   (qg (ze (qy (IxR.or qF qI) (qv 0) (qw zO (qw qH (qw qH (qw qH (qy qF (qv 3) (qv 5) (fun _ _=>rfl)) (qv 4)) (qv 5)) (qv 6)) (zm (v:= .int 16) rfl T.g_DIGITS ⟨_,rfl⟩)) (fun _ _=>rfl)) (cn (qv 3) (qv 5) Zn)))))))
   (qg (qu (qM qT (by rfl) T.b_tuple JD (qc (qv 3) qb)))))),?_⟩
  refine⟨_,rfl,c,_,rfl,hc,fun l hl=>?_⟩
  have s1:Same H _:=Same.upd (o:= .lst (ds.map V.int)) hl
  refine⟨_,rfl,b,rfl,wx (K:=K) (H0:=H) hb (fun j σ H2=>Same H H2/\∃o4 o5 o6,σ=[some (.ref a),some (.ref b),some (.ref c),some (.ref l),o4,o5,o6]/\H2 l=some (.lst ((QJ t (ks.take j) ds).map V.int))) ⟨s1,_,_,_,rfl,qd⟩ (fun j σ' H' h=>h.1) ?_ ?_⟩
  ·rintro j x σ H2 hx ⟨s2,o4,o5,o6,rfl,hm⟩
   obtain⟨shift,rfl,hks⟩:=Ql hx;rw[gA hks,jZ];have hrl:(QJ t (ks.take j) ds).length=ds.length:=aI
   generalize QJ t (ks.take j) ds=r at hm hrl
   refine⟨_,rfl,c,_,rfl,hc.same s2,_,rfl,?_,?_,?_⟩
   ·omega
   ·rw[Je];omega
   rw[show((((ds.map V.int).length:Nat):Int)).toNat=ds.length by rw[Je];rfl]
   refine QF (n:=ds.length) (Pv:=fun i σ H3=>Same H H3/\∃o5 o6,σ=[some (.ref a),some (.ref b),some (.ref c),some (.ref l),some (.int shift),o5,o6]/\H3 l=some (.lst ((ZG t shift r i).map V.int))) ⟨s2,_,_,rfl,hm⟩ ?_ ?_
   ·rintro i σ H3 hi ⟨s3,o5,o6,rfl,hm3⟩
    have hrl3:(ZG t shift r i).length=ds.length:=by rw[Qx,hrl]
    generalize hr':ZG t shift r i=r' at hm3 hrl3
    have hi':i<r'.length:=by omega
    refine⟨_,rfl,_,rfl,_,_,rfl,rfl,l,_,_,_,rfl,rfl,SqL.of hm3,si (i:=i) (by omega) hi',?_⟩
    refine⟨_,rfl,_,rfl,_,rfl,l,_,_,_,rfl,rfl,SqL.of hm3,Z4 (i:=i) (by omega) hi',_,rfl,_,_,rfl,rfl,_,rfl,_,_,rfl,rfl,_,rfl,_,_,rfl,rfl,_,_,rfl,rfl,(by decide:(0:Int)<16),?_⟩
    have dm:=ZR (r'.getD i 0+shift+(0+(i:Int))+ah r' i)
    refine(ha.same s3).ix (Z4 (i:=((r'.getD i 0+shift+(0+(i:Int))+ah r' i)%16).toNat) (by have:=dm.1;omega) (by rw[lt];have:=dm.1;have:=dm.2;omega)) ?_
    refine⟨_,rfl,_,rfl,l,_,_,i,rfl,rfl,hm3,gb (by omega) (by rw[Je];exact hi'),Zm s3 hl,_,_,rfl,?_⟩
    rw[qd,bj,ZG,hr',gl,Int.zero_add]
   ·rintro σ H3 ⟨s3,o5,o6,rfl,hm3⟩
    exact⟨s3,_,_,_,rfl,hm3⟩
  ·rintro σ H2 ⟨s2,o4,o5,o6,rfl,hm⟩
   rw[Je,B0]at hm
   exact⟨_,rfl,l,_,rfl,.inl ⟨SqL.of hm,fun p hp=>q p _ (s2.trans (Same.upd hp)) (QM hp s2) qd⟩⟩
theorem oz(a:At K mg "decoded" cy ["table","key","digits"])(T:Txt K mg tk)(xQ:Df P w K mg base "back_table" ["table"] 1 (p7 K)):Df P w K mg base "decoded" ["table","key","digits"] 2 (gY K):=by
 refine a.dq sc_decoded (fun vs H Q E h=>?_) (fun f cdv A outer s H vs Q E hr h=>?_)
 ·obtain⟨a,b,c,t,ks,ds,rfl,_⟩:=h
  rfl
 ·obtain⟨a,b,c,t,ks,ds,rfl,ha,hb,hc,pm,hdd,l1,l64,q⟩:=h
  refine⟨_,(qe (qC (i:=3) sc_decoded.nd rfl (Or.inl rfl) (qq xQ hr.mo (qc (qv 0) qb)))
   (qe (qC (i:=4) sc_decoded.nd rfl (Or.inl rfl) (qM cv (by rfl) T.b_list BR (qc (qv 2) qb)))
   (qe (zi JI rfl (pR rfl T.b_reversed (qc (qv 1) qb)) (qh (i:=5) sc_decoded.nd rfl (Or.inl rfl))
   (qg (zi JI rfl (pR rfl T.b_reversed (qc (qM gI (by rfl) T.b_range PyProof.Rows.boot_range (qc (qm qQ (by rfl) T.b_len JY (qc (qv 2) qb)) qb)) qb)) (qh (i:=6) sc_decoded.nd rfl (Or.inl rfl))
   (qe (qC (i:=7) sc_decoded.nd rfl (Or.inl rfl) (qy qF (qv 4) (qw zG (qv 6) qf) (fun _ _=>rfl)))
   (qg (ze (qw zO (qw zG (qw zG (qw zG (qy qI (qv 3) (qy qF (qv 4) (qv 6) (fun _ _=>rfl)) (fun _ _=>rfl)) (qv 5)) (qv 6)) (qv 7)) (zm (v:= .int 16) rfl T.g_DIGITS ⟨_,rfl⟩)) (cn (qv 4) (qv 6) Zn)))))))
   (qg (qu (qM qT (by rfl) T.b_tuple JD (qc (qv 4) qb))))))),?_⟩
  refine⟨_,rfl,a,t,rfl,ha,pm,fun pb H1 s1 hpb=>?_⟩
  refine⟨_,rfl,c,_,rfl,hc.same s1,fun l hl=>?_⟩
  have s2:Same H1 _:=Same.upd (o:= .lst (ds.map V.int)) hl
  refine⟨_,rfl,b,rfl,uu (K:=K) (H0:=H1) (hb.same s1) (fun j σ H2=>Same H1 H2/\∃o4 o5 o6,σ=[some (.ref a),some (.ref b),some (.ref c),some (.ref pb),some (.ref l),o4,o5,o6]/\H2 l=some (.lst ((Q6 (zw t) (ks.drop (ks.length-j)) ds).map V.int))) ⟨s2,_,_,_,rfl,by rw[Nat.sub_zero,List.drop_length];exact qd⟩ (fun j σ' H' h=>h.1) ?_ ?_⟩
  ·rintro j x σ H2 hj hx ⟨s2,o4,o5,o6,rfl,hm⟩
   obtain⟨shift,rfl,hks⟩:=Ql hx;rw[Je]at hj hks;have ed:ks.drop (ks.length-(j+1))=shift::ks.drop (ks.length-j):=by
    have:=sE hks
    rw[show ks.length-1-j+1=ks.length-j by omega]at this
    rw[show ks.length-(j+1)=ks.length-1-j by omega]
    exact this
   rw[ed,Q6];have hrl:(Q6 (zw t) (ks.drop (ks.length-j)) ds).length=ds.length:=dh
   have hrd:zu (Q6 (zw t) (ks.drop (ks.length-j)) ds):=jK hdd
   generalize Q6 (zw t) (ks.drop (ks.length-j)) ds=r at hm hrl hrd
   refine⟨_,rfl,c,_,rfl,(hc.same s1).same s2,_,rfl,fun pr hpr=>⟨pr,rfl,.inr (.inr ⟨ds.length,?_,by omega,?_⟩)⟩⟩
   ·rw[qd,Je]
   have s2':=s2.trans (Same.upd (o:= .rng 0 ((ds.map V.int).length:Nat)) hpr)
   have hm':=Same.upd (o:= .rng 0 ((ds.map V.int).length:Nat)) hpr _ _ hm
   refine sX (n:=ds.length) (Pv:=fun i σ H3=>Same H1 H3/\∃o5 o6 r',σ=[some (.ref a),some (.ref b),some (.ref c),some (.ref pb),some (.ref l),some (.int shift),o5,o6]/\H3 l=some (.lst (r'.map V.int))/\r'.length=ds.length/\zu r'/\ZW (zw t) shift r' (ds.length-i)=ZW (zw t) shift r ds.length) ⟨s2',_,_,r,rfl,hm',hrl,hrd,rfl⟩ ?_ ?_
   ·rintro i σ H3 hi ⟨s3,o5,o6,r',rfl,hm3,hrl3,hrd3,er⟩
    have hi':ds.length-1-i<r'.length:=by omega
    have ep:(ds.length:Int)-1-i=((ds.length-1-i:Nat):Int):=by omega
    rw[ep];generalize hpl:ds.length-1-i=pl at hi'
    rw[show ds.length-i=pl+1 by omega,ZW]at er
    refine⟨_,rfl,_,rfl,_,_,rfl,rfl,l,_,_,_,rfl,rfl,SqL.of hm3,si (i:=pl) rfl hi',?_⟩
    have dr:=gm hrd3 pl;refine⟨_,rfl,_,rfl,_,rfl,l,_,_,_,rfl,rfl,SqL.of hm3,Z4 (i:=pl) rfl hi',pb,_,_,_,rfl,rfl,SqT.of (s3 _ _ hpb),Z4 (i:=(r'.getD pl 0).toNat) (by have:=dr.1;omega) (by rw[ab];have:=dr.1;have:=dr.2;omega),?_⟩
    refine⟨_,rfl,_,_,rfl,rfl,_,rfl,_,_,rfl,rfl,_,rfl,_,_,rfl,rfl,_,_,rfl,rfl,(by decide:(0:Int)<16),?_⟩
    refine⟨_,rfl,_,rfl,l,_,_,pl,rfl,rfl,hm3,mC (by rw[Je];exact hi'),Zm s3 hl,_,_,dn (zw t) shift r' pl,rfl,?_,by rw[jl];exact hrl3,kH hrd3,?_⟩
    ·rw[qd,bj,dn]
    ·rw[show ds.length-(i+1)=pl by omega];exact er
   ·rintro σ H3 ⟨s3,o5,o6,r',rfl,hm3,hrl3,hrd3,er⟩
    rw[Nat.sub_self,ZW]at er;rw[er]at hm3
    exact⟨s3,_,_,_,rfl,hm3⟩
  ·rintro σ H2 ⟨s2,o4,o5,o6,rfl,hm⟩
   rw[Je,Nat.sub_self,List.drop_zero]at hm
   exact⟨_,rfl,l,_,rfl,.inl ⟨SqL.of hm,fun p hp=>q p _ ((s1.trans s2).trans (Same.upd hp)) (QM hp (s1.trans s2)) qd⟩⟩
theorem dz(a:At K mg "letter_digits" Ze ["name"])(T:Txt K mg tk):Df P w K mg base "letter_digits" ["name"] 1 ir:=by
 refine a.dq sc_letter_digits (fun vs H Q E h=>?_) (fun f cdv A outer s H vs Q E hr h=>?_)
 ·obtain⟨z,rfl,_⟩:=h
  rfl
 ·obtain⟨z,rfl,hz,q⟩:=h
  refine⟨_,(qe (qC (i:=1) sc_letter_digits.nd rfl (Or.inl rfl) (qS qb))
   (qe (zi JI rfl (rb (qv 0)) (qh (i:=2) sc_letter_digits.nd rfl (Or.inl rfl))
   (qe (qC (i:=3) sc_letter_digits.nd rfl (Or.inl rfl) (qw zG (qm iY (by rfl) T.b_ord PyProof.Rows.boot_ord (qc (qv 2) qb)) (qm iY (by rfl) T.b_ord PyProof.Rows.boot_ord (qc qz qb))))
   (qe (zb (Zz BQ Ci Cj zX (qv 1) (qc (qw zO (qv 3) (zm (v:= .int 16) rfl T.g_DIGITS ⟨_,rfl⟩)) qb)))
   (qg (zb (Zz BQ Ci Cj zX (qv 1) (qc (qw aC (qv 3) (zm (v:= .int 16) rfl T.g_DIGITS ⟨_,rfl⟩)) qb)))))))
   (qg (qu (qv 1))))),?_⟩
  refine⟨by show 0<=sizeLine;decide,fun l hl=>?_⟩
  refine⟨_,rfl,z,rfl,kK hz,wj (fun i σ H2=>Same H H2/\∃o2 o3,σ=[some (.str z),some (.ref l),o2,o3]/\H2 l=some (.lst ((QY (z.cps.toList.take i)).map V.int))) ⟨Same.upd hl,_,_,rfl,qd⟩ ?_ ?_⟩
  ·rintro i c σ H2 hc ⟨s2,o2,o3,rfl,hm⟩
   have hc':=mf hc;rw[wq hc',rW];have hln:(QY (z.cps.toList.take i)).length<=16:=by rw[iy,BS];have:=hz.2.2;omega
   generalize QY (z.cps.toList.take i)=ds at hm hln
   have eX:((((⟨#[c]⟩:Str).cps.getD 0 0:Nat):Int)-((("a":Str).cps.getD 0 0:Nat):Int))=(c:Int)-97:=rfl
   have big:(100:Nat)<sizeLine:=by decide
   refine⟨_,rfl,_,rfl,rfl,_,rfl,rfl,_,_,rfl,rfl,?_⟩
   show ja _ _ _ [some (V.str z),some (V.ref l),some (V.str ⟨#[c]⟩),some (V.int ((c:Int)-97))] H2
   refine⟨_,rfl,.inl ⟨rfl,_,SqL.of hm⟩,_,rfl,_,_,rfl,rfl,(by decide:(0:Int)<16),l,_,_,rfl,rfl,hm,by rw[Je];omega,?_⟩
   have w1:Same H (upd H2 l (.lst (ds.map V.int++[V.int (((c:Int)-97)%16)]))):=Zm s2 hl
   refine⟨_,rfl,.inl ⟨rfl,_,SqL.of qd⟩,_,rfl,_,_,rfl,rfl,⟨by decide,by decide⟩,l,_,_,rfl,rfl,qd,by rw[Jx,Je,Cr];omega,Zm w1 hl,_,_,rfl,?_⟩
   rw[qd,JH,B8];rfl
  ·rintro σ H2 ⟨s2,o2,o3,rfl,hm⟩
   rw[show z.cps.size=z.cps.toList.length from rfl,B0]at hm
   exact⟨_,rfl,q l H2 s2 hl hm⟩
theorem pH(a:At K mg "key_of" c6 ["table","key","name"])(T:Txt K mg tk)(xG:Df P w K mg base "letter_digits" ["name"] 1 ir)(xL:Df P w K mg base "coded" ["table","key","digits"] 1 (gG K)):Df P w K mg base "key_of" ["table","key","name"] 2 (gq K):=by
 refine a.dq sc_key_of (fun vs H Q E h=>?_) (fun f cdv A outer s H vs Q E hr h=>?_)
 ·obtain⟨a,b,z,t,ks,rfl,_⟩:=h
  rfl
 ·obtain⟨a,b,z,t,ks,rfl,ha,hb,hz,lt,q⟩:=h
  refine⟨_,(qe (qC (i:=3) sc_key_of.nd rfl (Or.inl rfl) (qw pG (qS (qc qf qb)) (zm (v:= .int 4) rfl T.g_KEY_PLACES ⟨_,rfl⟩)))
   (qe (zi JI rfl (vN rfl T.b_enumerate (qc (qq xG hr.mo (qc (qv 2) qb)) qb)) (eV rfl (qr (qh (i:=4) sc_key_of.nd rfl (Or.inl rfl)) (qr (qh (i:=5) sc_key_of.nd rfl (Or.inl rfl)) qN)))
   (qg (wb (qv 3) (qw zO (qv 4) (zm (v:= .int 4) rfl T.g_KEY_PLACES ⟨_,rfl⟩)) uJ (qv 5) AB Zn)))
   (qg (qu (qq xL hr.mo (qc (qv 0) (qc (qv 1) (qc (zU (own:=["total"]) (fr:=[]) (js:=[]) rfl (zM (qv 3)) rfl (fun _ _ h=>nomatch h) rfl (cm rfl (by decide +kernel) (by decide +kernel) (by decide +kernel)) (fun _ _ _ _=>qh (i:=0) (show List.Nodup (["total"]:List Str)from by decide +kernel) rfl (Or.inl rfl) (.inr rfl)) (fun _ _ _ _=>(qw zO (qv 0) (zm (v:= .int 16) rfl T.g_DIGITS ⟨_,rfl⟩)))) qb)))))))),?_⟩
  refine⟨by show 1<=sizeLine;decide,fun p0 hp0=>⟨p0,4,_,rfl,rfl,qd,by decide,by decide,by show 4<=sizeLine;decide,fun l hl=>?_⟩⟩
  have s1:=(Same.upd (o:= .lst [V.int 0]) hp0)
  have s2:=s1.trans (Same.upd (o:= .lst (List.replicate (4:Int).toNat [V.int 0]).flatten) hl)
  have hlH:H l=none:=QM hl s1
  refine⟨_,rfl,z,rfl,hz,fun ld H1 s3 hldn hld=>?_⟩
  have hm1:=s3 _ _ (qd (H:=upd H p0 (.lst [V.int 0])) (a:=l) (o:= .lst (List.replicate (4:Int).toNat [V.int 0]).flatten))
  have ndl:ld≠l:=fun y=>by rw[y,qd]at hldn;cases hldn
  generalize hds:QY z.cps.toList=ds at hld q
  have hdl:ds.length<=16:=by rw[<- hds,iy];have:=hz.2.2;omega
  refine⟨ld,rfl,⟨_,SqL.of hld⟩,j5 (K:=K) (a:=ld) (xs:=ds.map V.int) (fun i σ H2=>∃(o4 o5:Option V),σ=[some (.ref a),some (.ref b),some (.str z),some (.ref l),o4,o5]/\H2 l=some (.lst ((Zy ds i).map V.int))/\H2 ld=some (.lst (ds.map V.int))/\Same H H2)
   ⟨none,none,rfl,hm1,hld,s2.trans s3⟩ (fun i σ H2 _ ⟨_,_,_,_,hd,_⟩=>SqL.of hd) ?_ ?_⟩
  ·rintro i x σ H2 pp hx ⟨o4,o5,rfl,hm,hd2,sm⟩ hpp
   obtain⟨dg,rfl,hz'⟩:=Ql hx;have hi:i<ds.length:=(Js.mp hz').1
   have eg:ds.getD i 0=dg:=by rw[JF,hz'];rfl
   have sp2:=Same.upd (o:= .tup [.int i,.int dg]) hpp
   have hm':=sp2 _ _ hm;have h4:i%4<(Zy ds i).length:=Nat.mod_lt i (by decide)
   have e4:(i:Int)%4=((i%4:Nat):Int):=by omega
   refine⟨pp,_,rfl,SqT.of qd,rfl,_,_,rfl,_,_,rfl,rfl,?_⟩
   refine⟨_,rfl,_,rfl,_,_,rfl,rfl,(by decide:(0:Int)<4),l,_,i%4,.int ((Zy ds i).getD (i%4) 0),rfl,(by show V.int ((i:Int)%4)=_;rw[e4]),hm',?_,_,rfl,_,_,rfl,rfl,l,_,_,i%4,rfl,rfl,hm',gb e4 (by rw[Je];exact h4),_,_,rfl,?_,?_,?_⟩
   ·rw[gf h4,JF,Jl h4];rfl
   ·rw[qd,bj,<- eg,sH]
   ·rw[qp ndl];exact sp2 _ _ hd2
   ·exact Zm (sm.trans sp2) hlH
  ·rintro σ H2 ⟨o4,o5,rfl,hm,hd2,sm⟩
   rw[Je]at hm;refine⟨_,rfl,_,rfl,_,rfl,l,rfl,⟨_,SqL.of hm⟩,bZ (xs:=(Zy ds ds.length).map V.int) (by show 4<=sizeLine;decide) (fun i ys H3=>ys=((av ds).take i).map V.int/\H3=H2) ⟨by simp,rfl⟩ (fun i ys H3 ⟨_,e⟩=>by rw[e];exact SqL.of hm) ?_ ?_⟩
   ·rintro i ys H3 x hx _ ⟨rfl,rfl⟩
    obtain⟨y,rfl,hy⟩:=Ql hx;refine⟨_,rfl,_,_,rfl,rfl,(by decide:(0:Int)<16),?_,rfl⟩
    have:(av ds)[i]? =some (y%16):=by unfold av;rw[Jo,hy];rfl
    rw[J5,this];simp
   ·rintro ys H3 hyl ⟨rfl,rfl⟩ p hp
    rw[show(av ds).take ((Zy ds ds.length).map V.int).length=av ds from rfl]
    have su:=Same.upd (o:= .lst ((av ds).map V.int)) hp
    exact⟨a,b,p,t,ks,av ds,rfl,(ha.same sm).same su,(hb.same sm).same su,.lst qd,lt,by rw[i8];decide,by rw[i8];decide,fun p' H' s' hn' hp'=>q p' H' ((sm.trans su).trans s') (QM hn' (sm.trans su)) hp'⟩
theorem fH(a:At K mg "count_digits" Zu ["count"])(T:Txt K mg tk):Df P w K mg base "count_digits" ["count"] 1 yO:=by
 refine a.dq fi (fun vs H Q E h=>?_) (fun f cdv A outer s H vs Q E hr h=>?_)
 ·obtain⟨c,rfl,_⟩:=h
  rfl
 ·obtain⟨c,rfl,q⟩:=h
  refine⟨_,(qg (qu (qx (qc (qw zO (qv 0) (zm (v:= .int 16) rfl T.g_DIGITS ⟨_,rfl⟩)) (qc (qw zO (qw aC (qv 0) (zm (v:= .int 16) rfl T.g_DIGITS ⟨_,rfl⟩)) (zm (v:= .int 16) rfl T.g_DIGITS ⟨_,rfl⟩)) (qc (qw aC (qv 0) qf) qb)))))),?_⟩
  exact⟨_,rfl,_,_,rfl,rfl,(by decide:(0:Int)<16),_,rfl,_,_,rfl,rfl,⟨by decide,by decide⟩,_,_,rfl,rfl,(by decide:(0:Int)<16),_,rfl,_,_,rfl,rfl,⟨by decide,by decide⟩,by show 3<=sizeLine;decide,fun p hp=>q p _ (Same.upd hp) qd⟩
theorem wM{c d:Int}(h0:0<=c)(h1:c<4096)(hd:af d):∀z∈ZQ c d,0<=z/\z<=1000000:=fun z hz=>by
 have:=da h0 h1 hd z (Ck _ hz)
 exact⟨this.1,Int.le_trans (Int.le_of_lt this.2) (by decide)⟩
theorem kS(a:At K mg "press_of" aU ["table","key","name","age","count","deed"])(T:Txt K mg tk)(xJ:Df P w K mg base "count_digits" ["count"] 1 yO)(xK:Df P w K mg base "key_of" ["table","key","name"] 2 (gq K))(xL:Df P w K mg base "coded" ["table","key","digits"] 1 (gG K)):Df P w K mg base "press_of" ["table","key","name","age","count","deed"] 3 (lF K):=by
 refine a.dq sc_press_of (fun vs H Q E h=>?_) (fun f cdv A outer s H vs Q E hr h=>?_)
 ·obtain⟨a,b,z,age,c,d,t,ks,rfl,_⟩:=h
  rfl
 ·obtain⟨a,b,z,age,c,d,t,ks,rfl,ha,hb,hz,lt,c0,c1,hd,q⟩:=h
  refine⟨_,(qe (qC (i:=6) sc_press_of.nd rfl (Or.inl rfl) (qw cB (qq xJ hr.mo (qc (qv 4) qb)) (qx (qc (qv 5) qb))))
   (qe (qC (i:=7) sc_press_of.nd rfl (Or.inl rfl) (qw cB (qv 6) (qx (qc (qw zO (qm (pM rfl) (by rfl) T.b_sum PyProof.Rows.boot_sum (qc (qv 6) qb)) (zm (v:= .int 16) rfl T.g_DIGITS ⟨_,rfl⟩)) qb))))
   (qg (qu (qx (qc (qv 2) (qc (qv 3) (qc (qq xL hr.mo (qc (qv 0) (qc (qq xK hr.mo (qc (qv 0) (qc (qv 1) (qc (qv 2) qb)))) (qc (qv 7) qb)))) qb)))))))),?_⟩
  refine⟨_,rfl,c,rfl,fun p1 H1 s1 hp1=>?_⟩
  refine⟨_,rfl,by show 1<=sizeLine;decide,fun p2 hp2=>?_⟩
  have u2:=Same.upd (o:= .tup [V.int d]) hp2
  refine⟨p1,p2,_,_,rfl,rfl,u2 _ _ hp1,qd,by show 4<=sizeLine;decide,fun p3 H3 s3 hp3=>?_⟩
  have hp3':H3 p3=some (.tup ((ZQ c d).map V.int)):=hp3
  have S3:=(s1.trans u2).trans s3;refine⟨_,rfl,_,rfl,p3,ZQ c d,rfl,.tup hp3',by show 4<=1000;decide,wM c0 c1 hd,_,_,rfl,rfl,(by decide:(0:Int)<16),by show 1<=sizeLine;decide,fun p4 hp4=>?_⟩
  have u4:=Same.upd (o:= .tup [V.int ((ZQ c d).sum%16)]) hp4
  refine⟨p3,p4,_,_,rfl,rfl,u4 _ _ hp3',qd,by show 5<=sizeLine;decide,fun p5 H5 s5 hp5=>?_⟩
  have hp5':H5 p5=some (.tup ((ZM c d).map V.int)):=hp5
  have S5:=(S3.trans u4).trans s5;refine⟨_,rfl,_,rfl,_,rfl,_,rfl,_,rfl,_,rfl,a,b,z,t,ks,rfl,ha.same S5,hb.same S5,hz,lt,fun pk H6 s6 _ hpk=>?_⟩
  refine⟨_,rfl,a,pk,p5,t,gn t ks z,ZM c d,rfl,(ha.same S5).same s6,.tup hpk,.tup (s6 _ _ hp5'),lt,by rw[aY];decide,by rw[aY];decide,fun pc H7 s7 _ hpc=>?_⟩
  refine⟨by show 3<=sizeLine;decide,fun p hp=>?_⟩
  have u8:=Same.upd (o:= .tup [V.str z,.int age,.ref pc]) hp
  exact q p pc _ (((S5.trans s6).trans s7).trans u8) qd (u8 _ _ hpc)
theorem iF(a:At K mg "read_press" ZT ["table","key","press"])(T:Txt K mg tk)(xK:Df P w K mg base "key_of" ["table","key","name"] 2 (gq K))(x9:Df P w K mg base "decoded" ["table","key","digits"] 2 (gY K)):Df P w K mg base "read_press" ["table","key","press"] 3 (kB K):=by
 refine a.dq sc_read_press (fun vs H Q E h=>?_) (fun f cdv A outer s H vs Q E hr h=>?_)
 ·obtain⟨a,b,pr,pc,z,age,t,ks,ds,rfl,_⟩:=h
  rfl
 ·obtain⟨a,b,pr,pc,z,age,t,ks,ds,rfl,ha,hb,hpr,hpc,hz,pm,l5,hdd,q⟩:=h
  refine⟨_,(qe (ze (qv 2) (zj rfl (qr (qh (i:=3) sc_read_press.nd rfl (Or.inl rfl)) (qr (qh (i:=4) sc_read_press.nd rfl (Or.inl rfl)) (qr (qh (i:=5) sc_read_press.nd rfl (Or.inl rfl)) qN)))))
   (qe (ze (qq x9 hr.mo (qc (qv 0) (qc (qq xK hr.mo (qc (qv 0) (qc (qv 1) (qc (qv 3) qb)))) (qc (qv 5) qb)))) (eV rfl (qr (qh (i:=6) sc_read_press.nd rfl (Or.inl rfl)) (qr (qh (i:=7) sc_read_press.nd rfl (Or.inl rfl)) (qr (qh (i:=8) sc_read_press.nd rfl (Or.inl rfl)) (qr (qh (i:=9) sc_read_press.nd rfl (Or.inl rfl)) (qr (qh (i:=10) sc_read_press.nd rfl (Or.inl rfl)) qN)))))))
   (qe (qJ (qE Zi (qv 10) (qw zO (qw qH (qw qH (qw qH (qv 6) (qv 7)) (qv 8)) (qv 9)) (zm (v:= .int 16) rfl T.g_DIGITS ⟨_,rfl⟩)) (qA _)) (qg (qu zh)) qB)
   (qg (qu (qx (qc (qw qH (qw qH (qv 6) (qw Qm (qv 7) (zm (v:= .int 16) rfl T.g_DIGITS ⟨_,rfl⟩))) (qw Qm (qv 8) qf)) (qc (qv 9) qb)))))))),?_⟩
  refine⟨_,rfl,pr,_,rfl,hpr,rfl,_,_,rfl,_,_,rfl,_,_,rfl,rfl,?_⟩
  refine⟨_,rfl,_,rfl,_,rfl,_,rfl,a,b,z,t,ks,rfl,ha,hb,hz,ma pm,fun pk H1 s1 _ hpk=>?_⟩
  refine⟨_,rfl,a,pk,pc,t,gn t ks z,ds,rfl,ha.same s1,.tup hpk,hpc.same s1,pm,hdd,by omega,by omega,fun pd H2 s2 _ hpd=>?_⟩
  have q':∀x H',Same H2 H'->bT H' x (iS (Q6 (zw t) (gn t ks z) ds))->Q x H':=fun x H' s' ht=>q x H' ((s1.trans s2).trans s') ht
  have hl:(Q6 (zw t) (gn t ks z) ds).length=5:=by rw[dh,l5]
  obtain⟨lo,mi,hi,de,ck,er⟩:=wv hl;rw[er]at hpd q';refine⟨pd,_,rfl,SqT.of hpd,rfl,_,_,rfl,_,_,rfl,_,_,rfl,_,_,rfl,_,_,rfl,rfl,?_⟩
  refine⟨_,rfl,_,rfl,_,rfl,_,_,rfl,rfl,_,rfl,_,_,rfl,rfl,_,rfl,_,_,rfl,rfl,_,_,rfl,rfl,(by decide:(0:Int)<16),rfl,_,rfl,?_⟩
  have q2:∀x H',Same H2 H'->bT H' x (if ck=(lo+mi+hi+de)%16 then some (lo+mi*16+hi*256,de)else none)->Q x H':=q'
  by_cases e:ck=(lo+mi+hi+de)%16
  ·rw[Jd e]at q2
   refine ZP (c:=V.int ck=V.int ((lo+mi+hi+de)%16)) (by rw[e]) ?_
   refine⟨_,rfl,_,rfl,_,_,rfl,rfl,.inr ⟨by decide,by decide⟩,_,_,rfl,rfl,_,rfl,_,_,rfl,rfl,.inr ⟨by decide,by decide⟩,_,_,rfl,rfl,_,rfl,by show 2<=sizeLine;decide,fun p hp=>?_⟩
   exact q2 _ _ (Same.upd hp) ⟨p,rfl,qd⟩
  ·rw[Jc e]at q2
   refine q9 (fun _=>q2 _ _ (Same.refl _) rfl) (fun y=>absurd ?_ y)
   have:¬V.int ck=V.int ((lo+mi+hi+de)%16):=fun w'=>e (by injection w')
   show(!decide (V.int ck=V.int ((lo+mi+hi+de)%16)))=true
   rw[Jr this];rfl
end
end Lw
namespace L3
open PySem PySem.Spec PyProof.Rows L2
section
variable(K:Frag)(C:Addr)
def iX:Sp:=fun vs H Q _=>∃(p ta hk bd lg:Addr) (n:Nat) (D:Dr),vs=[.ref p]/\DoorAt K C H p ta hk bd lg n D/\DrOk D/\∀l (ss:List Str) H',Same H H'->ss.Perm (D.kn.map (·.1))->H' l=some (.lst (ss.map V.str))->Q (.ref l) H'
def lE:Sp:=fun vs H Q _=>∃(p ta hk bd lg a:Addr) (n:Nat) (D:Dr) (e:Kb) (p' ta' hk' bd' lg' a':Addr) (n':Nat) (D':Dr) (e':Kb),vs=[.ref p,.ref a,.ref p',.ref a']/\DoorAt K C H p ta hk bd lg n D/\BuAt H a e/\DoorAt K C H p' ta' hk' bd' lg' n' D'/\BuAt H a' e'/\
 ∀H',Same H H'->Q (.int (Zv D e D' e')) H'
def pA:Sp:=fun vs H Q _=>∃(p ta hk bd lg a:Addr) (n:Nat) (D:Dr) (e:Kb) (age c:Int),vs=[.ref p,.ref a,.int age,.int c]/\DoorAt K C H p ta hk bd lg n D/\BuAt H a e/\∀q H',Same H H'->H' q=some (.tup [.int (QN D e age c).1,.int (QN D e age c).2])->Q (.ref q) H'
structure CbOk(D:Dr)(e:Kb):Prop where
 l0:0<=e.last
 l1:e.last<4096
 f0:0<=D.far
 f1:D.far<=2000
def rp:Sp:=fun vs H Q _=>∃(p ta hk bd lg a:Addr) (n:Nat) (D:Dr) (e:Kb) (p' ta' hk' bd' lg' a':Addr) (n':Nat) (D':Dr) (e':Kb),vs=[.ref p,.ref a,.ref p',.ref a']/\DoorAt K C H p ta hk bd lg n D/\BuAt H a e/\DoorAt K C H p' ta' hk' bd' lg' n' D'/\BuAt H a' e'/\CbOk D e/\CbOk D' e'/\
 ∀H',Same H H'->Q (gZ (zS D e D' e')) H'
def BrT(H:Hp)(q:Addr)(zs:List (Str×Option Int)):Prop:=∃as:List Addr,H q=some (.tup (as.map V.ref))/\as.length=zs.length/\∀(i:Nat) (a:Addr) (z:Str×Option Int),as[i]? =some a->zs[i]? =some z->H a=some (.tup [.str z.1,gZ z.2])
def Bl(H:Hp)(q:Addr)(zs:List (Str×Option Int)):Prop:=∃as:List Addr,H q=some (.lst (as.map V.ref))/\as.length=zs.length/\∀(i:Nat) (a:Addr) (z:Str×Option Int),as[i]? =some a->zs[i]? =some z->H a=some (.tup [.str z.1,gZ z.2])
def aS:Sp:=fun vs H Q _=>∃(p ta hk bd lg:Addr) (n:Nat) (D:Dr) (p' ta' hk' bd' lg':Addr) (n':Nat) (D':Dr),vs=[.ref p,.ref p']/\DoorAt K C H p ta hk bd lg n D/\DoorAt K C H p' ta' hk' bd' lg' n' D'/\DrOk D/\DrOk D'/\(∀nm e,D.kn.lookup nm=some e->CbOk D e)/\(∀nm e,D'.kn.lookup nm=some e->CbOk D' e)/\
 ∀q cs H',Same H H'->cs.Nodup->(∀k,k∈cs↔k∈D.kn.map (·.1)/\k∈D'.kn.map (·.1))->sortedS cs=true->BrT H' q (zJ D D' cs)->Q (.ref q) H'
end
theorem lj{D D':Dr}{nm:Str}{e e':Kb}{cs:List Str}(he:D.kn.lookup nm=some e)(he':D'.kn.lookup nm=some e')(h:e.last=e'.last):zJ D D' (cs++[nm])=zJ D D' cs:=by
 unfold zJ;rw[List.filterMap_append];simp only[CM,List.filterMap_nil,he,he',h,BO,CP]
theorem jF{D D':Dr}{nm:Str}{e e':Kb}{cs:List Str}(he:D.kn.lookup nm=some e)(he':D'.kn.lookup nm=some e')(h:e.last≠e'.last):zJ D D' (cs++[nm])=zJ D D' cs++[(nm,zS D e D' e')]:=by
 unfold zJ;rw[List.filterMap_append];simp only[CM,List.filterMap_nil,he,he',Jc h]
theorem pW{α:Type} [DecidableEq α]:∀{l m:List α},l.Nodup->(∀x∈l,x∈m)->l.length<=m.length
 | [],m,_,_=>JC _
 |x::l,m,hn,hs=>by
  obtain⟨n1,n2⟩:=BN.mp hn;have hx:=hs x (JE ..);have ih:=pW (l:=l) (m:=m.erase x) n2 (fun y hy=>(List.mem_erase_of_ne (fun e:y=x=>n1 (by rw[<- e];exact hy))).mpr (hs y (JJ _ hy)))
  have h1:=List.length_erase_of_mem hx;have h2:=List.length_pos_of_mem hx;rw[BM];omega
structure LrOk(t:List Int)(kss:List (List Int))(D:Dr):Prop where
 ok:DrOk D
 t:D.t=t
 ks:D.kss=kss
 rm:(D.kn.length:Int)<D.most
theorem eW{t:List Int}{kss:List (List Int)}{D:Dr}{nm:Str}{age c d:Int}(h:LrOk t kss D)(l0:D.least<=age)(a1:age<kss.length)(c0:0<=c)(c1:c<4096)(hd:af d):cr D (Qn t kss nm age c d)=some (c,d):=by
 unfold cr Zh Qn;simp only
 rw[Jk l0,h.ks,Jk a1,Jd (show(true&&true)=true from rfl),h.t,show Qt D age=kss.getD age.toNat [] by unfold Qt;rw[h.ks]]
 exact gT (h.t▸h.ok.tp) c0 c1 hd
def aa(K:Frag)(C:Addr):Sp:=fun vs H Q _=>∃(cd tb kt pl tl b:Addr) (c:Nat) (H0:Hp) (t:List Int) (kss:List (List Int)) (xs:List En) (nm:Str) (os:List (Option (Int×Int))),vs=[.ref cd,.ref pl,.str nm,.ref tl]/\Pw K C H0 H b c pl xs/\xs.length=2/\CdAt H cd tb kt t kss/\zT nm/\OlAt H tl os/\os.length=2/\(∀(i:Nat) (x:En),xs[i]? =some x->tl∉eS x.1)/\
 (∀(i:Nat) (x:En),xs[i]? =some x->LrOk t kss x.2.1/\(∀a l,os.getD i none=some (a,l)->x.2.1.least<=a)/\x.2.1.kn.lookup nm=none/\x.2.1.kn.length<=11/\x.2.2.length<=900)/\(∀a l,some (a,l)∈os->0<=a/\a<kss.length/\1<=l/\l<4096)/\
 ∀H' xs',Pw K C H0 H' b c pl xs'->CdAt H' cd tb kt t kss->Stp (fun i D=>Zt nm D (os.getD i none)) 2 xs xs'->(∀c ys,H c=some (.tup ys)->H' c=some (.tup ys))->Q .non H'
end L3
namespace Lw
open PySem L2 L3
section
variable{P:Program}{w:World}{K:Frag}{mg:Str->Option Value}{base:Heap}{tk:Nat->Tok}{C:Addr}
theorem bB(a:AtM K C "plain_step" "Door.plain_step" Qd ["self","button","age","count"])(T:Txt K mg tk)(U:DCx K C)(dB:Mf P w K mg base C "takes_from" ["self","button","age"] 2 (cL K C))(xE:Df P w K mg base "step_by" ["button","age","count","near","far"] 2 gj):Mf P w K mg base C "plain_step" ["self","button","age","count"] 3 (jw K C):=by
 refine a.mq ZE (fun vs H Q E h=>?_) (fun f cdv A outer s H vs Q E hr h=>?_)
 ·obtain⟨_,_,_,_,_,_,_,_,_,_,_,rfl,_⟩:=h
  rfl
 ·obtain⟨p,ta,hk,bd,lg,x,n,D,e,age,c,rfl,b,hx,q⟩:=h
  refine⟨_,(qe (qJ (Qh (zd (zt dB U.cl hr.mo (qv 0) (qc (qv 1) (qc (qv 2) qb))))) (qg (qu (qx (qc qz (qc (qv 1) qb))))) qB)
   (qg (qu (qq xE hr.mo (qc (qv 1) (qc (qv 2) (qc (qv 3) (qc (za (qv 0)) (qc (za (qv 0)) qb))))))))),?_⟩
  refine⟨_,rfl,p,rfl,b.no,_,rfl,_,rfl,p,ta,hk,bd,lg,x,n,D,e,age,rfl,b,hx,_,rfl,?_⟩
  unfold zz at q;cases ht:qY D e age with
  |false=>
   rw[ht,Jc (by intro z;cases z)]at q
   refine zx ⟨_,rfl,by show 2<=sizeLine;decide,fun q1 hq1=>?_⟩
   exact q q1 x _ (Same.upd hq1) qd (hx.same (Same.upd hq1))
  |true=>
  rw[ht,Jd rfl]at q;refine zr ?_
  exact⟨_,rfl,_,rfl,_,rfl,_,rfl,p,_,rfl,b.h_near U,_,rfl,p,_,rfl,b.h_far U,x,e,age,c,D.near,D.far,rfl,hx,q⟩
theorem ge(a:At K mg "names_known" ZH ["door"])(T:Txt K mg tk)(U:DCx K C)(dC:Mf P w K mg base C "known_now" ["self"] 1 (eI K C)):Df P w K mg base "names_known" ["door"] 2 (iX K C):=by
 refine a.dq gs (fun vs H Q E h=>?_) (fun f cdv A outer s H vs Q E hr h=>?_)
 ·obtain⟨_,_,_,_,_,_,_,rfl,_⟩:=h
  rfl
 ·obtain⟨p,ta,hk,bd,lg,n,D,rfl,b,ok,q⟩:=h
  refine⟨_,(qg (qu (zU (own:=["row"]) (fr:=[]) (js:=[]) rfl (bY (zF dC U.cl hr.mo (qv 0))) rfl (fun _ _ h=>nomatch h) rfl (cm rfl (by decide +kernel) (by decide +kernel) (by decide +kernel)) (fun _ _ _ _=>qh (i:=0) (show List.Nodup (["row"]:List Str)from by decide +kernel) rfl (Or.inl rfl) (.inr rfl)) (fun _ _ _ _=>(qy (gd (K:=K) rfl) (qv 0) qf (fun _ _=>rfl)))))),?_⟩
  refine⟨_,rfl,p,rfl,b.no,p,ta,hk,bd,lg,n,D,rfl,b,ok,fun q1 ss H1 s1 pm so sh=>?_⟩
  obtain⟨as,e1,la,has⟩:=sh;have ls:ss.length<=60:=by rw[pm.length_eq,Je];exact ok.nl
  refine⟨q1,rfl,⟨_,SqT.of e1⟩,bt (K:=K) (xs:=as.map V.ref) (by rw[Je,la,Jz];omega) (fun i ys H2=>ys=(ss.take i).map V.str/\Same H1 H2) ⟨by simp,Same.refl _⟩ (fun i ys H2 ⟨_,s2⟩=>SqT.of (s2 _ _ e1)) ?_ ?_⟩
  ·rintro i ys H2 x hx hyl ⟨rfl,s2⟩
   rw[Jo]at hx;obtain⟨a1,ha1,rfl⟩:=BP.mp hx;have hi:i<ss.length:=by rw[<- la];exact(Js.mp ha1).1
   have es:ss[i]? =some ss[i]:=Jl hi
   obtain⟨e,he⟩:=zE (pm.mem_iff.mp (Ca hi))
   obtain⟨v,h1,_⟩:=has i a1 ss[i] e ha1 es he
   refine⟨_,rfl,a1,_,_,_,rfl,rfl,SqT.of (s2 _ _ h1),rfl,?_,s2⟩
   rw[J5,es,JH];rfl
  ·rintro ys H2 hyl ⟨rfl,s2⟩ l hl
   refine q l ss _ ((s1.trans s2).trans (Same.upd hl)) pm ?_
   rw[qd,Je,la,B0]
theorem iH(a:At K mg "lesser_end" Z5 ["one","first","other","second"])(T:Txt K mg tk)(U:DCx K C)(dL:Mf P w K mg base C "bounds_told" ["self"] 1 (gK K C)):Df P w K mg base "lesser_end" ["one","first","other","second"] 2 (lE K C):=by
 refine a.dq iC (fun vs H Q E h=>?_) (fun f cdv A outer s H vs Q E hr h=>?_)
 ·obtain⟨_,_,_,_,_,_,_,_,_,_,_,_,_,_,_,_,_,_,rfl,_⟩:=h
  rfl
 ·obtain⟨p,ta,hk,bd,lg,x,n,D,e,p',ta',hk',bd',lg',x',n',D',e',rfl,b,⟨v,hx,_⟩,b',⟨v',hx',_⟩,q⟩:=h
  refine⟨_,(qg (qu (qm (Qj rfl) (by rfl) T.b_min PyProof.Rows.boot_min (qc (qw qH (qy qI (qv 1) qf (fun _ _=>rfl)) (qy qI (zF dL U.cl hr.mo (qv 0)) qf (fun _ _=>rfl))) (qc (qw qH (qy qI (qv 3) qf (fun _ _=>rfl)) (qy qI (zF dL U.cl hr.mo (qv 2)) qf (fun _ _=>rfl))) qb))))),?_⟩
  refine⟨_,rfl,x,_,_,_,rfl,rfl,SqT.of hx,rfl,_,rfl,p,rfl,b.no,p,ta,hk,bd,lg,n,D,rfl,b,fun t1 H1 s1 ht1=>⟨t1,_,_,_,rfl,rfl,SqT.of ht1,rfl,_,_,rfl,rfl,?_⟩⟩
  have b1:=b'.same s1
  exact⟨_,rfl,x',_,_,_,rfl,rfl,SqT.of (s1 _ _ hx'),rfl,_,rfl,p',rfl,b1.no,p',ta',hk',bd',lg',n',D',rfl,b1,fun t2 H2 s2 ht2=>⟨t2,_,_,_,rfl,rfl,SqT.of ht2,rfl,_,_,rfl,rfl,_,_,rfl,q _ (s1.trans s2)⟩⟩
theorem fc(a:At K mg "age_and_last" Zr ["door","button","age","count"])(T:Txt K mg tk)(U:DCx K C)(dG:Mf P w K mg base C "plain_step" ["self","button","age","count"] 3 (jw K C)):Df P w K mg base "age_and_last" ["door","button","age","count"] 4 (pA K C):=by
 refine a.dq sc_age_and_last (fun vs H Q E h=>?_) (fun f cdv A outer s H vs Q E hr h=>?_)
 ·obtain⟨_,_,_,_,_,_,_,_,_,_,_,rfl,_⟩:=h
  rfl
 ·obtain⟨p,ta,hk,bd,lg,x,n,D,e,age,c,rfl,b,hx,q⟩:=h
  refine⟨_,(qe (ze (zt dG U.cl hr.mo (qv 0) (qc (qv 1) (qc (qv 2) (qc (qv 3) qb)))) (zj rfl (qr (qh (i:=4) sc_age_and_last.nd rfl (Or.inl rfl)) (qr (qh (i:=1) sc_age_and_last.nd rfl (Or.inl rfl)) qN))))
   (qe (ze (zt dG U.cl hr.mo (qv 0) (qc (qv 1) (qc (qv 2) (qc (qw qH (qv 3) qf) qb)))) (zj rfl (qr (qh (i:=4) sc_age_and_last.nd rfl (Or.inl rfl)) (qr (qh (i:=1) sc_age_and_last.nd rfl (Or.inl rfl)) qN))))
   (qg (qu (Qb Q9 (qv 1) Qp (Qo qf)))))),?_⟩
  refine⟨_,rfl,p,rfl,b.no,_,rfl,_,rfl,_,rfl,p,ta,hk,bd,lg,x,n,D,e,age,c,rfl,b,hx,fun q1 a1 H1 s1 hq1 ha1=>⟨q1,_,rfl,.tup hq1,rfl,_,_,rfl,_,_,rfl,rfl,?_⟩⟩
  have b1:=b.same s1;refine⟨_,rfl,p,rfl,b1.no,_,rfl,_,rfl,_,rfl,_,_,rfl,rfl,p,ta,hk,bd,lg,a1,n,D,_,age,c+1,rfl,b1,ha1,fun q2 a2 H2 s2 hq2 ha2=>⟨q2,_,rfl,.tup hq2,rfl,_,_,rfl,_,_,rfl,rfl,?_⟩⟩
  obtain⟨v,h2,_⟩:=ha2
  exact⟨_,rfl,_,rfl,a2,_,rfl,h2,fun q3 H3 s3 hq3 _=>q q3 _ ((s1.trans s2).trans s3) hq3⟩
theorem eG(a:At K mg "count_brought" Zc ["one","first","other","second"])(T:Txt K mg tk)(xO:Df P w K mg base "lesser_end" ["one","first","other","second"] 2 (lE K C))(d0:Df P w K mg base "age_and_last" ["door","button","age","count"] 4 (pA K C)):Df P w K mg base "count_brought" ["one","first","other","second"] 5 (rp K C):=by
 refine a.dq sc_count_brought (fun vs H Q E h=>?_) (fun f cdv A outer s H vs Q E hr h=>?_)
 ·obtain⟨_,_,_,_,_,_,_,_,_,_,_,_,_,_,_,_,_,_,rfl,_⟩:=h
  rfl
 ·obtain⟨p,ta,hk,bd,lg,x,n,D,e,p',ta',hk',bd',lg',x',n',D',e',rfl,b,hx,b',hx',c1,c2,q⟩:=h
  refine⟨_,(qe (qC (i:=4) sc_count_brought.nd rfl (Or.inl rfl) (qm (QH rfl) (by rfl) T.b_max CL (qc (qy qI (qv 1) qf (fun _ _=>rfl)) (qc (qy qI (qv 3) qf (fun _ _=>rfl)) qb))))
   (qe (qC (i:=5) sc_count_brought.nd rfl (Or.inl rfl) (qw zG (qm (QH rfl) (by rfl) T.b_max CL (qc (qy qI (qv 1) qf (fun _ _=>rfl)) (qc (qy qI (qv 3) qf (fun _ _=>rfl)) qb))) qf))
   (qe (qC (i:=6) sc_count_brought.nd rfl (Or.inl rfl) (qq xO hr.mo (qc (qv 0) (qc (qv 1) (qc (qv 2) (qc (qv 3) qb))))))
   (qe (zi JI rfl (h9 rfl T.b_range (qc (qv 5) (qc (qm (Qj rfl) (by rfl) T.b_min PyProof.Rows.boot_min (qc (qw qH (qv 6) qf) (qc (qw zG (zm (v:= .int 4096) rfl T.g_COUNTS ⟨_,rfl⟩) qf) qb))) qb))) (qh (i:=7) sc_count_brought.nd rfl (Or.inl rfl))
   (qg (qJ (qE (fD hr) (qq d0 hr.mo (qc (qv 0) (qc (qv 1) (qc (qv 4) (qc (qv 7) qb))))) (qq d0 hr.mo (qc (qv 2) (qc (qv 3) (qc (qv 4) (qc (qv 7) qb))))) (qA _)) (qg (qu (qv 7))) qB)))
   (qg (qu zh)))))),?_⟩
  obtain⟨v,h1,hw⟩:=id hx;obtain⟨v',h1',hw'⟩:=id hx';refine⟨_,rfl,x,_,_,_,rfl,rfl,SqT.of h1,rfl,_,rfl,x',_,_,_,rfl,rfl,SqT.of h1',rfl,_,_,rfl,?_⟩
  refine⟨_,rfl,x,_,_,_,rfl,rfl,SqT.of h1,rfl,_,rfl,x',_,_,_,rfl,rfl,SqT.of h1',rfl,_,_,rfl,_,_,rfl,rfl,?_⟩
  refine⟨_,rfl,_,rfl,_,rfl,_,rfl,p,ta,hk,bd,lg,x,n,D,e,p',ta',hk',bd',lg',x',n',D',e',rfl,b,hx,b',hx',fun H1 s1=>?_⟩
  refine⟨_,rfl,_,rfl,_,_,rfl,rfl,_,_,rfl,rfl,_,_,rfl,_,_,rfl,?_,?_⟩
  ·have a1:=c1.l0
   have a2:=c1.l1;have a3:=c2.l0;have a4:=c2.l1;have a5:=c1.f0;have a6:=c1.f1;have a7:=c2.f0;have a8:=c2.f1;unfold Zv Q1;refine⟨?_,?_,?_,?_⟩<;>(repeat' split)<;>omega
  obtain⟨L,eL⟩:∃L,L=Qc e.last e'.last-1:=⟨_,rfl⟩
  obtain⟨A0,eA⟩:∃A0,A0=Qc e.age e'.age:=⟨_,rfl⟩
  refine QF (lo:=Qc e.last e'.last-1) (Pv:=fun i σ H'=>Same H H'/\(∀y,L<=y->y<L+(i:Int)->zZ D e D' e' A0 y=false)/\∃o7,σ=[some (.ref p),some (.ref x),some (.ref p'),some (.ref x'),some (.int A0),some (.int L),some (.int (Zv D e D' e')),o7]) ⟨s1,fun y h1 h2=>by omega,_,by rw[eL,eA];rfl⟩ ?_ ?_
  ·rintro i σ H2 hi ⟨s2,no,o7,rfl⟩
   have b2:=b.same s2;have b2':=b'.same s2;rw[<- eL];refine⟨_,rfl,_,rfl,_,rfl,_,rfl,p,ta,hk,bd,lg,x,n,D,e,A0,_,rfl,b2,hx.same s2,fun q1 H3 s3 hq1=>⟨_,rfl,_,rfl,_,rfl,_,rfl,p',ta',hk',bd',lg',x',n',D',e',A0,_,rfl,b2'.same s3,(hx'.same s2).same s3,fun q2 H4 s4 hq2=>⟨some _,q2,_,_,⟨q1,rfl,s4 _ _ hq1⟩,rfl,Rd.of hq2,_,rfl,q9 (fun y=>?_) (fun y=>?_)⟩⟩⟩
   ·have hm:zZ D e D' e' A0 (L+(i:Int))=true:=by
     have:=Jy y
     exact Jk (Jv this)
    have ec:zS D e D' e'=some (L+(i:Int)):=by
     unfold zS;rw[<- eL,<- eA];refine aX (by omega) ?_ hm no
     have:(i:Int)<((Q1 (Zv D e D' e'+1) 4095-(Qc e.last e'.last-1)).toNat:Nat):=by exact_mod_cast hi
     rw[<- eL]at this;omega
    have:=q _ ((s2.trans s3).trans s4)
    rw[ec]at this
    exact⟨_,rfl,this⟩
   ·refine⟨(s2.trans s3).trans s4,fun z z1 z2=>?_,_,rfl⟩
    by_cases hz:z<L+(i:Int)
    ·exact no z z1 hz
    ·obtain rfl:z=L+(i:Int):=by omega
     cases hm:zZ D e D' e' A0 (L+(i:Int))with
     |false=>rfl
     |true=>exact absurd (Jk (JP some (Jy hm))) y
  ·rintro σ H2 ⟨s2,no,o7,rfl⟩
   have ec:zS D e D' e'=none:=by
    unfold zS;rw[<- eL,<- eA];refine gU fun y h1 h2=>no y h1 ?_
    show y<L+((Q1 (Zv D e D' e'+1) 4095-(Qc e.last e'.last-1)).toNat:Nat)
    rw[<- eL];omega
   have:=q _ s2
   rw[ec]at this;exact this
end
section
variable{P:Program}{w:World}{K:Frag}{mg:Str->Option Value}{base:Heap}{tk:Nat->Tok}{C:Addr}
theorem nw(a:At K mg "brought" cg ["one","other"])(T:Txt K mg tk)(U:DCx K C)(dE:Mf P w K mg base C "button_of" ["self","name"] 1 (n5 K C))(xB:Df P w K mg base "names_known" ["door"] 2 (iX K C))(xH:Df P w K mg base "count_brought" ["one","first","other","second"] 5 (rp K C)):Df P w K mg base "brought" ["one","other"] 6 (aS K C):=by
 refine a.dq sc_brought (fun vs H Q E h=>?_) (fun f cdv A outer s H vs Q E hr h=>?_)
 ·obtain⟨_,_,_,_,_,_,_,_,_,_,_,_,_,_,rfl,_⟩:=h
  rfl
 ·obtain⟨p,ta,hk,bd,lg,n,D,p',ta',hk',bd',lg',n',D',rfl,b,b',ok,ok',cb,cb',q⟩:=h
  refine⟨_,(qe (qC (i:=2) sc_brought.nd rfl (Or.inl rfl) (qS qb))
   (qe (zi JI rfl (zM (qm (iK rfl) (by rfl) T.b_sorted PyProof.Rows.boot_sorted (qc (qw vO (qM (fQ rfl) (by rfl) T.b_set PyProof.Rows.boot_set (qc (qq xB hr.mo (qc (qv 0) qb)) qb)) (qM (fQ rfl) (by rfl) T.b_set PyProof.Rows.boot_set (qc (qq xB hr.mo (qc (qv 1) qb)) qb))) qb))) (qh (i:=3) sc_brought.nd rfl (Or.inl rfl))
   (qe (qC (i:=4) sc_brought.nd rfl (Or.inl rfl) (zt dE U.cl hr.mo (qv 0) (qc (qv 3) qb)))
   (qe (qC (i:=5) sc_brought.nd rfl (Or.inl rfl) (zt dE U.cl hr.mo (qv 1) (qc (qv 3) qb)))
   (qg (qJ (qE Zi (qy qI (qv 4) qf (fun _ _=>rfl)) (qy qI (qv 5) qf (fun _ _=>rfl)) (qA _)) (qg (zb (Zz BQ Ci Cj zX (qv 2) (qc (qx (qc (qv 3) (qc (qq xH hr.mo (qc (qv 0) (qc (qv 4) (qc (qv 1) (qc (qv 5) qb))))) qb))) qb)))) qB)))))
   (qg (qu (qM qT (by rfl) T.b_tuple JD (qc (qv 2) qb)))))),?_⟩
  refine⟨by show 0<=sizeLine;decide,fun l hl=>?_⟩
  have hl':=hl;have s0:Same H (upd H l (.lst [])):=Same.upd hl
  have el0:upd H l (.lst []) l=some (.lst []):=qd
  have lt60:∀{D:Dr} {ss:List Str},DrOk D->ss.Perm (D.kn.map (·.1))->ss.length<=60:=fun ok pm=>by rw[pm.length_eq,Je];exact ok.nl
  generalize upd H l (.lst [])=H0 at s0 el0⊢
  refine⟨_,rfl,p,ta,hk,bd,lg,n,D,rfl,b.same s0,ok,fun n1 ss1 H1 s1 pm1 e1=>?_⟩
  have ls1:=lt60 ok pm1;refine⟨n1,ss1,rfl,SqL.of e1,by rw[show PySem.scanBound=4096 from rfl];omega,fun z1 hz1=>?_⟩
  have u1:=Same.upd (o:=Z1 P w z1 (S0.ddL ss1)) hz1
  refine⟨_,rfl,p',ta',hk',bd',lg',n',D',rfl,((b'.same s0).same s1).same u1,ok',fun n2 ss2 H2 s2 pm2 e2=>?_⟩
  have ls2:=lt60 ok' pm2;have d1:=mF ss1;have d2:=mF ss2;refine⟨n2,ss2,rfl,SqL.of e2,by rw[show PySem.scanBound=4096 from rfl];omega,fun z2 hz2=>?_⟩
  have u2:=Same.upd (o:=Z1 P w z2 (S0.ddL ss2)) hz2
  have ez1:=s2 _ _ (qd (H:=H1) (a:=z1) (o:=Z1 P w z1 (S0.ddL ss1)))
  refine⟨z1,z2,_,_,rfl,rfl,qi ez1 hz2,u2 _ _ ez1,qd,by omega,by omega,fun z3 ks hz3 nd mem=>?_⟩
  have u3:=Same.upd (o:=Z1 P w z3 ks) hz3
  have kl:ks.length<=60:=JA (pW nd fun k hk=>(fV ss1 k).mp ((mem k).mp hk).1) ls1
  refine⟨z3,ks,rfl,qd,by omega,fun l5 cs hl5 pm5 so5=>?_⟩
  have u5:=Same.upd (o:= .lst (cs.map V.str)) hl5
  have S5:=((((s1.trans u1).trans s2).trans u2).trans u3).trans u5;have hmem:∀k,k∈cs↔k∈D.kn.map (·.1)/\k∈D'.kn.map (·.1):=fun k=>by
   rw[pm5.mem_iff,mem,fV,fV,pm1.mem_iff,pm2.mem_iff]
  have ndc:cs.Nodup:=pm5.nodup_iff.mpr nd
  have cl:cs.length<=60:=by rw[pm5.length_eq];exact kl
  refine⟨l5,rfl,⟨_,SqL.of qd⟩,?_⟩
  have el:=S5 _ _ el0;have nl5:l≠l5:=qi (((((s1.trans u1).trans s2).trans u2).trans u3) _ _ el0) hl5
  have e5:∀Hx:Hp,upd Hx l5 (.lst (cs.map V.str)) l5=some (.lst (cs.map V.str)):=fun _=>qd
  have S6:=s0.trans S5;refine zN (K:=K) (a:=l5) (xs:=cs.map V.str) (fun i σ Hx=>Same H Hx/\Hx l5=some (.lst (cs.map V.str))/\Bl Hx l (zJ D D' (cs.take i))/\∃o3 o4 o5,σ=[some (.ref p),some (.ref p'),some (.ref l),o3,o4,o5]) ⟨S6,e5 _,⟨[],el,rfl,fun i a z h=>by cases h⟩,_,_,_,rfl⟩ (fun i σ Hx _ h=>SqL.of h.2.1) ?_ ?_
  ·rintro i z σ H7 hz ⟨s7,e57,br,o3,o4,o5,rfl⟩
   rw[Jo]at hz;obtain⟨nm,hnm,rfl⟩:=BP.mp hz;have hm:=(hmem nm).mp (JS hnm);obtain⟨e,he⟩:=zE hm.1;obtain⟨e',he'⟩:=zE hm.2;have etk:cs.take (i+1)=cs.take i++[nm]:=by rw[J5,hnm];rfl
   have b7:=b.same s7;have b7':=b'.same s7;refine⟨_,rfl,p,rfl,b7.no,_,rfl,p,ta,hk,bd,lg,n,D,nm,rfl,b7,(fun y=>by rw[he]at y;cases y),fun e1 x y hx=>?_⟩
   rw[he]at y;cases y;refine⟨_,rfl,p',rfl,b7'.no,_,rfl,p',ta',hk',bd',lg',n',D',nm,rfl,b7',(fun y=>by rw[he']at y;cases y),fun e1 x' y hx'=>?_⟩
   rw[he']at y;cases y;obtain⟨v,h1,hw⟩:=id hx;obtain⟨v',h1',hw'⟩:=id hx';refine⟨_,rfl,x,_,_,_,rfl,rfl,SqT.of h1,rfl,_,rfl,x',_,_,_,rfl,rfl,SqT.of h1',rfl,rfl,_,rfl,?_⟩
   by_cases hl:e.last=e'.last
   ·refine QB (by simp [hl]) ⟨s7,e57,?_,_,_,_,rfl⟩
    rw[etk,lj he he' hl];exact br
   ·refine Qs (by simpa using hl) ?_
    obtain⟨as,ea,la,has⟩:=br;refine⟨_,rfl,.inl ⟨rfl,_,SqL.of ea⟩,_,rfl,_,rfl,_,rfl,_,rfl,_,rfl,p,ta,hk,bd,lg,x,n,D,e,p',ta',hk',bd',lg',x',n',D',e',rfl,b7,hx,b7',hx',cb nm e he,cb' nm e' he',fun H8 s8=>⟨by show 2<=sizeLine;decide,fun t ht=>?_⟩⟩
    have u8:=Same.upd (o:= .tup [.str nm,gZ (zS D e D' e')]) ht
    have S8:=s8.trans u8;have ble:(zJ D D' (cs.take i)).length<=60:=JA (List.length_filterMap_le ..) (by rw[BS];omega)
    refine⟨l,_,_,rfl,rfl,S8 _ _ ea,by rw[Je,la,Jz];omega,?_⟩
    have nh:H l=none:=hl'
    refine⟨fun c o ec=>?_,?_,?_,_,_,_,rfl⟩
    ·rw[qp (qi ec nh)];exact S8 _ _ (s7 _ _ ec)
    ·rw[qp (Ne.symm nl5)];exact S8 _ _ e57
    ·rw[etk,jF he he' hl]
     have tl:t≠l:=(qi (s8 _ _ ea) ht).symm
     refine⟨as++[t],by rw[qd,JH];rfl,by rw[Jx,Jx,la];rfl,fun j y z h1 h2=>?_⟩
     rw[Dm]at h1 h2;rw[<- la]at h2;split at h1
     ·rename_i hj
      rw[Jd hj]at h2;have hy:=has j y z h1 h2;have ny:y≠l:=fun q=>by rw[q,ea]at hy;cases hy
      rw[qp ny];exact S8 _ _ hy
     ·rename_i hj
      rw[Jc hj]at h2;have hz:j-as.length=0:=by
       cases hj:j-as.length with
       |zero=>rfl
       |succ k=>rw[hj]at h1;cases h1
      rw[hz]at h1 h2;cases h1;cases h2;rw[qp tl];exact qd
  ·rintro σ H7 ⟨s7,e57,⟨as,ea,la,has⟩,o3,o4,o5,rfl⟩
   rw[Je,B0]at la has;refine⟨_,rfl,l,_,rfl,.inl ⟨SqL.of ea,fun q1 hq1=>?_⟩⟩
   have u9:=Same.upd (o:= .tup (as.map V.ref)) hq1
   exact q q1 cs _ (s7.trans u9) ndc hmem so5 ⟨as,qd,la,fun j y z h1 h2=>u9 _ _ (has j y z h1 h2)⟩
end
section
variable{P:Program}{w:World}{K:Frag}{mg:Str->Option Value}{base:Heap}{tk:Nat->Tok}{C:Addr}
theorem i5(a:At K mg "_law_model" am ["_law_near","_law_far","_law_keys"])(T:Txt K mg tk):Df P w K mg base "_law_model" ["_law_near","_law_far","_law_keys"] 1 gr:=by
 refine a.dq ju (fun vs H Q E h=>?_) (fun f cdv A outer s H vs Q E hr h=>?_)
 ·obtain⟨_,rfl,_⟩:=h
  rfl
 ·obtain⟨D,rfl,hl,hk,q⟩:=h
  refine⟨_,(qg (qu (v8 (Z9 qz (qv 0) (Z9 qz (qv 1) (Z9 qz (qv 2) (Z9 qz qf (Z9 qz jv wg)))))))),?_⟩
  refine fun m hm=>⟨_,rfl,_,rfl,_,rfl,fun kd hkd=>⟨?_,?_⟩⟩
  ·rw[qp (qi qd hkd)];exact qd
  refine⟨ZD D kd,by unfold ZD;rw[hl];rfl,by show 5<=15;decide,?_⟩
  rw[tD];have nk:kd≠m:=(qi qd hkd).symm
  refine q m kd _ (fun c o e=>?_) hm ?_ ⟨qd,⟨([],fun _=>0),?_,?_,?_,?_⟩,nk.symm⟩
  ·have nm:c≠m:=qi e hm
   have nkd:c≠kd:=qi (by rw[qp nm];exact e) hkd
   rw[qp nm,qp nkd,qp nm];exact e
  ·rw[qp nk]at hkd;exact hkd
  ·rw[qp nk];exact qd
  ·rw[hk];exact fun e h=>nomatch h
  ·rw[hk]
  ·rw[hk];exact CI
theorem kR(a:At K mg "_law_word" aR ["_law_own","_law_plain"])(T:Txt K mg tk):Df P w K mg base "_law_word" ["_law_own","_law_plain"] 1 lW:=by
 refine a.dq sc_law_word (fun vs H Q E h=>?_) (fun f cdv A outer s H vs Q E hr h=>?_)
 ·obtain⟨_,_,_,_,_,_,_,rfl,_⟩:=h
  rfl
 ·obtain⟨m,kd,p,D,nm,age,c,rfl,md,hp,q⟩:=h
  refine⟨_,(qe (ze (qv 1) (zj rfl (qr (qh (i:=2) sc_law_word.nd rfl (Or.inl rfl)) (qr (qh (i:=3) sc_law_word.nd rfl (Or.inl rfl)) (qr (qh (i:=4) sc_law_word.nd rfl (Or.inl rfl)) qN)))))
   (qe (qC (i:=5) sc_law_word.nd rfl (Or.inl rfl) (jX hr (qW hr (qv 0) qz) (qv 2)))
   (qe (qJ (QW.pt (Qe (qE Qz (qv 5) zh (qA _)) (zP (Qh (jk ZK eO (qm (QH rfl) (by rfl) T.b_max CL (qc (qW hr (qv 0) qz) (qc (qy qI (qv 5) qf (fun _ _=>rfl)) qb))) (qv 3) (qW hr (qv 0) qz)))))) (qg (qu qz)) qB)
   (qe (qC (i:=6) sc_law_word.nd rfl (Or.inl rfl) (qw zG (qv 4) (qy qI (qv 5) qf (fun _ _=>rfl))))
   (qe (qJ (QW.pt (Qe (qE eO (qv 6) qf (qA _)) (zP (qE nQ (qv 6) (qW hr (qv 0) qz) (qA _))))) (qg (qu qz)) qB)
   (qg (qu (tj (QW.pt (Qe (qE ZK (qv 6) (qW hr (qv 0) qz) (qA _)) (zP (qE (fD hr) (qy qI (qv 5) qf (fun _ _=>rfl)) (qx (qc (qv 3) (qc (qw zG (qv 4) qf) qb))) (qA _))))) qz qz)))))))),?_⟩
  refine⟨_,rfl,p,_,rfl,.tup hp,rfl,_,_,rfl,_,_,rfl,_,_,rfl,rfl,?_⟩
  obtain⟨f0,hd,_⟩:=id md.kn;unfold zQ at q;rcases md.kn.get nm with⟨e1,g⟩|⟨e,x,e1,g,v,hx,hw⟩
  ·rw[e1]at q
   refine⟨_,rfl,m,_,rfl,md.g_known,kd,rfl,.inl ⟨_,.inl hd⟩,_,rfl,_,g,?_⟩
   exact⟨_,rfl,rfl,_,rfl,Qs (Jk rfl) (zx (q _ (Same.refl H)))⟩
  ·rw[e1]at q
   simp only at q
   refine⟨_,rfl,m,_,rfl,md.g_known,kd,rfl,.inl ⟨_,.inl hd⟩,_,rfl,_,g,?_⟩
   refine⟨_,rfl,rfl,_,rfl,q9 (fun y=>nomatch (Jy y)) (fun _=>?_)⟩
   refine⟨_,rfl,m,_,rfl,md.g_closed,_,rfl,x,_,_,_,rfl,rfl,SqT.of hx,rfl,_,_,rfl,_,rfl,_,_,rfl,rfl,_,rfl,?_⟩
   have et:qY D e age=(decide ((if D.least<e.age then e.age else D.least)<=age)&&decide (age<(D.kss.length:Int))):=by
    have hm:((if D.least<e.age then e.age else D.least)<=age)↔(D.least<=age/\e.age<=age):=by split<;>omega
    unfold qY Zh;rw[show decide ((if D.least<e.age then e.age else D.least)<=age)=(decide (D.least<=age)&&decide (e.age<=age))from by rw[<- Bool.decide_and];exact decide_eq_decide.mpr hm]
    cases decide (D.least<=age)<;>cases decide (e.age<=age)<;>cases decide (age<(D.kss.length:Int))<;>rfl
   rw[et]at q
   by_cases h1:(if D.least<e.age then e.age else D.least)<=age
   case neg=>
    rw[Jr h1,BL,Jc (by intro z;cases z)]at q
    exact QB (Jr h1) ⟨_,rfl,zx (q _ (Same.refl H))⟩
   rw[Jk h1,Cg]at q;refine Qs (Jk h1) ?_
   refine⟨_,rfl,m,_,rfl,md.g_keys,_,_,rfl,rfl,_,rfl,?_⟩
   by_cases h2:age<(D.kss.length:Int)
   case neg=>
    rw[Jr h2,Jc (by intro z;cases z)]at q
    rw[Jr h2];exact zx (q _ (Same.refl H))
   rw[Jk h2,Jd rfl]at q;rw[Jk h2];refine zr ?_
   refine⟨_,rfl,_,rfl,x,_,_,_,rfl,rfl,SqT.of hx,rfl,_,_,rfl,rfl,?_⟩
   refine⟨_,rfl,_,_,rfl,rfl,_,rfl,?_⟩
   by_cases h3:c-e.last<1
   ·rw[Jd (.inl h3)]at q
    exact Qs (Jk h3) (zx (q _ (Same.refl H)))
   refine QB (Jr h3) ?_
   refine⟨_,rfl,_,rfl,m,_,rfl,md.g_far,_,_,rfl,rfl,_,rfl,?_⟩
   by_cases h4:c-e.last>D.far
   ·rw[Jd (.inr h4)]at q
    exact Qs (Jk h4) (q _ (Same.refl H))
   refine QB (Jr h4) ?_
   rw[Jc (show¬(c-e.last<1\/c-e.last>D.far)from fun z=>z.elim h3 h4)]at q
   refine⟨_,rfl,_,rfl,m,_,rfl,md.g_near,_,_,rfl,rfl,_,rfl,?_⟩
   by_cases h5:c-e.last<=D.near
   ·rw[Jd (.inl h5)]at q
    exact Qs (Jk h5) (zx (q _ (Same.refl H)))
   refine QB (Jr h5) ?_
   refine⟨_,rfl,x,_,_,_,rfl,rfl,SqT.of hx,rfl,_,rfl,_,rfl,_,_,rfl,rfl,by show 2<=sizeLine;decide,fun t ht=>?_⟩
   have u:=Same.upd (o:= .tup [.int age,.int (c-1)]) ht
   refine⟨e.wt,t,age,c-1,hw.same u,rfl,.inl qd,_,rfl,?_⟩
   by_cases h6:e.wt=some (age,c-1)
   ·rw[Jd (.inr h6)]at q
    exact Qs (Jk h6) (q _ u)
   ·rw[Jc (fun z=>z.elim h5 h6)]at q
    exact QB (Jr h6) (q _ u)
theorem kN(a:At K mg "_law_hear" bi ["_law_own","_law_plain"])(T:Txt K mg tk)(xZ:Df P w K mg base "_law_word" ["_law_own","_law_plain"] 1 lW):Df P w K mg base "_law_hear" ["_law_own","_law_plain"] 2 gt:=by
 refine a.dq sc_law_hear (fun vs H Q E h=>?_) (fun f cdv A outer s H vs Q E hr h=>?_)
 ·obtain⟨_,_,_,_,_,_,_,rfl,_⟩:=h
  rfl
 ·obtain⟨m,kd,p,D,nm,age,c,rfl,md,hp,ok,nf,q⟩:=h
  refine⟨_,(qe (ze (qx (qc (qq xZ hr.mo (qc (qv 0) (qc (qv 1) qb))) (qc (qv 1) qb))) (zj rfl (qr (qh (i:=2) sc_law_hear.nd rfl (Or.inl rfl)) (qr (zj rfl (qr (qh (i:=3) sc_law_hear.nd rfl (Or.inl rfl)) (qr (qh (i:=4) sc_law_hear.nd rfl (Or.inl rfl)) (qr (qh (i:=5) sc_law_hear.nd rfl (Or.inl rfl)) qN)))) qN))))
   (qe (qJ (qE zp (qv 2) qz (qA _)) (qg (Q3 hr (qW hr (qv 0) qz) (qv 3) (qx (qc (qv 4) (qc (qv 5) (qc zh qb)))))) qB)
   (qe (qJ (qE zp (qv 2) qz (qA _)) (qg (Q3 hr (qW hr (qv 0) qz) (qv 3) (qw cB (Qb Q9 (qW hr (qW hr (qv 0) qz) (qv 3)) Qp (Qo qf)) (qx (qc (qx (qc (qv 4) (qc (qv 5) qb))) qb))))) qB)
   (qg (qu (zf zp (qv 2) qz (qA _))))))),?_⟩
  refine⟨_,rfl,_,rfl,m,kd,p,D,nm,age,c,rfl,md,hp,fun H1 s1=>⟨_,rfl,by show 2<=sizeLine;decide,fun t ht=>?_⟩⟩
  have u:=Same.upd (o:= .tup [.str (zQ D nm age c),.ref p]) ht
  have S2:=s1.trans u;have md2:=md.same S2;have hp2:=S2 _ _ hp;refine⟨t,_,rfl,.tup qd,rfl,_,_,rfl,_,_,rfl,p,_,rfl,.tup hp2,rfl,_,_,rfl,_,_,rfl,_,_,rfl,rfl,rfl,?_⟩
  have eK:=mR (age:=age) (c:=c) (nm:=nm) ok.nd nf
  generalize upd H1 t (.tup [.str (zQ D nm age c),.ref p])=H2 at *
  refine⟨_,rfl,rfl,_,rfl,?_⟩
  obtain⟨f0,hd,_⟩:=id md2.kn
  by_cases h1:zQ D nm age c="open"
  ·refine Qs (Jk (by rw[h1])) ?_
   cases e1:D.kn.lookup nm with
   |none=>unfold zQ at h1;rw[e1]at h1;exact absurd h1 (show¬(("":Str)="open") by decide)
   |some e=>
   rw[e1]at eK;simp only at eK
   rw[Jd h1]at eK;refine⟨_,rfl,_,rfl,by show 3<=sizeLine;decide,fun t3 ht3=>?_⟩
   have u3:=Same.upd (o:= .tup [.int age,.int c,.non]) ht3
   have md3:=md2.same u3;obtain⟨H4,dp,m4,kb4⟩:=md3.kn.put nm (a:=t3) (e:=⟨age,c,none⟩) (by have:=ok.nl;omega) ⟨.non,qd,rfl⟩
   refine⟨_,rfl,m,_,rfl,md3.g_known,_,rfl,kd,H4,rfl,dp,?_⟩
   have md4:=md3.putK m4 kb4;refine⟨_,rfl,rfl,_,rfl,QB (Jr (by rw[h1];intro z;injection z with z;exact absurd z (by decide))) ?_⟩
   refine⟨_,rfl,rfl,?_⟩
   rw[<- eK]at md4
   have:=q H4 ((S2.trans u3).mv.trans (m4.mono fun c h z=>h (by rw[Jg.mp z];simp))) md4
   rw[Jk (show V.str (zQ D nm age c)=V.str "open" by rw[h1])]
   rw[Jk h1]at this;exact this
  ·refine QB (Jr (by intro z;injection z with z;exact h1 z)) ?_
   refine⟨_,rfl,rfl,_,rfl,?_⟩
   have fin:∀H',Mv [m,kd] H H'->MdAt H' m kd {D with kn:=hearK D nm age c}->Q (.bl (decide (V.str (zQ D nm age c)=V.str "open"))) H':=fun H' m' d'=>by
    have:=q H' m' d'
    rw[Jr h1]at this;rw[Jr (show¬V.str (zQ D nm age c)=V.str "open" by intro z;injection z with z;exact h1 z)]
    exact this
   by_cases h2:zQ D nm age c="wait"
   ·refine Qs (Jk (by rw[h2])) ?_
    rcases md2.kn.get nm with⟨e1,g⟩|⟨e,x,e1,g,v,hx,hw⟩
    ·unfold zQ at h2;rw[e1]at h2;exact absurd h2 (show¬(("":Str)="wait") by decide)
    rw[e1]at eK;simp only at eK
    rw[Jc h1,Jd h2]at eK;refine⟨_,rfl,m,_,rfl,md2.g_known,_,rfl,kd,_,rfl,g,_,rfl,x,_,rfl,hx,fun y H3 s3 hy _=>?_⟩
    have hy:H3 y=some (.tup [.int e.age,.int e.last]):=hy
    refine⟨_,rfl,_,rfl,by show 2<=sizeLine;decide,fun t4 ht4=>⟨by show 1<=sizeLine;decide,fun t5 ht5=>?_⟩⟩
    have u4:=Same.upd (o:= .tup [.int age,.int c]) ht4
    have u5:=Same.upd (o:= .tup [.ref t4]) ht5
    have e4:(upd (upd H3 t4 (.tup [.int age,.int c])) t5 (.tup [.ref t4])) t4=some (.tup [.int age,.int c]):=u5 _ _ qd
    refine⟨y,t5,_,_,rfl,rfl,u5 _ _ (u4 _ _ hy),qd,by show 3<=sizeLine;decide,fun t6 H6 s6 ht6=>?_⟩
    have ht6:H6 t6=some (.tup [.int e.age,.int e.last,.ref t4]):=ht6
    have S6:=((s3.trans u4).trans u5).trans s6;have md6:=md2.same S6;obtain⟨H7,dp,m7,kb7⟩:=md6.kn.put nm (a:=t6) (e:=⟨e.age,e.last,some (age,c)⟩) (by have:=ok.nl;omega) ⟨.ref t4,ht6,t4,rfl,s6 _ _ e4⟩
    refine⟨_,rfl,m,_,rfl,md6.g_known,_,rfl,kd,H7,rfl,dp,?_⟩
    have md7:=md6.putK m7 kb7;rw[<- eK]at md7
    exact⟨_,rfl,rfl,fin H7 ((S2.trans S6).mv.trans (m7.mono fun c h z=>h (by rw[Jg.mp z];simp))) md7⟩
   ·refine QB (Jr (by intro z;injection z with z;exact h2 z)) ?_
    refine⟨_,rfl,rfl,fin H2 S2.mv ?_⟩
    have:hearK D nm age c=D.kn:=by
     rw[eK];cases D.kn.lookup nm with
     |none=>rfl
     |some e=>simp only;rw[Jc h1,Jc h2]
    rw[this];exact md2
theorem i0(a:At K mg "_law_press" ap ["_law_code","_law_plain","_law_deed"])(T:Txt K mg tk)(xY:Df P w K mg base "press_of" ["table","key","name","age","count","deed"] 3 (lF K)):Df P w K mg base "_law_press" ["_law_code","_law_plain","_law_deed"] 4 dy:=by
 refine a.dq sc_law_press (fun vs H Q E h=>?_) (fun f cdv A outer s H vs Q E hr h=>?_)
 ·obtain⟨_,_,_,_,_,_,_,_,_,_,rfl,_⟩:=h
  rfl
 ·obtain⟨cd,tb,kt,p,t,kss,nm,age,c,d,rfl,hc,hp,tp,hn,a0,a1,c0,c1,hd,q⟩:=h
  refine⟨_,(qe (ze (qv 1) (zj rfl (qr (qh (i:=3) sc_law_press.nd rfl (Or.inl rfl)) (qr (qh (i:=4) sc_law_press.nd rfl (Or.inl rfl)) (qr (qh (i:=5) sc_law_press.nd rfl (Or.inl rfl)) qN)))))
   (qg (qu (qq xY hr.mo (qc (qy qI (qv 0) qf (fun _ _=>rfl)) (qc (qy qI (qy qI (qv 0) qf (fun _ _=>rfl)) (qv 4) (fun _ _=>rfl)) (qc (qv 3) (qc (qv 4) (qc (qv 5) (qc (qv 2) qb)))))))))),?_⟩
  refine⟨_,rfl,p,_,rfl,.tup hp,rfl,_,_,rfl,_,_,rfl,_,_,rfl,rfl,?_⟩
  obtain⟨as,eK,lK,hks⟩:=id hc.ks;obtain⟨ak,hat,hak⟩:=yr (D:=⟨t,kss,0,0,0,0,[]⟩) lK hks a0 a1
  refine⟨_,rfl,cd,_,_,_,rfl,rfl,SqT.of hc.e,rfl,_,rfl,cd,_,_,_,rfl,rfl,SqT.of hc.e,rfl,_,rfl,kt,_,_,_,rfl,rfl,eK.up,hat,_,rfl,_,rfl,_,rfl,_,rfl,tb,ak,nm,age,c,d,t,_,rfl,.inr (.inl hc.tb),.inr hak.up,hn,by rw[tp.length_eq];rfl,c0,c1,hd,fun pr pc H1 s1 h1 h2=>q pr H1 s1 ⟨pc,h1,h2⟩⟩
end
section
variable{P:Program}{w:World}{K:Frag}{mg:Str->Option Value}{base:Heap}{tk:Nat->Tok}{C:Addr}
theorem jj(a:At K mg "_law_heard" ar ["_law_code","_law_pair_here","_law_plain","_law_places"])(T:Txt K mg tk)(U:DCx K C)(xT:Mf P w K mg base C "hear" ["self","thing"] 6 (mn K C))(dX:Df P w K mg base "_law_press" ["_law_code","_law_plain","_law_deed"] 4 dy)(dD:Df P w K mg base "_law_hear" ["_law_own","_law_plain"] 2 gt):Df P w K mg base "_law_heard" ["_law_code","_law_pair_here","_law_plain","_law_places"] 7 (ee K C):=by
 refine a.dq sc_law_heard (fun vs H Q E h=>?_) (fun f cdv A outer s H vs Q E hr h=>?_)
 ·obtain⟨_,_,_,_,_,_,_,_,_,_,_,_,_,_,_,_,_,rfl,_⟩:=h
  rfl
 ·obtain⟨cd,tb,kt,pl,p,ps,b,c,H0,t,kss,xs,nm,age,n,is,ba,rfl,pw,lx,hc,hn,a0,a1,n0,n1,hp,hps,ndi,hi2,hx,q⟩:=h
  refine⟨_,(qg (zi JI rfl (bY (qv 3)) (qh (i:=4) sc_law_heard.nd rfl (Or.inl rfl))
   (qe (zb (zt xT U.cl hr.mo (qy qI (qy qF (qv 1) (qv 4) (fun _ _=>rfl)) qf (fun _ _=>rfl)) (qc (qq dX hr.mo (qc (qv 0) (qc (qv 2) (qc qf qb)))) qb)))
   (qg (zb (qq dD hr.mo (qc (qy qI (qy qF (qv 1) (qv 4) (fun _ _=>rfl)) qf (fun _ _=>rfl)) (qc (qv 2) qb)))))))),?_⟩
  refine⟨_,rfl,ps,rfl,⟨_,.inl hps⟩,?_⟩
  have hlen:is.length<=2:=by
   match is,ndi,hi2 with
   | [],_,_=>exact JC _
   | [_],_,_=>exact(by decide:1<=2)
   | [_,_],_,_=>exact Jf 2
   |x::y::z::r,nd,h=>
    have h1:=h x (by simp)
    have h2:=h y (by simp)
    have h3:=h z (by simp)
    simp only[BN,Jj,not_or]at nd;omega
  refine lC (K:=K) (a:=ps) (xs:=is.map fun i:Nat=>V.int (i:Int)) (fun j σ Hx=>∃xs',Pw K C H0 Hx b c pl xs'/\CdAt Hx cd tb kt t kss/\Hx p=some (.tup [.str nm,.int age,.int n])/\Rd Hx ps (.tup (is.map fun i:Nat=>V.int (i:Int)))/\Stp (fun i D=>if i∈is.take j then{D with kn:=hearK D nm age n}else D) j xs xs'/\∃o4,σ=[some (.ref cd),some (.ref pl),some (.ref p),some (.ref ps),o4]) ⟨xs,pw,hc,hp,hps,(Stp.refl xs).ext (fun i x hi=>by simp),_,rfl⟩ (fun j σ Hx _ h=>let⟨_,_,_,_,r,_⟩:=h;.inl r) ?_ ?_
  ·rintro j z σ Hx hz ⟨xs',pw1,hc1,hp1,hps1,st,o4,rfl⟩
   rw[Jo]at hz;cases ei:is[j]? with
   |none=>rw[ei]at hz;cases hz
   |some i=>
   rw[ei]at hz;cases hz;have hmem:=JS ei;have hi:=hi2 i hmem;have hj:j<is.length:=(Js.mp ei).1
   have hix:i<xs.length:=by rw[lx];exact hi
   have ex:=Jl hix;obtain⟨x,rx⟩:∃x,x=xs[i]:=⟨_,rfl⟩
   rw[<- rx]at ex;have nin:i∉is.take j:=fun z=>by
    obtain⟨k,hk,ek⟩:=List.mem_iff_getElem.mp z;rw[List.getElem_take]at ek;rw[BS]at hk
    exact(List.pairwise_iff_getElem.mp ndi) k j (by omega) hj (by omega) (ek.trans (Js.mp ei).2.symm)
   obtain⟨L1,ex1,ll⟩:=st.2 i x ex;have ex1:xs'[i]? =some (x.1,x.2.1,L1):=by rw[ex1];show some (x.1,(if i∈is.take j then _ else x.2.1),L1)=_;rw[Jc nin]
   obtain⟨dp,hLl⟩:=hx i x ex;have tp:t.Perm digs:=dp.t▸dp.ok.tp
   have en:=pw1.en i _ ex1;simp only at en
   have atp:QQ (xs'.map fun x=>V.ref x.1.e) (i:Int)=some (.ref x.1.e):=pw1.at (x:=(x.1,x.2.1,L1)) ex1
   refine⟨_,rfl,_,rfl,pl,_,_,_,rfl,rfl,SqL.of pw1.pe,atp,x.1.e,_,_,_,rfl,rfl,SqT.of en.tu,rfl,x.1.a.p,rfl,en.dl.dr.no,_,rfl,_,rfl,cd,tb,kt,p,t,kss,nm,age,n,3,rfl,hc1,hp1,tp,hn,a0,a1,n0,n1,⟨by decide,by decide⟩,fun pr H2 s2 hpr=>?_⟩
   have pw2:=pw1.same s2;have en2:=en.same s2;have okP:=ci (kss:=kss) (age:=age) tp hn n0 n1 (d:=3) ⟨by decide,by decide⟩
   refine⟨x.1.a,x.2.1,L1,.ref pr,some (Qn t kss nm age n 3),rfl,en2.dl,by omega,dp.ok,⟨pr,rfl,hpr,okP⟩,(fun z=>by cases z),fun PP hP pr' q' H3 hpr' m3 _ _ d3=>?_⟩
   cases hP;rw[iZ dp n0 n1 ⟨by decide,by decide⟩,sI]at d3
   have m3':=oZ m3;have en3:=en2.door m3' d3;have pes:Mv (eS x.1) H2 H3:=gu m3'
   have npl:=pw2.np i _ ex1;have pl3:H3 pl=some (.lst (xs'.map fun x=> .ref x.1.e)):=pes _ _ npl pw2.pe
   have N2:NT (eS x.1) H2:=en2.nt
   have hp3:=pes.tup N2 (s2 _ _ hp1);refine⟨_,rfl,_,rfl,pl,_,_,_,rfl,rfl,SqL.of pl3,atp,x.1.e,_,_,_,rfl,rfl,SqT.of en3.tu,rfl,_,rfl,x.1.m,x.1.kd,p,x.2.1,nm,age,n,rfl,en3.md,hp3,dp.ok,dp.f0,fun H4 m4 md4=>?_⟩
   have en4:=en3.model m4 md4;have Mall:Mv (eS x.1) H2 H4:=pes.trans (f8 m4)
   refine⟨_,pw2.step ex1 Mall en4,(hc1.same s2).mv Mall N2,Mall.tup N2 (s2 _ _ hp1),Mall.rd N2 (Rd.same s2 hps1),?_,_,rfl⟩
   refine Stp.set (x:=x) st ex (by show _=some (x.1,(if i∈is.take j then _ else x.2.1),L1);rw[Jc nin];exact ex1) (by simp) ?_ (fun k hk=>?_)
   ·show(if i∈is.take (j+1)then _ else _)=_
    rw[Jd (by rw[J5,ei];simp)]
   ·funext D
    have:k∈is.take (j+1)↔k∈is.take j:=by rw[J5,ei];simp;exact fun z=>absurd z hk
    by_cases z:k∈is.take j
    ·rw[Jd z,Jd (this.mpr z)]
    ·rw[Jc z,Jc (fun w=>z (this.mp w))]
  ·rintro σ Hx ⟨xs',pw1,hc1,hp1,hps1,st,o4,rfl⟩
   refine q Hx xs' pw1 hc1 ?_
   rw[Je,B0]at st;exact st.mono hlen
theorem fZ(a:At K mg "_law_learnt" ZU ["_law_code","_law_pair_here","_law_name","_law_told"])(T:Txt K mg tk)(U:DCx K C)(xN:Mf P w K mg base C "learn" ["self","one","other"] 7 (ia K C))(dX:Df P w K mg base "_law_press" ["_law_code","_law_plain","_law_deed"] 4 dy):Df P w K mg base "_law_learnt" ["_law_code","_law_pair_here","_law_name","_law_told"] 8 (aa K C):=by
  refine a.dq sc_law_learnt (fun vs H Q E h=>?_) (fun f cdv A outer s H vs Q E hr h=>?_)
  · obtain⟨_,_,_,_,_,_,_,_,_,_,_,_,_,rfl,_⟩:=h
    rfl
  · obtain⟨cd,tb,kt,pl,tl,b,c,H0,t,kss,xs,nm,os,rfl,pw,lx,hc,hn,ho,lo,ntl,hx,hos,q⟩:=h
    refine⟨_,(qg (zi JI rfl (zy rfl T.b_range (qc qf qb)) (qh (i:=4) sc_law_learnt.nd rfl (Or.inl rfl))
      (qg (qJ (qE lU (qy qF (qv 3) (qv 4) (fun _ _=>rfl)) zh (qA _)) (qe (ze (qy qF (qv 3) (qv 4) (fun _ _=>rfl)) (zj rfl (qr (qh (i:=5) sc_law_learnt.nd rfl (Or.inr rfl)) (qr (qh (i:=6) sc_law_learnt.nd rfl (Or.inl rfl)) qN))))
      (qe (cK (i:=7) sc_law_learnt.nd rfl (Or.inl rfl) (own:=["_law_count"]) (fr:=["_law_name","_law_code","_law_age"]) (js:=[2,0,5]) rfl (bY (qx (qc (qw zG (qv 6) qf) (qc (qv 6) qb)))) rfl (xz rfl rfl rfl) rfl (yz rfl (by decide +kernel) (by decide +kernel) (by decide +kernel) rfl rfl rfl rfl rfl rfl rfl rfl rfl) (fun _ _ _ _=>qh (i:=0) (show List.Nodup (["_law_count","_law_name","_law_code","_law_age"]:List Str)from by decide +kernel) rfl (Or.inl rfl) (.inr rfl)) (fun _ _ _ _=>(qq dX hr.mo (qc (qv 2) (qc (qx (qc (qv 1) (qc (qv 3) (qc (qv 0) qb)))) (qc qf qb))))))
      (qe (zb (zt xN U.cl hr.mo (qy qI (qy qF (qv 1) (qv 4) (fun _ _=>rfl)) qf (fun _ _=>rfl)) (qc (qy qF (qv 7) qf (fun _ _=>rfl)) (qc (qy qF (qv 7) qf (fun _ _=>rfl)) qb))))
      (qg (Q3 hr (qW hr (qy qI (qy qF (qv 1) (qv 4) (fun _ _=>rfl)) qf (fun _ _=>rfl)) qz) (qv 2) (qx (qc (qv 5) (qc (qv 6) (qc zh qb))))))))) qB)))),?_⟩
    refine⟨_,rfl,by decide,by decide,?_⟩
    refine QF (n:=2) (Pv:=fun j σ Hx=>∃xs',Pw K C H0 Hx b c pl xs'/\CdAt Hx cd tb kt t kss/\OlAt Hx tl os/\(∀c ys,H c=some (.tup ys)->Hx c=some (.tup ys))/\Stp (fun i D=>if i<j then Zt nm D (os.getD i none)else D) j xs xs'/\∃o4 o5 o6 o7,σ=[some (.ref cd),some (.ref pl),some (.str nm),some (.ref tl),o4,o5,o6,o7]) ⟨xs,pw,hc,ho,(fun _ _ h=>h),(Stp.refl xs).ext (fun i x hi=>by simp),_,_,_,_,rfl⟩ ?_ ?_
    · rintro j σ Hx hj ⟨xs',pw1,hc1,ho1,tps,st,o4,o5,o6,o7,rfl⟩
      have hj2:j<xs.length:=by rw[lx];exact hj
      have ex:=Jl hj2;obtain⟨x,rx⟩:∃x,x=xs[j]:=⟨_,rfl⟩
      rw[<- rx]at ex;obtain⟨L1,ex1,ll⟩:=st.2 j x ex;simp only[JU,JN]at ex1;obtain⟨dp,l0,hno,hkl,hLl⟩:=hx j x ex;have en:=pw1.en j _ ex1;simp only at en
      obtain⟨vs,evs,lvs,rvs⟩:=id ho1;have hv:j<vs.length:=by rw[lvs,lo];exact hj
      have hoj:j<os.length:=by rw[lo];exact hj
      have hat:QQ vs (0+(j:Int))=some vs[j]:=by rw[Int.zero_add];exact QK (Jl hv)
      have hol:=rvs j vs[j] os[j] (Jl hv) (Jl hoj);have eoj:os.getD j none=os[j]:=by rw[JF,Jl hoj];rfl
      have nxt:∀{f:Nat->Dr->Dr} {xs'':List En},Stp f (j+1) xs xs''->f j x.2.1=Zt nm x.2.1 os[j]->(∀i,i≠j->f i=fun D=>if i<j then Zt nm D (os.getD i none)else D)->Stp (fun i D=>if i<j+1 then Zt nm D (os.getD i none)else D) (j+1) xs xs'':=fun h e1 e2=>h.ext fun i y hi=>by
        by_cases z:i=j
        · subst z
          rw[ex]at hi;cases hi
          rw[e1,Jd (by omega),eoj]
        · rw[e2 i z]
          simp only
          by_cases w:i<j
          · rw[Jd w,Jd (by omega)]
          · rw[Jc w,Jc (by omega)]
      refine⟨_,rfl,_,rfl,tl,vs,_,_,rfl,rfl,SqL.of evs,hat,rfl,_,rfl,?_⟩
      cases eo:os[j]with
      | none=>
        rw[eo]at hol;have hol:vs[j]= .non:=hol
        refine QB (by rw[hol];rfl) ⟨xs',pw1,hc1,ho1,tps,?_,_,_,_,_,rfl⟩
        exact nxt (st.mono (by omega)) (by rw[eo];simp [Zt]) (fun i hi=>rfl)
      |some al=>
      obtain⟨ag,la⟩:=al;rw[eo]at hol;obtain⟨tt,ett,htt⟩:=hol;obtain⟨a0,a1,la1,la2⟩:=hos ag la (eo▸Ca hoj)
      refine Qs (by rw[ett];rfl) ?_
      refine⟨_,rfl,_,rfl,tl,vs,_,_,rfl,rfl,SqL.of evs,hat,tt,_,ett,.tup htt,rfl,_,_,rfl,_,_,rfl,rfl,?_⟩
      refine⟨_,rfl,_,_,rfl,rfl,_,rfl,by show 2<=sizeLine;decide,fun tq htq=>⟨tq,rfl,⟨_,SqT.of qd⟩,?_⟩⟩
      have uq:=Same.upd (o:= .tup [.int (la-1),.int la]) htq
      have hcq:=hc1.same uq;have etq:(upd Hx tq (.tup [.int (la-1),.int la])) tq=some (.tup [.int (la-1),.int la]):=qd
      have pwq:=pw1.same uq;have hoq:=ho1.same uq;generalize upd Hx tq (.tup [.int (la-1),.int la])=Hq at *
      refine bt (K:=K) (a:=tq) (xs:=[.int (la-1),.int la]) (by show 2<=sizeLine;decide) (fun i ys Hy=>Same Hq Hy/\∃qs:List Addr,ys=qs.map V.ref/\qs.length=i/\∀(k:Nat) (p:Addr),qs[k]? =some p->PsAt Hy p (Qn t kss nm ag (la-1+(k:Int)) 0)) ⟨Same.refl _,[],rfl,rfl,fun k p h=>by cases h⟩ (fun i ys Hy h=>SqT.of (h.1 _ _ etq)) ?_ ?_
      · rintro i ys Hy z hz hyl ⟨sy,qs,rfl,hql,hqs⟩
        have hi2:i<2:=(Js.mp hz).1
        have ez:z= .int (la-1+(i:Int)):=by
          match i,hi2,hz with
          |0,_,hz=>cases hz;show V.int (la-1)=V.int (la-1+0);rw[Int.add_zero]
          |1,_,hz=>cases hz;show V.int la=V.int (la-1+1);rw[Int.sub_add_cancel]
        subst ez;refine⟨_,rfl,_,rfl,_,rfl,_,rfl,by show 3<=sizeLine;decide,fun p hp=>?_⟩
        have up:=Same.upd (o:= .tup [.str nm,.int ag,.int (la-1+(i:Int))]) hp
        refine⟨cd,tb,kt,p,t,kss,nm,ag,la-1+(i:Int),0,rfl,(hcq.same sy).same up,qd,(dp.t▸dp.ok.tp),hn,a0,a1,by omega,by omega,⟨by decide,by decide⟩,fun pr Hz sz hps=>⟨(sy.trans up).trans sz,qs++[pr],by simp,by simp [hql],fun k p' hk=>?_⟩⟩
        by_cases hkl':k<qs.length
        · rw[J0 hkl']at hk
          exact PrAt.same (up.trans sz) (hqs k p' hk)
        · rw[JX (by omega)]at hk
          cases ek:k-qs.length with
          | zero => rw[ek]at hk;cases hk;obtain rfl:k=i:=by omega
                    exact hps
          |succ m=>rw[ek]at hk;cases hk
      rintro ys Hy hyl ⟨sy,qs,rfl,hql,hqs⟩ prl hprl
      obtain⟨q0,q1,rfl⟩:∃q0 q1,qs=[q0,q1]:=by
        match qs,hql with
        | [q0,q1],_=>exact⟨q0,q1,rfl⟩
      have ur:=Same.upd (o:= .lst (([q0,q1]:List Addr).map V.ref)) hprl
      have Sr:=sy.trans ur;have eprl:(upd Hy prl (.lst (([q0,q1]:List Addr).map V.ref))) prl=some (.lst [.ref q0,.ref q1]):=qd
      have hp0:=PrAt.same ur (hqs 0 q0 rfl);have hp1:=PrAt.same ur (hqs 1 q1 rfl);have pwr:=pwq.same Sr;have hor:=hoq.same Sr;have hcr:=hcq.same Sr;generalize upd Hy prl (.lst (([q0,q1]:List Addr).map V.ref))=Hr at *
      have er:=pwr.en j _ ex1;simp only at er
      have atp:QQ (xs'.map fun x=>V.ref x.1.e) (0+(j:Int))=some (.ref x.1.e):=by rw[Int.zero_add];exact pwr.at (x:=(x.1,x.2.1,L1)) ex1
      refine⟨_,rfl,_,rfl,pl,_,_,_,rfl,rfl,SqL.of pwr.pe,atp,x.1.e,_,_,_,rfl,rfl,SqT.of er.tu,rfl,x.1.a.p,rfl,er.dl.dr.no,_,rfl,prl,_,_,_,rfl,rfl,SqL.of eprl,rfl,_,rfl,prl,_,_,_,rfl,rfl,SqL.of eprl,rfl,?_⟩
      have e10:la-1+((1:Nat):Int)=la-1+1:=rfl
      have e00:la-1+((0:Nat):Int)=la-1:=Int.add_zero _
      rw[e00]at hp0;have rd0:=eW (nm:=nm) (d:=0) dp (l0 ag la (eoj.trans eo)) a1 (show 0<=la-1 by omega) (by omega) ⟨by decide,by decide⟩
      have rd1:=eW (nm:=nm) (c:=la-1+1) (d:=0) dp (l0 ag la (eoj.trans eo)) a1 (by omega) (by omega) ⟨by decide,by decide⟩
      have tp:t.Perm digs:=dp.t▸dp.ok.tp
      refine⟨x.1.a,x.2.1,L1,q0,q1,Qn t kss nm ag (la-1) 0,Qn t kss nm ag (la-1+1) 0,la-1,0,0,rfl,er.dl,by omega,dp.ok,hp0,hp1,ci tp hn (by omega) (by omega) ⟨by decide,by decide⟩,ci tp hn (by omega) (by omega) ⟨by decide,by decide⟩,rd0,rd1,rfl,rfl,hno,dp.rm,fun Hs ms ds=>?_⟩
      have ms':=oZ ms;have es:=er.door ms' ds;have pes:Mv (eS x.1) Hr Hs:=gu ms'
      have npl:=pwr.np j _ ex1;have pls:Hs pl=some (.lst (xs'.map fun x=> .ref x.1.e)):=pes _ _ npl pwr.pe
      have Nr:NT (eS x.1) Hr:=er.nt
      refine⟨_,rfl,_,rfl,by show 3<=sizeLine;decide,fun t3 ht3=>?_⟩
      have u3:=Same.upd (o:= .tup [.int ag,.int la,.non]) ht3
      have e3:=es.same u3;have md3:=e3.md;obtain⟨H4,dp4,m4,kb4⟩:=md3.kn.put nm (a:=t3) (e:=⟨ag,la,none⟩) (by omega) ⟨.non,qd,rfl⟩
      refine⟨_,rfl,_,rfl,pl,_,_,_,rfl,rfl,SqL.of (u3 _ _ pls),atp,x.1.e,_,_,_,rfl,rfl,SqT.of e3.tu,rfl,x.1.m,_,rfl,md3.g_known,_,rfl,x.1.kd,H4,rfl,dp4,?_⟩
      have md4:=md3.putK m4 kb4;have m4':Mv [x.1.m,x.1.kd] _ H4:=m4.mono (fun c h z=>h (by rw[Jg.mp z];simp))
      have e4:=e3.model m4' md4;have Mall:Mv (eS x.1) Hr H4:=(pes.trans u3.mv).trans (f8 m4')
      have lae:la-1+1=la:=by omega
      rw[lae]at e4;have e4':Ent K C H4 x.1 {x.2.1 with kn:=qV x.2.1.kn nm ⟨ag,la,none⟩} (L1++[.learn (Qn t kss nm ag (la-1) 0) (Qn t kss nm ag la 0)]) {x.2.1 with kn:=qV x.2.1.kn nm ⟨ag,la,none⟩}:=e4
      refine⟨_,pwr.step ex1 Mall e4',hcr.mv Mall Nr,hor.mv Mall Nr (ntl j x ex),(fun c ys h=>Mall.tup Nr (Sr _ _ (uq _ _ (tps c ys h)))),?_,_,_,_,_,rfl⟩
      exact nxt (Stp.set (x:=x) (g:=fun i D=>if i=j then Zt nm D os[j]else if i<j then Zt nm D (os.getD i none)else D) st ex (by simp only[JU,JN];exact ex1) (by simp) (by simp only[BO];rw[eo];rfl) (fun i hi=>by funext D;rw[Jc hi])) (by simp) (fun i hi=>by funext D;rw[Jc hi])
    · rintro σ Hx ⟨xs',pw1,hc1,ho1,tps,st,o4,o5,o6,o7,rfl⟩
      exact q Hx xs' pw1 hc1 (st.ext fun i x hi=>by
        have:i<2:=by rw[<- lx];exact(Js.mp hi).1
        rw[Jd this]) tps
end
end Lw
namespace L3
open PySem PySem.Spec PyProof.Rows L2
def drawNames:List Str:=["a","b","ab","ba","aaaaaaaa","aaaaaaab","door","gate","x"]
structure NmOk(nms:List Str)(many:Nat)(base:Int):Prop where
 nd:nms.Nodup
 nm:∀z∈nms,zT z
 l1:1<=nms.length
 l9:nms.length<=9
 m1:1<=many
 m8:many<=8
 b0:0<=base
 b1:base<=4076
section
variable(K:Frag)(C:Addr)
def uO(n f:Int):Prop:=1<=n/\n<=4/\n<=f/\f<=12
def gP:Sp:=fun vs H Q _=>∃(b:Addr) (c:Nat),vs=[.ref b]/\BoxC H b c/\c<100000000/\∀l x y (n f n' f':Int) H',GrC b (c+7) H H'->H' l=some (.lst [.ref x,.ref y])->H' x=some (.tup [.int n,.int f])->H' y=some (.tup [.int n',.int f'])->uO n f->uO n' f'->H l=none->Q (.ref l) H'
end
section
variable{K:Frag}{C:Addr}{H0 H H':Hp}{b:Addr}{c:Nat}{pl:Addr}{xs:List En}{S:List Addr}{z:Addr}
theorem Pw.fresh(p:Pw K C H0 H b c pl xs)(h:H z=none):H0 z=none:=by
 cases q:H0 z with
 |none=>rfl
 |some o=>
  by_cases w:z=b
  ·subst w;obtain⟨_,_,_,e1,_⟩:=p.bx;rw[h]at e1;cases e1
  ·have:=p.s z o (qR w) q;rw[h]at this;cases this
theorem Pw.out(p:Pw K C H0 H b c pl xs)(m:Mv S H H')(nt:NT S H)(hb:b∉S)(hp:pl∉S)(he:∀(i:Nat) (x:En),xs[i]? =some x->∀z∈eS x.1,z∉S)(h0:∀z∈S,H0 z=none):Pw K C H0 H' b c pl xs:=
 ⟨fun c o hc e=>m c o (fun z=>by rw[h0 c z]at e;cases e) (p.s c o hc e),p.bx.mv m hb,p.b0,fun i x hi=>(p.en i x hi).mv m nt (he i x hi),p.dj,p.fr,m _ _ hp p.pe,p.np,p.fp⟩
end
theorem OlAt.two{H:Hp}{tl:Addr}{v v':V}{o o':Option (Int×Int)}(e:H tl=some (.lst [v,v']))(h:Olv H v o)(h':Olv H v' o'):OlAt H tl [o,o']:=⟨[v,v'],e,rfl,fun i u w e1 e2=>by
 match i,e1,e2 with
 |0,e1,e2=>cases e1;cases e2;exact h
 |1,e1,e2=>cases e1;cases e2;exact h'
 |i+2,e1,e2=>cases e1⟩
theorem gW{nms:List Str}{nm:Str}{j:Nat}(nd:nms.Nodup)(e:nms[j]? =some nm):nm∉nms.take j:=fun z=>by
 obtain⟨k,hk,ek⟩:=List.mem_iff_getElem.mp z;rw[List.getElem_take]at ek;rw[BS]at hk
 exact(List.pairwise_iff_getElem.mp nd) k j (by omega) (Js.mp e).1 (by omega) (ek.trans (Js.mp e).2.symm)
structure DqOk(t:List Int)(kss:List (List Int))(base:Int)(nms:List Str)(D:Dr):Prop where
 dp:DpOk t kss base D
 sub:∀z∈D.kn.map (·.1),z∈nms
 few:D.kn.length<=nms.length
theorem DqOk.hear{t:List Int}{kss:List (List Int)}{base:Int}{nms:List Str}{D:Dr}{nm:Str}{age c:Int}(h:DqOk t kss base nms D)(c0:0<=c)(c1:c<4096)(b1:c<=base+23):DqOk t kss base nms {D with kn:=hearK D nm age c}:=by
 obtain⟨a,b⟩:=h.dp.hear (nm:=nm) (age:=age) c0 c1 b1
 have l:(hearK D nm age c).length=D.kn.length:=by have:=JP List.length b;simpa using this
 exact⟨a,fun z hz=>h.sub z (by have hz:z∈(hearK D nm age c).map (·.1):=hz;rw[b]at hz;exact hz),by show(hearK D nm age c).length<=_;rw[l];exact h.few⟩
theorem DqOk.close{t:List Int}{kss:List (List Int)}{base:Int}{nms:List Str}{D:Dr}{a:Int}(h:DqOk t kss base nms D)(a1:a<kss.length):DqOk t kss base nms {D with least:=if a>D.least then a else D.least}:=⟨h.dp.close a1,h.sub,h.few⟩
def jN:Sp:=fun vs H Q _=>∃(b:Addr) (c:Nat),vs=[.ref b]/\BoxC H b c/\c<100000000/\∀q nl nms many base H',GrC b (c+20) H H'->H' q=some (.tup [.ref nl,.int ((many:Nat):Int),.int base])->H' nl=some (.lst (nms.map V.str))->H nl=none->NmOk nms many base->(∀z∈nms,z∈drawNames)->Q (.ref q) H'
def lY(K:Frag)(C:Addr):Sp:=fun vs H Q _=>∃(b dr nl:Addr) (c:Nat) (nms:List Str) (many:Nat) (base:Int),vs=[.ref b,.ref dr]/\BoxC H b c/\c<1000000/\H dr=some (.tup [.ref nl,.int (many:Int),.int base])/\H nl=some (.lst (nms.map V.str))/\nl≠b/\NmOk nms many base/\
 ∀q cd tb kt pl t kss xs H',Pw K C H H' b (c+300) pl xs->xs.length=2->H' q=some (.tup [.ref cd,.ref pl])->CdAt H' cd tb kt t kss->kss.length=many->(∀(i:Nat) (x:En),xs[i]? =some x->DqOk t kss base nms x.2.1/\x.2.2.length<=100)->Q (.ref q) H'
theorem oB(D:Dr)(nm:Str)(age c:Int):(hearK D nm age c).map (·.1)=D.kn.map (·.1):=by
 rcases e8 (D:=D) (nm:=nm) (age:=age) (c:=c)with e|⟨e,he,ht,ek⟩
 ·rw[e]
 ·rw[ek];exact fF he
theorem fT{D:Dr}{nm:Str}{age c:Int}{e:Kb}(nd:(D.kn.map (·.1)).Nodup)(he:D.kn.lookup nm=some e):(hearK D nm age c).lookup nm=some (zz D e age c).2:=by
 unfold hearK zk zz;rw[he];simp only
 by_cases ht:qY D e age=true
 ·rw[Jd ht,Jd ht]
  split
  ·exact kE nd
  ·exact kE nd
 ·rw[Jc ht,Jc ht];exact he
theorem DrOk.hearK{D:Dr}(h:DrOk D)(nm:Str)(age c:Int):DrOk {D with kn:=L3.hearK D nm age c}:=by
 have k:=oB D nm age c;have l:(L3.hearK D nm age c).length=D.kn.length:=by have:=JP List.length k;simpa using this
 exact⟨h.tp,h.l0,h.kl,by show(L3.hearK D nm age c).length<=60;rw[l];exact h.nl,by show((L3.hearK D nm age c).map (·.1)).Nodup;rw[k];exact h.nd⟩
theorem sk(D:Dr)(kd kd':Addr):L2.putK (ZD D kd) (Sum.inr "known":qL) (.ref kd')=ZD D kd':=by
 unfold L2.putK ZD;rw[Jd (by simp [CW])]
 have h1:¬((Sum.inr ("near":Str):Sum Int Str)=Sum.inr ("known":Str)):=by decide +kernel
 have h2:¬((Sum.inr ("far":Str):Sum Int Str)=Sum.inr ("known":Str)):=by decide +kernel
 have h3:¬((Sum.inr ("keys":Str):Sum Int Str)=Sum.inr ("known":Str)):=by decide +kernel
 have h5:¬((Sum.inr ("closed":Str):Sum Int Str)=Sum.inr ("known":Str)):=by decide +kernel
 simp only[JW,C9,Jc h1,Jc h2,Jc h3,Jc h5,BO]
def kF:Sp:=fun vs H Q _=>∃(m kd:Addr) (D:Dr),vs=[.ref m]/\MdAt H m kd D/\∀m' kd' H',Same H H'->H m'=none->H kd'=none->MdAt H' m' kd' D->Q (.ref m') H'
def gB(D:Dr)(nm:Str)(age c:Int):Dr:={D with kn:=hearK {D with kn:=hearK D nm age c} nm age (c+1)}
theorem gX{D:Dr}{nm:Str}{age c:Int}{e:Kb}(ok:DrOk D)(he:D.kn.lookup nm=some e):(gB D nm age c).kn.lookup nm=some (Qa D e age c):=by
 have h1:=fT (age:=age) (c:=c) ok.nd he
 have h2:=fT (D:={D with kn:=hearK D nm age c}) (age:=age) (c:=c+1) (ok.hearK nm age c).nd h1
 exact h2
def rN:Sp:=fun vs H Q _=>∃(ol m1 kd1 m2 kd2:Addr) (D1 D2:Dr) (nm:Str) (e1 e2:Kb) (age c:Int),vs=[.ref ol,.str nm,.int age,.int c]/\H ol=some (.lst [.ref m1,.ref m2])/\MdAt H m1 kd1 D1/\MdAt H m2 kd2 D2/\D1.kn.lookup nm=some e1/\D2.kn.lookup nm=some e2/\DrOk D1/\DrOk D2/\D1.near<=D1.far/\D2.near<=D2.far/\
 ∀H',Same H H'->Q (.bl (zZ D1 e1 D2 e2 age c)) H'
def pv:Sp:=fun vs H Q _=>∃(ol m1 kd1 m2 kd2:Addr) (t:List Int) (kss:List (List Int)) (D1 D2:Dr) (base:Int),vs=[.ref ol,.int base]/\H ol=some (.lst [.ref m1,.ref m2])/\MdAt H m1 kd1 D1/\MdAt H m2 kd2 D2/\DpOk t kss base D1/\DpOk t kss base D2/\0<=base/\base<=4076/\
 ∀q ss H',Same H H'->ss.Perm (D1.kn.map (·.1))->sortedS ss=true->BrT H' q (zJ D1 D2 ss)->Q (.ref q) H'
theorem ib{α:Type}(p:α->Bool):∀l:List α,(l.filter p).head? =l.find? p
 | []=>rfl
 |x::l=>by
  rw[List.filter_cons,CH];cases p x with
  |true=>rfl
  |false=>exact ib p l
theorem vX{D D':Dr}{nm:Str}{cs:List Str}(h:D'.kn.lookup nm=none):zJ D D' (cs++[nm])=zJ D D' cs:=by
 have e:zJ D D' [nm]=[]:=by
  unfold zJ;cases h1:D.kn.lookup nm<;>simp [h,h1]
 have a:zJ D D' (cs++[nm])=zJ D D' cs++zJ D D' [nm]:=by unfold zJ;rw[List.filterMap_append]
 rw[a,e,CP]
end L3
namespace Lw
open PySem L2 L3
section
variable{P:Program}{w:World}{K:Frag}{mg:Str->Option Value}{base:Heap}{tk:Nat->Tok}{C:Addr}
theorem iJ(a:At K mg "_law_bounds" Z7 ["_law_box_here"])(T:Txt K mg tk)(dA:Df P w K mg base "_law_take" ["_law_box_here","_law_many"] 1 Za):Df P w K mg base "_law_bounds" ["_law_box_here"] 2 gP:=by
 refine a.dq sc_law_bounds (fun vs H Q E h=>?_) (fun f cdv A outer s H vs Q E hr h=>?_)
 ·obtain⟨_,_,rfl,_⟩:=h
  rfl
 ·obtain⟨b,c,rfl,hb,hc,q⟩:=h
  refine⟨_,(qe (qC (i:=1) sc_law_bounds.nd rfl (Or.inl rfl) (qw qH qf (qq dA hr.mo (qc (qv 0) (qc qf qb)))))
   (qe (qC (i:=2) sc_law_bounds.nd rfl (Or.inl rfl) (qw qH (qv 1) (qy qF (qS (qc qf (qc qf (qc qf (qc (qq dA hr.mo (qc (qv 0) (qc qf qb))) qb))))) (qq dA hr.mo (qc (qv 0) (qc qf qb))) (fun _ _=>rfl))))
   (qe (qC (i:=3) sc_law_bounds.nd rfl (Or.inl rfl) (qy qF (qS (qc (qv 1) (qc (qv 1) (qc (qw qH qf (qq dA hr.mo (qc (qv 0) (qc qf qb)))) qb)))) (qq dA hr.mo (qc (qv 0) (qc qf qb))) (fun _ _=>rfl)))
   (qg (qu (qS (qc (qx (qc (qv 1) (qc (qv 2) qb))) (qc (qx (qc (qv 3) (qc (qw qH (qv 3) (qy qF (qS (qc (qw zG (qv 2) (qv 1)) (qc qf (qc qf (qc (qq dA hr.mo (qc (qv 0) (qc qf qb))) qb))))) (qq dA hr.mo (qc (qv 0) (qc qf qb))) (fun _ _=>rfl))) qb))) qb)))))))),?_⟩
  refine⟨_,rfl,b,4,c,rfl,hb,by omega,by decide,by decide,fun r1 H1 r10 r11 g1=>⟨_,_,rfl,rfl,?_⟩⟩
  refine⟨_,rfl,_,rfl,b,9,c+1,rfl,g1.bx,by omega,by decide,by decide,fun r2 H2 r20 r21 g2=>⟨by show 4<=sizeLine;decide,fun l1 hl1=>?_⟩⟩
  have u2:=Same.upd (o:= .lst [.int 0,.int 1,.int 2,.int r2]) hl1
  have g2':=(g1.trans g2).same u2;have n1:=qP g2.bx hl1;refine⟨_,rfl,b,4,c+1+1,rfl,g2'.bx,by omega,by decide,by decide,fun r3 H3 r30 r31 g3=>?_⟩
  obtain⟨x,hx,hm⟩:=Qr (xs:=[V.int 0,.int 1,.int 2,.int r2]) r30 r31
  obtain⟨z,rfl,z0,z1⟩:∃z:Int,x= .int z/\0<=z/\z<=8:=by
   simp only[Jj,Jp,Jq]at hm;rcases hm with rfl|rfl|rfl|rfl
   ·exact⟨_,rfl,by omega,by omega⟩
   ·exact⟨_,rfl,by omega,by omega⟩
   ·exact⟨_,rfl,by omega,by omega⟩
   ·exact⟨_,rfl,by omega,by omega⟩
  have g3':=g2'.trans g3;refine⟨l1,_,_,_,rfl,rfl,SqL.of (g3.kp _ _ n1 qd),hx,_,_,rfl,rfl,?_⟩
  refine⟨_,rfl,_,rfl,_,rfl,b,4,c+1+1+1,rfl,g3'.bx,by omega,by decide,by decide,fun r4 H4 r40 r41 g4=>⟨_,_,rfl,rfl,by show 3<=sizeLine;decide,fun l2 hl2=>?_⟩⟩
  have u4:=Same.upd (o:= .lst [.int (1+r1),.int (1+r1),.int (1+r4)]) hl2
  have g4':=(g3'.trans g4).same u4;have n2:=qP g4.bx hl2;refine⟨_,rfl,b,3,c+1+1+1+1,rfl,g4'.bx,by omega,by decide,by decide,fun r5 H5 r50 r51 g5=>?_⟩
  obtain⟨x2,hx2,hm2⟩:=Qr (xs:=[V.int (1+r1),.int (1+r1),.int (1+r4)]) r50 r51
  obtain⟨o,rfl,o0,o1⟩:∃o:Int,x2= .int o/\1<=o/\o<=4:=by
   simp only[Jj,Jp,Jq]at hm2;rcases hm2 with rfl|rfl|rfl
   ·exact⟨_,rfl,by omega,by omega⟩
   ·exact⟨_,rfl,by omega,by omega⟩
   ·exact⟨_,rfl,by omega,by omega⟩
  have g5':=g4'.trans g5;refine⟨l2,_,_,_,rfl,rfl,SqL.of (g5.kp _ _ n2 qd),hx2,?_⟩
  refine⟨_,rfl,_,rfl,by show 2<=sizeLine;decide,fun t1 ht1=>?_⟩
  have u6:=Same.upd (o:= .tup [.int (1+r1),.int (1+r1+z)]) ht1
  have g6':=g5'.same u6;have nt1:=qP g5'.bx ht1;have et1:(upd H5 t1 (.tup [.int (1+r1),.int (1+r1+z)])) t1=some (.tup [.int (1+r1),.int (1+r1+z)]):=qd
  generalize upd H5 t1 (.tup [.int (1+r1),.int (1+r1+z)])=H6 at *
  refine⟨_,rfl,_,rfl,_,rfl,_,rfl,_,_,rfl,rfl,_,rfl,b,9,c+1+1+1+1+1,rfl,g6'.bx,by omega,by decide,by decide,fun r6 H7 r60 r61 g7=>⟨by show 4<=sizeLine;decide,fun l3 hl3=>?_⟩⟩
  have u7:=Same.upd (o:= .lst [.int (1+r1+z-(1+r1)),.int 0,.int 1,.int r6]) hl3
  have g7':=(g6'.trans g7).same u7;have n3:=qP g7.bx hl3;refine⟨_,rfl,b,4,c+1+1+1+1+1+1,rfl,g7'.bx,by omega,by decide,by decide,fun r7 H8 r70 r71 g8=>?_⟩
  obtain⟨x3,hx3,hm3⟩:=Qr (xs:=[V.int (1+r1+z-(1+r1)),.int 0,.int 1,.int r6]) r70 r71
  obtain⟨y,rfl,y0,y1⟩:∃y:Int,x3= .int y/\0<=y/\y<=8:=by
   simp only[Jj,Jp,Jq]at hm3;rcases hm3 with rfl|rfl|rfl|rfl
   ·exact⟨_,rfl,by omega,by omega⟩
   ·exact⟨_,rfl,by omega,by omega⟩
   ·exact⟨_,rfl,by omega,by omega⟩
   ·exact⟨_,rfl,by omega,by omega⟩
  have g8':=g7'.trans g8;refine⟨l3,_,_,_,rfl,rfl,SqL.of (g8.kp _ _ n3 qd),hx3,_,_,rfl,rfl,by show 2<=sizeLine;decide,fun t2 ht2=>⟨by show 2<=sizeLine;decide,fun l hl=>?_⟩⟩
  have v1:=Same.upd (o:= .tup [.int o,.int (o+y)]) ht2
  have v2:=Same.upd (o:= .lst [.ref t1,.ref t2]) hl
  have G:=(g8'.same v1).same v2;have e1:=v2 _ _ (v1 _ _ (g8.kp _ _ nt1 (u7 _ _ (g7.kp _ _ nt1 et1))));exact q l t1 t2 (1+r1) (1+r1+z) o (o+y) _ G qd e1 (v2 _ _ qd) ⟨by omega,by omega,by omega,by omega⟩ ⟨by omega,by omega,by omega,by omega⟩ ((g8'.same v1).fresh (hb.mono (by omega)) hl)
theorem jC(a:At K mg "_law_drawn" az ["_law_box_here"])(T:Txt K mg tk)(dA:Df P w K mg base "_law_take" ["_law_box_here","_law_many"] 1 Za):Df P w K mg base "_law_drawn" ["_law_box_here"] 2 jN:=by
 refine a.dq sc_law_drawn (fun vs H Q E h=>?_) (fun f cdv A outer s H vs Q E hr h=>?_)
 ·obtain⟨_,_,rfl,_⟩:=h
  rfl
 ·obtain⟨b,c,rfl,hb,hc,q⟩:=h
  refine⟨_,(qe (qC (i:=1) sc_law_drawn.nd rfl (Or.inr rfl) (qS (qc qz (qc qz (qc qz (qc qz (qc qz (qc qz (qc qz (qc qz (qc qz qb)))))))))))
   (qe (qC (i:=2) sc_law_drawn.nd rfl (Or.inl rfl) (qy qF (qS (qc (qw qH qf (qq dA hr.mo (qc (qv 0) (qc qf qb)))) (qc (qw qH qf (qq dA hr.mo (qc (qv 0) (qc qf qb)))) qb))) (qM cq (by rfl) T.b_int B5 (qc (zf zp (qq dA hr.mo (qc (qv 0) (qc qf qb))) qf (qA _)) qb)) (fun _ _=>rfl)))
   (qe (cK (i:=3) sc_law_drawn.nd rfl (Or.inl rfl) (own:=["_law_k"]) (fr:=["_law_some","_law_box_here"]) (js:=[1,0]) rfl (zy rfl T.b_range (qc (qv 2) qb)) rfl (tR rfl rfl) rfl (tO rfl (by decide +kernel) (by decide +kernel) (by decide +kernel) rfl rfl rfl rfl rfl rfl) (fun _ _ _ _=>qh (i:=0) (show List.Nodup (["_law_k","_law_some","_law_box_here"]:List Str)from by decide +kernel) rfl (Or.inl rfl) (.inr rfl)) (fun _ _ _ _=>(p8 (K:=K) rfl BQ PySem.F.slot_list_pop PySem.F.type_list_pop kG (qv 1) (qc (qq dA hr.mo (qc (qv 2) (qc (qm (bz (K:=K) rfl) (by rfl) T.b_len JY (qc (qv 1) qb)) qb))) qb))))
   (qg (qu (qx (qc (qv 3) (qc (qy qF (qS (qc qf (qc qf (qc qf (qc qf (qc qf qb)))))) (qq dA hr.mo (qc (qv 0) (qc qf qb))) (fun _ _=>rfl)) (qc (qy qF (qS (qc qf (qc qf (qc qf (qc qf qb))))) (qq dA hr.mo (qc (qv 0) (qc qf qb))) (fun _ _=>rfl)) qb))))))))),?_⟩
  refine⟨by show 9<=sizeLine;decide,fun l hl=>?_⟩
  have u1:=Same.upd (o:= .lst (drawNames.map V.str)) hl
  have nlb:l≠b:=qP hb hl
  have g1:=u1.grc hb;have el:(upd H l (.lst (drawNames.map V.str))) l=some (.lst (drawNames.map V.str)):=qd
  have u1':∀x,H x=none->x≠l->(upd H l (.lst (drawNames.map V.str))) x=none:=fun x hx n=>by rw[qp n];exact hx
  have fr:H l=none:=hl
  have sm:Same H (upd H l (.lst (drawNames.map V.str))):=u1
  have el2:(upd H l (HO.lst [.str "a",.str "b",.str "ab",.str "ba",.str "aaaaaaaa",.str "aaaaaaab",.str "door",.str "gate",.str "x"]))=upd H l (.lst (drawNames.map V.str)):=rfl
  rw[el2];generalize upd H l (.lst (drawNames.map V.str))=Ha at *
  refine⟨_,rfl,b,3,c,rfl,g1.bx,by omega,by decide,by decide,fun r1 H1 r10 r11 g2=>⟨_,_,rfl,rfl,?_⟩⟩
  refine⟨_,rfl,b,3,c+1,rfl,g2.bx,by omega,by decide,by decide,fun r2 H2 r20 r21 g3=>⟨_,_,rfl,rfl,by show 2<=sizeLine;decide,fun l2 hl2=>?_⟩⟩
  have u3:=Same.upd (o:= .lst [.int (1+r1),.int (7+r2)]) hl2
  have n2:=qP g3.bx hl2;have g3':=(((g1.trans g2).trans g3).same u3);refine⟨_,rfl,b,8,c+1+1,rfl,g3'.bx,by omega,by decide,by decide,fun r3 H3 r30 r31 g4=>⟨rfl,.inr ⟨_,rfl,?_⟩⟩⟩
  have el3:H3 l=some (.lst (drawNames.map V.str)):=g4.kp _ _ nlb (u3 _ _ (g3.kp _ _ nlb (g2.kp _ _ nlb el)))
  have el4:H3 l2=some (.lst [.int (1+r1),.int (7+r2)]):=g4.kp _ _ n2 qd
  have g4':=g3'.trans g4;generalize decide (V.int r3=V.int 5)=gg
  obtain⟨mm,emm,m1,m9⟩:∃mm:Nat,QQ [V.int (1+r1),.int (7+r2)] (if gg=true then 1 else 0)=some (.int (mm:Int))/\1<=mm/\mm<=9:=by
   cases gg with
   |true=>exact⟨(7+r2).toNat,by rw[Int.toNat_of_nonneg (by omega)];rfl,by omega,by omega⟩
   |false=>exact⟨(1+r1).toNat,by rw[Int.toNat_of_nonneg (by omega)];rfl,by omega,by omega⟩
  refine⟨l2,_,_,_,rfl,rfl,SqL.of el4,emm,?_⟩
  refine⟨_,rfl,_,rfl,by omega,by omega,?_⟩
  rw[B3];refine QL (n:=mm) (JA m9 (by decide)) (fun i ys Hx=>GrC b (c+3+i) H Hx/\∃ms zs:List Str,Hx l=some (.lst (ms.map V.str))/\ys=zs.map V.str/\ms.length+i=9/\(zs++ms).Perm drawNames) ⟨g4',drawNames,[],el3,rfl,rfl,.refl _⟩ ?_ ?_
  ·rintro i ys Hx hi hl2' ⟨G2,ms,zs,hms,rfl,hml,pm⟩
   refine⟨_,rfl,.inl ⟨rfl,_,SqL.of hms⟩,?_⟩
   refine⟨_,rfl,_,rfl,l,_,rfl,.inl (SqL.of hms),b,_,_,rfl,G2.bx,by omega,by rw[Je];omega,by rw[Je];omega,fun x Hy x0 x1 g5=>?_⟩
   rw[Je]at x1;obtain⟨k,rfl⟩:∃k:Nat,x=(k:Int):=⟨x.toNat,by omega⟩
   have hk:k<ms.length:=by omega
   have hm3:=g5.kp _ _ nlb hms;refine⟨l,_,_,k,.str ms[k],rfl,rfl,hm3,by omega,by omega,?_,?_,?_⟩
   ·rw[Je];exact bS hk
   ·rw[Jo,Jl hk];rfl
   ·refine⟨⟨fun c o hcb e=>?_,?_⟩,ms.eraseIdx k,zs++[ms[k]],?_,by simp,?_,?_⟩
    ·have z:c≠l:=fun z=>by rw[z,fr]at e;cases e
     rw[qp z];exact g5.kp _ _ hcb (G2.kp _ _ hcb e)
    ·obtain⟨n,m,k',e,r⟩:=g5.bx
     exact⟨n,m,k',by rw[qp nlb.symm];exact e,r⟩
    ·rw[qd,mV]
    ·rw[List.length_eraseIdx_of_lt hk];omega
    ·exact(oS hk).trans pm
  rintro ys Hx hyl ⟨G2,ms,zs,hms,rfl,hml,pm⟩ p hp
  rw[Je]at hyl;have nd:(zs++ms).Nodup:=pm.nodup_iff.mpr (by decide +kernel)
  have up:=Same.upd (o:= .lst (zs.map V.str)) hp
  have G3:=G2.same up;have np:=qP G2.bx hp;have ep:(upd Hx p (.lst (zs.map V.str))) p=some (.lst (zs.map V.str)):=qd
  have fp:=G2.fresh (hb.mono (by omega)) hp
  generalize upd Hx p (.lst (zs.map V.str))=Hp1 at *
  refine⟨_,rfl,by show 5<=sizeLine;decide,fun l3 hl3=>?_⟩
  have u5:=Same.upd (o:= .lst [.int 1,.int 2,.int 2,.int 3,.int 8]) hl3
  have n3:=qP G3.bx hl3;have G4:=G3.same u5;refine⟨_,rfl,b,5,c+3+mm,rfl,G4.bx,by omega,by decide,by decide,fun r5 H5 r50 r51 g6=>?_⟩
  obtain⟨x,hx,hm⟩:=Qr (xs:=[V.int 1,.int 2,.int 2,.int 3,.int 8]) r50 r51
  obtain⟨mk,rfl,k1,k8⟩:∃mk:Nat,x= .int (mk:Int)/\1<=mk/\mk<=8:=by
   simp only[Jj,Jp,Jq]at hm;rcases hm with rfl|rfl|rfl|rfl|rfl
   ·exact⟨1,rfl,by decide,by decide⟩
   ·exact⟨2,rfl,by decide,by decide⟩
   ·exact⟨2,rfl,by decide,by decide⟩
   ·exact⟨3,rfl,by decide,by decide⟩
   ·exact⟨8,rfl,by decide,by decide⟩
  have G5:=G4.trans g6;have ep5:=g6.kp _ _ np (u5 _ _ ep);refine⟨l3,_,_,_,rfl,rfl,SqL.of (g6.kp _ _ n3 qd),hx,by show 4<=sizeLine;decide,fun l4 hl4=>?_⟩
  have u6:=Same.upd (o:= .lst [.int 0,.int 0,.int 4076,.int 100]) hl4
  have n4:=qP G5.bx hl4;have G6:=G5.same u6;refine⟨_,rfl,b,4,c+3+mm+1,rfl,G6.bx,by omega,by decide,by decide,fun r6 H6 r60 r61 g7=>?_⟩
  obtain⟨x2,hx2,hm2⟩:=Qr (xs:=[V.int 0,.int 0,.int 4076,.int 100]) r60 r61
  obtain⟨ba,rfl,b0,b1⟩:∃ba:Int,x2= .int ba/\0<=ba/\ba<=4076:=by
   simp only[Jj,Jp,Jq]at hm2;rcases hm2 with rfl|rfl|rfl|rfl
   ·exact⟨_,rfl,by decide,by decide⟩
   ·exact⟨_,rfl,by decide,by decide⟩
   ·exact⟨_,rfl,by decide,by decide⟩
   ·exact⟨_,rfl,by decide,by decide⟩
  have G7:=G6.trans g7;refine⟨l4,_,_,_,rfl,rfl,SqL.of (g7.kp _ _ n4 qd),hx2,by show 3<=sizeLine;decide,fun t ht=>?_⟩
  have ut:=Same.upd (o:= .tup [.ref p,.int (mk:Int),.int ba]) ht
  refine q t p zs mk ba _ ((G7.same ut).mono (by omega)) qd (ut _ _ (g7.kp _ _ np (u6 _ _ ep5))) fp ⟨(Dz.mp nd).1,fun z hz=>?_,by omega,by omega,k1,k8,b0,b1⟩ (fun z hz=>pm.mem_iff.mp (Ck _ hz))
  have hz':=pm.mem_iff.mp (Ck _ hz);simp only[drawNames,Jj,Jp,Jq]at hz';rcases hz' with rfl|rfl|rfl|rfl|rfl|rfl|rfl|rfl|rfl
  all_goals exact⟨by decide +kernel,by decide +kernel,by decide +kernel⟩
end
section
variable{P:Program}{w:World}{K:Frag}{mg:Str->Option Value}{base:Heap}{tk:Nat->Tok}{C:Addr}
theorem kU(a:At K mg "_law_pair" bh ["_law_box_here","_law_drawn_here"])(T:Txt K mg tk)(U:DCx K C)(xV:Mi P w K mg base C "Door" ["self","table","keys","near","far","most"] 1 (c7 K C))(dZ:Mf P w K mg base C "close_below" ["self","age"] 1 (kI K C))(dA:Df P w K mg base "_law_take" ["_law_box_here","_law_many"] 1 Za)(dU:Df P w K mg base "_law_table" ["_law_box_here"] 2 ef)(xD:Df P w K mg base "_law_key" ["_law_box_here"] 2 gi)(xM:Df P w K mg base "_law_bounds" ["_law_box_here"] 2 gP)(dR:Df P w K mg base "_law_model" ["_law_near","_law_far","_law_keys"] 1 gr)(dY:Df P w K mg base "_law_learnt" ["_law_code","_law_pair_here","_law_name","_law_told"] 8 (aa K C))(dW:Df P w K mg base "_law_heard" ["_law_code","_law_pair_here","_law_plain","_law_places"] 7 (ee K C)):Df P w K mg base "_law_pair" ["_law_box_here","_law_drawn_here"] 9 (lY K C):=by
 refine a.dq sc_law_pair (fun vs H Q E h=>?_) (fun f cdv A outer s H vs Q E hr h=>?_)
 ·obtain⟨_,_,_,_,_,_,_,rfl,_⟩:=h
  rfl
 ·obtain⟨b,dr,nl,c,nms,many,ba,rfl,hb,hc,hdr,hnl,nlb,ok,q⟩:=h
  have m1:=ok.m1;have m8:=ok.m8;have b0:=ok.b0;have b1:=ok.b1;refine⟨_,(qe (ze (qv 1) (zj rfl (qr (qh (i:=2) sc_law_pair.nd rfl (Or.inl rfl)) (qr (qh (i:=3) sc_law_pair.nd rfl (Or.inl rfl)) (qr (qh (i:=4) sc_law_pair.nd rfl (Or.inl rfl)) qN)))))
   (qe (qC (i:=5) sc_law_pair.nd rfl (Or.inl rfl) (qx (qc (qq dU hr.mo (qc (qv 0) qb)) (qc (qM qT (by rfl) T.b_tuple JD (qc (zU (own:=["_law_k"]) (fr:=["_law_box_here"]) (js:=[0]) rfl (zy rfl T.b_range (qc (qv 3) qb)) rfl (kj rfl) rfl (jz rfl (by decide +kernel) (by decide +kernel) (by decide +kernel) rfl rfl rfl) (fun _ _ _ _=>qh (i:=0) (show List.Nodup (["_law_k","_law_box_here"]:List Str)from by decide +kernel) rfl (Or.inl rfl) (.inr rfl)) (fun _ _ _ _=>(Qb Q9 (qq xD hr.mo (qc (qv 1) qb)) Qp (Qo qf)))) qb)) qb))))
   (qe (qC (i:=6) sc_law_pair.nd rfl (Or.inl rfl) (qS qb))
   (qe (zi JI rfl (zM (qq xM hr.mo (qc (qv 0) qb))) (zj rfl (qr (qh (i:=7) sc_law_pair.nd rfl (Or.inl rfl)) (qr (qh (i:=8) sc_law_pair.nd rfl (Or.inl rfl)) qN)))
   (qg (zb (Zz BQ Ci Cj zX (qv 6) (qc (qx (qc (lQ xV hr.mo (qc (qy qI (qv 5) qf (fun _ _=>rfl)) (qc (qy qI (qv 5) qf (fun _ _=>rfl)) (qc (qv 7) (qc (qv 8) (qc qf qb)))))) (qc (qq dR hr.mo (qc (qv 7) (qc (qv 8) (qc (qv 3) qb)))) qb))) qb)))))
   (qe (zi JI rfl (zM (qv 2)) (qh (i:=9) sc_law_pair.nd rfl (Or.inl rfl))
   (qe (qC (i:=10) sc_law_pair.nd rfl (Or.inl rfl) (qq dA hr.mo (qc (qv 0) (qc (qv 3) qb))))
   (qe (qC (i:=11) sc_law_pair.nd rfl (Or.inl rfl) (qm (Qj rfl) (by rfl) T.b_min PyProof.Rows.boot_min (qc qf (qc (qw qH (qw qH (qv 4) qf) (qq dA hr.mo (qc (qv 0) (qc qf qb)))) qb))))
   (qe (qC (i:=12) sc_law_pair.nd rfl (Or.inl rfl) (qx (qc (qq dA hr.mo (qc (qv 0) (qc (qv 3) qb))) (qc (qm (Qj rfl) (by rfl) T.b_min PyProof.Rows.boot_min (qc qf (qc (qw qH (qw qH (qv 4) qf) (qq dA hr.mo (qc (qv 0) (qc qf qb)))) qb))) qb))))
   (qe (qC (i:=13) sc_law_pair.nd rfl (Or.inl rfl) (qq dA hr.mo (qc (qv 0) (qc qf qb))))
   (qe (qC (i:=14) sc_law_pair.nd rfl (Or.inl rfl) (qS (qc (qx (qc (qv 10) (qc (qv 11) qb))) (qc (qx (qc (qv 10) (qc (qy qI (qv 12) qf (fun _ _=>rfl)) qb))) (qc (qx (qc (qy qI (qv 12) qf (fun _ _=>rfl)) (qc (qv 11) qb))) (qc zh qb))))))
   (qe (qC (i:=15) sc_law_pair.nd rfl (Or.inl rfl) (qS (qc (qx (qc (qv 10) (qc (qv 11) qb))) (qc (qy qF (qv 14) (qm (QH rfl) (by rfl) T.b_max CL (qc qf (qc (qw zG (qv 13) qf) qb))) (fun _ _=>rfl)) qb))))
   (qe (qJ (qE zp (qq dA hr.mo (qc (qv 0) (qc qf qb))) qf (qA _)) (qg (zb (oO BQ PySem.F.slot_list_reverse PySem.F.type_list_reverse fG (qv 15)))) qB)
   (qg (zb (qq dY hr.mo (qc (qv 5) (qc (qv 6) (qc (qv 9) (qc (qv 15) qb)))))))))))))))
   (qe (zi JI rfl (zy rfl T.b_range (qc (qq dA hr.mo (qc (qv 0) (qc qf qb))) qb)) (qh (i:=16) sc_law_pair.nd rfl (Or.inl rfl))
   (qe (qC (i:=9) sc_law_pair.nd rfl (Or.inl rfl) (qy qF (qv 2) (qq dA hr.mo (qc (qv 0) (qc (qm qQ (by rfl) T.b_len JY (qc (qv 2) qb)) qb))) (fun _ _=>rfl)))
   (qe (qC (i:=10) sc_law_pair.nd rfl (Or.inl rfl) (qq dA hr.mo (qc (qv 0) (qc (qv 3) qb))))
   (qe (qC (i:=17) sc_law_pair.nd rfl (Or.inl rfl) (qx (qc (qv 9) (qc (qv 10) (qc (qm (Qj rfl) (by rfl) T.b_min PyProof.Rows.boot_min (qc qf (qc (qw qH (qv 4) (qq dA hr.mo (qc (qv 0) (qc qf qb)))) qb))) qb)))))
   (qg (zb (qq dW hr.mo (qc (qv 5) (qc (qv 6) (qc (qv 17) (qc (qy qF (qS (qc (qx (qc qf (qc qf qb))) (qc (qx (qc qf (qc qf qb))) (qc (qx (qc qf qb)) (qc (qx (qc qf qb)) qb))))) (qq dA hr.mo (qc (qv 0) (qc qf qb))) (fun _ _=>rfl)) qb)))))))))))
   (qe (zi JI rfl (zM (qv 6)) (zj rfl (qr (qh (i:=18) sc_law_pair.nd rfl (Or.inl rfl)) (qr (qh (i:=19) sc_law_pair.nd rfl (Or.inl rfl)) qN)))
   (qg (qJ (qE zp (qq dA hr.mo (qc (qv 0) (qc qf qb))) qf (qA _)) (qe (qC (i:=10) sc_law_pair.nd rfl (Or.inl rfl) (qq dA hr.mo (qc (qv 0) (qc (qv 3) qb))))
   (qe (zb (zt dZ U.cl hr.mo (qv 18) (qc (qv 10) qb)))
   (qg (Q3 hr (qv 19) qz (qm (QH rfl) (by rfl) T.b_max CL (qc (qW hr (qv 19) qz) (qc (qv 10) qb))))))) qB)))
   (qg (qu (qx (qc (qv 5) (qc (qv 6) qb)))))))))))),?_⟩
  refine⟨_,rfl,dr,_,rfl,.tup hdr,rfl,_,_,rfl,_,_,rfl,_,_,rfl,rfl,?_⟩
  refine⟨_,rfl,b,c,rfl,hb,by omega,fun tb t H1 g1 ftb etb tp=>?_⟩
  refine⟨_,rfl,_,rfl,by omega,by omega,?_⟩
  rw[B3];have ntb:tb≠b:=fun z=>by obtain⟨_,_,_,e,_⟩:=hb;rw[z,e]at ftb;cases ftb
  refine QL (n:=many) (JA m8 (by decide)) (fun i ys Hx=>GrC b (c+16+9*i) H Hx/\Hx tb=some (.tup (t.map V.int))/\∃(as:List Addr) (kss:List (List Int)),ys=as.map V.ref/\as.length=i/\kss.length=i/\∀(j:Nat) (x:Addr) (z:List Int),as[j]? =some x->kss[j]? =some z->Hx x=some (.tup (z.map V.int))) ⟨g1,etb,[],[],rfl,rfl,rfl,fun j x z e=>by cases e⟩ ?_ ?_
  ·rintro i ys Hx hi hyl ⟨G,et,as,kss,rfl,lA,lK,hks⟩
   refine⟨_,rfl,b,c+16+9*i,rfl,G.bx,by omega,fun p ks H2 g2 fp ep dk l1 l8=>⟨_,rfl,p,_,rfl,ep,fun y H3 s3 hy _=>?_⟩⟩
   rw[ZY]at hy;have kp:∀{x:Addr} {xs:List V},Hx x=some (.tup xs)->H3 x=some (.tup xs):=fun{x xs} e=>s3 _ _ (g2.kp _ _ (fun z=>by obtain⟨_,_,_,eb,_⟩:=G.bx;rw[z,eb]at e;cases e) e)
   refine⟨((G.trans g2).same s3).mono (by omega),kp et,as++[y],kss++[ZF ks none (some 3)],by simp,by simp [lA],by simp [lK],fun j x z e1 e2=>?_⟩
   by_cases hj:j<as.length
   ·rw[J0 hj]at e1
    rw[J0 (by omega)]at e2
    exact kp (hks j x z e1 e2)
   ·rw[JX (by omega)]at e1
    rw[JX (by omega)]at e2
    cases ej:j-as.length with
    |zero=>rw[ej]at e1;rw[show j-kss.length=0 by omega]at e2;cases e1;cases e2;exact hy
    |succ k=>rw[ej]at e1;cases e1
  rintro ys Hx hyl ⟨G,et,as,kss,rfl,lA,lK,hks⟩ l0 hl0
  obtain rfl:kss.length=many:=lK
  refine⟨l0,_,rfl,.inl ⟨SqL.of qd,fun kt hkt=>⟨by show 2<=sizeLine;decide,fun cd hcd=>?_⟩⟩⟩
  have u1:=Same.upd (o:= .lst (as.map V.ref)) hl0
  have u2:=Same.upd (o:= .tup (as.map V.ref)) hkt
  have u3:=Same.upd (o:= .tup [.ref tb,.ref kt]) hcd
  have S3:=(u1.trans u2).trans u3;have hC:CdAt (upd (upd (upd Hx l0 (.lst (as.map V.ref))) kt (.tup (as.map V.ref))) cd (.tup [.ref tb,.ref kt])) cd tb kt t kss:=⟨qd,.inl (S3 _ _ et),as,.inl (.inl (u3 _ _ qd)),lA,fun j x z e1 e2=> .inl (.inl (S3 _ _ (hks j x z e1 e2)))⟩
  have G3:=G.same S3;generalize upd (upd (upd Hx l0 (.lst (as.map V.ref))) kt (.tup (as.map V.ref))) cd (.tup [.ref tb,.ref kt])=H3 at *
  clear hks et u1 u2 u3 hl0 hkt hcd;refine⟨by show 0<=sizeLine;decide,fun pl hpl=>?_⟩
  have u4:=Same.upd (o:= .lst []) hpl
  have G4:=G3.same u4;have hC4:=hC.same u4;have b0':H b≠none:=fun z=>by obtain⟨_,_,_,e,_⟩:=hb;rw[z]at e;cases e
  have pw0:Pw K C H (upd H3 pl (.lst [])) b (c+16+9*kss.length) pl []:=⟨fun c o h e=>G4.kp c o (fun z=>h (Jg.mpr z)) e,G4.bx,b0',(fun i x h=>by cases h),(fun i j x y _ h=>by cases h),(fun i x h=>by cases h),qd,(fun i x h=>by cases h),G3.fresh (hb.mono (by omega)) hpl⟩
  generalize upd H3 pl (.lst [])=H4 at *
  have hk8:kss.length<=8:=m8
  refine bg (fun σ' H'=>∃xs o7 o8,Pw K C H H' b (c+95) pl xs/\xs.length=2/\(∀(i:Nat) (x:En),xs[i]? =some x->DpOk t kss ba x.2.1/\x.2.1.least=0/\x.2.1.kn=[]/\x.2.2=[])/\CdAt H' cd tb kt t kss/\σ'=[some (.ref b),some (.ref dr),some (.ref nl),some (.int (kss.length:Int)),some (.int ba),some (.ref cd),some (.ref pl),o7,o8,none,none,none,none,none,none,none,none,none,none,none]) (fun D' hrt hnx=>?_) ?_
  refine⟨_,rfl,b,c+16+9*kss.length,rfl,pw0.bx,by omega,fun bl bx by' n1 f1 n2 f2 H5 g5 ebl ebx eby bd1 bd2 fbl=>⟨bl,rfl,⟨_,SqL.of ebl⟩,?_⟩⟩
  have pw5:=(pw0.grc g5);have hC5:=hC4.mv (S:=[b]) (fun c o h e=>g5.kp c o (fun z=>h (Jg.mpr z)) e) (qX pw0.bx)
  have nbl:bl≠pl:=qi pw0.pe fbl |>.symm
  refine zN (K:=K) (a:=bl) (xs:=[.ref bx,.ref by']) (fun j σ Hy=>∃xs,Pw K C H Hy b (c+16+9*kss.length+7) pl xs/\xs.length=j/\(∀(i:Nat) (x:En),xs[i]? =some x->DpOk t kss ba x.2.1/\x.2.1.least=0/\x.2.1.kn=[]/\x.2.2=[])/\CdAt Hy cd tb kt t kss/\Hy bl=some (.lst [.ref bx,.ref by'])/\Hy bx=some (.tup [.int n1,.int f1])/\Hy by'=some (.tup [.int n2,.int f2])/\∃o7 o8,σ=[some (.ref b),some (.ref dr),some (.ref nl),some (.int (kss.length:Int)),some (.int ba),some (.ref cd),some (.ref pl),o7,o8,none,none,none,none,none,none,none,none,none,none,none]) ⟨[],pw5,rfl,(fun i x h=>by cases h),hC5,ebl,ebx,eby,_,_,rfl⟩ (fun j σ Hy _ h=>let⟨_,_,_,_,_,e,_⟩:=h;SqL.of e) ?_ ?_
  ·rintro j z σ Hy hz ⟨xs,pw,lx,hxs,hCy,el,ex,ey,o7,o8,rfl⟩
   obtain⟨be,n,f,rfl,ebe,bd⟩:∃be n f,z= .ref be/\Hy be=some (.tup [.int n,.int f])/\uO n f:=by
    match j,hz with
    |0,hz=>cases hz;exact⟨bx,n1,f1,rfl,ex,bd1⟩
    |1,hz=>cases hz;exact⟨by',n2,f2,rfl,ey,bd2⟩
   obtain⟨bn0,bn1,bf0,bf1⟩:=bd;refine⟨be,_,rfl,.tup ebe,rfl,_,_,rfl,_,_,rfl,rfl,?_⟩
   refine⟨_,rfl,.inl ⟨rfl,_,SqL.of pw.pe⟩,?_⟩
   refine⟨_,rfl,cd,_,_,_,rfl,rfl,SqT.of hCy.e,rfl,_,rfl,cd,_,_,_,rfl,rfl,SqT.of hCy.e,rfl,_,rfl,_,rfl,fun x dx nx ndx nex=>?_⟩
   have sJ:Same Hy (upd (upd Hy dx (.own x)) x (.ins C dx [])):=(Same.upd ndx).trans (Same.upd (by rw[qp nex.symm];exact nx))
   refine⟨x,tb,kt,dx,n,f,12,t,kss,rfl,qd,.inr (.inl (Rd.same sJ hCy.tb)),hCy.ks.same sJ,m8,fun ta hk bd' lg H2 h1 h2 h3 mv dr' kr=>⟨rfl,?_⟩⟩
   have sK:Same Hy H2:=fun c o e=>mv c o (qR (qi e nx)) (sJ c o e)
   have dl:DlAt K C H2 ⟨x,ta,hk,bd',lg⟩ ⟨t,kss,n,f,12,0,[]⟩ []:=DoorAt.dl dr' kr
   have fz:∀z∈dS ⟨x,ta,hk,bd',lg⟩,Hy z=none:=fun z hz=>by
    rcases rJ hz with rfl|rfl|rfl|rfl
    ·exact nx
    ·exact QM h1 sJ
    ·exact QM h2 sJ
    ·exact QM h3 sJ
   refine⟨_,rfl,_,rfl,_,rfl,⟨t,kss,n,f,12,0,[]⟩,rfl,rfl,rfl,fun m kd H6 s6 fm fkd md=>⟨by show 2<=sizeLine;decide,fun e he=>?_⟩⟩
   have u7:=Same.upd (o:= .tup [.ref x,.ref m]) he
   have S7:=(sK.trans s6).trans u7;obtain⟨f0,ebd,_⟩:=id dl.dr.kb;have ent:Ent K C (upd H6 e (.tup [.ref x,.ref m])) ⟨e,⟨x,ta,hk,bd',lg⟩,m,kd⟩ ⟨t,kss,n,f,12,0,[]⟩ [] ⟨t,kss,n,f,12,0,[]⟩:=⟨qd,(dl.same s6).same u7,md.same u7,(qi ebd fm).symm,(qi ebd fkd).symm⟩
   have fe:∀z∈eS ⟨e,⟨x,ta,hk,bd',lg⟩,m,kd⟩,Hy z=none:=fun z hz=>by
    rcases jn hz with hz|rfl|rfl
    ·exact fz z hz
    ·exact QM fm sK
    ·exact QM fkd sK
   refine⟨pl,_,_,rfl,rfl,S7 _ _ pw.pe,by rw[Je,lx,Jz];have:j<2:=(Js.mp hz).1;omega,?_⟩
   have mp:Mv [pl] (upd H6 e (.tup [.ref x,.ref m])) (upd (upd H6 e (.tup [.ref x,.ref m])) pl (.lst ((xs.map fun x=>V.ref x.1.e)++[.ref e]))):=Mv.upd1
   have np:NT [pl] (upd H6 e (.tup [.ref x,.ref m])):=NT.one (S7 _ _ pw.pe) trivial
   refine⟨xs++[(⟨e,⟨x,ta,hk,bd',lg⟩,m,kd⟩,⟨t,kss,n,f,12,0,[]⟩,[])],pw.add S7 ent fe,by simp [lx],fun i y hy=>?_,(hCy.same S7).mv mp np,by rw[qp nbl];exact S7 _ _ el,mp.tup np (S7 _ _ ex),mp.tup np (S7 _ _ ey),_,_,rfl⟩
   by_cases hi:i<xs.length
   ·rw[J0 hi]at hy;exact hxs i y hy
   ·rw[JX (by omega)]at hy
    cases ei:i-xs.length with
    |succ k=>rw[ei]at hy;cases hy
    |zero=>
     rw[ei]at hy;cases hy
     exact⟨⟨⟨tp,Cz _,m8,JC _,CI⟩,rfl,rfl,m1,bn0,bn1,bf0,bf1,rfl,(by show(0:Int)<(kss.length:Int);omega),(fun e h=>nomatch h),(fun e h=>nomatch h)⟩,rfl,rfl,rfl⟩
  ·rintro σ Hy ⟨xs,pw,lx,hxs,hCy,el,ex,ey,o7,o8,rfl⟩
   exact hnx _ _ ⟨xs,_,_,pw.mono (by omega),lx,hxs,hCy,rfl⟩
  clear pw0 hC4 G4 G3 hC u4 hpl
  rintro σ Hy ⟨xs,o7,o8,pw,lx2,hxs,hCy,rfl⟩
  refine gy (fun σ' H'=>∃xs o9 oa ob oc od oe og,Pw K C H H' b (c+160) pl xs/\xs.length=2/\(∀(i:Nat) (x:En),xs[i]? =some x->DqOk t kss ba nms x.2.1/\x.2.2.length<=18)/\CdAt H' cd tb kt t kss/\σ'=[some (.ref b),some (.ref dr),some (.ref nl),some (.int (kss.length:Int)),some (.int ba),some (.ref cd),some (.ref pl),o7,o8,o9,oa,ob,oc,od,oe,og,none,none,none,none]) (fun D' hrt hnx=>?_) ?_
  refine⟨_,rfl,nl,rfl,⟨_,SqL.of (pw.s _ _ (qR nlb) hnl)⟩,?_⟩
  refine zN (K:=K) (a:=nl) (xs:=nms.map V.str) (fun j σ Hz=>∃xs,Pw K C H Hz b (c+95+7*j) pl xs/\xs.length=2/\(∀(i:Nat) (x:En),xs[i]? =some x->(DpOk t kss ba x.2.1/\x.2.1.least=0/\(∀z∈x.2.1.kn.map (·.1),z∈nms.take j)/\x.2.1.kn.length<=j)/\x.2.2.length<=2*j)/\CdAt Hz cd tb kt t kss/\∃o9 oa ob oc od oe og,σ=[some (.ref b),some (.ref dr),some (.ref nl),some (.int (kss.length:Int)),some (.int ba),some (.ref cd),some (.ref pl),o7,o8,o9,oa,ob,oc,od,oe,og,none,none,none,none]) ⟨xs,pw,lx2,fun i x hx=>?_,hCy,_,_,_,_,_,_,_,rfl⟩ (fun j σ Hz _ h=>let⟨_,p,_⟩:=h;SqL.of (p.s _ _ (qR nlb) hnl)) ?_ ?_
  ·obtain⟨h1,h2,h3,h4⟩:=hxs i x hx
   rw[h3,h4]
   exact⟨⟨h1,h2,(fun z h=>nomatch h),Jf _⟩,Jf _⟩
  ·rintro j z σ Hz hz ⟨xs,pw,lx,hxs,hCz,o9,oa,ob,oc,od,oe,og,rfl⟩
   rw[Jo]at hz;cases en:nms[j]? with
   |none=>rw[en]at hz;cases hz
   |some nm=>
   rw[en]at hz;cases hz;have hj:j<nms.length:=(Js.mp en).1
   have j9:j<9:=JB hj ok.l9
   have hnm:=ok.nm nm (JS en);refine⟨_,rfl,_,rfl,b,_,_,rfl,pw.bx,by omega,by omega,by omega,fun ag H1' ag0 ag1 g1'=>?_⟩
   have pwa:=pw.grc g1';refine⟨_,rfl,_,_,rfl,rfl,_,rfl,b,9,_,rfl,pwa.bx,by omega,by decide,by decide,fun r2 H2' r20 r21 g2'=>⟨_,_,rfl,rfl,_,_,rfl,?_⟩⟩
   have pwb:=pwa.grc g2';obtain⟨la,ela⟩:∃la,la=(if ba+1+r2<4095 then ba+1+r2 else 4095):=⟨_,rfl⟩
   have la0:1<=la/\la<4096/\ba<la/\la<=ba+23:=by rw[ela];split<;>omega
   rw[<- ela];refine⟨_,rfl,_,rfl,b,_,_,rfl,pwb.bx,by omega,by omega,by omega,fun ag2 H3' ag20 ag21 g3'=>?_⟩
   have pwc:=pwb.grc g3';refine⟨_,rfl,_,_,rfl,rfl,_,rfl,b,9,_,rfl,pwc.bx,by omega,by decide,by decide,fun r4 H4' r40 r41 g4'=>⟨_,_,rfl,rfl,_,_,rfl,by show 2<=sizeLine;decide,fun t0 ht0=>?_⟩⟩
   obtain⟨la2,ela2⟩:∃la2,la2=(if ba+1+r4<4095 then ba+1+r4 else 4095):=⟨_,rfl⟩
   have la20:1<=la2/\la2<4096/\ba<la2/\la2<=ba+23:=by rw[ela2];split<;>omega
   rw[<- ela2];have v0:=Same.upd (o:= .tup [.int ag2,.int la2]) ht0
   have pwd:=(pwc.grc g4').same v0;have e0:(upd H4' t0 (.tup [.int ag2,.int la2])) t0=some (.tup [.int ag2,.int la2]):=qd
   generalize upd H4' t0 (.tup [.int ag2,.int la2])=H5' at *
   refine⟨_,rfl,b,8,_,rfl,pwd.bx,by omega,by decide,by decide,fun wy H6' wy0 wy1 g6'=>?_⟩
   have pwe:=pwd.grc g6';have e0:=g6'.kp _ _ (fun z=>by obtain⟨_,_,_,eb,_⟩:=pwd.bx;rw[z,eb]at e0;cases e0) e0
   refine⟨_,rfl,_,rfl,by show 2<=sizeLine;decide,fun t1 ht1=>?_⟩
   have v1:=Same.upd (o:= .tup [.int ag,.int la]) ht1
   refine⟨_,rfl,_,rfl,t0,_,_,_,rfl,rfl,SqT.of (v1 _ _ e0),rfl,by show 2<=sizeLine;decide,fun t2 ht2=>?_⟩
   have v2:=Same.upd (o:= .tup [.int ag,.int la2]) ht2
   refine⟨_,rfl,t0,_,_,_,rfl,rfl,SqT.of (v2 _ _ (v1 _ _ e0)),rfl,_,rfl,by show 2<=sizeLine;decide,fun t3 ht3=>⟨by show 4<=sizeLine;decide,fun l4 hl4=>?_⟩⟩
   have v3:=Same.upd (o:= .tup [.int ag2,.int la]) ht3
   have v4:=Same.upd (o:= .lst [.ref t1,.ref t2,.ref t3,.non]) hl4
   have d1:=v4 _ _ (v3 _ _ (v2 _ _ (show(upd H6' t1 (.tup [.int ag,.int la])) t1=some (.tup [.int ag,.int la])from qd)))
   have d2:=v4 _ _ (v3 _ _ (show(upd (upd H6' t1 (.tup [.int ag,.int la])) t2 (.tup [.int ag,.int la2])) t2=some (.tup [.int ag,.int la2])from qd))
   have d3:=v4 _ _ (show(upd (upd (upd H6' t1 (.tup [.int ag,.int la])) t2 (.tup [.int ag,.int la2])) t3 (.tup [.int ag2,.int la])) t3=some (.tup [.int ag2,.int la])from qd)
   have d4:(upd (upd (upd (upd H6' t1 (.tup [.int ag,.int la])) t2 (.tup [.int ag,.int la2])) t3 (.tup [.int ag2,.int la])) l4 (.lst [.ref t1,.ref t2,.ref t3,.non])) l4=some (.lst [.ref t1,.ref t2,.ref t3,.non]):=qd
   have S4:=((v1.trans v2).trans v3).trans v4;have pwf:=pwe.same S4;have kp4:∀{x:Addr} {xs:List V},Hz x=some (.tup xs)->H6' x=some (.tup xs):=fun{x xs} e=>by
    have nb:x≠b:=fun z=>by obtain⟨_,_,_,eb,_⟩:=pw.bx;rw[z,eb]at e;cases e
    exact g6'.kp _ _ nb (v0 _ _ (g4'.kp _ _ nb (g3'.kp _ _ nb (g2'.kp _ _ nb (g1'.kp _ _ nb e)))))
   have hCf:CdAt _ cd tb kt t kss:=CdAt.same (H:=H6') ⟨kp4 hCz.e,?_,?_⟩ S4
   rotate_left
   ·exact(fun h=>by exact h) (by
     have:Mv [b] Hz H6':=fun x o h e=>by
      have nb:x≠b:=fun z=>h (Jg.mpr z)
      exact g6'.kp _ _ nb (v0 _ _ (g4'.kp _ _ nb (g3'.kp _ _ nb (g2'.kp _ _ nb (g1'.kp _ _ nb e)))))
     exact(hCz.mv this (qX pw.bx)).tb)
   ·exact(by
     have:Mv [b] Hz H6':=fun x o h e=>by
      have nb:x≠b:=fun z=>h (Jg.mpr z)
      exact g6'.kp _ _ nb (v0 _ _ (g4'.kp _ _ nb (g3'.kp _ _ nb (g2'.kp _ _ nb (g1'.kp _ _ nb e)))))
     exact(hCz.mv this (qX pw.bx)).ks)
   generalize upd (upd (upd (upd H6' t1 (.tup [.int ag,.int la])) t2 (.tup [.int ag,.int la2])) t3 (.tup [.int ag2,.int la])) l4 (.lst [.ref t1,.ref t2,.ref t3,.non])=H7' at *
   have ix0:0<=(if 0<wy-4 then wy-4 else 0):=by split<;>omega
   have ix1:(if 0<wy-4 then wy-4 else 0)<(([V.ref t1,.ref t2,.ref t3,.non]:List V).length:Int):=by show _<(4:Int);split<;>omega
   obtain⟨v,hv,hvm⟩:=Qr ix0 ix1;obtain⟨o,ho,hob⟩:∃o:Option (Int×Int),Olv H7' v o/\∀a l,o=some (a,l)->0<=a/\a<(kss.length:Int)/\1<=l/\l<4096/\ba<l/\l<=ba+23:=by
    simp only[Jj,Jp,Jq]at hvm;rcases hvm with rfl|rfl|rfl|rfl
    ·exact⟨some (ag,la),⟨t1,rfl,d1⟩,fun a l e=>by cases e;exact⟨ag0,ag1,la0⟩⟩
    ·exact⟨some (ag,la2),⟨t2,rfl,d2⟩,fun a l e=>by cases e;exact⟨ag0,ag1,la20⟩⟩
    ·exact⟨some (ag2,la),⟨t3,rfl,d3⟩,fun a l e=>by cases e;exact⟨ag20,ag21,la0⟩⟩
    ·exact⟨none,rfl,fun a l e=>by cases e⟩
   refine⟨_,rfl,_,rfl,by show 2<=sizeLine;decide,fun t5 ht5=>?_⟩
   have v5:=Same.upd (o:= .tup [.int ag,.int la]) ht5
   have d5:(upd H7' t5 (.tup [.int ag,.int la])) t5=some (.tup [.int ag,.int la]):=qd
   have ho5:=ho.mv (S:=[]) v5.mv cY
   refine⟨_,rfl,_,rfl,_,_,rfl,rfl,_,_,rfl,l4,_,_,_,rfl,rfl,SqL.of (v5 _ _ d4),hv,by show 2<=sizeLine;decide,fun tl htl=>?_⟩
   have v6:=Same.upd (o:= .lst [.ref t5,v]) htl
   have pwg:=(pwf.same v5).same v6;have hCg:=(hCf.same v5).same v6;have etl:(upd (upd H7' t5 (.tup [.int ag,.int la])) tl (.lst [.ref t5,v])) tl=some (.lst [.ref t5,v]):=qd
   have ho6:=ho5.mv (S:=[]) v6.mv cY
   have d6:=v6 _ _ d5;have ntl:∀(i:Nat) (x:En),xs[i]? =some x->tl∉eS x.1:=fun i x hx z=>((pwf.same v5).en i x hx).some z htl
   have ntb':tl≠b:=qP (pwf.same v5).bx htl
   have ntp:tl≠pl:=(qi (pwf.same v5).pe htl).symm
   generalize upd (upd H7' t5 (.tup [.int ag,.int la])) tl (.lst [.ref t5,v])=H8' at *
   refine bg (fun σ' H'=>∃(os:List (Option (Int×Int))),Pw K C H H' b (c+95+7*j+6) pl xs/\CdAt H' cd tb kt t kss/\OlAt H' tl os/\os.length=2/\(∀a l,some (a,l)∈os->0<=a/\a<(kss.length:Int)/\1<=l/\l<4096/\ba<l/\l<=ba+23)/\∃oa ob oc od oe,σ'=[some (.ref b),some (.ref dr),some (.ref nl),some (.int (kss.length:Int)),some (.int ba),some (.ref cd),some (.ref pl),o7,o8,some (.str nm),oa,ob,oc,od,oe,some (.ref tl),none,none,none,none]) (fun D' hrt hnx=>?_) ?_
   ·refine⟨_,rfl,b,2,_,rfl,pwg.bx,by omega,by decide,by decide,fun r9 H9 r90 r91 g9=>⟨rfl,_,rfl,?_⟩⟩
    have pwh:=(pwg.grc g9).mono (c':=c+95+7*j+6) (by omega)
    have m9:Mv [b] H8' H9:=fun c o h e=>g9.kp c o (fun z=>h (Jg.mpr z)) e
    have hCh:=hCg.mv m9 (qX pwg.bx);have etl9:=g9.kp _ _ ntb' etl;have d9:=m9.tup (qX pwg.bx) d6;have ho9:=ho6.mv m9 (qX pwg.bx);have ob':∀a l,some (a,l)∈[some (ag,la),o]->0<=a/\a<(kss.length:Int)/\1<=l/\l<4096/\ba<l/\l<=ba+23:=fun a l h=>by
     simp only[Jj,Jp,Jq]at h;rcases h with h|h
     ·injection h with h;injection h with h1 h2;subst h1;subst h2;exact⟨ag0,ag1,la0⟩
     ·exact hob a l h.symm
    refine q9 (fun _=>?_) (fun _=>hnx _ _ ⟨[some (ag,la),o],pwh,hCh,OlAt.two etl9 ⟨t5,rfl,d9⟩ ho9,rfl,ob',_,_,_,_,_,rfl⟩)
    refine⟨_,rfl,.inl ⟨rfl,_,SqL.of etl9⟩,tl,_,rfl,rfl,etl9,?_⟩
    have mr:Mv [tl] H9 (upd H9 tl (.lst [v,.ref t5])):=Mv.upd1
    have nr:NT [tl] H9:=NT.one etl9 trivial
    have fl0:H tl=none:=(pwf.same v5).fresh htl
    refine hnx _ _ ⟨[o,some (ag,la)],pwh.out mr nr (qR ntb'.symm) (qR ntp.symm) (fun i x hx z hz w=>ntl i x hx (Jg.mp w▸hz)) (fun z hz=>by rw[Jg.mp hz];exact fl0),hCh.mv mr nr,OlAt.two qd (ho9.mv mr nr) ⟨t5,rfl,mr.tup nr d9⟩,rfl,fun a l h=>ob' a l (by
     simp only[Jj,Jp,Jq]at h⊢;exact h.symm),_,_,_,_,_,rfl⟩
   rintro _ H9 ⟨os,pwh,hCh,hol,los,hos,oa,ob,oc,od,oe,rfl⟩
   have pre:∀(i:Nat) (x:En),xs[i]? =some x->(DpOk t kss ba x.2.1/\x.2.1.least=0/\(∀z∈x.2.1.kn.map (·.1),z∈nms.take j)/\x.2.1.kn.length<=j/\x.2.1.kn.lookup nm=none)/\x.2.2.length<=2*j:=fun i x hx=>by
    obtain⟨⟨h1,h2,h3,h4⟩,h5⟩:=hxs i x hx
    exact⟨⟨h1,h2,h3,h4,eT fun z=>gW ok.nd en (h3 nm z)⟩,h5⟩
   refine⟨_,rfl,_,rfl,_,rfl,_,rfl,cd,tb,kt,pl,tl,b,_,H,t,kss,xs,nm,os,rfl,pwh,lx,hCh,hnm,hol,los,ntl,fun i x hx=>?_,fun a l h=>?_,fun Hn xs' pwn hCn st _=>?_⟩
   ·obtain⟨⟨h1,h2,h3,h4,h6⟩,h5⟩:=pre i x hx
    refine⟨⟨h1.ok,h1.t,h1.ks,by rw[h1.ms];omega⟩,fun a l e=>?_,h6,by omega,by omega⟩
    rw[h2];rw[JF]at e;cases q:os[i]? with
    |none=>rw[q]at e;cases e
    |some y=>rw[q]at e;have:y=some (a,l):=e;rw[this]at q;exact(hos a l (JS q)).1
   ·obtain⟨h1,h2,h3,h4,_⟩:=hos a l h
    exact⟨h1,h2,h3,h4⟩
   ·refine⟨xs',pwn.mono (by omega),st.1.trans lx,?_,hCn,_,_,_,_,_,_,_,rfl⟩
    have:=st.all (p:=fun D=>DpOk t kss ba D/\D.least=0/\(∀z∈D.kn.map (·.1),z∈nms.take j)/\D.kn.length<=j/\D.kn.lookup nm=none) (q:=fun D=>DpOk t kss ba D/\D.least=0/\(∀z∈D.kn.map (·.1),z∈nms.take (j+1))/\D.kn.length<=j+1) pre (fun i D hD=>?_)
    ·intro i x hx
     obtain⟨h1,h2⟩:=this i x hx
     exact⟨h1,by omega⟩
    ·obtain⟨h1,h2,h3,h4,h6⟩:=hD
     have sub:∀z∈nms.take j,z∈nms.take (j+1):=fun z hz=>List.take_subset_take_left nms (Co j) hz
     cases eo:os.getD i none with
     |none=>exact⟨h1,h2,fun z hz=>sub z (h3 z hz),by show D.kn.length<=j+1;omega⟩
     |some al=>
      obtain⟨a,l⟩:=al;have hm:some (a,l)∈os:=by
       rw[JF]at eo;cases q:os[i]? with
       |none=>rw[q]at eo;cases eo
       |some y=>rw[q]at eo;have:y=some (a,l):=eo;rw[this]at q;exact JS q
      obtain⟨q1,q2,q3,q4,q5,q6⟩:=hos a l hm;refine⟨h1.learn hnm (by omega) q1 q2 q3 q4 q5 q6,h2,fun z hz=>?_,JA (eB _ _ _) (by omega)⟩
      have hz:z∈(qV D.kn nm ⟨a,l,none⟩).map (·.1):=hz
      rw[ZB]at hz;split at hz
      ·exact sub z (h3 z hz)
      ·rcases JO.mp hz with hz|hz
       ·exact sub z (h3 z hz)
       ·rw[Jg.mp hz,J5,en];simp
  ·rintro σ Hz ⟨xs,pw,lx,hxs,hCz,o9,oa,ob,oc,od,oe,og,rfl⟩
   have l9:(nms.map V.str).length<=9:=by rw[Je];exact ok.l9
   have lnm:(nms.map V.str).length=nms.length:=Je _
   refine hnx _ _ ⟨xs,_,_,_,_,_,_,_,pw.mono (by omega),lx,fun i x hx=>?_,hCz,rfl⟩
   obtain⟨⟨h1,_,h3,h4⟩,h2⟩:=hxs i x hx;rw[lnm]at h3 h4;rw[B0]at h3
   exact⟨⟨h1,h3,h4⟩,by omega⟩
  clear pw lx2 hxs hCy
  rintro σ Hz ⟨xs,o9,oa,ob,oc,od,oe,og,pw,lx,hxs2,hCz,rfl⟩
  obtain⟨C0,C0e⟩:∃C0,C0=c+160:=⟨_,rfl⟩
  have C0b:C0<=c+170:=by omega
  rw[<- C0e]at pw;clear C0e;have l9:(nms.map V.str).length<=9:=by rw[Je];exact ok.l9
  have lnm:(nms.map V.str).length=nms.length:=Je _
  refine gy (fun σ' H'=>∃xs p9 pa pg ph pi,Pw K C H H' b (C0+13) pl xs/\xs.length=2/\(∀(i:Nat) (x:En),xs[i]? =some x->DqOk t kss ba nms x.2.1/\x.2.2.length<=24)/\CdAt H' cd tb kt t kss/\σ'=[some (.ref b),some (.ref dr),some (.ref nl),some (.int (kss.length:Int)),some (.int ba),some (.ref cd),some (.ref pl),o7,o8,p9,pa,ob,oc,od,oe,pg,ph,pi,none,none]) (fun D' hrt hnx=>?_) ?_
  refine⟨_,rfl,b,4,_,rfl,pw.bx,by omega,by decide,by decide,fun rn Hh rn0 rn1 gh=>⟨_,rfl,by omega,by omega,?_⟩⟩
  have pwx:=pw.grc gh;have mh:Mv [b] Hz Hh:=fun c o h e=>gh.kp c o (fun z=>h (Jg.mpr z)) e
  have hCx:=hCz.mv mh (qX pw.bx);refine QF (n:=rn.toNat) (Pv:=fun j σ Hx=>∃xs,Pw K C H Hx b (C0+1+4*j) pl xs/\xs.length=2/\(∀(i:Nat) (x:En),xs[i]? =some x->DqOk t kss ba nms x.2.1/\x.2.2.length<=18+2*j)/\CdAt Hx cd tb kt t kss/\∃o9 oa og oh,σ=[some (.ref b),some (.ref dr),some (.ref nl),some (.int (kss.length:Int)),some (.int ba),some (.ref cd),some (.ref pl),o7,o8,o9,oa,ob,oc,od,oe,og,oh,none,none,none]\/∃oi,σ=[some (.ref b),some (.ref dr),some (.ref nl),some (.int (kss.length:Int)),some (.int ba),some (.ref cd),some (.ref pl),o7,o8,o9,oa,ob,oc,od,oe,og,oh,oi,none,none]) ⟨xs,pwx,lx,hxs2,hCx,_,_,_,_,.inl rfl⟩ ?_ ?_
  ·rintro j σ Hx hj ⟨xs,pw,lx,hxs,hCy,p9,pa,pg,ph,hσ⟩
   obtain⟨pi,rfl⟩:∃pi,σ=[some (.ref b),some (.ref dr),some (.ref nl),some (.int (kss.length:Int)),some (.int ba),some (.ref cd),some (.ref pl),o7,o8,p9,pa,ob,oc,od,oe,pg,ph,pi,none,none]:=by
    rcases hσ with rfl|⟨oi,rfl⟩
    ·exact⟨none,rfl⟩
    ·exact⟨oi,rfl⟩
   have j3:j<3:=by omega
   have enl:=pw.s _ _ (qR nlb) hnl;refine⟨_,rfl,_,rfl,_,rfl,nl,_,rfl,.inl (SqL.of enl),b,_,_,rfl,pw.bx,by omega,by have:=ok.l1;omega,by omega,fun r H2 r0 r1 g2=>?_⟩
   have pw2:=pw.grc g2;obtain⟨nm,hat,hnm⟩:=mG r0 r1 ok.nm;refine⟨nl,_,_,_,rfl,rfl,SqL.of (pw2.s _ _ (qR nlb) hnl),hat,?_⟩
   refine⟨_,rfl,_,rfl,b,_,_,rfl,pw2.bx,by omega,by omega,by omega,fun ag H3' ag0 ag1 g3=>?_⟩
   have pw3:=pw2.grc g3;refine⟨_,rfl,_,rfl,_,rfl,_,rfl,b,24,_,rfl,pw3.bx,by omega,by decide,by decide,fun r4 H4' r40 r41 g4=>⟨_,_,rfl,rfl,_,_,rfl,by show 3<=sizeLine;decide,fun p hp=>?_⟩⟩
   obtain⟨n,en⟩:∃n,n=(if ba+r4<4095 then ba+r4 else 4095):=⟨_,rfl⟩
   have n0:0<=n/\n<4096/\n<=ba+23:=by rw[en];split<;>omega
   rw[<- en];have pw4:=pw3.grc g4;have v0:=Same.upd (o:= .tup [.str nm,.int ag,.int n]) hp
   have M4:Mv [b] Hx H4':=fun c o h e=>by
    have nb:c≠b:=fun z=>h (Jg.mpr z)
    exact g4.kp _ _ nb (g3.kp _ _ nb (g2.kp _ _ nb e))
   have hC4:=(hCy.mv M4 (qX pw.bx)).same v0;have pw5:=pw4.same v0;have ep:(upd H4' p (.tup [.str nm,.int ag,.int n])) p=some (.tup [.str nm,.int ag,.int n]):=qd
   generalize upd H4' p (.tup [.str nm,.int ag,.int n])=H5' at *
   refine⟨_,rfl,_,rfl,_,rfl,by show 2<=sizeLine;decide,fun q1 hq1=>⟨by show 2<=sizeLine;decide,fun q2 hq2=>⟨by show 1<=sizeLine;decide,fun q3 hq3=>⟨by show 1<=sizeLine;decide,fun q4 hq4=>⟨by show 4<=sizeLine;decide,fun l5 hl5=>?_⟩⟩⟩⟩⟩
   have w1:=Same.upd (o:= .tup [.int 0,.int 1]) hq1
   have w2:=Same.upd (o:= .tup [.int 0,.int 1]) hq2
   have w3:=Same.upd (o:= .tup [.int 0]) hq3
   have w4:=Same.upd (o:= .tup [.int 1]) hq4
   have w5:=Same.upd (o:= .lst [.ref q1,.ref q2,.ref q3,.ref q4]) hl5
   have z1:=w5 _ _ (w4 _ _ (w3 _ _ (w2 _ _ (show(upd H5' q1 (.tup [.int 0,.int 1])) q1=some (.tup [.int 0,.int 1])from qd))))
   have z2:=w5 _ _ (w4 _ _ (w3 _ _ (show(upd (upd H5' q1 (.tup [.int 0,.int 1])) q2 (.tup [.int 0,.int 1])) q2=some (.tup [.int 0,.int 1])from qd)))
   have z3:=w5 _ _ (w4 _ _ (show(upd (upd (upd H5' q1 (.tup [.int 0,.int 1])) q2 (.tup [.int 0,.int 1])) q3 (.tup [.int 0])) q3=some (.tup [.int 0])from qd))
   have z4:=w5 _ _ (show(upd (upd (upd (upd H5' q1 (.tup [.int 0,.int 1])) q2 (.tup [.int 0,.int 1])) q3 (.tup [.int 0])) q4 (.tup [.int 1])) q4=some (.tup [.int 1])from qd)
   have z5:(upd (upd (upd (upd (upd H5' q1 (.tup [.int 0,.int 1])) q2 (.tup [.int 0,.int 1])) q3 (.tup [.int 0])) q4 (.tup [.int 1])) l5 (.lst [.ref q1,.ref q2,.ref q3,.ref q4])) l5=some (.lst [.ref q1,.ref q2,.ref q3,.ref q4]):=qd
   have SW:=(((w1.trans w2).trans w3).trans w4).trans w5;have pw6:=pw5.same SW;have hC6:=hC4.same SW;have ep6:=SW _ _ ep;have nl5:=qP ((pw5.same (((w1.trans w2).trans w3).trans w4)).bx) hl5;generalize upd (upd (upd (upd (upd H5' q1 (.tup [.int 0,.int 1])) q2 (.tup [.int 0,.int 1])) q3 (.tup [.int 0])) q4 (.tup [.int 1])) l5 (.lst [.ref q1,.ref q2,.ref q3,.ref q4])=H6' at *
   refine⟨_,rfl,b,4,_,rfl,pw6.bx,by omega,by decide,by decide,fun r7 H7' r70 r71 g7=>?_⟩
   have pw7:=pw6.grc g7;have M7:Mv [b] H6' H7':=fun c o h e=>g7.kp c o (fun z=>h (Jg.mpr z)) e
   have N6:=qX pw6.bx;obtain⟨v,hv,hvm⟩:=Qr (xs:=[V.ref q1,.ref q2,.ref q3,.ref q4]) r70 r71
   obtain⟨ps,is,rfl,eps,ndi,hi2⟩:∃(ps:Addr) (is:List Nat),v= .ref ps/\H6' ps=some (.tup (is.map fun i:Nat=>V.int (i:Int)))/\is.Nodup/\∀i∈is,i<2:=by
    simp only[Jj,Jp,Jq]at hvm;rcases hvm with rfl|rfl|rfl|rfl
    ·exact⟨q1,[0,1],rfl,z1,by decide,by decide⟩
    ·exact⟨q2,[0,1],rfl,z2,by decide,by decide⟩
    ·exact⟨q3,[0],rfl,z3,by decide,by decide⟩
    ·exact⟨q4,[1],rfl,z4,by decide,by decide⟩
   refine⟨l5,_,_,_,rfl,rfl,SqL.of (g7.kp _ _ nl5 z5),hv,?_⟩
   refine⟨cd,tb,kt,pl,p,ps,b,_,H,t,kss,xs,nm,ag,n,is,ba,rfl,pw7,lx,hC6.mv M7 N6,hnm,ag0,ag1,n0.1,n0.2.1,M7.tup N6 ep6,.inl (M7.tup N6 eps),ndi,hi2,fun i x hx=>?_,fun Hn xs' pwn hCn st=>?_⟩
   ·obtain⟨h1,h2⟩:=hxs i x hx
    exact⟨h1.1,by omega⟩
   ·refine⟨xs',pwn.mono (by omega),st.1.trans lx,?_,hCn,_,_,_,_,.inr ⟨_,rfl⟩⟩
    have:=st.all (p:=DqOk t kss ba nms) (q:=DqOk t kss ba nms) hxs (fun i D hD=>?_)
    ·intro i x hx
     obtain⟨h1,h2⟩:=this i x hx
     exact⟨h1,by omega⟩
    ·show DqOk t kss ba nms (if i∈is then _ else _)
     split
     ·exact hD.hear n0.1 n0.2.1 n0.2.2
     ·exact hD
  ·rintro σ Hx ⟨xs,pw,lx,hxs,hCy,p9,pa,pg,ph,hσ⟩
   obtain⟨pi,rfl⟩:∃pi,σ=[some (.ref b),some (.ref dr),some (.ref nl),some (.int (kss.length:Int)),some (.int ba),some (.ref cd),some (.ref pl),o7,o8,p9,pa,ob,oc,od,oe,pg,ph,pi,none,none]:=by
    rcases hσ with rfl|⟨oi,rfl⟩
    ·exact⟨none,rfl⟩
    ·exact⟨oi,rfl⟩
   have rn3:rn.toNat<=3:=by omega
   exact hnx _ _ ⟨xs,_,_,_,_,_,pw.mono (by omega),lx,fun i x hx=>⟨(hxs i x hx).1,by have h2:=(hxs i x hx).2;omega⟩,hCy,rfl⟩
  clear pw lx hxs2 hCz l9 lnm
  rintro σ Hx ⟨xs,p9,pa,pg,ph,pi,pw,lx,hxs,hCy,rfl⟩
  obtain⟨es,ees⟩:∃es:List V,es=xs.map fun x=>V.ref x.1.e:=⟨_,rfl⟩
  have les:es.length=2:=by rw[ees,Je];exact lx
  refine⟨_,rfl,pl,rfl,⟨_,SqL.of pw.pe⟩,?_⟩
  refine zN (K:=K) (a:=pl) (xs:=es) (fun j σ Hx=>∃xs,Pw K C H Hx b (C0+13+2*j) pl xs/\(xs.map fun x=>V.ref x.1.e)=es/\xs.length=2/\(∀(i:Nat) (x:En),xs[i]? =some x->DqOk t kss ba nms x.2.1/\x.2.2.length<=24+j)/\CdAt Hx cd tb kt t kss/\∃oa oj ok',σ=[some (.ref b),some (.ref dr),some (.ref nl),some (.int (kss.length:Int)),some (.int ba),some (.ref cd),some (.ref pl),o7,o8,p9,oa,ob,oc,od,oe,pg,ph,pi,oj,ok']) ⟨xs,pw,ees.symm,lx,fun i x hx=>?_,hCy,_,_,_,rfl⟩ (fun j σ Hx _ h=>let⟨_,p,e,_⟩:=h;SqL.of (by rw[<- e];exact p.pe)) ?_ ?_
  ·obtain⟨h1,h2⟩:=hxs i x hx
   exact⟨h1,by omega⟩
  ·rintro j z σ Hx' hz ⟨xs,pw,exs,lx,hxs,hCy,qa,qj,qk,rfl⟩
   have j2:j<2:=by rw[<- les];exact(Js.mp hz).1
   have ex:=Jl (show j<xs.length by rw[lx];exact j2)
   obtain⟨x,rx⟩:∃x,x=xs[j]:=⟨_,rfl⟩
   rw[<- rx]at ex
   obtain rfl:z= .ref x.1.e:=by
    rw[<- exs,Jo,ex]at hz;injection hz with hz;exact hz.symm
   have en:=pw.en j x ex;obtain⟨dp,hl⟩:=hxs j x ex;refine⟨x.1.e,_,rfl,.tup en.tu,rfl,_,_,rfl,_,_,rfl,rfl,?_⟩
   refine⟨_,rfl,b,5,_,rfl,pw.bx,by omega,by decide,by decide,fun r H2 r0 r1 g2=>⟨rfl,_,rfl,?_⟩⟩
   have pw2:=pw.grc g2;have M2:Mv [b] Hx' H2:=fun c o h e=>g2.kp c o (fun z=>h (Jg.mpr z)) e
   have hC2:=hCy.mv M2 (qX pw.bx);refine q9 (fun _=>?_) (fun _=>⟨xs,pw2.mono (by omega),exs,lx,fun i y hy=>?_,hC2,_,_,_,rfl⟩)
   case refine_2=>obtain⟨h1,h2⟩:=hxs i y hy;exact⟨h1,by omega⟩
   refine⟨_,rfl,_,rfl,b,_,_,rfl,pw2.bx,by omega,by omega,by omega,fun ag H3' ag0 ag1 g3=>?_⟩
   have pw3:=pw2.grc g3;have M3:Mv [b] H2 H3':=fun c o h e=>g3.kp c o (fun z=>h (Jg.mpr z)) e
   have hC3:=hC2.mv M3 (qX pw2.bx);have en3:=pw3.en j x ex;refine⟨_,rfl,x.1.a.p,rfl,en3.dl.dr.no,_,rfl,x.1.a,x.2.1,x.2.2,ag,rfl,en3.dl,by omega,fun D' rw' hd Hs ms ds=>?_⟩
   cases hd;have ms':=BD ms;have es':=en3.door ms' ds;have pes:Mv (eS x.1) H3' Hs:=gu ms'
   have md3:=es'.md;obtain⟨H4',dp4,m4,md4⟩:=md3.close (if ag>x.2.1.least then ag else x.2.1.least)
   refine⟨_,rfl,x.1.m,_,rfl,md3.g_closed,_,rfl,_,_,rfl,_,rfl,x.1.m,H4',rfl,dp4,?_⟩
   have m4':Mv [x.1.m,x.1.kd] Hs H4':=m4.mono (fun c h z=>h (by rw[Jg.mp z];simp))
   have en4:=es'.model m4' md4;have Mall:Mv (eS x.1) H3' H4':=pes.trans (f8 m4')
   have N3:=en3.nt;refine⟨_,(pw3.step ex Mall en4).mono (by omega),?_,by rw[CD];exact lx,fun i y hy=>?_,hC3.mv Mall N3,_,_,_,rfl⟩
   ·rw[<- exs]
    refine List.ext_getElem? fun k=>?_
    rw[Jo,Jo,List.getElem?_set];split
    ·rename_i z
     subst z;rw[Jd (by rw[lx];exact j2),ex];rfl
    ·rfl
   ·rw[List.getElem?_set]at hy
    split at hy
    ·rename_i z
     subst z;rw[Jd (by rw[lx];exact j2)]at hy
     cases hy;refine⟨dp.close ag1,?_⟩
     show(x.2.2++[_]).length<=24+(j+1)
     rw[Jx];simp;omega
    ·obtain⟨h1,h2⟩:=hxs i y hy
     exact⟨h1,by omega⟩
  rintro σ Hx' ⟨xs,pw,exs,lx,hxs,hCy,qa,qj,qk,rfl⟩
  refine⟨_,rfl,_,rfl,by show 2<=sizeLine;decide,fun t1 ht1=>?_⟩
  have u:=Same.upd (o:= .tup [.ref cd,.ref pl]) ht1
  refine q t1 cd tb kt pl t kss xs _ ((pw.same u).mono (by rw[les];omega)) lx qd (hCy.same u) rfl fun i x hx=>?_
  obtain⟨h1,h2⟩:=hxs i x hx
  exact⟨h1,by rw[les]at h2;omega⟩
end
section
variable{P:Program}{w:World}{K:Frag}{mg:Str->Option Value}{base:Heap}{tk:Nat->Tok}
theorem cf(a:At K mg "_law_alike" ao ["_law_found","_law_due_here"])(T:Txt K mg tk):∀n:Nat,n<=8->Df P w K mg base "_law_alike" ["_law_found","_law_due_here"] (n+1) (sS n)
 |0,_=>by
  refine a.dq bX (fun vs H Q E h=>?_) (fun f cdv A outer s H vs Q E hr h=>?_)
  ·obtain⟨x,y,rfl,_⟩:=h
   rfl
  ·obtain⟨x,y,rfl,e,q⟩:=h
   refine⟨_,(qe (qJ (zd (qm Q7 (by rfl) T.b_isinstance Ju (qc (qv 1) (qc (qx (qc (qG (v:= .ty "list") rfl T.b_list BR rfl) (qc (qG (v:= .ty "tuple") rfl T.b_tuple JD rfl) qb))) qb)))) Qk qB)
   (qe (qJ (QW.pt (Qe (zd (qm qK (by rfl) T.b_isinstance Ju (qc (qv 1) (qc (qG (v:= .ty "str") rfl T.b_str CK rfl) qb)))) (zP (qE Qz (qv 1) zh (qA _))))) (qg (qu (zf zp (qv 0) (qv 1) (qA _)))) qB)
   (qg (qu (zA (qm qK (by rfl) T.b_isinstance Ju (qc (qv 0) (qc (qG (v:= .ty "int") rfl T.b_int B5 rfl) qb))) (zA (Z0 (qm qK (by rfl) T.b_isinstance Ju (qc (qv 0) (qc (qG (v:= .ty "bool") rfl T.b_bool CJ rfl) qb)))) (QD (zf zp (qv 0) (qv 1) (qA _))))))))),?_⟩
   cases e with
   |int _ i=>
    refine⟨_,rfl,by show 2<=sizeLine;decide,fun p hp=>⟨_,p,["list","tuple"],"int",rfl,qd,.int i,by simp,_,rfl,?_⟩⟩
    rw[show(["list","tuple"].any (zn "int"))=false from by decide]
    refine zr ⟨_,rfl,_,"str","int",rfl,.int i,by simp,_,rfl,?_⟩
    rw[show zn "int" "str"=false from by decide]
    refine zr ⟨_,rfl,rfl,_,rfl,?_⟩
    refine q9 (fun z=>nomatch (Jy z)) (fun _=>⟨_,rfl,_,"int","int",rfl,.int i,by simp,_,rfl,?_⟩)
    rw[show zn "int" "int"=true from by decide]
    refine zx ⟨_,rfl,_,"bool","int",rfl,.int i,by simp,_,rfl,?_⟩
    rw[show zn "int" "bool"=false from by decide]
    refine⟨_,rfl,zx ⟨_,rfl,_,rfl,rfl,?_⟩⟩
    rw[Jk rfl];exact q _ (Same.upd hp)
   |str _ z=>
    refine⟨_,rfl,by show 2<=sizeLine;decide,fun p hp=>⟨_,p,["list","tuple"],"str",rfl,qd,.str z,by simp,_,rfl,?_⟩⟩
    rw[show(["list","tuple"].any (zn "str"))=false from by decide]
    refine zr ⟨_,rfl,_,"str","str",rfl,.str z,by simp,_,rfl,?_⟩
    rw[show zn "str" "str"=true from by decide]
    refine zx (zx ⟨_,rfl,_,rfl,rfl,?_⟩)
    rw[Jk rfl];exact q _ (Same.upd hp)
   |non _=>
    refine⟨_,rfl,by show 2<=sizeLine;decide,fun p hp=>⟨_,p,["list","tuple"],"NoneType",rfl,qd,.non,by simp,_,rfl,?_⟩⟩
    rw[show(["list","tuple"].any (zn "NoneType"))=false from by decide]
    refine zr ⟨_,rfl,_,"str","NoneType",rfl,.non,by simp,_,rfl,?_⟩
    rw[show zn "NoneType" "str"=false from by decide]
    refine zr ⟨_,rfl,rfl,_,rfl,?_⟩
    refine q9 (fun _=>⟨_,rfl,_,rfl,rfl,?_⟩) (fun z=>absurd (Jk rfl) z)
    rw[Jk rfl];exact q _ (Same.upd hp)
 |n+1,hn=>by
  have dI:=cf a T n (by omega)
  refine a.dq bX (fun vs H Q E h=>?_) (fun f cdv A outer s H vs Q E hr h=>?_)
  ·obtain⟨x,y,rfl,_⟩:=h
   rfl
  ·obtain⟨x,y,rfl,e,q⟩:=h
   cases e with
   |int _ i=>
    refine⟨_,(qe (qJ (zd (qm Q7 (by rfl) T.b_isinstance Ju (qc (qv 1) (qc (qx (qc (qG (v:= .ty "list") rfl T.b_list BR rfl) (qc (qG (v:= .ty "tuple") rfl T.b_tuple JD rfl) qb))) qb)))) Qk qB)
   (qe (qJ (QW.pt (Qe (zd (qm qK (by rfl) T.b_isinstance Ju (qc (qv 1) (qc (qG (v:= .ty "str") rfl T.b_str CK rfl) qb)))) (zP (qE Qz (qv 1) zh (qA _))))) (qg (qu (zf zp (qv 0) (qv 1) (qA _)))) qB)
   (qg (qu (zA (qm qK (by rfl) T.b_isinstance Ju (qc (qv 0) (qc (qG (v:= .ty "int") rfl T.b_int B5 rfl) qb))) (zA (Z0 (qm qK (by rfl) T.b_isinstance Ju (qc (qv 0) (qc (qG (v:= .ty "bool") rfl T.b_bool CJ rfl) qb)))) (QD (zf zp (qv 0) (qv 1) (qA _))))))))),?_⟩
    refine⟨_,rfl,by show 2<=sizeLine;decide,fun p hp=>⟨_,p,["list","tuple"],"int",rfl,qd,.int i,by simp,_,rfl,?_⟩⟩
    rw[show(["list","tuple"].any (zn "int"))=false from by decide]
    refine zr ⟨_,rfl,_,"str","int",rfl,.int i,by simp,_,rfl,?_⟩
    rw[show zn "int" "str"=false from by decide]
    refine zr ⟨_,rfl,rfl,_,rfl,?_⟩
    refine q9 (fun z=>nomatch (Jy z)) (fun _=>⟨_,rfl,_,"int","int",rfl,.int i,by simp,_,rfl,?_⟩)
    rw[show zn "int" "int"=true from by decide]
    refine zx ⟨_,rfl,_,"bool","int",rfl,.int i,by simp,_,rfl,?_⟩
    rw[show zn "int" "bool"=false from by decide]
    refine⟨_,rfl,zx ⟨_,rfl,_,rfl,rfl,?_⟩⟩
    rw[Jk rfl];exact q _ (Same.upd hp)
   |str _ z=>
    refine⟨_,(qe (qJ (zd (qm Q7 (by rfl) T.b_isinstance Ju (qc (qv 1) (qc (qx (qc (qG (v:= .ty "list") rfl T.b_list BR rfl) (qc (qG (v:= .ty "tuple") rfl T.b_tuple JD rfl) qb))) qb)))) Qk qB)
   (qe (qJ (QW.pt (Qe (zd (qm qK (by rfl) T.b_isinstance Ju (qc (qv 1) (qc (qG (v:= .ty "str") rfl T.b_str CK rfl) qb)))) (zP (qE Qz (qv 1) zh (qA _))))) (qg (qu (zf zp (qv 0) (qv 1) (qA _)))) qB)
   (qg (qu (zA (qm qK (by rfl) T.b_isinstance Ju (qc (qv 0) (qc (qG (v:= .ty "int") rfl T.b_int B5 rfl) qb))) (zA (Z0 (qm qK (by rfl) T.b_isinstance Ju (qc (qv 0) (qc (qG (v:= .ty "bool") rfl T.b_bool CJ rfl) qb)))) (QD (zf zp (qv 0) (qv 1) (qA _))))))))),?_⟩
    refine⟨_,rfl,by show 2<=sizeLine;decide,fun p hp=>⟨_,p,["list","tuple"],"str",rfl,qd,.str z,by simp,_,rfl,?_⟩⟩
    rw[show(["list","tuple"].any (zn "str"))=false from by decide]
    refine zr ⟨_,rfl,_,"str","str",rfl,.str z,by simp,_,rfl,?_⟩
    rw[show zn "str" "str"=true from by decide]
    refine zx (zx ⟨_,rfl,_,rfl,rfl,?_⟩)
    rw[Jk rfl];exact q _ (Same.upd hp)
   |non _=>
    refine⟨_,(qe (qJ (zd (qm Q7 (by rfl) T.b_isinstance Ju (qc (qv 1) (qc (qx (qc (qG (v:= .ty "list") rfl T.b_list BR rfl) (qc (qG (v:= .ty "tuple") rfl T.b_tuple JD rfl) qb))) qb)))) Qk qB)
   (qe (qJ (QW.pt (Qe (zd (qm qK (by rfl) T.b_isinstance Ju (qc (qv 1) (qc (qG (v:= .ty "str") rfl T.b_str CK rfl) qb)))) (zP (qE Qz (qv 1) zh (qA _))))) (qg (qu (zf zp (qv 0) (qv 1) (qA _)))) qB)
   (qg (qu (zA (qm qK (by rfl) T.b_isinstance Ju (qc (qv 0) (qc (qG (v:= .ty "int") rfl T.b_int B5 rfl) qb))) (zA (Z0 (qm qK (by rfl) T.b_isinstance Ju (qc (qv 0) (qc (qG (v:= .ty "bool") rfl T.b_bool CJ rfl) qb)))) (QD (zf zp (qv 0) (qv 1) (qA _))))))))),?_⟩
    refine⟨_,rfl,by show 2<=sizeLine;decide,fun p hp=>⟨_,p,["list","tuple"],"NoneType",rfl,qd,.non,by simp,_,rfl,?_⟩⟩
    rw[show(["list","tuple"].any (zn "NoneType"))=false from by decide]
    refine zr ⟨_,rfl,_,"str","NoneType",rfl,.non,by simp,_,rfl,?_⟩
    rw[show zn "NoneType" "str"=false from by decide]
    refine zr ⟨_,rfl,rfl,_,rfl,?_⟩
    refine q9 (fun _=>⟨_,rfl,_,rfl,rfl,?_⟩) (fun z=>absurd (Jk rfl) z)
    rw[Jk rfl];exact q _ (Same.upd hp)
   | @tup _ c d xs ys h1 h2 hl hz hi=>
    refine⟨_,(qe (qJ (zd (qm Q7 (by rfl) T.b_isinstance Ju (qc (qv 1) (qc (qx (qc (qG (v:= .ty "list") rfl T.b_list BR rfl) (qc (qG (v:= .ty "tuple") rfl T.b_tuple JD rfl) qb))) qb)))) (qe (qJ (QW.pt (Qe (qE Zi (qm qK (by rfl) T.b_isinstance Ju (qc (qv 0) (qc (qG (v:= .ty "list") rfl T.b_list BR rfl) qb))) (qm qK (by rfl) T.b_isinstance Ju (qc (qv 1) (qc (qG (v:= .ty "list") rfl T.b_list BR rfl) qb))) (qA _)) (zP (qE Zi (qm qK (by rfl) T.b_isinstance Ju (qc (qv 0) (qc (qG (v:= .ty "tuple") rfl T.b_tuple JD rfl) qb))) (qm qK (by rfl) T.b_isinstance Ju (qc (qv 1) (qc (qG (v:= .ty "tuple") rfl T.b_tuple JD rfl) qb))) (qA _))))) (qg (qu Zj)) qB)
   (qe (qJ (qE Zi (qm qQ (by rfl) T.b_len JY (qc (qv 0) qb)) (qm qQ (by rfl) T.b_len JY (qc (qv 1) qb)) (qA _)) (qg (qu Zj)) qB)
   (qg (qu (qm (ac rfl) (by rfl) T.b_all DA (qc (zU (own:=["_law_part","_law_more"]) (fr:=[]) (js:=[]) rfl (Ai rfl T.b_zip (qc (qv 0) (qc (qv 1) qb))) rfl (fun _ _ h=>nomatch h) rfl (cm rfl (by decide +kernel) (by decide +kernel) (by decide +kernel)) (fun _ _ _ _=>l6 (K:=K) rfl 2 rfl (qr (qh (i:=0) (show List.Nodup (["_law_part","_law_more"]:List Str)from by decide +kernel) rfl (Or.inl rfl) (.inr rfl)) (qr (qh (i:=1) (show List.Nodup (["_law_part","_law_more"]:List Str)from by decide +kernel) rfl (Or.inl rfl) (.inr rfl)) qN))) (fun _ _ _ _=>(qq dI hr.mo (qc (qv 0) (qc (qv 1) qb))))) qb)))))) qB)
   (qe (qJ (QW.pt (Qe (zd (qm qK (by rfl) T.b_isinstance Ju (qc (qv 1) (qc (qG (v:= .ty "str") rfl T.b_str CK rfl) qb)))) (zP (qE Qz (qv 1) zh (qA _))))) (qg (qu (zf zp (qv 0) (qv 1) (qA _)))) qB)
   (qg (qu (zA (qm qK (by rfl) T.b_isinstance Ju (qc (qv 0) (qc (qG (v:= .ty "int") rfl T.b_int B5 rfl) qb))) (zA (Z0 (qm qK (by rfl) T.b_isinstance Ju (qc (qv 0) (qc (qG (v:= .ty "bool") rfl T.b_bool CJ rfl) qb)))) (QD (zf zp (qv 0) (qv 1) (qA _))))))))),?_⟩
    refine⟨_,rfl,by show 2<=sizeLine;decide,fun p hp=>⟨_,p,["list","tuple"],"tuple",rfl,qd,.tup (Rd.same (Same.upd hp) h2),by simp,_,rfl,?_⟩⟩
    rw[show(["list","tuple"].any (zn "tuple"))=true from by decide]
    have s1:Same H _:=Same.upd (o:= .tup (["list","tuple"].map V.ty)) hp
    have k1:=Rd.same s1 h1;have k2:=Rd.same s1 h2;refine zx ⟨_,rfl,_,"list","tuple",rfl,.tup k1,by simp,_,rfl,_,"list","tuple",rfl,.tup k2,by simp,rfl,_,rfl,?_⟩
    refine ZP rfl ⟨_,rfl,_,"tuple","tuple",rfl,.tup k1,by simp,_,rfl,_,"tuple","tuple",rfl,.tup k2,by simp,rfl,_,rfl,?_⟩
    refine ZP rfl ?_
    refine⟨_,rfl,c,_,rfl,.inr (.inl k1),_,rfl,d,_,rfl,.inr (.inl k2),rfl,_,rfl,?_⟩
    refine ZP (by rw[hl]) ?_
    refine⟨_,rfl,_,rfl,c,d,xs,ys,rfl,k1,k2,uv hl hz (fun i zs H2=>zs=(List.replicate i true).map V.bl/\Same H H2) ⟨rfl,s1⟩ (fun i zs H2 ⟨_,s2⟩=>⟨Rd.same s2 h1,Rd.same s2 h2⟩) ?_ ?_⟩
    ·rintro i zs H2 pp x y hx hy hzl ⟨rfl,s2⟩ hpp
     have s3:=s2.trans (Same.upd (o:= .tup [x,y]) hpp)
     refine⟨_,rfl,_,rfl,x,y,rfl,(hi i x y hx hy).same s3,fun H4 s4=>⟨?_,s3.trans s4⟩⟩
     rw[List.replicate_succ',JH];rfl
    ·rintro zs H2 hzl ⟨rfl,s2⟩ p2 hp2
     refine⟨p2,_,rfl,SqL.of qd,?_⟩
     rw[show(List.replicate xs.length true).all id=true from by simp]
     exact q _ (s2.trans (Same.upd hp2))
   | @lst _ c d xs ys h1 h2 hl hz hi=>
    refine⟨_,(qe (qJ (zd (qm Q7 (by rfl) T.b_isinstance Ju (qc (qv 1) (qc (qx (qc (qG (v:= .ty "list") rfl T.b_list BR rfl) (qc (qG (v:= .ty "tuple") rfl T.b_tuple JD rfl) qb))) qb)))) (qe (qJ (QW.pt (Qe (qE Zi (qm qK (by rfl) T.b_isinstance Ju (qc (qv 0) (qc (qG (v:= .ty "list") rfl T.b_list BR rfl) qb))) (qm qK (by rfl) T.b_isinstance Ju (qc (qv 1) (qc (qG (v:= .ty "list") rfl T.b_list BR rfl) qb))) (qA _)) (zP (qE Zi (qm qK (by rfl) T.b_isinstance Ju (qc (qv 0) (qc (qG (v:= .ty "tuple") rfl T.b_tuple JD rfl) qb))) (qm qK (by rfl) T.b_isinstance Ju (qc (qv 1) (qc (qG (v:= .ty "tuple") rfl T.b_tuple JD rfl) qb))) (qA _))))) (qg (qu Zj)) qB)
   (qe (qJ (qE Zi (qm qQ (by rfl) T.b_len JY (qc (qv 0) qb)) (qm qQ (by rfl) T.b_len JY (qc (qv 1) qb)) (qA _)) (qg (qu Zj)) qB)
   (qg (qu (qm (ac rfl) (by rfl) T.b_all DA (qc (zU (own:=["_law_part","_law_more"]) (fr:=[]) (js:=[]) rfl (wT rfl T.b_zip (qc (qv 0) (qc (qv 1) qb))) rfl (fun _ _ h=>nomatch h) rfl (cm rfl (by decide +kernel) (by decide +kernel) (by decide +kernel)) (fun _ _ _ _=>l6 (K:=K) rfl 2 rfl (qr (qh (i:=0) (show List.Nodup (["_law_part","_law_more"]:List Str)from by decide +kernel) rfl (Or.inl rfl) (.inr rfl)) (qr (qh (i:=1) (show List.Nodup (["_law_part","_law_more"]:List Str)from by decide +kernel) rfl (Or.inl rfl) (.inr rfl)) qN))) (fun _ _ _ _=>(qq dI hr.mo (qc (qv 0) (qc (qv 1) qb))))) qb)))))) qB)
   (qe (qJ (QW.pt (Qe (zd (qm qK (by rfl) T.b_isinstance Ju (qc (qv 1) (qc (qG (v:= .ty "str") rfl T.b_str CK rfl) qb)))) (zP (qE Qz (qv 1) zh (qA _))))) (qg (qu (zf zp (qv 0) (qv 1) (qA _)))) qB)
   (qg (qu (zA (qm qK (by rfl) T.b_isinstance Ju (qc (qv 0) (qc (qG (v:= .ty "int") rfl T.b_int B5 rfl) qb))) (zA (Z0 (qm qK (by rfl) T.b_isinstance Ju (qc (qv 0) (qc (qG (v:= .ty "bool") rfl T.b_bool CJ rfl) qb)))) (QD (zf zp (qv 0) (qv 1) (qA _))))))))),?_⟩
    refine⟨_,rfl,by show 2<=sizeLine;decide,fun p hp=>⟨_,p,["list","tuple"],"list",rfl,qd,.lst (Same.upd hp _ _ h2),by simp,_,rfl,?_⟩⟩
    rw[show(["list","tuple"].any (zn "list"))=true from by decide]
    have s1:Same H _:=Same.upd (o:= .tup (["list","tuple"].map V.ty)) hp
    have k1:=s1 _ _ h1;have k2:=s1 _ _ h2;refine zx ⟨_,rfl,_,"list","list",rfl,.lst k1,by simp,_,rfl,_,"list","list",rfl,.lst k2,by simp,rfl,_,rfl,?_⟩
    refine ZP rfl ⟨_,rfl,_,"tuple","list",rfl,.lst k1,by simp,_,rfl,_,"tuple","list",rfl,.lst k2,by simp,rfl,_,rfl,?_⟩
    refine ZP rfl ?_
    refine⟨_,rfl,c,_,rfl,.inl (SqL.of k1),_,rfl,d,_,rfl,.inl (SqL.of k2),rfl,_,rfl,?_⟩
    refine ZP (by rw[hl]) ?_
    refine⟨_,rfl,_,rfl,c,d,xs,ys,rfl,.inl k1,.inl k2,rB hl hz (fun i zs H2=>zs=(List.replicate i true).map V.bl/\Same H H2) ⟨rfl,s1⟩ (fun i zs H2 ⟨_,s2⟩=>⟨.inl (s2 _ _ h1),.inl (s2 _ _ h2)⟩) ?_ ?_⟩
    ·rintro i zs H2 pp x y hx hy hzl ⟨rfl,s2⟩ hpp
     have s3:=s2.trans (Same.upd (o:= .tup [x,y]) hpp)
     refine⟨_,rfl,_,rfl,x,y,rfl,(hi i x y hx hy).same s3,fun H4 s4=>⟨?_,s3.trans s4⟩⟩
     rw[List.replicate_succ',JH];rfl
    ·rintro zs H2 hzl ⟨rfl,s2⟩ p2 hp2
     refine⟨p2,_,rfl,SqL.of qd,?_⟩
     rw[show(List.replicate xs.length true).all id=true from by simp]
     exact q _ (s2.trans (Same.upd hp2))
end
section
variable{P:Program}{w:World}{K:Frag}{mg:Str->Option Value}{base:Heap}{tk:Nat->Tok}{C:Addr}
theorem iO(a:At K mg "_law_copied" Z3 ["_law_own"])(T:Txt K mg tk):Df P w K mg base "_law_copied" ["_law_own"] 1 kF:=by
 refine a.dq sc_law_copied (fun vs H Q E h=>?_) (fun f cdv A outer s H vs Q E hr h=>?_)
 ·obtain⟨_,_,_,rfl,_⟩:=h
  rfl
 ·obtain⟨m,kd,D,rfl,md,q⟩:=h
  refine⟨_,(qe (qC (i:=1) sc_law_copied.nd rfl (Or.inl rfl) (qM eU (by rfl) T.b_dict PyProof.Rows.boot_dict (qc (qv 0) qb)))
   (qe (Q3 hr (qv 1) qz (qM eU (by rfl) T.b_dict PyProof.Rows.boot_dict (qc (qW hr (qv 0) qz) qb)))
   (qg (qu (qv 1))))),?_⟩
  refine⟨_,rfl,m,_,rfl,md.di,fun m' hm'=>?_⟩
  have u1:=Same.upd (o:= .dK (ZD D kd)) hm'
  have md1:=md.same u1;obtain⟨fn,hd,hbu,hpm,hnd⟩:=id md1.kn;refine⟨_,rfl,m,_,rfl,md1.g_known,kd,_,rfl,hd,fun kd' hkd'=>?_⟩
  have u2:=Same.upd (o:= .dK (cX fn.1 fn.2)) hkd'
  have em:=u2 _ _ (qd (H:=H) (a:=m') (o:= .dK (ZD D kd)))
  have nkm:kd'≠m':=(qi (qd (H:=H) (a:=m') (o:= .dK (ZD D kd))) hkd').symm
  refine⟨_,rfl,m',_,rfl,DPut.k (k:=Sum.inr "known") em (nB _ (by show 5<=100;decide)),⟨_,rfl,?_⟩⟩
  refine q m' kd' _ (fun c o ec=>?_) hm' (QM hkd' u1) ⟨by rw[qd,sk],⟨fn,?_,fun e he=>?_,hpm,hnd⟩,nkm.symm⟩
  ·rw[qp (qi ec hm')];exact u2 _ _ (u1 _ _ ec)
  ·rw[qp nkm];exact qd
  ·have z:=hbu e he
   exact(z.same u2).mv (S:=[m']) Mv.upd1 (NT.one em trivial)
theorem mS(a:At K mg "_law_met" bK ["_law_owns","_law_name","_law_age","_law_count"])(T:Txt K mg tk)(dD:Df P w K mg base "_law_hear" ["_law_own","_law_plain"] 2 gt)(xP:Df P w K mg base "_law_copied" ["_law_own"] 1 kF):Df P w K mg base "_law_met" ["_law_owns","_law_name","_law_age","_law_count"] 3 rN:=by
 refine a.dq sc_law_met (fun vs H Q E h=>?_) (fun f cdv A outer s H vs Q E hr h=>?_)
 ·obtain⟨_,_,_,_,_,_,_,_,_,_,_,_,rfl,_⟩:=h
  rfl
 ·obtain⟨ol,m1,kd1,m2,kd2,D1,D2,nm,e1,e2,age,c,rfl,hol,md1,md2,he1,he2,ok1,ok2,nf1,nf2,q⟩:=h
  refine⟨_,(qe (cK (i:=4) sc_law_met.nd rfl (Or.inl rfl) (own:=["_law_own"]) (fr:=[]) (js:=[]) rfl (zM (qv 0)) rfl (fun _ _ h=>nomatch h) rfl (cm rfl (by decide +kernel) (by decide +kernel) (by decide +kernel)) (fun _ _ _ _=>qh (i:=0) (show List.Nodup (["_law_own"]:List Str)from by decide +kernel) rfl (Or.inl rfl) (.inr rfl)) (fun _ _ _ _=>(qq xP hr.mo (qc (qv 0) qb))))
   (qe (zi JI rfl (zM (qv 4)) (qh (i:=5) sc_law_met.nd rfl (Or.inl rfl))
   (qe (zb (qq dD hr.mo (qc (qv 5) (qc (qx (qc (qv 1) (qc (qv 2) (qc (qv 3) qb)))) qb))))
   (qg (zb (qq dD hr.mo (qc (qv 5) (qc (qx (qc (qv 1) (qc (qv 2) (qc (qw qH (qv 3) qf) qb)))) qb)))))))
   (qg (qu (zf (fD hr) (Qb Q9 (qW hr (qW hr (qy qF (qv 4) qf (fun _ _=>rfl)) qz) (qv 1)) Qp (Qo qf)) (Qb Q9 (qW hr (qW hr (qy qF (qv 4) qf (fun _ _=>rfl)) qz) (qv 1)) Qp (Qo qf)) (qA _)))))),?_⟩
  refine⟨_,rfl,ol,rfl,⟨_,SqL.of hol⟩,bZ (K:=K) (xs:=[.ref m1,.ref m2]) (by show 2<=sizeLine;decide) (fun i ys Hx=>Same H Hx/\((i=0/\ys=[])\/(i=1/\∃x kx,ys=[.ref x]/\H x=none/\H kx=none/\MdAt Hx x kx D1)\/(i=2/\∃x kx y ky,ys=[.ref x,.ref y]/\H x=none/\H kx=none/\MdAt Hx x kx D1/\H y=none/\H ky=none/\MdAt Hx y ky D2/\x≠y/\x≠ky/\kx≠y/\kx≠ky))) ⟨Same.refl _,.inl ⟨rfl,rfl⟩⟩ (fun i ys Hx h=>SqL.of (h.1 _ _ hol)) ?_ ?_⟩
  ·rintro i ys Hx z hz hyl ⟨sx,⟨rfl,rfl⟩|⟨rfl,x,kx,rfl,fx,fkx,mx⟩|⟨rfl,_⟩⟩
   ·cases hz
    refine⟨_,rfl,m1,kd1,D1,rfl,md1.same sx,fun m' kd' Hy sy f1 f2 md'=>⟨sx.trans sy,.inr (.inl ⟨rfl,m',kd',rfl,QM f1 sx,QM f2 sx,md'⟩)⟩⟩
   ·cases hz
    refine⟨_,rfl,m2,kd2,D2,rfl,md2.same sx,fun m' kd' Hy sy f1 f2 md'=>⟨sx.trans sy,.inr (.inr ⟨rfl,x,kx,m',kd',rfl,fx,fkx,mx.same sy,QM f1 sx,QM f2 sx,md',?_,?_,?_,?_⟩)⟩⟩
    ·exact qi mx.di f1
    ·exact qi mx.di f2
    ·obtain⟨_,hd,_⟩:=mx.kn;exact qi hd f1
    ·obtain⟨_,hd,_⟩:=mx.kn;exact qi hd f2
   ·cases hz
  ·rintro ys Hx hyl ⟨sx,⟨h0,_⟩|⟨h0,_⟩|⟨_,x,kx,y,ky,rfl,fx,fkx,mx,fy,fky,my,n1,n2,n3,n4⟩⟩ l hl
   ·cases h0
   ·cases h0
   have u:=Same.upd (o:= .lst [.ref x,.ref y]) hl
   have el:upd Hx l (.lst [.ref x,.ref y]) l=some (.lst [.ref x,.ref y]):=qd
   have mx1:=mx.same u;have my1:=my.same u;have fl:H l=none:=QM hl sx
   have nlx:l≠x:=(qi mx.di hl).symm
   have nlkx:l≠kx:=by obtain⟨_,hd,_⟩:=mx.kn;exact(qi hd hl).symm
   have nly:l≠y:=(qi my.di hl).symm
   have nlky:l≠ky:=by obtain⟨_,hd,_⟩:=my.kn;exact(qi hd hl).symm
   have su:=sx.trans u;generalize upd Hx l (.lst [.ref x,.ref y])=H1 at *
   refine⟨_,rfl,l,rfl,⟨_,SqL.of el⟩,zN (K:=K) (a:=l) (xs:=[.ref x,.ref y]) (fun j σ Hz=>Same H Hz/\Hz l=some (.lst [.ref x,.ref y])/\MdAt Hz x kx (if 1<=j then gB D1 nm age c else D1)/\MdAt Hz y ky (if 2<=j then gB D2 nm age c else D2)/\∃o5,σ=[some (.ref ol),some (.str nm),some (.int age),some (.int c),some (.ref l),o5]) ⟨su,el,mx1,my1,_,rfl⟩ (fun j σ Hz _ h=>SqL.of h.2.1) ?_ ?_⟩
   ·rintro j z σ Hz hz ⟨sz,elz,mxz,myz,o5,rfl⟩
    have mem2:∀{z kz w:Addr},w≠z->w≠kz->w∉[z,kz]:=fun h1 h2 h=>by
     rcases Jj.mp h with h|h
     ·exact h1 h
     ·exact h2 (Jg.mp h)
    have same2:∀{z kz:Addr} {Ha Hb:Hp},H z=none->H kz=none->Same H Ha->Mv [z,kz] Ha Hb->Same H Hb:=fun f1 f2 sa mv w o ew=>mv _ _ (mem2 (qi ew f1) (qi ew f2)) (sa _ _ ew)
    have nt2:∀{z kz:Addr} {D:Dr} {Ha:Hp},MdAt Ha z kz D->NT [z,kz] Ha:=fun{z kz D Ha} md w hw=>by
     rcases Jj.mp hw with h|h
     ·rw[h];exact⟨_,md.di,trivial⟩
     ·rw[Jg.mp h];obtain⟨_,hd,_⟩:=md.kn;exact⟨_,hd,trivial⟩
    match j,hz with
    |0,hz=>
     cases hz;have mxz:MdAt Hz x kx D1:=mxz
     have myz:MdAt Hz y ky D2:=myz
     refine⟨_,rfl,_,rfl,_,rfl,_,rfl,by show 3<=sizeLine;decide,fun p hp=>?_⟩
     have up:=Same.upd (o:= .tup [.str nm,.int age,.int c]) hp
     have mp:=mxz.same up;refine⟨x,kx,p,D1,nm,age,c,rfl,mp,qd,ok1,nf1,fun H4 mv4 md4=>?_⟩
     refine⟨_,rfl,_,rfl,_,rfl,_,rfl,_,_,rfl,rfl,by show 3<=sizeLine;decide,fun p2 hp2=>?_⟩
     have up2:=Same.upd (o:= .tup [.str nm,.int age,.int (c+1)]) hp2
     have mp2:=md4.same up2;refine⟨x,kx,p2,_,nm,age,c+1,rfl,mp2,qd,ok1.hearK nm age c,nf1,fun H6 mv6 md6=>?_⟩
     have s4:=same2 fx fkx (sz.trans up) mv4;refine⟨same2 fx fkx (s4.trans up2) mv6,mv6 _ _ (mem2 nlx nlkx) (up2 _ _ (mv4 _ _ (mem2 nlx nlkx) (up _ _ elz))),md6,?_,_,rfl⟩
     exact(((myz.same up).mv mv4 (nt2 mp) (mem2 n1.symm n3.symm) (mem2 n2.symm n4.symm)).same up2).mv mv6 (nt2 mp2) (mem2 n1.symm n3.symm) (mem2 n2.symm n4.symm)
    |1,hz=>
     cases hz;have mxz:MdAt Hz x kx (gB D1 nm age c):=mxz
     have myz:MdAt Hz y ky D2:=myz
     refine⟨_,rfl,_,rfl,_,rfl,_,rfl,by show 3<=sizeLine;decide,fun p hp=>?_⟩
     have up:=Same.upd (o:= .tup [.str nm,.int age,.int c]) hp
     have mp:=myz.same up;refine⟨y,ky,p,D2,nm,age,c,rfl,mp,qd,ok2,nf2,fun H4 mv4 md4=>?_⟩
     refine⟨_,rfl,_,rfl,_,rfl,_,rfl,_,_,rfl,rfl,by show 3<=sizeLine;decide,fun p2 hp2=>?_⟩
     have up2:=Same.upd (o:= .tup [.str nm,.int age,.int (c+1)]) hp2
     have mp2:=md4.same up2;refine⟨y,ky,p2,_,nm,age,c+1,rfl,mp2,qd,ok2.hearK nm age c,nf2,fun H6 mv6 md6=>?_⟩
     have s4:=same2 fy fky (sz.trans up) mv4;refine⟨same2 fy fky (s4.trans up2) mv6,mv6 _ _ (mem2 nly nlky) (up2 _ _ (mv4 _ _ (mem2 nly nlky) (up _ _ elz))),?_,md6,_,rfl⟩
     exact(((mxz.same up).mv mv4 (nt2 mp) (mem2 n1 n2) (mem2 n3 n4)).same up2).mv mv6 (nt2 mp2) (mem2 n1 n2) (mem2 n3 n4)
    |j+2,hz=>cases hz
   ·rintro σ Hz ⟨sz,elz,mxz,myz,o5,rfl⟩
    have mxz:MdAt Hz x kx (gB D1 nm age c):=mxz
    have myz:MdAt Hz y ky (gB D2 nm age c):=myz
    have l1:=gX (age:=age) (c:=c) ok1 he1
    have l2:=gX (age:=age) (c:=c) ok2 he2
    obtain⟨e',a1,he',g1,v1,ha1,_⟩:=(mxz.kn.get nm).resolve_left (fun z=>by rw[l1]at z;cases z.1)
    rw[l1]at he';cases he';refine⟨_,rfl,l,_,_,_,rfl,rfl,SqL.of elz,rfl,x,_,rfl,mxz.g_known,_,rfl,kx,_,rfl,g1,_,rfl,a1,_,rfl,ha1,fun q1 H2 s2 hq1 _=>?_⟩
    have my2:=myz.same s2;obtain⟨e',a2,he',g2,v2,ha2,_⟩:=(my2.kn.get nm).resolve_left (fun z=>by rw[l2]at z;cases z.1)
    rw[l2]at he';cases he';refine⟨_,rfl,l,_,_,_,rfl,rfl,SqL.of (s2 _ _ elz),rfl,y,_,rfl,my2.g_known,_,rfl,ky,_,rfl,g2,_,rfl,a2,_,rfl,ha2,fun q2 H3 s3 hq2 _=>⟨some ((Qa D1 e1 age c).age,(Qa D1 e1 age c).last),q2,_,_,⟨q1,rfl,s3 _ _ hq1⟩,rfl,Rd.of hq2,?_⟩⟩
    have:=q _ ((sz.trans s2).trans s3)
    unfold zZ QN at this;have ed:decide (some ((Qa D1 e1 age c).age,(Qa D1 e1 age c).last)=some ((Qa D2 e2 age c).age,(Qa D2 e2 age c).last))=decide (((Qa D1 e1 age c).age,(Qa D1 e1 age c).last)=((Qa D2 e2 age c).age,(Qa D2 e2 age c).last)):=decide_eq_decide.mpr ⟨fun z=>Jv z,fun z=>JP some z⟩
    rw[<- ed]at this;exact this
end
section
variable{P:Program}{w:World}{K:Frag}{mg:Str->Option Value}{base:Heap}{tk:Nat->Tok}{C:Addr}
theorem nK(a:At K mg "_law_due" bL ["_law_owns","_law_base"])(T:Txt K mg tk)(yC:Df P w K mg base "_law_met" ["_law_owns","_law_name","_law_age","_law_count"] 3 rN):Df P w K mg base "_law_due" ["_law_owns","_law_base"] 4 pv:=by
 refine a.dq sc_law_due (fun vs H Q E h=>?_) (fun f cdv A outer s H vs Q E hr h=>?_)
 ·obtain⟨_,_,_,_,_,_,_,_,_,_,rfl,_⟩:=h
  rfl
 ·obtain⟨ol,m1,kd1,m2,kd2,t,kss,D1,D2,ba,rfl,hol,md1,md2,dp1,dp2,b0,b1,q⟩:=h
  refine⟨_,(qe (qC (i:=2) sc_law_due.nd rfl (Or.inl rfl) (qS qb))
   (qe (zi JI rfl (zM (qm (cx rfl) (by rfl) T.b_sorted PyProof.Rows.boot_sorted (qc (qW hr (qy qF (qv 0) qf (fun _ _=>rfl)) qz) qb))) (qh (i:=3) sc_law_due.nd rfl (Or.inr rfl))
   (qe (i7 (i:=4) (j:=5) rfl sc_law_due.nd rfl rfl (by decide) rfl rfl (qc (qW hr (qW hr (qy qF (qv 0) qf (fun _ _=>rfl)) qz) (qv 3)) (qc (tm hr (qW hr (qy qF (qv 0) qf (fun _ _=>rfl)) qz) (qv 3) zh) qb)))
   (qg (qJ (QW.pt (pZ (qE lU (qv 5) zh (qA _)) (lL (qE Zi (qy qI (qv 4) qf (fun _ _=>rfl)) (qy qI (qv 5) qf (fun _ _=>rfl)) (qA _))))) (qe (qC (i:=6) sc_law_due.nd rfl (Or.inr rfl) (qm (QH rfl) (by rfl) T.b_max CL (qc (qy qI (qv 4) qf (fun _ _=>rfl)) (qc (qy qI (qv 5) qf (fun _ _=>rfl)) qb))))
   (qe (ki (i:=7) sc_law_due.nd rfl (Or.inl rfl) (own:=["_law_count"]) (fr:=["_law_owns","_law_name","_law_age"]) (js:=[0,3,6]) rfl (h9 rfl T.b_range (qc (qv 1) (qc (qm (Qj rfl) (by rfl) T.b_min PyProof.Rows.boot_min (qc qf (qc (qw qH (qv 1) qf) qb))) qb))) rfl (xz rfl rfl rfl) rfl (yz rfl (by decide +kernel) (by decide +kernel) (by decide +kernel) rfl rfl rfl rfl rfl rfl rfl rfl rfl) (fun _ _ _ _=>qh (i:=0) (show List.Nodup (["_law_count","_law_owns","_law_name","_law_age"]:List Str)from by decide +kernel) rfl (Or.inl rfl) (.inr rfl)) (fun _ _ _ _=>(zd (qq yC hr.mo (qc (qv 1) (qc (qv 2) (qc (qv 3) (qc (qv 0) qb))))))) (fun _ _ _ _=>(qv 0)))
   (qg (zb (Zz BQ Ci Cj zX (qv 2) (qc (qx (qc (qv 3) (qc (qy qF (qw xa (qv 7) (qS (qc zh qb))) qf (fun _ _=>rfl)) qb))) qb)))))) qB))))
   (qg (qu (qM qT (by rfl) T.b_tuple JD (qc (qv 2) qb)))))),?_⟩
  refine⟨by show 0<=sizeLine;decide,fun l hl=>?_⟩
  have s0:Same H (upd H l (.lst [])):=Same.upd hl
  have el0:upd H l (.lst []) l=some (.lst []):=qd
  have hl':=hl;generalize upd H l (.lst [])=H0 at s0 el0⊢
  have md0:=md1.same s0;obtain⟨fn,hd,hbu,hpm,_⟩:=id md0.kn;refine⟨_,rfl,ol,_,_,_,rfl,rfl,SqL.of (s0 _ _ hol),rfl,m1,_,rfl,md0.g_known,kd1,_,fn.1.map (·.1),rfl,hd,lT _ _,by rw[Je,hpm.length_eq];have:=dp1.ok.nl;omega,fun l5 ss hl5 pm0 so=>⟨l5,rfl,⟨_,SqL.of qd⟩,?_⟩⟩
  have pm:=pm0.trans (hpm.map (·.1))
  have u5:=Same.upd (o:= .lst (ss.map V.str)) hl5
  have nl5:l≠l5:=qi el0 hl5
  have ls:ss.length<=60:=by rw[pm.length_eq,Je];exact dp1.ok.nl
  refine zN (K:=K) (a:=l5) (xs:=ss.map V.str) (fun i σ Hx=>Same H Hx/\Hx l5=some (.lst (ss.map V.str))/\Bl Hx l (zJ D1 D2 (ss.take i))/\∃o3 o4 o5 o6 o7,σ=[some (.ref ol),some (.int ba),some (.ref l),o3,o4,o5,o6,o7]) ⟨s0.trans u5,qd,⟨[],u5 _ _ el0,rfl,fun i a z h=>by cases h⟩,_,_,_,_,_,rfl⟩ (fun i σ Hx _ h=>SqL.of h.2.1) ?_ ?_
  ·rintro i z σ H7 hz ⟨s7,e57,br,o3,o4,o5,o6,o7,rfl⟩
   rw[Jo]at hz;obtain⟨nm,hnm,rfl⟩:=BP.mp hz;obtain⟨e,he⟩:=zE (pm.mem_iff.mp (JS hnm))
   have etk:ss.take (i+1)=ss.take i++[nm]:=by rw[J5,hnm];rfl
   have m7:=md1.same s7;have m7':=md2.same s7;have hol7:=s7 _ _ hol;obtain⟨e',x,he',g1,hx⟩:=(m7.kn.get nm).resolve_left (fun z=>by rw[he]at z;cases z.1)
   rw[he]at he';cases he';obtain⟨v,h1,hw⟩:=id hx;obtain⟨_,hd2,_⟩:=id m7'.kn;rcases m7'.kn.get nm with⟨hno,g2⟩|⟨e2,x',he2,g2,hx'⟩
   ·refine⟨_,rfl,ol,_,_,_,rfl,rfl,SqL.of hol7,rfl,m1,_,rfl,m7.g_known,_,rfl,kd1,_,rfl,g1,_,rfl,ol,_,_,_,rfl,rfl,SqL.of hol7,rfl,m2,_,rfl,m7'.g_known,kd2,rfl,.inl ⟨_,Rd.of hd2⟩,_,rfl,_,g2,_,_,rfl,?_⟩
    refine⟨_,rfl,rfl,_,rfl,QB (by simp) ⟨s7,e57,?_,_,_,_,_,_,rfl⟩⟩
    rw[etk,vX hno];exact br
   refine⟨_,rfl,ol,_,_,_,rfl,rfl,SqL.of hol7,rfl,m1,_,rfl,m7.g_known,_,rfl,kd1,_,rfl,g1,_,rfl,ol,_,_,_,rfl,rfl,SqL.of hol7,rfl,m2,_,rfl,m7'.g_known,kd2,rfl,.inl ⟨_,Rd.of hd2⟩,_,rfl,_,g2,_,_,rfl,?_⟩
   obtain⟨v',h1',hw'⟩:=id hx';refine⟨_,rfl,rfl,_,rfl,Qs (by simp) ⟨_,rfl,x,_,_,_,rfl,rfl,SqT.of h1,rfl,_,rfl,x',_,_,_,rfl,rfl,SqT.of h1',rfl,rfl,_,rfl,?_⟩⟩
   by_cases hl:e.last=e2.last
   ·refine QB (by simp [hl]) ⟨s7,e57,?_,_,_,_,_,_,rfl⟩
    rw[etk,lj he he2 hl];exact br
   refine Qs (by simpa using hl) ?_
   refine⟨_,rfl,x,_,_,_,rfl,rfl,SqT.of h1,rfl,_,rfl,x',_,_,_,rfl,rfl,SqT.of h1',rfl,_,_,rfl,?_⟩
   obtain⟨A0,eA⟩:∃A0,A0=Qc e.age e2.age:=⟨_,rfl⟩
   refine⟨_,rfl,_,rfl,_,_,rfl,rfl,_,_,rfl,_,_,rfl,⟨by omega,by omega,by split<;>omega,by split<;>omega⟩,?_⟩
   refine kO (by rw[Jz];split<;>omega) (fun i ys Hx=>Same H7 Hx/\ys=(((List.range i).map fun k:Nat=>ba+(k:Int)).filter (zZ D1 e D2 e2 A0)).map V.int) ⟨Same.refl _,rfl⟩ ?_ ?_
   ·rintro k ys H8 hk ⟨s8,rfl⟩
    refine⟨_,rfl,_,rfl,_,rfl,_,rfl,ol,m1,kd1,m2,kd2,D1,D2,nm,e,e2,A0,_,by rw[eA];rfl,s8 _ _ hol7,m7.same s8,m7'.same s8,he,he2,dp1.ok,dp2.ok,dp1.f0,dp2.f0,fun H9 s9=>⟨_,rfl,?_⟩⟩
    rw[List.range_succ,JH,List.filter_append,JH];cases hm:zZ D1 e D2 e2 A0 (ba+(k:Int))with
    |true=>
     rw[Jd rfl];refine⟨_,rfl,s8.trans s9,?_⟩
     simp [hm]
    |false=>
     rw[Jc (by decide)]
     refine⟨s8.trans s9,?_⟩
     simp [hm]
   ·rintro ys H8 ⟨s8,rfl⟩ l7 hl7
    obtain⟨fs,efs⟩:∃fs,fs=(((List.range ((if ba+42<4095 then ba+42 else 4095)-ba).toNat).map fun k:Nat=>ba+(k:Int)).filter (zZ D1 e D2 e2 A0)):=⟨_,rfl⟩
    have fl:fs.length<=42:=by
     rw[efs];refine JA (List.length_filter_le ..) ?_
     rw[Je,List.length_range];split<;>omega
    have hfs:fs.head? =zS D1 e D2 e2:=by
     rw[efs,ib,<- tf dp1 dp2 he he2 hl,eA];rfl
    rw[<- efs];have u7:=Same.upd (o:= .lst (fs.map V.int)) hl7
    have s9:=s8.trans u7;have e7:upd H8 l7 (.lst (fs.map V.int)) l7=some (.lst (fs.map V.int)):=qd
    generalize upd H8 l7 (.lst (fs.map V.int))=H9 at *
    obtain⟨as,ea,la,has⟩:=br;refine⟨_,rfl,.inl ⟨rfl,_,SqL.of (s9 _ _ ea)⟩,_,rfl,_,rfl,by show 1<=sizeLine;decide,fun l8 hl8=>?_⟩
    have u8:=Same.upd (o:= .lst [.non]) hl8
    refine⟨l7,l8,_,_,rfl,rfl,u8 _ _ e7,qd,by rw[Je,Jz];show _+1<=_;omega,fun l9 hl9=>?_⟩
    have u9:=Same.upd (o:= .lst (fs.map V.int++[.non])) hl9
    have at0:QQ (fs.map V.int++[V.non]) 0=some (gZ (zS D1 e D2 e2)):=by
     rw[<- hfs];cases fs with
     |nil=>exact QK (j:=0) rfl
     |cons y r=>exact QK (j:=0) rfl
    refine⟨l9,_,_,_,rfl,rfl,SqL.of qd,at0,by show 2<=sizeLine;decide,fun tt htt=>?_⟩
    have ut:=Same.upd (o:= .tup [.str nm,gZ (zS D1 e D2 e2)]) htt
    have S8:=((s9.trans u8).trans u9).trans ut;have ble:(zJ D1 D2 (ss.take i)).length<=60:=JA (List.length_filterMap_le ..) (by rw[BS];omega)
    refine⟨l,_,_,rfl,rfl,S8 _ _ ea,by rw[Je,la,Jz];omega,?_⟩
    refine⟨fun c o ec=>?_,?_,?_,_,_,_,_,_,rfl⟩
    ·rw[qp (qi ec hl')];exact S8 _ _ (s7 _ _ ec)
    ·rw[qp (Ne.symm nl5)];exact S8 _ _ e57
    ·rw[etk,jF he he2 hl]
     have tl:tt≠l:=(qi (((s9.trans u8).trans u9) _ _ ea) htt).symm
     refine⟨as++[tt],by rw[qd,JH];rfl,by rw[Jx,Jx,la];rfl,fun j y z h1 h2=>?_⟩
     rw[Dm]at h1 h2;rw[<- la]at h2;split at h1
     ·rename_i hj
      rw[Jd hj]at h2;have hy:=has j y z h1 h2;have ny:y≠l:=fun q=>by rw[q,ea]at hy;cases hy
      rw[qp ny];exact S8 _ _ hy
     ·rename_i hj
      rw[Jc hj]at h2;have hz:j-as.length=0:=by
       cases hj:j-as.length with
       |zero=>rfl
       |succ k=>rw[hj]at h1;cases h1
      rw[hz]at h1 h2;cases h1;cases h2;rw[qp tl];exact qd
  ·rintro σ H7 ⟨s7,e57,⟨as,ea,la,has⟩,o3,o4,o5,o6,o7,rfl⟩
   rw[Je,B0]at la has;refine⟨_,rfl,l,_,rfl,.inl ⟨SqL.of ea,fun q1 hq1=>?_⟩⟩
   have u9:=Same.upd (o:= .tup (as.map V.ref)) hq1
   exact q q1 ss _ (s7.trans u9) pm so ⟨as,qd,la,fun j y z h1 h2=>u9 _ _ (has j y z h1 h2)⟩
end
end Lw
namespace L3
open PySem PySem.Spec PyProof.Rows L2
theorem BrT.same{H H':Hp}{q:Addr}{zs:List (Str×Option Int)}(h:BrT H q zs)(s:Same H H'):BrT H' q zs:=by
 obtain⟨as,e,l,r⟩:=h
 exact⟨as,s _ _ e,l,fun i a z h1 h2=>s _ _ (r i a z h1 h2)⟩
theorem Eqw.opt{H:Hp}{n:Nat}(x:Option Int):Eqw H n (gZ x) (gZ x):=by
 cases x with
 |none=>exact .non n
 |some i=>exact .int n i
theorem BrT.eqw{H:Hp}{p q:Addr}{zs:List (Str×Option Int)}(h1:BrT H p zs)(h2:BrT H q zs)(hl:zs.length<=100):Eqw H 2 (.ref p) (.ref q):=by
 obtain⟨as,e,l,r⟩:=h1;obtain⟨bs,e',l',r'⟩:=h2;refine .tup (Rd.of e) (Rd.of e') (by rw[Je,Je,l,l']) (by rw[Je,Jz];omega) fun i x y hx hy=>?_
 rw[Jo]at hx hy;obtain⟨a,ha,rfl⟩:=BP.mp hx;obtain⟨b,hb,rfl⟩:=BP.mp hy;have hi:i<zs.length:=by rw[<- l];exact(Js.mp ha).1
 have hz:zs[i]? =some zs[i]:=Jl hi
 exact Eqw.two (Rd.of (r i a _ ha hz)) (Rd.of (r' i b _ hb hz)) (.str _ _) (Eqw.opt _)
theorem BrT.both{H:Hp}{p q d a b:Addr}{zs:List (Str×Option Int)}(h1:BrT H p zs)(h2:BrT H q zs)(h3:BrT H d zs)(ea:H a=some (.lst [.ref p,.ref q]))(eb:H b=some (.lst [.ref d,.ref d]))(hl:zs.length<=100):Eqw H 3 (.ref a) (.ref b):=
 Eqw.ltwo ea eb (h1.eqw h3 hl) (h2.eqw h3 hl)
theorem rq{α:Type}{xs:List α}(h:xs.length=2):∃x y,xs=[x,y]:=by
 cases xs with
 |nil=>cases h
 |cons x r=>cases r with
  |nil=>cases h
  |cons y r=>cases r with
   |nil=>exact⟨x,y,rfl⟩
   |cons z r=>cases h
theorem Ar(D D':Dr)(ss:List Str):(zJ D D' ss).length<=ss.length:=List.length_filterMap_le ..
theorem tz{cs:List Str}{nm:Str}(nd:cs.Nodup)(h:∀k,k∈cs↔k=nm):cs=[nm]:=by
 cases cs with
 |nil=>exact absurd ((h nm).mpr rfl) (Jp)
 |cons x r=>
  have hx:x=nm:=(h x).mp JE
  cases r with
  |nil=>rw[hx]
  |cons y r=>
   have hy:y=nm:=(h y).mp (JJ _ JE)
   rw[BN]at nd;exact absurd (by rw[hx,hy];exact JE) nd.1
theorem rM{D D':Dr}{nm:Str}{e e':Kb}(h:D.kn=[(nm,e)])(h':D'.kn=[(nm,e')])(hl:e.last≠e'.last):zJ D D' [nm]=[(nm,zS D e D' e')]:=by
 have a:D.kn.lookup nm=some e:=by rw[h];exact jS nm e
 have b:D'.kn.lookup nm=some e':=by rw[h'];exact jS nm e'
 have:=jF (cs:=[]) a b hl
 simpa [zJ]using this
def fE:Sp:=fun vs H Q _=>∃(b:Addr) (c:Nat),vs=[.ref b]/\BoxC H b c/\c<1000000/\∀H',Mv [b] H H'->Q (.bl true) H'
structure Pq(K:Frag)(C:Addr)(H0 H:Hp)(b:Addr)(c:Nat)(xs:List En):Prop where
 s:Mv [b] H0 H
 bx:BoxC H b c
 b0:H0 b≠none
 en:∀(i:Nat) (x:En),xs[i]? =some x->Ent K C H x.1 x.2.1 x.2.2 x.2.1
 dj:∀(i j:Nat) (x y:En),i≠j->xs[i]? =some x->xs[j]? =some y->∀z∈eS x.1,z∉eS y.1
 fr:∀(i:Nat) (x:En),xs[i]? =some x->∀z∈eS x.1,H0 z=none
section
variable{K:Frag}{C:Addr}{H0 H H':Hp}{b:Addr}{c c':Nat}{pl:Addr}{xs:List En}{i:Nat}{x:En}
theorem Pq.nb(p:Pq K C H0 H b c xs)(hi:xs[i]? =some x):b∉eS x.1:=fun z=>p.b0 (p.fr i x hi b z)
theorem Pq.grc(p:Pq K C H0 H b c xs)(g:GrC b c' H H'):Pq K C H0 H' b c' xs:=by
 have m:Mv [b] H H':=fun c o h e=>g.kp c o (fun z=>h (Jg.mpr z)) e
 exact⟨p.s.trans m,g.bx,p.b0,fun i x hi=>(p.en i x hi).mv m (qX p.bx) (fun z hz w=>p.nb hi (Jg.mp w▸hz)),p.dj,p.fr⟩
theorem Pq.same(p:Pq K C H0 H b c xs)(s:Same H H'):Pq K C H0 H' b c xs:=p.grc (s.grc p.bx)
theorem Pq.add{Ha:Hp}{y:Em}{D:Dr}(p:Pq K C H0 H b c xs)(s:Same H Ha)(e:Ent K C Ha y D [] D)(f:∀z∈eS y,H z=none):Pq K C H0 Ha b c (xs++[(y,D,[])]):=by
 have pa:=p.same s;have key:∀{j:Nat} {w:En},(xs++[(y,D,[])])[j]? =some w->xs[j]? =some w\/(j=xs.length/\w=(y,D,[])):=fun{j w} h=>by
  by_cases hj:j<xs.length
  ·rw[J0 hj]at h;exact .inl h
  ·rw[JX (by omega)]at h
   cases q:j-xs.length with
   |zero=>rw[q]at h;cases h;exact .inr ⟨by omega,rfl⟩
   |succ k=>rw[q]at h;cases h
 have fz:∀z∈eS y,H0 z=none:=fun z hz=>by
  cases q:H0 z with
  |none=>rfl
  |some o=>
   by_cases w:z=b
   ·subst w;obtain⟨_,_,_,e1,_⟩:=p.bx;rw[f z hz]at e1;cases e1
   ·have:=p.s z o (qR w) q;rw[f z hz]at this;cases this
 refine⟨pa.s,pa.bx,p.b0,fun j w hj=>?_,fun j k w u hjk hj hk=>?_,fun j w hj=>?_⟩
 ·rcases key hj with hj|⟨_,rfl⟩
  ·exact pa.en j w hj
  ·exact e
 ·rcases key hj with hj'|⟨ej,rfl⟩
  ·rcases key hk with hk'|⟨_,rfl⟩
   ·exact p.dj j k w u hjk hj' hk'
   ·exact fun z hz v=>(p.en j w hj').some hz (f z v)
  ·rcases key hk with hk'|⟨ek,rfl⟩
   ·exact fun z hz v=>(p.en k u hk').some v (f z hz)
   ·omega
 ·rcases key hj with hj'|⟨_,rfl⟩
  ·exact p.fr j w hj'
  ·exact fz
theorem Pq.pw(p:Pq K C H0 H b c xs)(hpl:H pl=none):Pw K C H0 (upd H pl (.lst (xs.map fun x=> .ref x.1.e))) b c pl xs:=by
 have u:=Same.upd (o:= .lst (xs.map fun x=>V.ref x.1.e)) hpl
 have q:=p.same u;have nb:pl≠b:=fun z=>by obtain⟨_,_,_,e,_⟩:=p.bx;rw[z,e]at hpl;cases hpl
 refine⟨q.s,q.bx,q.b0,q.en,q.dj,q.fr,qd,fun i x hi z=>?_,?_⟩
 ·exact(p.en i x hi).some z hpl
 ·cases e:H0 pl with
  |none=>rfl
  |some o=>have:=p.s pl o (qR nb) e;rw[hpl]at this;cases this
theorem Pw.off{z:Addr}(p:Pw K C H0 H b c pl xs)(m:Mv [z] H H')(n:NT [z] H)(h1:∀(i:Nat) (x:En),xs[i]? =some x->z∉eS x.1)(h2:z≠b)(h3:z≠pl)(h4:H0 z=none):Pw K C H0 H' b c pl xs:=
 ⟨fun c o hc e=>m c o (qR (fun w=>by rw[w,h4]at e;cases e)) (p.s c o hc e),p.bx.mv m (qR (Ne.symm h2)),p.b0,fun i x hi=>(p.en i x hi).mv m n (fun w hw u=>h1 i x hi (Jg.mp u▸hw)),p.dj,p.fr,m _ _ (qR (Ne.symm h3)) p.pe,p.np,p.fp⟩
end
theorem cH{D:Dr}{nm:Str}{a l:Int}(h:D.kn=[]):Zt nm D (some (a,l))={D with kn:=[(nm,⟨a,l,none⟩)]}:=by
 show({D with kn:=qV D.kn nm ⟨a,l,none⟩}:Dr)=_
 rw[h];rfl
end L3
namespace Lw
open PySem L2 L3
section
variable{P:Program}{w:World}{K:Frag}{mg:Str->Option Value}{base:Heap}{tk:Nat->Tok}{C:Addr}
theorem c9(a:At K mg "_law_far_right" Zk ["_law_box_here"])(T:Txt K mg tk)(U:DCx K C)(xV:Mi P w K mg base C "Door" ["self","table","keys","near","far","most"] 1 (c7 K C))(dA:Df P w K mg base "_law_take" ["_law_box_here","_law_many"] 1 Za)(dU:Df P w K mg base "_law_table" ["_law_box_here"] 2 ef)(xD:Df P w K mg base "_law_key" ["_law_box_here"] 2 gi)(dR:Df P w K mg base "_law_model" ["_law_near","_law_far","_law_keys"] 1 gr)(dY:Df P w K mg base "_law_learnt" ["_law_code","_law_pair_here","_law_name","_law_told"] 8 (aa K C))(dP:Df P w K mg base "brought" ["one","other"] 6 (aS K C))(yE:∀n:Nat,n<=8->Df P w K mg base "_law_alike" ["_law_found","_law_due_here"] (n+1) (sS n)):Df P w K mg base "_law_far_right" ["_law_box_here"] 9 fE:=by
 have dI:=yE 3 (by decide)
 refine a.dq sc_law_far_right (fun vs H Q E h=>?_) (fun f cdv A outer s H vs Q E hr h=>?_)
 ·obtain⟨_,_,rfl,_⟩:=h
  rfl
 ·obtain⟨b,c,rfl,hb,hc,q⟩:=h
  refine⟨_,(qe (qC (i:=1) sc_law_far_right.nd rfl (Or.inr rfl) (qx (qc (qq dU hr.mo (qc (qv 0) qb)) (qc (qM qT (by rfl) T.b_tuple JD (qc (zU (own:=["_law_k"]) (fr:=["_law_box_here"]) (js:=[0]) rfl (zy rfl T.b_range (qc qf qb)) rfl (kj rfl) rfl (jz rfl (by decide +kernel) (by decide +kernel) (by decide +kernel) rfl rfl rfl) (fun _ _ _ _=>qh (i:=0) (show List.Nodup (["_law_k","_law_box_here"]:List Str)from by decide +kernel) rfl (Or.inl rfl) (.inr rfl)) (fun _ _ _ _=>(Qb Q9 (qq xD hr.mo (qc (qv 1) qb)) Qp (Qo qf)))) qb)) qb))))
   (qe (qC (i:=2) sc_law_far_right.nd rfl (Or.inr rfl) (qw qH qf (qq dA hr.mo (qc (qv 0) (qc qf qb)))))
   (qe (cK (i:=3) sc_law_far_right.nd rfl (Or.inl rfl) (own:=["_law_place"]) (fr:=["_law_far","_law_code"]) (js:=[2,1]) rfl (zy rfl T.b_range (qc qf qb)) rfl (tR rfl rfl) rfl (tO rfl (by decide +kernel) (by decide +kernel) (by decide +kernel) rfl rfl rfl rfl rfl rfl) (fun _ _ _ _=>qh (i:=0) (show List.Nodup (["_law_place","_law_far","_law_code"]:List Str)from by decide +kernel) rfl (Or.inl rfl) (.inr rfl)) (fun _ _ _ _=>(qx (qc (lQ xV hr.mo (qc (qy (gd (K:=K) rfl) (qv 2) qf (fun _ _=>rfl)) (qc (qy (gd (K:=K) rfl) (qv 2) qf (fun _ _=>rfl)) (qc (qw qH qf (qw Qm qf (qv 0))) (qc (qv 1) (qc qf qb)))))) (qc (qq dR hr.mo (qc (qw qH qf (qw Qm qf (qv 0))) (qc (qv 1) (qc qf qb)))) qb)))))
   (qe (i7 (i:=4) (j:=5) rfl sc_law_far_right.nd rfl rfl (by decide) rfl rfl (qc (qw qH qf (qq dA hr.mo (qc (qv 0) (qc qf qb)))) (qc (qw qH qf (qq dA hr.mo (qc (qv 0) (qc qf qb)))) qb)))
   (qe (i7 (i:=6) (j:=7) rfl sc_law_far_right.nd rfl rfl (by decide) rfl rfl (qc (qy qF (qS (qc (qx (qc qf (qc qf qb))) (qc (qx (qc qf (qc qf qb))) qb))) (qq dA hr.mo (qc (qv 0) (qc qf qb))) (fun _ _=>rfl)) (qc (qq dA hr.mo (qc (qv 0) (qc qf qb))) qb)))
   (qe (qC (i:=8) sc_law_far_right.nd rfl (Or.inl rfl) (qS (qc (qx (qc (qy qI (qv 6) qf (fun _ _=>rfl)) (qc (qv 4) qb))) (qc (qx (qc (qy qI (qv 6) qf (fun _ _=>rfl)) (qc (qw qH (qv 4) (qv 5)) qb))) qb))))
   (qe (qC (i:=9) sc_law_far_right.nd rfl (Or.inl rfl) (qx (qc (qx (qc qz (qc (qw qH (qw zG (qw qH (qv 4) (qv 5)) qf) (qM cq (by rfl) T.b_int B5 (qc (zf nQ (qy qI (qv 6) qf (fun _ _=>rfl)) (qy qI (qv 6) qf (fun _ _=>rfl)) (qA _)) qb))) qb))) qb)))
   (qe (qJ (qE zp (qv 7) qf (qA _)) (qg (zb (oO BQ PySem.F.slot_list_reverse PySem.F.type_list_reverse fG (qv 8)))) qB)
   (qe (zb (qq dY hr.mo (qc (qv 1) (qc (qv 3) (qc qz (qc (qv 8) qb))))))
   (qg (qu (qq dI hr.mo (qc (qS (qc (qq dP hr.mo (qc (qy qI (qy qF (qv 3) qf (fun _ _=>rfl)) qf (fun _ _=>rfl)) (qc (qy qI (qy qF (qv 3) qf (fun _ _=>rfl)) qf (fun _ _=>rfl)) qb))) (qc (qq dP hr.mo (qc (qy qI (qy qF (qv 3) qf (fun _ _=>rfl)) qf (fun _ _=>rfl)) (qc (qy qI (qy qF (qv 3) qf (fun _ _=>rfl)) qf (fun _ _=>rfl)) qb))) qb))) (qc (qS (qc (qv 9) (qc (qv 9) qb))) qb)))))))))))))),?_⟩
  refine⟨_,rfl,b,c,rfl,hb,by omega,fun tb t H1 g1 ftb etb tp=>?_⟩
  have ntb:tb≠b:=fun z=>by obtain⟨_,_,_,e,_⟩:=hb;rw[z,e]at ftb;cases ftb
  refine⟨_,rfl,by decide,by decide,?_⟩
  refine QL (n:=2) (by decide) (fun i ys Hx=>GrC b (c+16+9*i) H Hx/\Hx tb=some (.tup (t.map V.int))/\∃(as:List Addr) (kss:List (List Int)),ys=as.map V.ref/\as.length=i/\kss.length=i/\∀(j:Nat) (x:Addr) (z:List Int),as[j]? =some x->kss[j]? =some z->Hx x=some (.tup (z.map V.int))) ⟨g1,etb,[],[],rfl,rfl,rfl,fun j x z e=>by cases e⟩ ?_ ?_
  ·rintro i ys Hx hi hyl ⟨G,et,as,kss,rfl,lA,lK,hks⟩
   refine⟨_,rfl,b,c+16+9*i,rfl,G.bx,by omega,fun p ks H2 g2 fp ep dk l1 l8=>⟨_,rfl,p,_,rfl,ep,fun y H3 s3 hy _=>?_⟩⟩
   rw[ZY]at hy;have kp:∀{x:Addr} {xs:List V},Hx x=some (.tup xs)->H3 x=some (.tup xs):=fun{x xs} e=>s3 _ _ (g2.kp _ _ (fun z=>by obtain⟨_,_,_,eb,_⟩:=G.bx;rw[z,eb]at e;cases e) e)
   refine⟨((G.trans g2).same s3).mono (by omega),kp et,as++[y],kss++[ZF ks none (some 2)],by simp,by simp [lA],by simp [lK],fun j x z e1 e2=>?_⟩
   by_cases hj:j<as.length
   ·rw[J0 hj]at e1
    rw[J0 (by omega)]at e2
    exact kp (hks j x z e1 e2)
   ·rw[JX (by omega)]at e1
    rw[JX (by omega)]at e2
    cases ej:j-as.length with
    |zero=>rw[ej]at e1;rw[show j-kss.length=0 by omega]at e2;cases e1;cases e2;exact hy
    |succ k=>rw[ej]at e1;cases e1
  rintro ys Hx hyl ⟨G,et,as,kss,rfl,lA,lK,hks⟩ l0 hl0
  refine⟨l0,_,rfl,.inl ⟨SqL.of qd,fun kt hkt=>⟨by show 2<=sizeLine;decide,fun cd hcd=>?_⟩⟩⟩
  have u1:=Same.upd (o:= .lst (as.map V.ref)) hl0
  have u2:=Same.upd (o:= .tup (as.map V.ref)) hkt
  have u3:=Same.upd (o:= .tup [.ref tb,.ref kt]) hcd
  have S3:=(u1.trans u2).trans u3;have lAK:as.length=kss.length:=by rw[lA,lK]
  have hC:CdAt (upd (upd (upd Hx l0 (.lst (as.map V.ref))) kt (.tup (as.map V.ref))) cd (.tup [.ref tb,.ref kt])) cd tb kt t kss:=⟨qd,.inl (S3 _ _ et),as,.inl (.inl (u3 _ _ qd)),lAK,fun j x z e1 e2=> .inl (.inl (S3 _ _ (hks j x z e1 e2)))⟩
  have G3:=G.same S3;generalize upd (upd (upd Hx l0 (.lst (as.map V.ref))) kt (.tup (as.map V.ref))) cd (.tup [.ref tb,.ref kt])=H3 at *
  clear hks et u1 u2 u3 hl0 hkt hcd S3;refine⟨_,rfl,b,125,_,rfl,G3.bx,by omega,by decide,by decide,fun r H4 r0 r1 g4=>⟨_,_,rfl,rfl,?_⟩⟩
  have G4:=G3.trans g4;have hC4:=hC.mv (S:=[b]) (fun c o h e=>g4.kp c o (fun z=>h (Jg.mpr z)) e) (qX G3.bx)
  have b0':H b≠none:=fun z=>by obtain⟨_,_,_,e,_⟩:=hb;rw[z]at e;cases e
  have pq0:Pq K C H H4 b _ []:=⟨fun c o h e=>G4.kp c o (fun z=>h (Jg.mpr z)) e,G4.bx,b0',(fun i x h=>by cases h),(fun i j x y _ h=>by cases h),(fun i x h=>by cases h)⟩
  refine⟨_,rfl,by decide,by decide,?_⟩
  have cmulS:∀i:Nat,i<2->CMul 62 (0+(i:Int)):=fun i hi=> .inl ⟨by decide,by decide⟩
  refine QL (n:=2) (by decide) (fun i ys Hy=>∃xs,Pq K C H Hy b (c+16+9*2+1) xs/\xs.length=i/\ys=(xs.map fun x=>V.ref x.1.e)/\(∀(j:Nat) (x:En),xs[j]? =some x->x.2.1=⟨t,kss,1+62*(j:Int),900+r,3,0,[]⟩/\x.2.2=[])/\CdAt Hy cd tb kt t kss) ⟨[],pq0,rfl,rfl,(fun i x h=>by cases h),hC4⟩ ?_ ?_
  ·rintro i ys Hy hi hyl ⟨xs,pq,lx,rfl,hxs,hCy⟩
   refine⟨_,rfl,cd,_,_,_,rfl,rfl,SqT.of hCy.e,rfl,_,rfl,cd,_,_,_,rfl,rfl,SqT.of hCy.e,rfl,_,rfl,_,_,rfl,rfl,cmulS i hi,_,_,rfl,rfl,_,rfl,fun x dx nx ndx nex=>?_⟩
   have sJ:Same Hy (upd (upd Hy dx (.own x)) x (.ins C dx [])):=(Same.upd ndx).trans (Same.upd (by rw[qp nex.symm];exact nx))
   refine⟨x,tb,kt,dx,1+62*(0+(i:Int)),900+r,3,t,kss,rfl,qd,.inr (.inl (Rd.same sJ hCy.tb)),hCy.ks.same sJ,by omega,fun ta hk bd' lg H2 h1 h2 h3 mv dr' kr=>⟨rfl,?_⟩⟩
   have sK:Same Hy H2:=fun c o e=>mv c o (qR (qi e nx)) (sJ c o e)
   rw[Int.zero_add]at dr';have dl:DlAt K C H2 ⟨x,ta,hk,bd',lg⟩ ⟨t,kss,1+62*(i:Int),900+r,3,0,[]⟩ []:=DoorAt.dl dr' kr
   have fz:∀z∈dS ⟨x,ta,hk,bd',lg⟩,Hy z=none:=fun z hz=>by
    rcases rJ hz with rfl|rfl|rfl|rfl
    ·exact nx
    ·exact QM h1 sJ
    ·exact QM h2 sJ
    ·exact QM h3 sJ
   refine⟨_,rfl,_,_,rfl,rfl,cmulS i hi,_,_,rfl,rfl,_,rfl,⟨t,kss,1+62*(i:Int),900+r,3,0,[]⟩,by rw[Int.zero_add,lK];rfl,rfl,rfl,fun m kd H6 s6 fm fkd md=>⟨by show 2<=sizeLine;decide,fun e he=>?_⟩⟩
   have u7:=Same.upd (o:= .tup [.ref x,.ref m]) he
   have S7:=(sK.trans s6).trans u7;obtain⟨f0,ebd,_⟩:=id dl.dr.kb;have ent:Ent K C (upd H6 e (.tup [.ref x,.ref m])) ⟨e,⟨x,ta,hk,bd',lg⟩,m,kd⟩ ⟨t,kss,1+62*(i:Int),900+r,3,0,[]⟩ [] ⟨t,kss,1+62*(i:Int),900+r,3,0,[]⟩:=⟨qd,(dl.same s6).same u7,md.same u7,(qi ebd fm).symm,(qi ebd fkd).symm⟩
   have fe:∀z∈eS ⟨e,⟨x,ta,hk,bd',lg⟩,m,kd⟩,Hy z=none:=fun z hz=>by
    rcases jn hz with hz|rfl|rfl
    ·exact fz z hz
    ·exact QM fm sK
    ·exact QM fkd sK
   refine⟨xs++[(⟨e,⟨x,ta,hk,bd',lg⟩,m,kd⟩,⟨t,kss,1+62*(i:Int),900+r,3,0,[]⟩,[])],pq.add S7 ent fe,by simp [lx],by simp,fun j y hy=>?_,hCy.same S7⟩
   by_cases hj:j<xs.length
   ·rw[J0 hj]at hy;exact hxs j y hy
   ·rw[JX (by omega)]at hy
    cases ej:j-xs.length with
    |succ k=>rw[ej]at hy;cases hy
    |zero=>
     rw[ej]at hy;cases hy
     obtain rfl:j=i:=by omega
     exact⟨rfl,rfl⟩
  rintro ys Hy hyl ⟨xs,pq,lx,rfl,hxs,hCy⟩ pl hpl
  have pw:=pq.pw hpl;have hC5:=hCy.same (Same.upd (o:= .lst (xs.map fun x=>V.ref x.1.e)) hpl)
  generalize upd Hy pl (.lst (xs.map fun x=>V.ref x.1.e))=H5 at *
  have bx5:=pw.bx;refine⟨_,rfl,b,3000,_,rfl,bx5,by omega,by decide,by decide,fun r2 H6 r20 r21 g6=>⟨_,_,rfl,rfl,_,rfl,b,825,_,rfl,g6.bx,by omega,by decide,by decide,fun r3 H7 r30 r31 g7=>⟨_,_,rfl,rfl,_,_,rfl,?_⟩⟩⟩
  have pw7:=(pw.grc g6).grc g7;have M7:Mv [b] H5 H7:=fun c o h e=>g7.kp _ _ (fun z=>h (Jg.mpr z)) (g6.kp _ _ (fun z=>h (Jg.mpr z)) e)
  have hC7:=hC5.mv M7 (qX pw.bx);obtain⟨l,el⟩:∃l:Int,l=1+r2:=⟨_,rfl⟩
  obtain⟨m,em⟩:∃m:Int,m=70+r3:=⟨_,rfl⟩
  refine⟨by show 2<=sizeLine;decide,fun q1 hq1=>⟨by show 2<=sizeLine;decide,fun q2 hq2=>⟨by show 2<=sizeLine;decide,fun ql hql=>?_⟩⟩⟩
  have w1:=Same.upd (o:= .tup [.int 0,.int 0]) hq1
  have w2:=Same.upd (o:= .tup [.int 1,.int 0]) hq2
  have w3:=Same.upd (o:= .lst [.ref q1,.ref q2]) hql
  have W:=(w1.trans w2).trans w3;have z1:=w3 _ _ (w2 _ _ (qd (H:=H7) (a:=q1) (o:= .tup [.int 0,.int 0])))
  have z2:=w3 _ _ (qd (H:=upd H7 q1 (.tup [.int 0,.int 0])) (a:=q2) (o:= .tup [.int 1,.int 0]))
  have zl:=qd (H:=upd (upd H7 q1 (.tup [.int 0,.int 0])) q2 (.tup [.int 1,.int 0])) (a:=ql) (o:= .lst [.ref q1,.ref q2])
  have pw8:=pw7.same W;have hC8:=hC7.same W;have nql:=qP (pw7.same (w1.trans w2)).bx hql;generalize upd (upd (upd H7 q1 (.tup [.int 0,.int 0])) q2 (.tup [.int 1,.int 0])) ql (.lst [.ref q1,.ref q2])=H8 at *
  refine⟨_,rfl,b,2,_,rfl,pw8.bx,by omega,by decide,by decide,fun r4 H9 r40 r41 g9=>?_⟩
  obtain⟨v,hv,hvm⟩:=Qr (xs:=[V.ref q1,.ref q2]) r40 r41
  obtain⟨aq,a0,rfl,eaq,ha0⟩:∃(aq:Addr) (a0:Int),v= .ref aq/\H8 aq=some (.tup [.int a0,.int 0])/\(a0=0\/a0=1):=by
   simp only[Jj,Jp,Jq]at hvm;rcases hvm with rfl|rfl
   ·exact⟨q1,0,rfl,z1,.inl rfl⟩
   ·exact⟨q2,1,rfl,z2,.inr rfl⟩
  have M9:Mv [b] H8 H9:=fun c o h e=>g9.kp c o (fun z=>h (Jg.mpr z)) e
  have N8:=qX pw8.bx;refine⟨ql,_,_,_,rfl,rfl,SqL.of (g9.kp _ _ nql zl),hv,_,rfl,b,2,_,rfl,g9.bx,by omega,by decide,by decide,fun r5 Ha r50 r51 ga=>⟨_,_,rfl,?_⟩⟩
  have pwa:=(pw8.grc g9).grc ga;have Ma:Mv [b] H8 Ha:=fun c o h e=>ga.kp _ _ (fun z=>h (Jg.mpr z)) (g9.kp _ _ (fun z=>h (Jg.mpr z)) e)
  have hCa:=hC8.mv Ma N8;have eaa:=Ma.tup N8 eaq;refine⟨_,rfl,aq,_,_,_,rfl,rfl,SqT.of eaa,rfl,_,rfl,by show 2<=sizeLine;decide,fun t1 ht1=>?_⟩
  have v1:=Same.upd (o:= .tup [.int a0,.int (1+r2)]) ht1
  refine⟨_,rfl,aq,_,_,_,rfl,rfl,SqT.of (v1 _ _ eaa),rfl,_,rfl,_,rfl,_,_,rfl,rfl,by show 2<=sizeLine;decide,fun t2 ht2=>⟨by show 2<=sizeLine;decide,fun tl htl=>?_⟩⟩
  have v2:=Same.upd (o:= .tup [.int 0,.int (1+r2+(70+r3))]) ht2
  have v3:=Same.upd (o:= .lst [.ref t1,.ref t2]) htl
  have V3:=(v1.trans v2).trans v3;have et1:=v3 _ _ (v2 _ _ (qd (H:=Ha) (a:=t1) (o:= .tup [.int a0,.int (1+r2)])))
  have et2:=v3 _ _ (qd (H:=upd Ha t1 (.tup [.int a0,.int (1+r2)])) (a:=t2) (o:= .tup [.int 0,.int (1+r2+(70+r3))]))
  have etl:=qd (H:=upd (upd Ha t1 (.tup [.int a0,.int (1+r2)])) t2 (.tup [.int 0,.int (1+r2+(70+r3))])) (a:=tl) (o:= .lst [.ref t1,.ref t2])
  have eab:=V3 _ _ eaa;have pwb:=pwa.same V3;have hCb:=hCa.same V3;have ntp:tl≠pl:=fun z=>by rw[z,(pwa.same (v1.trans v2)).pe]at htl;cases htl
  have ntb':tl≠b:=qP (pwa.same (v1.trans v2)).bx htl
  have ftl:H tl=none:=by
   cases e:H tl with
   |none=>rfl
   |some o=>have:=(pwa.same (v1.trans v2)).s tl o (qR ntb') e;rw[htl]at this;cases this
  have ntl:tl∉[b]/\∀(i:Nat) (x:En),xs[i]? =some x->tl∉eS x.1:=⟨qR (qP (pwa.same (v1.trans v2)).bx htl),fun i x hx z=>((pwa.same (v1.trans v2)).en i x hx).some z htl⟩
  generalize upd (upd (upd Ha t1 (.tup [.int a0,.int (1+r2)])) t2 (.tup [.int 0,.int (1+r2+(70+r3))])) tl (.lst [.ref t1,.ref t2])=Hb at *
  refine⟨_,rfl,_,rfl,_,_,rfl,rfl,_,_,rfl,rfl,_,rfl,aq,_,_,_,rfl,rfl,SqT.of eab,rfl,_,rfl,aq,_,_,_,rfl,rfl,SqT.of eab,rfl,_,_,rfl,rfl,.inr ⟨_,rfl,_,_,rfl,rfl,by show 2<=sizeLine;decide,fun d1 hd1=>⟨by show 1<=sizeLine;decide,fun du hdu=>?_⟩⟩⟩
  obtain⟨L,eL⟩:∃L:Int,L=1+r2+(70+r3):=⟨_,rfl⟩
  obtain⟨N,eN⟩:∃N:Int,N=1+r2+(70+r3)-1+(if decide (a0>0)=true then 1 else 0):=⟨_,rfl⟩
  have x1:=Same.upd (o:= .tup [.str "w",.int (1+r2+(70+r3)-1+(if decide (a0>0)=true then 1 else 0))]) hd1
  have x2:=Same.upd (o:= .tup [.ref d1]) hdu
  have X2:=x1.trans x2;have ed1:=x2 _ _ (qd (H:=Hb) (a:=d1) (o:= .tup [.str "w",.int (1+r2+(70+r3)-1+(if decide (a0>0)=true then 1 else 0))]))
  have edu:=qd (H:=upd Hb d1 (.tup [.str "w",.int (1+r2+(70+r3)-1+(if decide (a0>0)=true then 1 else 0))])) (a:=du) (o:= .tup [.ref d1])
  have pwc:=pwb.same X2;have hCc:=hCb.same X2;have etl':=X2 _ _ etl;have et1':=X2 _ _ et1;have et2':=X2 _ _ et2;generalize upd (upd Hb d1 (.tup [.str "w",.int (1+r2+(70+r3)-1+(if decide (a0>0)=true then 1 else 0))])) du (.tup [.ref d1])=Hc at *
  refine bg (fun σ' H'=>∃os:List (Option (Int×Int)),(os=[some (a0,1+r2),some (0,1+r2+(70+r3))]\/os=[some (0,1+r2+(70+r3)),some (a0,1+r2)])/\Pw K C H H' b (c+16+9*2+1+1+1+1+1) pl xs/\CdAt H' cd tb kt t kss/\OlAt H' tl os/\H' d1=some (.tup [.str "w",.int N])/\H' du=some (.tup [.ref d1])/\∃o2 o4 o5 o6 o7,σ'=[some (.ref b),some (.ref cd),o2,some (.ref pl),o4,o5,o6,o7,some (.ref tl),some (.ref du)]) (fun D' hrt hnx=>?_) ?_
  ·refine⟨_,rfl,rfl,_,rfl,q9 (fun _=>?_) (fun _=>?_)⟩
   ·refine⟨_,rfl,.inl ⟨rfl,_,SqL.of etl'⟩,tl,_,rfl,rfl,etl',hnx _ _ ?_⟩
    have mt:Mv [tl] Hc (upd Hc tl (.lst [.ref t2,.ref t1])):=Mv.upd1
    have ntt:NT [tl] Hc:=NT.one etl' trivial
    refine⟨_,.inr rfl,pwc.off mt ntt ntl.2 ntb' ntp ftl,hCc.mv mt ntt,OlAt.two qd ⟨t2,rfl,mt.tup ntt et2'⟩ ⟨t1,rfl,mt.tup ntt et1'⟩,by rw[eN];exact mt.tup ntt ed1,mt.tup ntt edu,_,_,_,_,_,rfl⟩
   ·refine hnx _ _ ⟨_,.inl rfl,pwc,hCc,OlAt.two etl' ⟨t1,rfl,et1'⟩ ⟨t2,rfl,et2'⟩,by rw[eN];exact ed1,edu,_,_,_,_,_,rfl⟩
  ·rintro σ' Hd ⟨os,hos,pwd,hCd,ol,ed1d,edud,o2,o4,o5,o6,o7,rfl⟩
   have dOf:∀(i:Nat) (x:En),xs[i]? =some x->DrOk x.2.1/\x.2.1.t=t/\x.2.1.kss=kss/\x.2.1.kn=[]/\x.2.1.least=0/\x.2.1.most=3/\x.2.1.near=1+62*(i:Int)/\x.2.1.far=900+r:=fun i x hx=>by
    rw[(hxs i x hx).1]
    exact⟨⟨tp,Cz _,by show kss.length<=8;omega,JC _,CI⟩,rfl,rfl,rfl,rfl,rfl,rfl,rfl⟩
   have lx2:xs.length=2:=lx
   have los:os.length=2:=by rcases hos with rfl|rfl<;>rfl
   have hnw:zT "w":=⟨by decide +kernel,by decide +kernel,by decide +kernel⟩
   have a01:0<=a0/\a0<2:=by rcases ha0 with rfl|rfl<;>decide
   refine⟨_,rfl,_,rfl,_,rfl,cd,tb,kt,pl,tl,b,_,H,t,kss,xs,"w",os,rfl,pwd,lx2,hCd,hnw,ol,los,ntl.2,fun i x hx=>?_,fun a l hm=>?_,fun He xs' pwe hCe st tps=>?_⟩
   ·obtain⟨d1',d2',d3',d4',d5',d6',_⟩:=dOf i x hx
    refine⟨⟨d1',d2',d3',by rw[d4',d6'];decide⟩,fun a l e=>?_,by rw[d4'];rfl,by rw[d4'];exact JC _,by rw[(hxs i x hx).2];exact JC _⟩
    rw[d5'];rcases hos with rfl|rfl
    ·match i,e with
     |0,e=>cases e;exact a01.1
     |1,e=>cases e;exact Cz _
     |i+2,e=>cases e
    ·match i,e with
     |0,e=>cases e;exact Cz _
     |1,e=>cases e;exact a01.1
     |i+2,e=>cases e
   ·have hk:(kss.length:Int)=2:=by rw[lK];rfl
    rcases hos with rfl|rfl<;>(simp only[Jj,Jp,Jq,Option.some.injEq,Prod.mk.injEq]at hm;rcases hm with⟨rfl,rfl⟩|⟨rfl,rfl⟩)<;>(refine⟨?_,?_,?_,?_⟩<;>omega)
   obtain⟨x0,x1,rfl⟩:=rq lx2;obtain⟨L0,f0,_⟩:=st.2 0 x0 rfl;obtain⟨L1,f1,_⟩:=st.2 1 x1 rfl;obtain⟨p1',p2',p3',p4',p5',p6',p7',p8'⟩:=dOf 0 x0 rfl;obtain⟨s1',s2',s3',s4',s5',s6',s7',s8'⟩:=dOf 1 x1 rfl;have hk:(kss.length:Int)=2:=by rw[lK];rfl
   obtain⟨e0,e1,hE0,hE1,hne,hcn⟩:∃e0 e1:Kb,Zt "w" x0.2.1 (os.getD 0 none)={x0.2.1 with kn:=[("w",e0)]}/\Zt "w" x1.2.1 (os.getD 1 none)={x1.2.1 with kn:=[("w",e1)]}/\(e0.last≠e1.last/\0<=e0.last/\e0.last<4096/\0<=e1.last/\e1.last<4096)/\zS {x0.2.1 with kn:=[("w",e0)]} e0 {x1.2.1 with kn:=[("w",e1)]} e1=some N:=by
    have tkk:∀(D:Dr) (kn:Kw) (e:Kb),D.least=0->D.kss=kss->e.age<=a0->qY {D with kn:=kn} e a0=true:=fun D kn e h1 h2 h3=>by
     unfold qY Zh
     show(decide (D.least<=a0)&&decide (a0<(D.kss.length:Int))&&decide (e.age<=a0))=true
     rw[h1,h2,hk,Jk a01.1,Jk a01.2,Jk h3];rfl
    have nN:N=1+r2+(70+r3)-1+if 0<a0 then 1 else 0:=by
     rw[eN];congr 1
     by_cases z:0<a0
     ·rw[Jd (Jk z),Jd z]
     ·rw[Jc (by simpa using z),Jc z]
    rcases hos with rfl|rfl
    ·refine⟨⟨a0,1+r2,none⟩,⟨0,1+r2+(70+r3),none⟩,cH p4',cH s4',⟨by show 1+r2≠1+r2+(70+r3);omega,by show 0<=1+r2;omega,by show 1+r2<4096;omega,by show 0<=1+r2+(70+r3);omega,by show 1+r2+(70+r3)<4096;omega⟩,?_⟩
     rw[nN];exact mw a01.1 (tkk _ _ _ p5' p3' (Cz _)) (tkk _ _ _ s5' s3' a01.1) (by show 1<=x0.2.1.near;omega) (by show x0.2.1.near<=63;omega) (by show 1<=x1.2.1.near;omega) (by show 900<=x0.2.1.far;omega) (by show 900<=x1.2.1.far;omega) (by omega) (by omega) (by omega)
    ·refine⟨⟨0,1+r2+(70+r3),none⟩,⟨a0,1+r2,none⟩,cH p4',cH s4',⟨by show 1+r2+(70+r3)≠1+r2;omega,by show 0<=1+r2+(70+r3);omega,by show 1+r2+(70+r3)<4096;omega,by show 0<=1+r2;omega,by show 1+r2<4096;omega⟩,?_⟩
     rw[nN,eu];exact mw a01.1 (tkk _ _ _ s5' s3' (Cz _)) (tkk _ _ _ p5' p3' a01.1) (by show 1<=x1.2.1.near;omega) (by show x1.2.1.near<=63;omega) (by show 1<=x0.2.1.near;omega) (by show 900<=x1.2.1.far;omega) (by show 900<=x0.2.1.far;omega) (by omega) (by omega) (by omega)
   have f0:xs'[0]? =some (x0.1,Zt "w" x0.2.1 (os.getD 0 none),L0):=f0
   have f1:xs'[1]? =some (x1.1,Zt "w" x1.2.1 (os.getD 1 none),L1):=f1
   rw[hE0]at f0;rw[hE1]at f1;have en0:=pwe.en 0 _ f0;have en1:=pwe.en 1 _ f1;have at0:=pwe.at f0;have at1:=pwe.at f1;simp only at en0 en1
   have ok0:DrOk {x0.2.1 with kn:=[(("w":Str),e0)]}:=⟨p1'.tp,p1'.l0,p1'.kl,by show 1<=60;decide,BN.mpr ⟨Jp,CI⟩⟩
   have ok1:DrOk {x1.2.1 with kn:=[(("w":Str),e1)]}:=⟨s1'.tp,s1'.l0,s1'.kl,by show 1<=60;decide,BN.mpr ⟨Jp,CI⟩⟩
   have look1:∀{e e':Kb} {nm:Str},List.lookup nm [(("w":Str),e)]=some e'->e'=e:=fun{e e' nm} h=>by
    have hm:=zI h;rw[Jg]at hm;injection hm
   have cb0:∀nm e,List.lookup nm [(("w":Str),e0)]=some e->CbOk {x0.2.1 with kn:=[(("w":Str),e0)]} e:=fun nm e h=>by
    rw[look1 h];exact⟨hne.2.1,hne.2.2.1,by show 0<=x0.2.1.far;omega,by show x0.2.1.far<=2000;omega⟩
   have cb1:∀nm e,List.lookup nm [(("w":Str),e1)]=some e->CbOk {x1.2.1 with kn:=[(("w":Str),e1)]} e:=fun nm e h=>by
    rw[look1 h];exact⟨hne.2.2.2.1,hne.2.2.2.2,by show 0<=x1.2.1.far;omega,by show x1.2.1.far<=2000;omega⟩
   have bq:∀{cs:List Str} {e e':Kb},cs.Nodup->(∀k,k∈cs↔k∈[(("w":Str),e)].map (·.1)/\k∈[(("w":Str),e')].map (·.1))->cs=[("w":Str)]:=fun{cs e e'} nd mem=>tz nd fun k=>by
    rw[mem]
    show(k∈[("w":Str)]/\k∈[("w":Str)])↔k="w"
    rw[Jg]
    exact⟨fun z=>z.1,fun z=>⟨z,z⟩⟩
   refine⟨_,rfl,pl,_,_,_,rfl,rfl,SqL.of pwe.pe,at0,x0.1.e,_,_,_,rfl,rfl,SqT.of en0.tu,rfl,_,rfl,pl,_,_,_,rfl,rfl,SqL.of pwe.pe,at1,x1.1.e,_,_,_,rfl,rfl,SqT.of en1.tu,rfl,x0.1.a.p,x0.1.a.ta,x0.1.a.hk,x0.1.a.bd,x0.1.a.lg,_,_,x1.1.a.p,x1.1.a.ta,x1.1.a.hk,x1.1.a.bd,x1.1.a.lg,_,_,rfl,en0.dl.dr,en1.dl.dr,ok0,ok1,cb0,cb1,fun b1 cs1 Hf sf nd1 mem1 so1 br1=>?_⟩
   have pwf:=pwe.same sf;have en0f:=en0.same sf;have en1f:=en1.same sf;refine⟨_,rfl,pl,_,_,_,rfl,rfl,SqL.of pwf.pe,at1,x1.1.e,_,_,_,rfl,rfl,SqT.of en1f.tu,rfl,_,rfl,pl,_,_,_,rfl,rfl,SqL.of pwf.pe,at0,x0.1.e,_,_,_,rfl,rfl,SqT.of en0f.tu,rfl,x1.1.a.p,x1.1.a.ta,x1.1.a.hk,x1.1.a.bd,x1.1.a.lg,_,_,x0.1.a.p,x0.1.a.ta,x0.1.a.hk,x0.1.a.bd,x0.1.a.lg,_,_,rfl,en1f.dl.dr,en0f.dl.dr,ok1,ok0,cb1,cb0,fun b2 cs2 Hg sg nd2 mem2 so2 br2=>?_⟩
   rw[bq nd1 mem1,rM rfl rfl hne.1,hcn]at br1;rw[bq nd2 mem2,rM rfl rfl (Ne.symm hne.1),eu,hcn]at br2;refine⟨by show 2<=sizeLine;decide,fun la hla=>⟨_,rfl,_,rfl,by show 2<=sizeLine;decide,fun lb hlb=>?_⟩⟩
   have ua:=Same.upd (o:= .lst [.ref b1,.ref b2]) hla
   have ub:=Same.upd (o:= .lst [.ref du,.ref du]) hlb
   have S:=((sf.trans sg).trans ua).trans ub;have bd:BrT He du [(("w":Str),some N)]:=⟨[d1],tps _ _ edud,rfl,fun i a z h1 h2=>by
    match i,h1,h2 with
    |0,h1,h2=>cases h1;cases h2;exact tps _ _ ed1d⟩
   refine⟨_,_,rfl,BrT.both ((br1.same sg).same (ua.trans ub)) (br2.same (ua.trans ub)) (bd.same S) (ub _ _ qd) qd (by show 1<=100;decide),fun Hz sz=>q Hz (pwe.s.trans (S.trans sz).mv)⟩
end
end Lw
namespace L3
open PySem PySem.Spec PyProof.Rows L2
section
variable{K:Frag}{C:Addr}{H0 H H':Hp}{b:Addr}{c c':Nat}{pl z:Addr}{xs:List En}{o:HO}
theorem Pw.keep(p:Pw K C H0 H b c pl xs)(hz:H z=some o)(h1:∀(i:Nat) (x:En),xs[i]? =some x->z∉eS x.1)(h2:z≠b)(h3:z≠pl):Pw K C (upd H0 z o) H b c pl xs:=by
 refine⟨fun a x ha e=>?_,p.bx,?_,p.en,p.dj,fun i x hi a ha=>?_,p.pe,p.np,?_⟩
 ·by_cases w:a=z
  ·subst w;rw[qd]at e;rw[<- e];exact hz
  ·rw[qp w]at e;exact p.s a x ha e
 ·rw[qp h2.symm];exact p.b0
 ·rw[qp (show a≠z from fun w=>h1 i x hi (w▸ha))];exact p.fr i x hi a ha
 ·rw[qp h3.symm];exact p.fp
end
theorem DqOk.learn{t:List Int}{kss:List (List Int)}{base:Int}{nms:List Str}{D:Dr}{nm:Str}{age c:Int}(h:DqOk t kss base nms D)(hn:zT nm)(hl:D.kn.length<=11)(a0:0<=age)(a1:age<kss.length)(c0:1<=c)(c1:c<4096)(b0:base<c)(b1:c<=base+23):DqOk t kss base (nms++[nm]) {D with kn:=qV D.kn nm ⟨age,c,none⟩}:=by
 refine⟨h.dp.learn hn hl a0 a1 c0 c1 b0 b1,fun z hz=>?_,?_⟩
 ·have hz:z∈(qV D.kn nm ⟨age,c,none⟩).map (·.1):=hz
  rw[ZB]at hz;split at hz
  ·exact Ck _ (h.sub z hz)
  ·rcases JO.mp hz with hz|hz
   ·exact Ck _ (h.sub z hz)
   ·exact J2 _ hz
 ·rw[Jx]
  exact JA (eB _ _ _) (Nat.succ_le_succ h.few)
theorem DqOk.more{t:List Int}{kss:List (List Int)}{base:Int}{nms ms:List Str}{D:Dr}(h:DqOk t kss base nms D):DqOk t kss base (nms++ms) D:=⟨h.dp,fun z hz=>Ck _ (h.sub z hz),by rw[Jx];exact JA h.few (Cc _ _)⟩
theorem PrL.ol{H:Hp}{tl:Addr}{zs:List (Int×Int)}(h:PrL H tl zs):OlAt H tl (zs.map some):=by
 obtain⟨as,e,l,r⟩:=h;refine⟨as.map V.ref,e,by rw[Je,Je,l],fun i v o h1 h2=>?_⟩
 rw[Jo]at h1 h2;obtain⟨a,ha,rfl⟩:=BP.mp h1;obtain⟨z,hz,rfl⟩:=BP.mp h2
 exact⟨a,rfl,r i a z ha hz⟩
def yNames:List Str:=["y","yy","yyy"]
theorem oP:∀z∈yNames,zT z:=fun z hz=>by
 simp only[yNames,Jj,Jp,Jq]at hz;rcases hz with rfl|rfl|rfl
 all_goals exact⟨by decide +kernel,by decide +kernel,by decide +kernel⟩
theorem ra:yNames.Nodup:=by decide +kernel
theorem ou:∀z∈yNames,z∉drawNames:=by decide +kernel
theorem getD_some{zs:List (Int×Int)}{i:Nat}{z:Int×Int}(h:(zs.map some).getD i none=some z):zs[i]? =some z:=by
 rw[JF,Jo]at h;cases e:zs[i]? with
 |none=>rw[e]at h;cases h
 |some y=>rw[e]at h;exact h
end L3
namespace Lw
open PySem L2 L3
section
variable{P:Program}{w:World}{K:Frag}{mg:Str->Option Value}{base:Heap}{tk:Nat->Tok}{C:Addr}
theorem Ao{f:Addr}{fd:FuncData}(F:Fun K "law" "law" ZJ f fd)(T:Txt K mg tk)(U:DCx K C)(dC:Mf P w K mg base C "known_now" ["self"] 1 (eI K C))(dJ:Mf P w K mg base C "log_now" ["self"] 1 (pY K C))(xS:Df P w K mg base "_law_box" ["_law_script","_law_k"] 1 (sw K))(dA:Df P w K mg base "_law_take" ["_law_box_here","_law_many"] 1 Za)(xU:Df P w K mg base "_law_drawn" ["_law_box_here"] 2 jN)(xX:Df P w K mg base "_law_pair" ["_law_box_here","_law_drawn_here"] 9 (lY K C))(dY:Df P w K mg base "_law_learnt" ["_law_code","_law_pair_here","_law_name","_law_told"] 8 (aa K C))(dW:Df P w K mg base "_law_heard" ["_law_code","_law_pair_here","_law_plain","_law_places"] 7 (ee K C))(yA:Df P w K mg base "_law_due" ["_law_owns","_law_base"] 4 pv)(dP:Df P w K mg base "brought" ["one","other"] 6 (aS K C))(yE:∀n:Nat,n<=8->Df P w K mg base "_law_alike" ["_law_found","_law_due_here"] (n+1) (sS n))(xF:Df P w K mg base "_law_far_right" ["_law_box_here"] 9 fE):FnOk P w K mg base Z6 10 f fd ["_law_script"] (iT K):=by
 have dI:=yE 3 (by decide)
 refine F.dq sc_law (fun vs H Q E h=>?_) (fun cdv A outer s H vs Q E hr h=>?_)
 ·obtain⟨x,ns,rfl,_⟩:=h
  rfl
 ·obtain⟨sc,ns,rfl,hS,hlen,q⟩:=h
  refine⟨_,(qe (qJ (Qh (zd (qq xF hr.mo (qc (qq xS hr.mo (qc (qv 0) (qc qf qb))) qb)))) (qg (qu Zj)) qB)
   (qe (zi JI rfl (zy rfl T.b_range (qc (qw qH qf (qm qQ (by rfl) T.b_len JY (qc (Qb lG (qv 0) Qp (Qo qf)) qb))) qb)) (qh (i:=1) sc_law.nd rfl (Or.inl rfl))
   (qe (qC (i:=2) sc_law.nd rfl (Or.inr rfl) (qq xS hr.mo (qc (qv 0) (qc (qv 1) qb))))
   (qe (ze (qq xU hr.mo (qc (qv 2) qb)) (zj rfl (qr (qh (i:=3) sc_law.nd rfl (Or.inl rfl)) (qr (qh (i:=4) sc_law.nd rfl (Or.inl rfl)) (qr (qh (i:=5) sc_law.nd rfl (Or.inl rfl)) qN)))))
   (qe (ze (qq xX hr.mo (qc (qv 2) (qc (qx (qc (qv 3) (qc (qv 4) (qc (qv 5) qb)))) qb))) (zj rfl (qr (qh (i:=6) sc_law.nd rfl (Or.inl rfl)) (qr (qh (i:=7) sc_law.nd rfl (Or.inl rfl)) qN))))
   (qe (ki (i:=8) sc_law.nd rfl (Or.inl rfl) (own:=["_law_name"]) (fr:=["_law_box_here"]) (js:=[2]) rfl (zM (qS (qc qz (qc qz (qc qz qb))))) rfl (kj rfl) rfl (jz rfl (by decide +kernel) (by decide +kernel) (by decide +kernel) rfl rfl rfl) (fun _ _ _ _=>qh (i:=0) (show List.Nodup (["_law_name","_law_box_here"]:List Str)from by decide +kernel) rfl (Or.inl rfl) (.inr rfl)) (fun _ _ _ _=>(qE zp (qq dA hr.mo (qc (qv 1) (qc qf qb))) qf (qA _))) (fun _ _ _ _=>(qv 0)))
   (qe (zi JI rfl (zM (qv 8)) (qh (i:=9) sc_law.nd rfl (Or.inl rfl))
   (qe (qC (i:=10) sc_law.nd rfl (Or.inl rfl) (qS qb))
   (qe (zi JI rfl (zM (qv 7)) (zj rfl (qr (qh (i:=11) sc_law.nd rfl (Or.inl rfl)) (qr (qh (i:=12) sc_law.nd rfl (Or.inl rfl)) qN)))
   (qe (qC (i:=13) sc_law.nd rfl (Or.inl rfl) (qw qH (qW hr (qv 12) qz) (qq dA hr.mo (qc (qv 2) (qc (qw zG (qv 4) (qW hr (qv 12) qz)) qb)))))
   (qg (zb (Zz BQ Ci Cj zX (qv 10) (qc (qx (qc (qv 13) (qc (qm (Qj rfl) (by rfl) T.b_min PyProof.Rows.boot_min (qc qf (qc (qw qH (qw qH (qv 5) qf) (qq dA hr.mo (qc (qv 2) (qc qf qb)))) qb))) qb))) qb))))))
   (qg (zb (qq dY hr.mo (qc (qv 6) (qc (qv 7) (qc (qv 9) (qc (qv 10) qb))))))))))
   (qe (zi JI rfl (zy rfl T.b_range (qc (qw Qm (qq dA hr.mo (qc (qv 2) (qc qf qb))) (qm qQ (by rfl) T.b_len JY (qc (qv 8) qb))) qb)) (qh (i:=14) sc_law.nd rfl (Or.inl rfl))
   (qe (qC (i:=13) sc_law.nd rfl (Or.inl rfl) (qq dA hr.mo (qc (qv 2) (qc (qv 4) qb))))
   (qe (qC (i:=15) sc_law.nd rfl (Or.inl rfl) (qx (qc (qy qF (qv 8) (qw zO (qv 14) (qm qQ (by rfl) T.b_len JY (qc (qv 8) qb))) (fun _ _=>rfl)) (qc (qv 13) (qc (qm (Qj rfl) (by rfl) T.b_min PyProof.Rows.boot_min (qc qf (qc (qw qH (qv 5) (qq dA hr.mo (qc (qv 2) (qc qf qb)))) qb))) qb)))))
   (qg (zb (qq dW hr.mo (qc (qv 6) (qc (qv 7) (qc (qv 15) (qc (qy qF (qS (qc (qx (qc qf (qc qf qb))) (qc (qx (qc qf qb)) (qc (qx (qc qf qb)) qb)))) (qq dA hr.mo (qc (qv 2) (qc qf qb))) (fun _ _=>rfl)) qb))))))))))
   (qe (ze (qv 7) (zj rfl (qr (zj rfl (qr (qh (i:=16) sc_law.nd rfl (Or.inl rfl)) (qr (qh (i:=17) sc_law.nd rfl (Or.inl rfl)) qN))) (qr (zj rfl (qr (qh (i:=18) sc_law.nd rfl (Or.inl rfl)) (qr (qh (i:=19) sc_law.nd rfl (Or.inl rfl)) qN))) qN))))
   (qe (qC (i:=20) sc_law.nd rfl (Or.inl rfl) (qx (qc (zF dC U.cl hr.mo (qv 16)) (qc (zF dJ U.cl hr.mo (qv 16)) (qc (zF dC U.cl hr.mo (qv 18)) (qc (zF dJ U.cl hr.mo (qv 18)) qb))))))
   (qe (qC (i:=21) sc_law.nd rfl (Or.inl rfl) (qq yA hr.mo (qc (qS (qc (qv 17) (qc (qv 19) qb))) (qc (qv 5) qb))))
   (qe (qJ (Qh (zd (qq dI hr.mo (qc (qS (qc (qq dP hr.mo (qc (qv 16) (qc (qv 18) qb))) (qc (qq dP hr.mo (qc (qv 18) (qc (qv 16) qb))) qb))) (qc (qS (qc (qv 21) (qc (qv 21) qb))) qb))))) (qg (qu Zj)) qB)
   (qg (qJ (qE (AI hr) (qx (qc (zF dC U.cl hr.mo (qv 16)) (qc (zF dJ U.cl hr.mo (qv 16)) (qc (zF dC U.cl hr.mo (qv 18)) (qc (zF dJ U.cl hr.mo (qv 18)) qb))))) (qv 20) (qA _)) (qg (qu Zj)) qB)))))))))))))
   (qg (qu Zj)))),?_⟩
  refine⟨_,rfl,sc,ns,9,rfl,hS,fun b9 H9 fb9 s9 bx9=>⟨b9,0,rfl,bx9,by decide,fun Hf m9=>⟨_,rfl,zr ?_⟩⟩⟩
  have sf:Same H Hf:=fun c o e=>m9 c o (qR (qi e fb9)) (s9 c o e)
  have hSf:=sf.seq hS;refine⟨_,rfl,_,rfl,sc,_,rfl,hSf,fun l0 hl0=>⟨l0,_,rfl,.inl (SqL.of qd),_,_,rfl,rfl,_,rfl,?_,?_,?_⟩⟩
  ·omega
  ·rw[ZY,Je]
   have:(ZF ns none (some 2)).length<=ns.length:=by unfold ZF;rw[BS,List.length_drop];omega
   omega
  have u0:=Same.upd (o:= .lst (Zq (ns.map V.int) none (some 2))) hl0
  have hS0:=u0.seq hSf;generalize upd Hf l0 (.lst (Zq (ns.map V.int) none (some 2)))=Ha at *
  refine QF (Pv:=fun k σ Hx=>Same Ha Hx/\∃(o1 o2 o3 o4 o5 o6 o7 o8 o9 oa ob oc od oe of og oh oi oj ok ol:Option V),σ=[some (.ref sc),o1,o2,o3,o4,o5,o6,o7,o8,o9,oa,ob,oc,od,oe,of,og,oh,oi,oj,ok,ol]) ⟨Same.refl _,none,none,none,none,none,none,none,none,none,none,none,none,none,none,none,none,none,none,none,none,none,rfl⟩ ?_ ?_
  ·rintro k σ H1 hk ⟨s1,o1,o2,o3,o4,o5,o6,o7,o8,o9,oa,ob,oc,od,oe,of,og,oh,oi,oj,ok',ol,rfl⟩
   refine⟨_,rfl,_,rfl,sc,ns,k,by simp,s1.seq hS0,fun b H2 fb s2 bx2=>?_⟩
   refine⟨_,rfl,b,0,rfl,bx2,by decide,fun dr nl nms many ba H3 g3 edr enl fnl ok sub=>⟨dr,_,rfl,.tup edr,rfl,_,_,rfl,_,_,rfl,_,_,rfl,rfl,?_⟩⟩
   have nlb:nl≠b:=fun z=>by obtain⟨_,_,_,e,_⟩:=bx2;rw[z,e]at fnl;cases fnl
   refine⟨_,rfl,_,rfl,_,rfl,_,rfl,by show 3<=sizeLine;decide,fun d2 hd2=>?_⟩
   have ud:=Same.upd (o:= .tup [.ref nl,.int (many:Int),.int ba]) hd2
   have g3':=g3.same ud;have ed2:(upd H3 d2 (.tup [.ref nl,.int (many:Int),.int ba])) d2=some (.tup [.ref nl,.int (many:Int),.int ba]):=qd
   have enl':=ud _ _ enl;generalize upd H3 d2 (.tup [.ref nl,.int (many:Int),.int ba])=H3' at *
   refine⟨b,d2,nl,_,nms,many,ba,rfl,g3'.bx,by decide,ed2,enl',nlb,ok,fun qt cd tb kt pl t kss xs H4 pw lx eqt hC hkm hxs=>⟨qt,_,rfl,.tup eqt,rfl,_,_,rfl,_,_,rfl,rfl,?_⟩⟩
   have m1:=ok.m1;have m8:=ok.m8;have b0:=ok.b0;have b1:=ok.b1;have l9:=ok.l9;refine⟨by show 3<=sizeLine;decide,fun yl hyl=>⟨yl,rfl,⟨_,SqL.of qd⟩,?_⟩⟩
   have uy:=Same.upd (o:= .lst (yNames.map V.str)) hyl
   have pw5:=pw.same uy;have hC5:=hC.same uy;have nyb:=qP pw.bx hyl;have ey:(upd H4 yl (.lst (yNames.map V.str))) yl=some (.lst (yNames.map V.str)):=qd
   have eyy:(upd H4 yl (HO.lst [.str "y",.str "yy",.str "yyy"]))=upd H4 yl (.lst (yNames.map V.str)):=rfl
   rw[eyy];generalize upd H4 yl (.lst (yNames.map V.str))=H5 at *
   refine nX (K:=K) (a:=yl) (xs:=yNames.map V.str) (by show 3<=sizeLine;decide) (fun i ys Hx=>Pw K C H3' Hx b (0+20+300+i) pl xs/\CdAt Hx cd tb kt t kss/\Hx yl=some (.lst (yNames.map V.str))/\∃ms:List Str,ys=ms.map V.str/\ms.Sublist (yNames.take i)) ⟨pw5,hC5,ey,[],rfl,List.nil_sublist _⟩ (fun i ys Hx h=>SqL.of h.2.2.1) ?_ ?_
   ·rintro i ys Hx z hz ⟨pwx,hCx,eyx,ms,rfl,sl⟩
    rw[Jo]at hz;obtain⟨nm,hnm,rfl⟩:=BP.mp hz;have i3:i<3:=(Js.mp hnm).1
    have etk:yNames.take (i+1)=yNames.take i++[nm]:=by rw[J5,hnm];rfl
    refine⟨_,rfl,b,_,_,rfl,pwx.bx,by omega,by decide,by decide,fun r H6 r0 r1 g6=>⟨rfl,_,rfl,?_⟩⟩
    have M6:Mv [b] Hx H6:=fun c o h e=>g6.kp c o (fun z=>h (Jg.mpr z)) e
    have pw6:=(pwx.grc g6).mono (c':=0+20+300+(i+1)) (by omega)
    have hC6:=hCx.mv M6 (qX pwx.bx);have ey6:=g6.kp _ _ nyb eyx;refine q9 (fun _=>?_) (fun _=>?_)
    ·refine⟨_,rfl,pw6,hC6,ey6,ms++[nm],by simp,?_⟩
     rw[etk];exact List.Sublist.append sl (List.Sublist.refl _)
    ·refine⟨pw6,hC6,ey6,ms,rfl,?_⟩
     rw[etk];exact sl.trans (List.sublist_append_left _ _)
   rintro ys H6 ⟨pw6,hC6,ey6,ms,rfl,sl⟩ ml hml
   have sl:ms.Sublist yNames:=sl
   have ms3:ms.length<=3:=sl.length_le
   have msn:∀z∈ms,zT z:=fun z hz=>oP z (sl.subset hz)
   have msd:ms.Nodup:=sl.nodup ra
   have mso:∀z∈ms,z∉nms:=fun z hz hn=>ou z (sl.subset hz) (sub z hn)
   have um:=Same.upd (o:= .lst (ms.map V.str)) hml
   have nmb:=qP pw6.bx hml;have nmp:ml≠pl:=(qi pw6.pe hml).symm
   have nme:∀(i:Nat) (x:En),xs[i]? =some x->ml∉eS x.1:=fun i x hx z=>(pw6.en i x hx).some z hml
   have fm:=pw6.fresh hml;have pw7:=(pw6.same um).keep qd nme nmb nmp;have hC7:=hC6.same um;have k3:=Same.upd (o:= .lst (ms.map V.str)) fm
   have em:(upd H3' ml (.lst (ms.map V.str))) ml=some (.lst (ms.map V.str)):=qd
   generalize upd H3' ml (.lst (ms.map V.str))=Hm at *
   generalize upd H6 ml (.lst (ms.map V.str))=H7 at *
   clear ey6 uy hyl eyy ey nyb hC6 hC5 hC pw5 pw6 pw um;have pw7:Pw K C Hm H7 b 323 pl xs:=pw7
   obtain⟨NS,eNS⟩:∃NS:List Str,NS=nms++ms.take (ms.map V.str).length:=⟨_,rfl⟩
   refine bg (fun σ' H'=>∃xs,Pw K C Hm H' b 335 pl xs/\xs.length=2/\(∀(i:Nat) (x:En),xs[i]? =some x->DqOk t kss ba NS x.2.1/\x.2.2.length<=106)/\CdAt H' cd tb kt t kss/\∃(p9 pa pb pc pd:Option V),σ'=[some (.ref sc),some (.int (0+(k:Int))),some (.ref b),some (.ref nl),some (.int (many:Int)),some (.int ba),some (.ref cd),some (.ref pl),some (.ref ml),p9,pa,pb,pc,pd,oe,of,og,oh,oi,oj,ok',ol]) (fun D' hrt hnx=>?_) ?_
   refine⟨_,rfl,ml,rfl,⟨_,SqL.of (pw7.s _ _ (qR nmb) em)⟩,?_⟩
   refine zN (K:=K) (a:=ml) (xs:=ms.map V.str) (fun j σ Hx=>∃xs,Pw K C Hm Hx b (323+4*j) pl xs/\xs.length=2/\(∀(i:Nat) (x:En),xs[i]? =some x->DqOk t kss ba (nms++ms.take j) x.2.1/\x.2.2.length<=100+2*j)/\CdAt Hx cd tb kt t kss/\∃(p9 pa pb pc pd:Option V),σ=[some (.ref sc),some (.int (0+(k:Int))),some (.ref b),some (.ref nl),some (.int (many:Int)),some (.int ba),some (.ref cd),some (.ref pl),some (.ref ml),p9,pa,pb,pc,pd,oe,of,og,oh,oi,oj,ok',ol]) ⟨xs,pw7,lx,fun i x hx=>?_,hC7,_,_,_,_,_,rfl⟩ (fun j σ Hx _ h=>let⟨_,p,_⟩:=h;SqL.of (p.s _ _ (qR nmb) em)) ?_ ?_
   ·obtain⟨h1,h2⟩:=hxs i x hx
    rw[List.take_zero,CP]
    exact⟨h1,h2⟩
   ·clear hxs lx pw7 hC7
    rintro j z σ Hx hz ⟨xs,pw,lx,hxs,hCx,p9,pa,pb,pc,pd,rfl⟩
    rw[Jo]at hz;obtain⟨nm,hnm,rfl⟩:=BP.mp hz;have j3:j<3:=JB (Js.mp hnm).1 ms3
    have nmm:=JS hnm;have etk:nms++ms.take (j+1)=nms++ms.take j++[nm]:=by rw[J5,hnm,B8];rfl
    have nnew:nm∉nms++ms.take j:=fun z=>by
     rcases JO.mp z with z|z
     ·exact mso nm nmm z
     ·exact gW msd hnm z
    have lno:(nms++ms.take j).length<=11:=by rw[Jx,BS];omega
    refine⟨by show 0<=sizeLine;decide,fun tl htl=>?_⟩
    have ut:=Same.upd (o:= .lst []) htl
    have ntb:=qP pw.bx htl;have ntp:tl≠pl:=(qi pw.pe htl).symm
    have nte:∀(i:Nat) (x:En),xs[i]? =some x->tl∉eS x.1:=fun i x hx z=>(pw.en i x hx).some z htl
    have ft:=pw.fresh htl;have pw1:=pw.same ut;have hC1:=hCx.same ut;have pr1:PrL (upd Hx tl (.lst [])) tl []:=⟨[],qd,rfl,fun i a z h=>by cases h⟩
    generalize upd Hx tl (.lst [])=Hy at *
    clear pw hCx ut;refine⟨_,rfl,pl,rfl,⟨_,SqL.of pw1.pe⟩,?_⟩
    refine zN (K:=K) (a:=pl) (xs:=xs.map fun x=>V.ref x.1.e) (fun i σ Hy=>Pw K C Hm Hy b (323+4*j+2*i) pl xs/\CdAt Hy cd tb kt t kss/\(∃zs:List (Int×Int),PrL Hy tl zs/\zs.length=i/\∀(n:Nat) (x:En) (z:Int×Int),xs[n]? =some x->zs[n]? =some z->x.2.1.least<=z.1/\0<=z.1/\z.1<(kss.length:Int)/\1<=z.2/\z.2<4096/\ba<z.2/\z.2<=ba+23)/\∃(pb pc pd:Option V),σ=[some (.ref sc),some (.int (0+(k:Int))),some (.ref b),some (.ref nl),some (.int (many:Int)),some (.int ba),some (.ref cd),some (.ref pl),some (.ref ml),some (.str nm),some (.ref tl),pb,pc,pd,oe,of,og,oh,oi,oj,ok',ol]) ⟨pw1,hC1,⟨[],pr1,rfl,fun n x z _ h=>by cases h⟩,_,_,_,rfl⟩ (fun i σ Hy _ h=>SqL.of h.1.pe) ?_ ?_
    ·clear pr1 pw1 hC1
     rintro i z σ Hy hz ⟨pwy,hCy,⟨zs,pr,lz,hzs⟩,pb,pc,pd,rfl⟩
     rw[Jo]at hz;obtain⟨x,hx,rfl⟩:=BP.mp hz;have i2:i<2:=by rw[<- lx];exact(Js.mp hx).1
     have en:=pwy.en i x hx;have dp:=(hxs i x hx).1.dp;have lk:=dp.lk;have l0:=dp.ok.l0;refine⟨x.1.e,_,rfl,.tup en.tu,rfl,_,_,rfl,_,_,rfl,rfl,?_⟩
     refine⟨_,rfl,x.1.m,_,rfl,en.md.g_closed,_,rfl,_,rfl,_,rfl,x.1.m,_,rfl,en.md.g_closed,_,_,rfl,rfl,b,_,_,rfl,pwy.bx,by omega,by omega,by omega,fun r Hz r0 r1 gz=>⟨_,_,rfl,rfl,?_⟩⟩
     have Mz:Mv [b] Hy Hz:=fun c o h e=>gz.kp c o (fun z=>h (Jg.mpr z)) e
     have Ny:=qX pwy.bx;have pwz:=pwy.grc gz;have hCz:=hCy.mv Mz Ny;have prz:=pr.mv Mz Ny (qR ntb);obtain⟨as,eas,las,ras⟩:=prz;refine⟨_,rfl,.inl ⟨rfl,_,SqL.of eas⟩,?_⟩
     refine⟨_,rfl,_,rfl,_,_,rfl,rfl,_,rfl,b,_,_,rfl,pwz.bx,by omega,by decide,by decide,fun r2 Hw r20 r21 gw=>⟨_,_,rfl,rfl,_,_,rfl,by show 2<=sizeLine;decide,fun tt htt=>?_⟩⟩
     obtain⟨la,ela⟩:∃la,la=(if ba+1+r2<4095 then ba+1+r2 else 4095):=⟨_,rfl⟩
     have la0:1<=la/\la<4096/\ba<la/\la<=ba+23:=by rw[ela];split<;>omega
     rw[<- ela];have uw:=Same.upd (o:= .tup [.int (x.2.1.least+r),.int la]) htt
     have Mw:Mv [b] Hz Hw:=fun c o h e=>gw.kp c o (fun z=>h (Jg.mpr z)) e
     have pww:=(pwz.grc gw).same uw;have hCw:=(hCz.mv Mw (qX pwz.bx)).same uw;have eas':=uw _ _ (gw.kp _ _ ntb eas);have ras':=fun(n:Nat) (a:Addr) (z:Int×Int) (h1:as[n]? =some a) (h2:zs[n]? =some z)=>uw _ _ (Mw.tup (qX pwz.bx) (ras n a z h1 h2))
     have ett:(upd Hw tt (.tup [.int (x.2.1.least+r),.int la])) tt=some (.tup [.int (x.2.1.least+r),.int la]):=qd
     generalize upd Hw tt (.tup [.int (x.2.1.least+r),.int la])=Hv at *
     refine⟨tl,_,_,rfl,rfl,eas',by rw[Je,las,lz,Jz];omega,?_⟩
     have mp:Mv [tl] Hv (upd Hv tl (.lst (as.map V.ref++[.ref tt]))):=Mv.upd1
     have np:NT [tl] Hv:=NT.one eas' trivial
     refine⟨(pww.off mp np nte ntb ntp ft).mono (by omega),hCw.mv mp np,⟨zs++[(x.2.1.least+r,la)],PrL.add eas' las ras' ett,by simp [lz],fun n y z h1 h2=>?_⟩,_,_,_,rfl⟩
     rw[Dm]at h2;split at h2
     ·exact hzs n y z h1 h2
     ·rename_i hn
      cases en:n-zs.length with
      |succ k=>rw[en]at h2;cases h2
      |zero=>
       rw[en]at h2;cases h2
       obtain rfl:n=i:=by omega
       rw[hx]at h1;cases h1
       exact⟨by show x.2.1.least<=x.2.1.least+r;omega,by show 0<=x.2.1.least+r;omega,by show x.2.1.least+r<_;omega,la0⟩
    ·clear pr1 pw1 hC1
     rintro σ Hy ⟨pwy,hCy,⟨zs,pr,lz,hzs⟩,pb,pc,pd,rfl⟩
     have lz2:zs.length=2:=by rw[lz,Je,lx]
     have inz:∀a l,some (a,l)∈zs.map some->0<=a/\a<(kss.length:Int)/\1<=l/\l<4096/\ba<l/\l<=ba+23:=fun a l h=>by
      obtain⟨z,hz,e⟩:=Jw.mp h;injection e with e
      subst e;obtain⟨n,hn,en⟩:=List.mem_iff_getElem.mp hz;have hn2:n<xs.length:=by omega
      exact(hzs n xs[n] (a,l) (Jl hn2) (by rw[Jl hn,en])).2
     refine⟨_,rfl,_,rfl,_,rfl,_,rfl,cd,tb,kt,pl,tl,b,_,Hm,t,kss,xs,nm,zs.map some,rfl,pwy,lx,hCy,msn nm nmm,pr.ol,by rw[Je];exact lz2,nte,fun i x hx=>?_,fun a l h=>?_,fun Hn xs' pwn hCn st tps=>?_⟩
     ·obtain⟨h1,h2⟩:=hxs i x hx
      have fw:=h1.few
      exact⟨⟨h1.dp.ok,h1.dp.t,h1.dp.ks,by rw[h1.dp.ms];omega⟩,fun a l e=>(hzs i x (a,l) hx (getD_some e)).1,eT fun z=>nnew (h1.sub nm z),by omega,by omega⟩
     ·obtain⟨h1,h2,h3,h4,_⟩:=inz a l h
      exact⟨h1,h2,h3,h4⟩
     ·refine⟨xs',pwn.mono (by rw[Je,lx];omega),st.1.trans lx,?_,hCn,_,_,_,_,_,rfl⟩
      have:=st.all (p:=DqOk t kss ba (nms++ms.take j)) (q:=DqOk t kss ba (nms++ms.take (j+1))) hxs (fun i D hD=>?_)
      ·intro i x hx
       obtain⟨h1,h2⟩:=this i x hx
       exact⟨h1,by omega⟩
      ·rw[etk]
       cases eo:(zs.map some).getD i none with
       |none=>exact hD.more
       |some al=>
        obtain⟨a,l⟩:=al;obtain⟨q1,q2,q3,q4,q5,q6⟩:=inz a l (Jw.mpr ⟨_,JS (getD_some eo),rfl⟩)
        have fw:=hD.few;exact hD.learn (msn nm nmm) (by omega) q1 q2 q3 q4 q5 q6
   ·clear hxs lx pw7 hC7
    rintro σ Hx ⟨xs,pw,lx,hxs,hCx,p9,pa,pb,pc,pd,rfl⟩
    have l3:(ms.map V.str).length<=3:=by rw[Je];exact ms3
    rw[<- eNS]at hxs;exact hnx _ _ ⟨xs,pw.mono (by omega),lx,fun i x hx=>⟨(hxs i x hx).1,by have:=(hxs i x hx).2;omega⟩,hCx,_,_,_,_,_,rfl⟩
   clear hxs lx pw7 hC7
   rintro σ Hx ⟨xs,pw,lx,hxs,hCx,p9,pa,pb,pc,pd,rfl⟩
   obtain⟨Ls,eLs⟩:∃Ls:Nat,Ls=(ms.map V.str).length:=⟨_,rfl⟩
   have Ls3:Ls<=3:=by rw[eLs,Je];exact ms3
   refine gy (fun σ' H'=>∃xs,Pw K C Hm H' b 400 pl xs/\xs.length=2/\(∀(i:Nat) (x:En),xs[i]? =some x->DqOk t kss ba NS x.2.1/\x.2.2.length<=130)/\∃(pd pe pf:Option V),σ'=[some (.ref sc),some (.int (0+(k:Int))),some (.ref b),some (.ref nl),some (.int (many:Int)),some (.int ba),some (.ref cd),some (.ref pl),some (.ref ml),p9,pa,pb,pc,pd,pe,pf,og,oh,oi,oj,ok',ol]) (fun D' hrt hnx=>?_) ?_
   refine⟨_,rfl,b,_,_,rfl,pw.bx,by decide,by decide,by decide,fun rn Hh rn0 rn1 gh=>?_⟩
   have pwh:=pw.grc gh;have Mh:Mv [b] Hx Hh:=fun c o h e=>gh.kp c o (fun z=>h (Jg.mpr z)) e
   have hCh:=hCx.mv Mh (qX pw.bx);refine⟨_,rfl,ml,_,rfl,.inl (SqL.of (pwh.s _ _ (qR nmb) em)),_,_,rfl,rfl,.inl ⟨by omega,by omega⟩,?_⟩
   obtain⟨N,eN⟩:∃N:Int,N=rn*(Ls:Int):=⟨_,rfl⟩
   have N0:0<=N/\N<=9/\(0<N->0<Ls):=by
    have h3:rn=0\/rn=1\/rn=2\/rn=3:=by omega
    rcases h3 with rfl|rfl|rfl|rfl<;>omega
   refine⟨N,by rw[eN,eLs],by omega,by omega,?_⟩
   refine QF (n:=N.toNat) (Pv:=fun j σ Hx=>∃xs,Pw K C Hm Hx b (336+3*j) pl xs/\xs.length=2/\(∀(i:Nat) (x:En),xs[i]? =some x->DqOk t kss ba NS x.2.1/\x.2.2.length<=106+2*j)/\CdAt Hx cd tb kt t kss/\∃(pd pe pf:Option V),σ=[some (.ref sc),some (.int (0+(k:Int))),some (.ref b),some (.ref nl),some (.int (many:Int)),some (.int ba),some (.ref cd),some (.ref pl),some (.ref ml),p9,pa,pb,pc,pd,pe,pf,og,oh,oi,oj,ok',ol]) ⟨xs,pwh,lx,hxs,hCh,_,_,_,rfl⟩ ?_ ?_
   ·clear hxs lx pw pwh hCx hCh Mh gh
    rintro j σ Hx hj ⟨xs,pw,lx,hxs,hCy,pd,pe,pf,rfl⟩
    have j9:j<9:=by omega
    have Lp:0<Ls:=N0.2.2 (by omega)
    refine⟨_,rfl,_,rfl,b,_,_,rfl,pw.bx,by omega,by omega,by omega,fun ag H3a ag0 ag1 g3a=>?_⟩
    have pw3:=pw.grc g3a;have em3:=pw3.s _ _ (qR nmb) em;have hq0:0<=(0+(j:Int))%(Ls:Int):=Ce _ (by omega)
    have hq1:(0+(j:Int))%(Ls:Int)<((ms.map V.str).length:Int):=by rw[<- eLs];exact Cf _ (by omega)
    obtain⟨nm,hat,hnm⟩:=mG hq0 hq1 msn;rw[eLs]at hat;refine⟨_,rfl,_,rfl,_,rfl,ml,_,rfl,.inl (SqL.of em3),_,_,rfl,rfl,by show 0<((ms.map V.str).length:Int);rw[<- eLs];omega,ml,_,_,_,rfl,rfl,SqL.of em3,hat,?_⟩
    refine⟨_,rfl,_,rfl,_,rfl,b,_,_,rfl,pw3.bx,by omega,by decide,by decide,fun r4 H4' r40 r41 g4=>⟨_,_,rfl,rfl,_,_,rfl,by show 3<=sizeLine;decide,fun p hp=>?_⟩⟩
    obtain⟨n,en⟩:∃n,n=(if ba+r4<4095 then ba+r4 else 4095):=⟨_,rfl⟩
    have n0:0<=n/\n<4096/\n<=ba+23:=by rw[en];split<;>omega
    rw[<- en];have pw4:=pw3.grc g4;have v0:=Same.upd (o:= .tup [.str nm,.int ag,.int n]) hp
    have M4:Mv [b] Hx H4':=fun c o h e=>by
     have nb:c≠b:=fun z=>h (Jg.mpr z)
     exact g4.kp _ _ nb (g3a.kp _ _ nb e)
    have hC4:=(hCy.mv M4 (qX pw.bx)).same v0;have pw5:=pw4.same v0;have ep:(upd H4' p (.tup [.str nm,.int ag,.int n])) p=some (.tup [.str nm,.int ag,.int n]):=qd
    generalize upd H4' p (.tup [.str nm,.int ag,.int n])=H5' at *
    refine⟨_,rfl,_,rfl,_,rfl,by show 2<=sizeLine;decide,fun q1 hq1=>⟨by show 1<=sizeLine;decide,fun q3 hq3=>⟨by show 1<=sizeLine;decide,fun q4 hq4=>⟨by show 3<=sizeLine;decide,fun l5 hl5=>?_⟩⟩⟩⟩
    have w1:=Same.upd (o:= .tup [.int 0,.int 1]) hq1
    have w3:=Same.upd (o:= .tup [.int 0]) hq3
    have w4:=Same.upd (o:= .tup [.int 1]) hq4
    have w5:=Same.upd (o:= .lst [.ref q1,.ref q3,.ref q4]) hl5
    have z1:=w5 _ _ (w4 _ _ (w3 _ _ (show(upd H5' q1 (.tup [.int 0,.int 1])) q1=some (.tup [.int 0,.int 1])from qd)))
    have z3:=w5 _ _ (w4 _ _ (show(upd (upd H5' q1 (.tup [.int 0,.int 1])) q3 (.tup [.int 0])) q3=some (.tup [.int 0])from qd))
    have z4:=w5 _ _ (show(upd (upd (upd H5' q1 (.tup [.int 0,.int 1])) q3 (.tup [.int 0])) q4 (.tup [.int 1])) q4=some (.tup [.int 1])from qd)
    have z5:(upd (upd (upd (upd H5' q1 (.tup [.int 0,.int 1])) q3 (.tup [.int 0])) q4 (.tup [.int 1])) l5 (.lst [.ref q1,.ref q3,.ref q4])) l5=some (.lst [.ref q1,.ref q3,.ref q4]):=qd
    have SW:=((w1.trans w3).trans w4).trans w5;have pw6:=pw5.same SW;have hC6:=hC4.same SW;have ep6:=SW _ _ ep;have nl5:=qP ((pw5.same ((w1.trans w3).trans w4)).bx) hl5;generalize upd (upd (upd (upd H5' q1 (.tup [.int 0,.int 1])) q3 (.tup [.int 0])) q4 (.tup [.int 1])) l5 (.lst [.ref q1,.ref q3,.ref q4])=H6' at *
    refine⟨_,rfl,b,_,_,rfl,pw6.bx,by omega,by decide,by decide,fun r7 H7' r70 r71 g7=>?_⟩
    have pw7:=pw6.grc g7;have M7:Mv [b] H6' H7':=fun c o h e=>g7.kp c o (fun z=>h (Jg.mpr z)) e
    have N6:=qX pw6.bx;obtain⟨v,hv,hvm⟩:=Qr (xs:=[V.ref q1,.ref q3,.ref q4]) r70 r71
    obtain⟨ps,is,rfl,eps,ndi,hi2⟩:∃(ps:Addr) (is:List Nat),v= .ref ps/\H6' ps=some (.tup (is.map fun i:Nat=>V.int (i:Int)))/\is.Nodup/\∀i∈is,i<2:=by
     simp only[Jj,Jp,Jq]at hvm;rcases hvm with rfl|rfl|rfl
     ·exact⟨q1,[0,1],rfl,z1,by decide,by decide⟩
     ·exact⟨q3,[0],rfl,z3,by decide,by decide⟩
     ·exact⟨q4,[1],rfl,z4,by decide,by decide⟩
    refine⟨l5,_,_,_,rfl,rfl,SqL.of (g7.kp _ _ nl5 z5),hv,?_⟩
    refine⟨cd,tb,kt,pl,p,ps,b,_,Hm,t,kss,xs,nm,ag,n,is,ba,rfl,pw7,lx,hC6.mv M7 N6,hnm,ag0,by omega,n0.1,n0.2.1,M7.tup N6 ep6,.inl (M7.tup N6 eps),ndi,hi2,fun i x hx=>?_,fun Hn xs' pwn hCn st=>?_⟩
    ·obtain⟨h1,h2⟩:=hxs i x hx
     exact⟨h1.dp,by omega⟩
    ·refine⟨xs',pwn.mono (by omega),st.1.trans lx,?_,hCn,_,_,_,rfl⟩
     have:=st.all (p:=DqOk t kss ba NS) (q:=DqOk t kss ba NS) hxs (fun i D hD=>?_)
     ·intro i x hx
      obtain⟨h1,h2⟩:=this i x hx
      exact⟨h1,by omega⟩
     ·show DqOk t kss ba NS (if i∈is then _ else _)
      split
      ·exact hD.hear n0.1 n0.2.1 n0.2.2
      ·exact hD
   ·rintro σ Hx ⟨xs,pw,lx,hxs,hCx,pd,pe,pf,rfl⟩
    exact hnx _ _ ⟨xs,pw.mono (by omega),lx,fun i x hx=>⟨(hxs i x hx).1,by have:=(hxs i x hx).2;omega⟩,_,_,_,rfl⟩
   clear hxs lx pw hCx
   rintro σ Hx ⟨xs,pw,lx,hxs,pd,pe,pf,rfl⟩
   obtain⟨x0,x1,rfl⟩:=rq lx;have en0:=pw.en 0 x0 rfl;have en1:=pw.en 1 x1 rfl;have dp0:=(hxs 0 x0 rfl).1.dp;have dp1:=(hxs 1 x1 rfl).1.dp;refine⟨_,rfl,pl,_,rfl,.lst pw.pe,rfl,_,_,rfl,?_⟩
   refine⟨x0.1.e,_,rfl,.tup en0.tu,rfl,_,_,rfl,_,_,rfl,rfl,?_⟩
   refine⟨_,_,rfl,x1.1.e,_,rfl,.tup en1.tu,rfl,_,_,rfl,_,_,rfl,rfl,rfl,?_⟩
   refine⟨_,rfl,x0.1.a.p,rfl,en0.dl.dr.no,x0.1.a.p,x0.1.a.ta,x0.1.a.hk,x0.1.a.bd,x0.1.a.lg,x0.2.2.length,x0.2.1,rfl,en0.dl.dr,dp0.ok,fun k1 ss1 H6 s6 pm1 so1 sh1=>?_⟩
   have en0a:=en0.same s6;refine⟨_,rfl,x0.1.a.p,rfl,en0a.dl.dr.no,x0.1.a,x0.2.1,x0.2.2,rfl,en0a.dl,fun t1 H7 s7 lt1=>?_⟩
   have en1a:=(en1.same s6).same s7;refine⟨_,rfl,x1.1.a.p,rfl,en1a.dl.dr.no,x1.1.a.p,x1.1.a.ta,x1.1.a.hk,x1.1.a.bd,x1.1.a.lg,x1.2.2.length,x1.2.1,rfl,en1a.dl.dr,dp1.ok,fun k2 ss2 H8 s8 pm2 so2 sh2=>?_⟩
   have en1b:=en1a.same s8;refine⟨_,rfl,x1.1.a.p,rfl,en1b.dl.dr.no,x1.1.a,x1.2.1,x1.2.2,rfl,en1b.dl,fun t2 H9a s9a lt2=>⟨by show 4<=sizeLine;decide,fun hd hhd=>?_⟩⟩
   have uh:=Same.upd (o:= .tup [.ref k1,.ref t1,.ref k2,.ref t2]) hhd
   have Sh:=(((s6.trans s7).trans s8).trans s9a).trans uh;have en0h:=en0.same Sh;have en1h:=en1.same Sh;have sh1h:=sh1.same (((s7.trans s8).trans s9a).trans uh);have lt1h:=lt1.same ((s8.trans s9a).trans uh);have sh2h:=sh2.same (s9a.trans uh);have lt2h:=lt2.same uh;have ehd:(upd H9a hd (.tup [.ref k1,.ref t1,.ref k2,.ref t2])) hd=some (.tup [.ref k1,.ref t1,.ref k2,.ref t2]):=qd
   generalize upd H9a hd (.tup [.ref k1,.ref t1,.ref k2,.ref t2])=Hh at *
   refine⟨_,rfl,_,rfl,by show 2<=sizeLine;decide,fun ol' hol=>?_⟩
   have uo:=Same.upd (o:= .lst [.ref x0.1.m,.ref x1.1.m]) hol
   refine⟨_,rfl,ol',x0.1.m,x0.1.kd,x1.1.m,x1.1.kd,t,kss,x0.2.1,x1.2.1,ba,rfl,qd,(en0h.same uo).md,(en1h.same uo).md,dp0,dp1,b0,b1,fun dq ss Hd sd pm so br=>?_⟩
   have Sd:=uo.trans sd;have en0d:=en0h.same Sd;have en1d:=en1h.same Sd;have cb:∀{D:Dr},DpOk t kss ba D->∀nm e,D.kn.lookup nm=some e->CbOk D e:=fun{D} dp nm e h=>by
    obtain⟨h1,h2,h3⟩:=dp.kb _ (zI h)
    have f0:=dp.f0;have f1:=dp.f1;have n0:=dp.n0
    have:=h1.l1
    simp only at h2 h3 this
    exact⟨by omega,by omega,by omega,by omega⟩
   refine⟨_,rfl,_,rfl,x0.1.a.p,x0.1.a.ta,x0.1.a.hk,x0.1.a.bd,x0.1.a.lg,_,_,x1.1.a.p,x1.1.a.ta,x1.1.a.hk,x1.1.a.bd,x1.1.a.lg,_,_,rfl,en0d.dl.dr,en1d.dl.dr,dp0.ok,dp1.ok,cb dp0,cb dp1,fun q1 cs1 He se nd1 mem1 sc1 br1=>?_⟩
   have en0e:=en0d.same se;have en1e:=en1d.same se;refine⟨_,rfl,_,rfl,x1.1.a.p,x1.1.a.ta,x1.1.a.hk,x1.1.a.bd,x1.1.a.lg,_,_,x0.1.a.p,x0.1.a.ta,x0.1.a.hk,x0.1.a.bd,x0.1.a.lg,_,_,rfl,en1e.dl.dr,en0e.dl.dr,dp1.ok,dp0.ok,cb dp1,cb dp0,fun q2 cs2 Hg sg nd2 mem2 sc2 br2=>?_⟩
   rw[j4 pm so nd1 dp0.ok.nd mem1 sc1]at br1;have mem2':∀k,k∈cs2↔k∈x0.2.1.kn.map (·.1)/\k∈x1.2.1.kn.map (·.1):=fun k=>(mem2 k).trans And.comm
   rw[wX,j4 pm so nd2 dp0.ok.nd mem2' sc2]at br2;have lbr:(zJ x0.2.1 x1.2.1 ss).length<=100:=by
    have h1:=Ar x0.2.1 x1.2.1 ss;have h2:ss.length<=60:=by rw[pm.length_eq,Je];exact dp0.ok.nl
    omega
   refine⟨by show 2<=sizeLine;decide,fun la hla=>⟨_,rfl,_,rfl,by show 2<=sizeLine;decide,fun lb hlb=>?_⟩⟩
   have ua:=Same.upd (o:= .lst [.ref q1,.ref q2]) hla
   have ub:=Same.upd (o:= .lst [.ref dq,.ref dq]) hlb
   refine⟨_,_,rfl,BrT.both ((br1.same sg).same (ua.trans ub)) (br2.same (ua.trans ub)) (((br.same se).same sg).same (ua.trans ub)) (ub _ _ qd) qd lbr,fun Hz sz=>⟨_,rfl,zr ?_⟩⟩
   have SZ:=(((Sd.trans se).trans sg).trans (ua.trans ub)).trans sz;have en0z:=en0h.same SZ;have en1z:=en1h.same SZ;have sh1z:=sh1h.same SZ;have lt1z:=lt1h.same SZ;have sh2z:=sh2h.same SZ;have lt2z:=lt2h.same SZ;have ehz:=SZ _ _ ehd;refine⟨_,rfl,x0.1.a.p,rfl,en0z.dl.dr.no,x0.1.a.p,x0.1.a.ta,x0.1.a.hk,x0.1.a.bd,x0.1.a.lg,x0.2.2.length,x0.2.1,rfl,en0z.dl.dr,dp0.ok,fun k3' ss3 J6 r6 pm3 so3 sh3=>?_⟩
   have fn0:=en0z.same r6;refine⟨_,rfl,x0.1.a.p,rfl,fn0.dl.dr.no,x0.1.a,x0.2.1,x0.2.2,rfl,fn0.dl,fun t3 J7 r7 lt3=>?_⟩
   have fn1:=(en1z.same r6).same r7;refine⟨_,rfl,x1.1.a.p,rfl,fn1.dl.dr.no,x1.1.a.p,x1.1.a.ta,x1.1.a.hk,x1.1.a.bd,x1.1.a.lg,x1.2.2.length,x1.2.1,rfl,fn1.dl.dr,dp1.ok,fun k4 ss4 J8 r8 pm4 so4 sh4=>?_⟩
   have fn1b:=fn1.same r8;refine⟨_,rfl,x1.1.a.p,rfl,fn1b.dl.dr.no,x1.1.a,x1.2.1,x1.2.2,rfl,fn1b.dl,fun t4 J9 r9 lt4=>⟨by show 4<=sizeLine;decide,fun h2 hh2=>?_⟩⟩
   have uz:=Same.upd (o:= .tup [.ref k3',.ref t3,.ref k4,.ref t4]) hh2
   have R:=(((r6.trans r7).trans r8).trans r9).trans uz
   obtain rfl:ss1=ss3:=cU pm1 so1 pm3 so3
   obtain rfl:ss2=ss4:=cU pm2 so2 pm4 so4
   have lL0:=(hxs 0 x0 rfl).2;have lL1:=(hxs 1 x1 rfl).2;refine⟨_,rfl,5,by decide,.tup (n:=4) (SqT.of qd) (SqT.of (R _ _ ehz)) rfl (fun i y z ey ez=>?_),_,rfl,zr ⟨fun c o e=>?_,_,_,_,_,_,_,_,_,_,_,_,_,_,_,_,_,_,_,_,_,_,rfl⟩⟩
   ·match i,ey,ez with
    |0,ey,ez=>cases ey;cases ez;exact(gS (sh3.same (((r7.trans r8).trans r9).trans uz)) (sh1z.same R) (fun nm h=>pm1.mem_iff.mp h) (fun nm=>rfl)).up
    |1,ey,ez=>cases ey;cases ez;exact((lt3.same ((r8.trans r9).trans uz)).eqv (lt1z.same R) (by omega)).eqk
    |2,ey,ez=>cases ey;cases ez;exact(gS (sh4.same (r9.trans uz)) (sh2z.same R) (fun nm h=>pm2.mem_iff.mp h) (fun nm=>rfl)).up
    |3,ey,ez=>cases ey;cases ez;exact((lt4.same uz).eqv (lt2z.same R) (by omega)).eqk
    |i+4,ey,ez=>cases ey
   ·have nb:c≠b:=fun z=>by rw[z]at e;rw[s1 _ _ e]at fb;cases fb
    exact R _ _ (SZ _ _ (Sh _ _ (pw.s c o (qR nb) (k3 _ _ (g3'.kp c o nb (s2 _ _ (s1 _ _ e)))))))
  rintro σ Hx ⟨_,o1,o2,o3,o4,o5,o6,o7,o8,o9,oa,ob,oc,od,oe,of,og,oh,oi,oj,ok',ol,rfl⟩
  exact q _
end
theorem yK{l:W.OpenLaw}{w:World}{K:Frag}{h:Heap}{mg:Str->Option Value}{fa:Addr}(X:K.In h)(G:h.Ns mainGlobals mg)(hfa:mg "law"=some (.ref fa))
  {C:Addr}
  (aCD:W.nsIn K mainGlobals "Door"=some (some (.ref C)))
  (pgD:W.plainGet K C Str.empty=true)
  (hdD:W.hasDictIn K C=true)
  (poD:W.plainOver K C=true)
  (saD:W.findIn K (.ref C) "__setattr__"=some (some (.builtin "object.__setattr__")))
  (mkD:W.makesIn K C=true)
  (kcD:W.keepIn K (.ref C)=true)
  (n_D_table:W.findIn K (.ref C) "table"=some none)
  (n_D_house_keys:W.findIn K (.ref C) "house_keys"=some none)
  (n_D_near:W.findIn K (.ref C) "near"=some none)
  (n_D_far:W.findIn K (.ref C) "far"=some none)
  (n_D_most:W.findIn K (.ref C) "most"=some none)
  (n_D_least_age:W.findIn K (.ref C) "least_age"=some none)
  (n_D_buttons:W.findIn K (.ref C) "buttons"=some none)
  (n_D_log:W.findIn K (.ref C) "log"=some none)
  (A0:Ac K mg "is_number" ai)
  (A1:Ac K mg "is_digit" aV)
  (A2:Ac K mg "are_digits" ZZ)
  (A3:Ac K mg "back_table" Z2)
  (A4:Ac K mg "coded" fY)
  (A5:Ac K mg "decoded" cy)
  (A6:Ac K mg "is_name" bU)
  (A7:Ac K mg "is_code" bQ)
  (A8:Ac K mg "is_press" aW)
  (A9:Ac K mg "letter_digits" Ze)
  (A10:Ac K mg "key_of" c6)
  (A11:Ac K mg "count_digits" Zu)
  (A12:Ac K mg "press_of" aU)
  (A13:Ac K mg "read_press" ZT)
  (A14:Ac K mg "word_of" bJ)
  (A15:Ac K mg "step_by" cu)
  (A16:Acm K C "__init__" "Door.__init__" ZI)
  (A17:Acm K C "is_full" "Door.is_full" Zo)
  (A18:Acm K C "button_of" "Door.button_of" Q2)
  (A19:Acm K C "takes_age" "Door.takes_age" Q5)
  (A20:Acm K C "takes_from" "Door.takes_from" QU)
  (A21:Acm K C "plain_step" "Door.plain_step" Qd)
  (A22:Acm K C "answer_to" "Door.answer_to" Q0)
  (A23:Acm K C "hear" "Door.hear" aA)
  (A24:Acm K C "read_right" "Door.read_right" QR)
  (A25:Acm K C "learn" "Door.learn" ZV)
  (A26:Acm K C "close_below" "Door.close_below" Qw)
  (A27:Acm K C "known_now" "Door.known_now" Q4)
  (A28:Acm K C "bounds_told" "Door.bounds_told" QC)
  (A29:Acm K C "log_now" "Door.log_now" Zp)
  (A30:Ac K mg "names_known" ZH)
  (A31:Ac K mg "lesser_end" Z5)
  (A32:Ac K mg "age_and_last" Zr)
  (A33:Ac K mg "count_brought" Zc)
  (A34:Ac K mg "brought" cg)
  (A35:Ac K mg "_law_box" cj)
  (A36:Ac K mg "_law_take" bm)
  (A37:Ac K mg "_law_table" aj)
  (A38:Ac K mg "_law_key" bP)
  (A39:Ac K mg "_law_model" am)
  (A40:Ac K mg "_law_word" aR)
  (A41:Ac K mg "_law_hear" bi)
  (A42:Ac K mg "_law_press" ap)
  (A43:Ac K mg "_law_learnt" ZU)
  (A44:Ac K mg "_law_heard" ar)
  (A45:Ac K mg "_law_bounds" Z7)
  (A46:Ac K mg "_law_pair" bh)
  (A47:Ac K mg "_law_drawn" az)
  (A48:Ac K mg "_law_alike" ao)
  (A49:Ac K mg "_law_copied" Z3)
  (A50:Ac K mg "_law_met" bK)
  (A51:Ac K mg "_law_due" bL)
  (A52:Ac K mg "_law_far_right" Zk)
  {f53:Addr}{od53 an53:Option Addr}{sl53:Array (Option Value)}{oc53 kV53 dc53 pm53 cd53 ct53:Value}
  (a53:W.nsIn K mainGlobals "law"=some (some (.ref f53)))
  (l53:K.lookup f53=some ⟨oc53,od53,.func (W.fnOf "law" "law" (Qq ZJ) (zB ZJ) (qo ZJ) .none kV53 dc53 pm53 an53 cd53 ct53),sl53⟩)
  (c53:W.codeIn K cd53 "law"=true)
  (k53:W.keepIn K (.ref f53)=true)
  {t0:Tok}
  (yg0:W.nsIn K mainGlobals "DIGITS"=some (some (.int 16 t0)))
  {t1:Tok}
  (yg1:W.nsIn K mainGlobals "KEY_PLACES"=some (some (.int 4 t1)))
  {t2:Tok}
  (yg2:W.nsIn K mainGlobals "LONGEST_NAME"=some (some (.int 8 t2)))
  {t3:Tok}
  (yg3:W.nsIn K mainGlobals "CODE_DIGITS"=some (some (.int 5 t3)))
  {t4:Tok}
  (yg4:W.nsIn K mainGlobals "COUNTS"=some (some (.int 4096 t4)))
  (z0:W.nsIn K mainGlobals "isinstance"=some none)
  (z1:W.nsIn K mainGlobals "bool"=some none)
  (z2:W.nsIn K mainGlobals "int"=some none)
  (z3:W.nsIn K mainGlobals "tuple"=some none)
  (z4:W.nsIn K mainGlobals "all"=some none)
  (z5:W.nsIn K mainGlobals "any"=some none)
  (z6:W.nsIn K mainGlobals "len"=some none)
  (z7:W.nsIn K mainGlobals "abs"=some none)
  (z8:W.nsIn K mainGlobals "list"=some none)
  (z9:W.nsIn K mainGlobals "enumerate"=some none)
  (z10:W.nsIn K mainGlobals "range"=some none)
  (z11:W.nsIn K mainGlobals "max"=some none)
  (z12:W.nsIn K mainGlobals "min"=some none)
  (z13:W.nsIn K mainGlobals "str"=some none)
  (z14:W.nsIn K mainGlobals "zip"=some none)
  (z15:W.nsIn K mainGlobals "ord"=some none)
  (z16:W.nsIn K mainGlobals "sum"=some none)
  (z17:W.nsIn K mainGlobals "reversed"=some none)
  (z18:W.nsIn K mainGlobals "sorted"=some none)
  (z19:W.nsIn K mainGlobals "dict"=some none)
  (z20:W.nsIn K mainGlobals "set"=some none):
  ∃fd:FuncData,(∀(s:Shared) (v:Value),BindsTo s fd ⟨[v],[]⟩ [("_law_script",v)])/\∀base:Heap,K.In base->base.Ns mainGlobals mg->FnOk l.prog w K mg base Z6 10 fa fd ["_law_script"] (iT K):=by
 have e:=hfa.symm.trans (Cy X G a53);cases e;have T:Txt K mg (fun i=>if i=0 then t0 else if i=1 then t1 else if i=2 then t2 else if i=3 then t3 else if i=4 then t4 else 0):=⟨Cy X G yg0,Cy X G yg1,Cy X G yg2,Cy X G yg3,Cy X G yg4,JM X G z0,JM X G z1,JM X G z2,JM X G z3,JM X G z4,JM X G z5,JM X G z6,JM X G z7,JM X G z8,JM X G z9,JM X G z10,JM X G z11,JM X G z12,JM X G z13,JM X G z14,JM X G z15,JM X G z16,JM X G z17,JM X G z18,JM X G z19,JM X G z20⟩
 refine⟨W.fnOf "law" "law" (Qq ZJ) (zB ZJ) (qo ZJ) .none kV53 dc53 pm53 an53 cd53 ct53,fun s v=> .of_eq rfl,fun base _ _=>?_⟩
 have U:DCx K C:=⟨⟨pgD,hdD,poD,saD⟩,n_D_table,n_D_house_keys,n_D_near,n_D_far,n_D_most,n_D_least_age,n_D_buttons,n_D_log⟩
 have dQ:=jf (P:=l.prog) (w:=w) (base:=base) (A0.at fun _ _ _ _ _ _=>QV fun _=>rfl) T
 have xW:=li (A1.at fun _ _ _ _ _ _=>QV fun _=>rfl) T dQ
 have xR:=iM (A2.at fun _ _ _ _ _ _=>QV fun _=>rfl) T xW
 have xQ:=iI (P:=l.prog) (w:=w) (base:=base) (A3.at fun _ _ _ _ _ _=>QV fun _=>rfl) T
 have xL:=tV (P:=l.prog) (w:=w) (base:=base) (A4.at fun _ _ _ _ _ _=>fo fun _ _ _=>rfl) T
 have x9:=oz (A5.at fun _ _ _ _ _ _=>fo fun _ _ _=>rfl) T xQ
 have x6:=nv (P:=l.prog) (w:=w) (base:=base) (A6.at fun _ _ _ _ _ _=>QV fun _=>rfl) T
 have x8:=om (A7.at fun _ _ _ _ _ _=>QV fun _=>rfl) T xR
 have xA:=kM (A8.at fun _ _ _ _ _ _=>QV fun _=>rfl) T x6 dQ x8
 have xG:=dz (P:=l.prog) (w:=w) (base:=base) (A9.at fun _ _ _ _ _ _=>QV fun _=>rfl) T
 have xK:=pH (A10.at fun _ _ _ _ _ _=>fo fun _ _ _=>rfl) T xG xL
 have xJ:=fH (P:=l.prog) (w:=w) (base:=base) (A11.at fun _ _ _ _ _ _=>QV fun _=>rfl) T
 have xY:=kS (A12.at fun _ _ _ _ _ _=>Be fun _ _ _ _ _ _=>rfl) T xJ xK xL
 have dO:=iF (A13.at fun _ _ _ _ _ _=>fo fun _ _ _=>rfl) T xK x9
 have yB:=nV (P:=l.prog) (w:=w) (base:=base) (A14.at fun _ _ _ _ _ _=>fL fun _ _ _ _=>rfl) T
 have xE:=mZ (A15.at fun _ _ _ _ _ _=>Bm fun _ _ _ _ _=>rfl) T yB
 have yD:=(fK (P:=l.prog) (w:=w) (base:=base) (A16.at fun _ _ _ _ _ _=>Be fun _ _ _ _ _ _=>rfl) T U).mi mkD kcD (Cy X G aCD)
 have xI:=fR (P:=l.prog) (w:=w) (base:=base) (A17.at fun _ _ _ _ _ _=>QV fun _=>rfl) T U
 have dE:=cQ (P:=l.prog) (w:=w) (base:=base) (A18.at fun _ _ _ _ _ _=>Z8 fun _ _=>rfl) T U
 have dH:=cN (P:=l.prog) (w:=w) (base:=base) (A19.at fun _ _ _ _ _ _=>Z8 fun _ _=>rfl) T U
 have dB:=bV (A20.at fun _ _ _ _ _ _=>fo fun _ _ _=>rfl) T U dH
 have A21:=A21.at (ps:=["self","button","age","count"]) fun _ _ _ _ _ _=>fL fun _ _ _ _=>rfl
 have dG:=cw A21 T U dB xE;have G_Door_plain_step:=bB A21 T U dB xE;have xC:=cR (A22.at fun _ _ _ _ _ _=>Z8 fun _ _=>rfl) T U dE dB dG dO
 have xT:=km (A23.at fun _ _ _ _ _ _=>Z8 fun _ _=>rfl) T U xA xC
 have dM:=ca (A24.at fun _ _ _ _ _ _=>Z8 fun _ _=>rfl) T U xA dH dO
 have xN:=iN (A25.at fun _ _ _ _ _ _=>fo fun _ _ _=>rfl) T U dM xI
 have dZ:=bG (P:=l.prog) (w:=w) (base:=base) (A26.at fun _ _ _ _ _ _=>Z8 fun _ _=>rfl) T U
 have dC:=cS (P:=l.prog) (w:=w) (base:=base) (A27.at fun _ _ _ _ _ _=>QV fun _=>rfl) T U
 have dL:=bF (P:=l.prog) (w:=w) (base:=base) (A28.at fun _ _ _ _ _ _=>QV fun _=>rfl) T U
 have dJ:=fB (P:=l.prog) (w:=w) (base:=base) (A29.at fun _ _ _ _ _ _=>QV fun _=>rfl) T U
 have xB:=ge (A30.at fun _ _ _ _ _ _=>QV fun _=>rfl) T U dC
 have xO:=iH (A31.at fun _ _ _ _ _ _=>fL fun _ _ _ _=>rfl) T U dL
 have d0:=fc (P:=l.prog) (w:=w) (base:=base) (A32.at fun _ _ _ _ _ _=>fL fun _ _ _ _=>rfl) T U G_Door_plain_step
 have xH:=eG (A33.at fun _ _ _ _ _ _=>fL fun _ _ _ _=>rfl) T xO d0
 have dP:=nw (A34.at fun _ _ _ _ _ _=>Z8 fun _ _=>rfl) T U dE xB xH
 have xS:=oo (P:=l.prog) (w:=w) (base:=base) (A35.at fun _ _ _ _ _ _=>Z8 fun _ _=>rfl) T
 have dA:=kQ (P:=l.prog) (w:=w) (base:=base) (A36.at fun _ _ _ _ _ _=>Z8 fun _ _=>rfl) T
 have dU:=jt (A37.at fun _ _ _ _ _ _=>QV fun _=>rfl) T dA
 have xD:=mX (A38.at fun _ _ _ _ _ _=>QV fun _=>rfl) T dA
 have dR:=i5 (P:=l.prog) (w:=w) (base:=base) (A39.at fun _ _ _ _ _ _=>fo fun _ _ _=>rfl) T
 have xZ:=kR (P:=l.prog) (w:=w) (base:=base) (A40.at fun _ _ _ _ _ _=>Z8 fun _ _=>rfl) T
 have dD:=kN (A41.at fun _ _ _ _ _ _=>Z8 fun _ _=>rfl) T xZ
 have dX:=i0 (A42.at fun _ _ _ _ _ _=>fo fun _ _ _=>rfl) T xY
 have N_law_learnt:=fZ (A43.at fun _ _ _ _ _ _=>fL fun _ _ _ _=>rfl) T U xN dX
 have dW:=jj (A44.at fun _ _ _ _ _ _=>fL fun _ _ _ _=>rfl) T U xT dX dD
 have xM:=iJ (A45.at fun _ _ _ _ _ _=>QV fun _=>rfl) T dA
 have xX:=kU (A46.at fun _ _ _ _ _ _=>Z8 fun _ _=>rfl) T U yD dZ dA dU xD xM dR N_law_learnt dW
 have xU:=jC (A47.at fun _ _ _ _ _ _=>QV fun _=>rfl) T dA
 have dI:=cf (P:=l.prog) (w:=w) (base:=base) (A48.at fun _ _ _ _ _ _=>Z8 fun _ _=>rfl) T
 have xP:=iO (P:=l.prog) (w:=w) (base:=base) (A49.at fun _ _ _ _ _ _=>QV fun _=>rfl) T
 have yC:=mS (A50.at fun _ _ _ _ _ _=>fL fun _ _ _ _=>rfl) T dD xP
 have yA:=nK (A51.at fun _ _ _ _ _ _=>Z8 fun _ _=>rfl) T yC
 have xF:=c9 (A52.at fun _ _ _ _ _ _=>QV fun _=>rfl) T U yD dA dU xD dR N_law_learnt dP dI
 exact Ao (jH (st:=ZJ) l53 c53 k53) T U dC dJ xS dA xU xX N_law_learnt dW yA dP dI xF
theorem tX{l:W.OpenLaw}{q:Program}{loose:List Str}{XP:(Str->Option Value)->Heap->Prop}{YP:World->Heap->Prop}{d:DefRec}{K:Params->Frag}(hn:l.most=some 63)(hdf:d.params.defaults=[])
  (hY:∀(w:World) (h:Heap),YP w h->(K w.params).In h)
  (F:∀(w:World) (mg:Str->Option Value) (fa:Addr) (h:Heap),(K w.params).In h->h.Ns mainGlobals mg->mg d.name=some (.ref fa)->
   ∃fd:FuncData,(∀(s:Shared) (u:Value),BindsTo s fd ⟨[u],[]⟩ [("_law_script",u)])/\∀base:Heap,(K w.params).In base->base.Ns mainGlobals mg->FnOk l.prog w (K w.params) mg base Z6 10 fa fd ["_law_script"] (iT (K w.params))):
  W.WalkO q loose XP YP l.row.toRowW d [] (fun f vs=>PySem.call f vs):=
 L2.wF (n:=63) (k:=10) (x:="_law_script") (CX:=fun _=>Z6) (sp:=fun w=>iT (K w.params)) hn (by decide) hdf ⟨rfl,by decide,by decide⟩ hY F (fun _ _ a ns hl _ hS=>⟨a,ns,rfl,hS,hl,fun _=>rfl⟩) fun _ _ _ _ _ z=>z
end Lw
namespace PySem.W.Fast
def tw398319985913466032:=()
def tw12968936419159862061:=()
def tw13880306229123096712:=()
def tw15660473817055499944:=()
def tw16814032346372282712:=()
def tw10657297110409255414:=()
def tw7898755377540632609:=()
def tw9507839453950424034:=()
def tw8950215685219177700:=()
def tw8535869432758378730:=()
def tw2950166093194803290:=()
def tw12320149604986752975:=()
def tw17055322183705067978:=()
def tw4366478533803270616:=()
def tw13136371322217057623:=()
def tw15546055916819197074:=()
def tw4731201367253985004:=()
def tw16738019614071107062:=()
def tw12295985456288484977:=()
def tw13374541343741695034:=()
def tw13583350328459082981:=()
def tw18075032286274045142:=()
def tw12145309958453607952:=()
def tw12568996168479021543:=()
def tw8233396326918420634:=()
def tw17484876091031761001:=()
def tw1689483894788450615:=()
def tw7664715041341167666:=()
def tw15655501125063925876:=()
def tw12629160240663636713:=()
def tw3681070977827329184:=()
def tw5691368579109549755:=()
def tw951573949774907555:=()
def tw2545849554638337442:=()
def tw11207217578102068162:=()
def tw10396720794800511568:=()
def tw15835670271284297745:=()
def tw13855462137691091880:=()
def tw14092450307410262797:=()
def tw2631926322180761286:=()
def tw13068187247432769775:=()
def tw4357649509202356782:=()
def tw13183511157089200221:=()
def tw12681904076220197327:=()
def tw9696724704782499195:=()
def tw3978539710292402607:=()
def tw14135776347429049193:=()
def tw5492162774550383530:=()
def tw269718915338047086:=()
def tw8003507955253598963:=()
def tw9340639592362174897:=()
def tw6330064190822726589:=()
def tw3867765280234993752:=()
def tw18054686985883638496:=()
def tw17861037133197589160:=()
def tw2069148642823995754:=()
def tw14095092236545915878:=()
def tw18246316480910377919:=()
def tw1236293344699216326:=()
def tw14278013654865717843:=()
def tw9349092929721700794:=()
def tw5718510341278338136:=()
def tw10692858537279762421:=()
def tw15928615561370612408:=()
def tw9751266608574776820:=()
def tw16571746488660285854:=()
def tw10319649214514316138:=()
def tw17703001155382993899:=()
def tw1950283543218075530:=()
def tw15293001509892910911:=()
def tw14003500799936600911:=()
def tw15997034022024512857:=()
def tw4240912459892435635:=()
def tw5454579386224323518:=()
def tw11237574005346055045:=()
def tw10833615977324481496:=()
def tw5240201021605526881:=()
def tw4067106069671199441:=()
def tw2978054536128238512:=()
def tw1231218343760447082:=()
def tw12766303756869737657:=()
def tw13301299664433814829:=()
def tw1990358238261966058:=()
def tw4879818277928279470:=()
def tw1160392728705408992:=()
def tw768866900462606082:=()
def tw9251793056742110732:=()
def tw8759076157043737747:=()
def tw8886313222219060113:=()
def tw13770520631247263581:=()
def tw13742511823336027915:=()
def tw17947782867643444653:=()
def tw8641791360329431706:=()
def tw6699050067260907949:=()
def tw5744745362628568758:=()
def tw4250803714456449585:=()
def tw4770788707881074702:=()
def tw14585077787385165902:=()
def tw8831327722223667695:=()
def tw15395709857598359857:=()
def tw5470261608428751444:=()
def tw14958936633420558665:=()
def tw17051902609310484465:=()
def tw9141101513541342316:=()
def tw9012549689552256211:=()
def tw8483154967074227661:=()
def tw10717369678615529702:=()
def tw2001614142895503608:=()
def tw7431090673513065851:=()
def tw875322489143289720:=()
def tw15794558525071044873:=()
def tw15466405426166577179:=()
def tw13391134430456715512:=()
def tw772754270056060341:=()
def tw18231937824258808242:=()
def tw16284595524588107903:=()
def tw1717415372016089505:=()
def tw11739082128126840778:=()
def tw13568777904332034975:=()
def tw11551504402126084715:=()
def tw15746558894745359510:=()
def tw16881529881584401460:=()
def tw4745875779851195289:=()
def tw18121954059047961240:=()
def tw12939245964754633508:=()
def tw14711147157226602396:=()
def tw11250297574423788905:=()
def tw17424720188095978906:=()
def tw16039003969073273682:=()
def tw16269747784400048497:=()
def tw14594011532496822838:=()
def tw1051777534810714368:=()
def tw17354880646101926208:=()
def tw14530554685271323782:=()
def tw15552469950365404009:=()
def tw4580091187718244230:=()
def tw8131791413867863338:=()
def tw5690237341265275963:=()
def tw4499586005496021309:=()
def tw3506365945149905690:=()
def tw8855616797993809094:=()
def tw15291407251309260863:=()
def tw9781530705671440316:=()
def tw15782970921019508469:=()
def tw14565106478153307137:=()
def tw3178478304334923759:=()
def tw12381401345494538392:=()
def tw5732197567607961365:=()
def tw10398616119476747402:=()
def tw10037879827491906639:=()
def tw2673184497430056427:=()
def tw3084240532763904044:=()
def tw10375193728668558307:=()
def tw3103617163546446445:=()
def tw5369273698192473935:=()
def tw11995543878288017279:=()
def tw4169149264193692696:=()
def tw17498997231211335041:=()
def tw8966498520290624029:=()
def tw12317376161435230542:=()
def tw14718178360433540053:=()
def tw13283425265079066545:=()
def tw9167543606765032344:=()
def tw17323508778935282419:=()
def tw9104653218314770893:=()
def tw8707074840969591913:=()
def tw6407662442420820519:=()
def tw14111671037862415369:=()
def tw13515989432153965280:=()
def tw9045508094043774546:=()
def tw5231750085218063905:=()
def tw13680331279330088694:=()
def tw2267729842762571209:=()
def tw8734836801056704580:=()
def tw1959878553819153424:=()
def tw2391175407111826188:=()
def tw12832729603582521454:=()
def tw8342445179420441958:=()
def tw627065579174247085:=()
def tw3936828502894668062:=()
def tw157572921477592573:=()
def tw13859208176381501159:=()
def tw33310904454463313:=()
def tw10088974220421882434:=()
def tw3036668176436561570:=()
def tw13794647191160617533:=()
def tw9462369982786142017:=()
def tw12567100641370647303:=()
def tw12154372639791743118:=()
def tw17307922259512884176:=()
def tw11567097833183884855:=()
def tw12026510466077562141:=()
def tw3202576889625498550:=()
def tw17080451801163780345:=()
def tw8679440329097432918:=()
def tw8046622222093471466:=()
def tw11524741112942907413:=()
def tw7494831783728019062:=()
def tw13411340538098342142:=()
def tw10079529999540403377:=()
def tw15423662507677675681:=()
def tw13474322362848017768:=()
def tw5496253918687183771:=()
def tw12405188512833147936:=()
def tw9158550570988547131:=()
def tw6603594772702200672:=()
def tw11223469901901999591:=()
def tw16496283604652202634:=()
def tw5416852498545483672:=()
def tw13137411651179401694:=()
def tw10770420665379496872:=()
def tw832537384297665961:=()
def tw11749488797692725491:=()
def tw6598208361243246563:=()
def tw5410236759257593414:=()
def tw12875202353421746665:=()
def tw9232065464585047405:=()
def tw2523332327148476272:=()
def tw2265859958333640996:=()
def tw6322699141335643788:=()
def tw17086369253074509575:=()
def tw10418417516229336620:=()
def tw1351163135377094163:=()
def tw10012777959520778713:=()
def tw7764999318414542673:=()
def tw7033280353273531851:=()
def tw14160380065657466156:=()
def tw6468816701736193101:=()
def tw4567388052185693924:=()
def tw898172906640067121:=()
def tw16592646887880964094:=()
def tw4308127731911844735:=()
def tw9818623959482166949:=()
def tw7525269693603453677:=()
def tw4010919990722430594:=()
def tw5974613979206061523:=()
def tw4040721100013884345:=()
def tw9157639702270312620:=()
def tw12965402530666380783:=()
def tw9852540291431845640:=()
def tw2648952347014562702:=()
def tw9076911171854766300:=()
def tw6210410592312447229:=()
def tw1734612058636208064:=()
def tw6611457192160639484:=()
def tw12302541761749074232:=()
def tw17309506569319527781:=()
def tw9123919828281733494:=()
def tw11658151615949730561:=()
def tw10239329493109095111:=()
def tw411549972517188818:=()
def tw6072975524528488594:=()
def tw508905320873801543:=()
def tw103133288799316005:=()
def tw7081798755184559589:=()
def tw5232561000900433440:=()
def tw4492450476089718134:=()
def tw4082344173605401131:=()
def tw6173731224945061706:=()
def tw15982139485439785121:=()
def tw15357909608156668792:=()
def tw14940091113722371396:=()
def tw14815899354642327132:=()
def tw6966737527050171837:=()
def tw397742194447953414:=()
def tw15823365660797321481:=()
def tw9745066589953620536:=()
def tw12346959291162945499:=()
def tw5379664123884609912:=()
def tw13992986765977184869:=()
def tw5680477808395462519:=()
def tw4387233900274526181:=()
def tw11828770773457592656:=()
def tw13986816135661501659:=()
def tw15576023894026607044:=()
def tw7314261145301815358:=()
def tw14711431582865043108:=()
def tw12896454983291123523:=()
def tw489414925850120408:=()
def tw7351114060884977734:=()
def tw6309210129862862892:=()
def tw11070514861979357582:=()
def tw15502923363304098923:=()
def tw15069694450412029888:=()
def tw17524524659021858474:=()
def tw15833712619456387334:=()
def tw18246594811429954155:=()
def tw7435811710204325266:=()
def tw10207968562410953386:=()
def tw4736697583030057774:=()
def tw3489970914848139113:=()
def tw14722348117187434530:=()
def tw15833536399108786251:=()
def tw5799805646935387672:=()
def tw15543284934528473953:=()
def tw4944217478027176714:=()
def tw8582008515285141742:=()
def tw3410299405544021639:=()
def tw14948793196456261317:=()
def tw4222498965419102262:=()
def tw10354440089976604216:=()
def tw3461521880070648781:=()
def tw2869297261027279594:=()
def tw8455075367765583989:=()
def tw10618727801535337347:=()
def tw4774812455919540844:=()
def tw15891315902003880747:=()
def tw14140198514904990888:=()
def tw14269707479524215864:=()
def tw7324177627817290421:=()
def tw11794940886016608978:=()
def tw8091737866888372953:=()
def tw401167469356558907:=()
def tw14556170876176719251:=()
def tw13139092755007950592:=()
def tw775214509645670595:=()
def tw5996784910410087911:=()
def tw4229795349306414763:=()
def tw12272551243901503918:=()
def tw8395755003335101197:=()
def tw3608152892768177568:=()
def tw9934052945267403528:=()
def tw7291867009311016297:=()
def tw6332639726442203215:=()
def tw3302462069297266673:=()
def tw13407025929162111271:=()
def tw18291615205081890308:=()
def tw12953512644145252653:=()
def tw11077818066196043639:=()
def tw7967714238348009814:=()
def tw4542522183492151713:=()
def tw1775778817391784289:=()
def tw13410056964155117827:=()
def tw10568495713301964102:=()
def tw8521077132687558919:=()
def tw6869416728253235242:=()
def tw6334532348439027356:=()
def tw16678820526773876506:=()
def tw16625412324055918174:=()
def tw13130038563107738827:=()
def tw13076414548069994027:=()
def tw10285176980061178702:=()
def tw13940567566096954625:=()
def tw3853875566231870051:=()
def tw7963718586971570080:=()
def tw6538318994217774103:=()
def tw6062539731033559107:=()
def tw4871625245603668555:=()
def tw3733119598366815008:=()
def tw1565642935863242809:=()
def tw2537335155462116908:=()
def tw18288215568384423053:=()
def tw14583130294153457816:=()
def tw13162154289988213285:=()
def tw12075098741024378016:=()
def tw12415697963502438956:=()
def tw5892654070783223820:=()
def tw5103806700982050783:=()
def tw14350367521498808765:=()
def tw8236388889858222671:=()
def tw4210053841177925918:=()
def tw2610767227891194768:=()
def tw14816229312623758719:=()
def tw11955893263974410807:=()
def tw9983486504972328108:=()
def tw9972245904715010909:=()
def tw9922097516612607638:=()
def tw9812317325567744281:=()
def tw9641596662490517911:=()
def tw9404677092403521168:=()
def tw9364650964601464867:=()
def tw9093565866878763465:=()
def tw9046869800034861172:=()
def tw9017688532612734797:=()
def tw8841261639352305641:=()
def tw8676196826201420991:=()
def tw8462999255476627630:=()
def tw8132748250549615216:=()
def tw8020930083924691353:=()
def tw7989016153344591632:=()
def tw7967615619033000583:=()
def tw7829096417771124502:=()
def tw7737817406153762586:=()
def tw7540100168618436538:=()
def tw7440721600442064596:=()
def tw7317537137472101177:=()
def tw7172320586609608345:=()
def tw7167658159174931844:=()
def tw7129032438553277534:=()
def tw7009698650204396481:=()
def tw6909417474640368064:=()
def tw6725307109094088291:=()
def tw6698775841657134828:=()
def tw6668309261562917243:=()
def tw6643921147833857417:=()
def tw6599734534732955248:=()
def tw6486045417708376192:=()
def tw6420071363051779572:=()
def tw6387210462945628806:=()
def tw6289781216212850100:=()
def tw6261686581274248825:=()
def tw6100492293770706789:=()
def tw609437051761938081:=()
def tw6077707036974736192:=()
def tw603466643739255832:=()
def tw5841023369459508887:=()
def tw5802914614433246644:=()
def tw5706072970727663896:=()
def tw5680388937510118415:=()
def tw5648878576116276614:=()
def tw5611311089945560890:=()
def tw5581620723904642119:=()
def tw5350311301553956565:=()
def tw5184576175749956820:=()
def tw5109951704229003899:=()
def tw5092798576991416871:=()
def tw4635094738206638405:=()
def tw4548017735785720068:=()
def tw447145108621402973:=()
def tw4354054735671481888:=()
def tw4208440324434691080:=()
def tw4191284592364357894:=()
def tw3684431974931248629:=()
def tw3638413749759283073:=()
def tw3476491977244623046:=()
def tw3438011310695215672:=()
def tw3327738136379287993:=()
def tw3248881348358843980:=()
def tw3145843630227800720:=()
def tw3028469386765026629:=()
def tw2951110621290060182:=()
def tw2926367535892393949:=()
def tw27530410395047220:=()
def tw2466983968596691103:=()
def tw2404142499523997730:=()
def tw2355340107202961938:=()
def tw2238716226358258317:=()
def tw2073728128105176348:=()
def tw2029851897573030568:=()
def tw1960293816822915740:=()
def tw1926022357709444706:=()
def tw1874685400175837256:=()
def tw1839166073389853446:=()
def tw18344177085538474367:=()
def tw18226618819640625329:=()
def tw18158393919930555622:=()
def tw18151284636913366413:=()
def tw18066911713658950431:=()
def tw18043028350631134653:=()
def tw18037186243337345238:=()
def tw17822817797000074931:=()
def tw17820904385879375515:=()
def tw17593768700183760670:=()
def tw17546043436989651335:=()
def tw17369914762200817600:=()
def tw17107525047644523512:=()
def tw17033957259035066235:=()
def tw16886669763263447533:=()
def tw16578481272926580385:=()
def tw16564237044212206900:=()
def tw16084304274308345286:=()
def tw15966801582373792856:=()
def tw15839091366789286701:=()
def tw15711652243034221106:=()
def tw15542977939954350408:=()
def tw1549299968357369648:=()
def tw15362718825354738226:=()
def tw15008876836728366565:=()
def tw14947487749266426682:=()
def tw14823417068617241704:=()
def tw14783647357534510181:=()
def tw14764219441604960501:=()
def tw1469628669491688188:=()
def tw1463967622357807425:=()
def tw14582379439281450095:=()
def tw14576482204113556636:=()
def tw14508893282882610343:=()
def tw14270082661087086925:=()
def tw14173870936151391283:=()
def tw13973091235390291355:=()
def tw13799147318374241636:=()
def tw1361524469717188761:=()
def tw12925897839484734578:=()
def tw12479459461581374956:=()
def tw12460902716631932995:=()
def tw1227226387679905983:=()
def tw1217310716914368068:=()
def tw1199680433507507519:=()
def tw11811803621925080603:=()
def tw11767847470510654579:=()
def tw11631334479114632484:=()
def tw11366952502152745049:=()
def tw1136409830577735299:=()
def tw11249301486717172909:=()
def tw11192829625752972699:=()
def tw11133067903391714686:=()
def tw11100570366605545377:=()
def tw10885620934685075024:=()
def tw10777453321532681329:=()
def tw10775127298952107297:=()
def tw10654601468244888318:=()
def tw10583386484991653327:=()
def tw10546738397242289346:=()
def tw10428119635107685329:=()
def tw1002015358370424715:=()
end PySem.W.Fast
open PySem PySem.W PyProof.Rows
set_option maxRecDepth 100000 in
set_option maxHeartbeats 0 in
theorem PySem.Challenge.cw_rollcode_k36_brought_together_holds : PySem.Challenge.rw_rollcode_k36_brought_together.Holds := by
 w_on;o_law;k_head;(case hw=>w_witness2)
 k_fill
 refine Lw.tX (l:=PySem.Challenge.rw_rollcode_k36_brought_together) rfl rfl (fun w h Y=>PySem.W.kIn_of Y) ?F
 case F=>
  intro w mg fa h KX G hmg;refine' Lw.yK KX G hmg ?aCD ?pgD ?hdD ?poD ?saD ?mkD ?kcD ?n_D_table ?n_D_house_keys ?n_D_near ?n_D_far ?n_D_most ?n_D_least_age ?n_D_buttons ?n_D_log ?A0 ?A1 ?A2 ?A3 ?A4 ?A5 ?A6 ?A7 ?A8 ?A9 ?A10 ?A11 ?A12 ?A13 ?A14 ?A15 ?A16 ?A17 ?A18 ?A19 ?A20 ?A21 ?A22 ?A23 ?A24 ?A25 ?A26 ?A27 ?A28 ?A29 ?A30 ?A31 ?A32 ?A33 ?A34 ?A35 ?A36 ?A37 ?A38 ?A39 ?A40 ?A41 ?A42 ?A43 ?A44 ?A45 ?A46 ?A47 ?A48 ?A49 ?A50 ?A51 ?A52 ?a53 ?l53 ?c53 ?k53 ?yg0 ?yg1 ?yg2 ?yg3 ?yg4 ?z0 ?z1 ?z2 ?z3 ?z4 ?z5 ?z6 ?z7 ?z8 ?z9 ?z10 ?z11 ?z12 ?z13 ?z14 ?z15 ?z16 ?z17 ?z18 ?z19 ?z20
  (case aCD|pgD|hdD|poD|saD|mkD|kcD|n_D_table|n_D_house_keys|n_D_near|n_D_far|n_D_most|n_D_least_age|n_D_buttons|n_D_log=>k_is)
  (case A0|A1|A2|A3|A4|A5|A6|A7|A8|A9|A10|A11|A12|A13|A14|A15=>refine' L3.vC KX G ?ya ?yl ?yc ?yk;case ya|yl|yc|yk=>k_is)
  (case A16|A17|A18|A19|A20|A21|A22|A23|A24|A25|A26|A27|A28|A29=>refine' L3.yQ ?ya ?yi ?yl ?yc ?yk;case ya|yi|yl|yc|yk=>k_is)
  (case A30|A31|A32|A33|A34|A35|A36|A37|A38|A39|A40|A41|A42|A43|A44|A45|A46|A47|A48|A49|A50|A51|A52=>refine' L3.vC KX G ?ya ?yl ?yc ?yk;case ya|yl|yc|yk=>k_is)
  (case a53|l53|c53|k53|yg0|yg1|yg2|yg3|yg4|z0|z1|z2|z3|z4|z5|z6|z7|z8|z9|z10|z11|z12|z13|z14|z15|z16|z17|z18|z19|z20=>k_is)
