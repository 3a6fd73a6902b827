import PyProof.Rows.All
import Wide.All
import OpenK.AllK
import Wide.FinOn
import Lean
import PyProof.EqAt
import PyProof.EqKinds
import PyProof.TupleCall
import PySem.Challenge.RW_rollcode_k32_told_apart_by_one
import PyProof.StationsW
import PyProof.ExcClass2
import OpenK.KOwn
import PyProof.ExcBaseAll.ValueError
import PyProof.RulesAs
import PyProof.NsDelKeeps
import PyProof.Rows.Catch
import KE.KIsAll
import PyProof.ExcArgsOwn
import PyProof.Rows.CatchOwn
import PyProof.ExcAttrAll.ValueError
import PyProof.AttrMissHeap
import PyProof.Rows.SetFrom
import KE.KDictOf
import PyProof.DictWalks
import PyProof.Rows.DictUnroll
import PyProof.ExcInit
import PyProof.InstStoreFacts
import PyProof.FString
import OpenK.KCls
import PyProof.ListMulRoad
import PyProof.FactsAll.tuple_2
import PyProof.FactsAll.set
import PyProof.CollectWalk
import KE.KDictList
import PyProof.FactsAll.set_1
import PyProof.FactsAll.set_2
import PyProof.SetNew
import PyProof.MeetsSeq2
import PyProof.DictValues
import PyProof.AutoSeq1
import PyProof.FactsAll.list_3
import PyProof.DictItems
set_option Elab.async false
set_option maxRecDepth 100000
set_option maxHeartbeats 4000000
set_option linter.unusedVariables false
set_option linter.all false
open PySem.W (Frag)
namespace L0
abbrev Ja:=@PySem.wpAny_bind
abbrev Jb:=@PySem.wpAny_pure
abbrev Jc:=@if_pos
abbrev Jd:=@if_neg
abbrev Je:=@List.length_map
abbrev Jf:=@Nat.le_refl
abbrev Jg:=@decide_eq_true
abbrev Jh:=@PySem.Heap.lt_size
abbrev Ji:=@PySem.Heap.get?_push_of_some
abbrev Jj:=@List.getElem?_eq_getElem
abbrev Jk:=@List.mem_cons
abbrev Jl:=@List.mem_singleton
abbrev Jm:=@Nat.ne_of_lt
abbrev Jn:=@decide_eq_false
abbrev Jo:=@List.getElem?_map
abbrev Jp:=@PySem.Heap.get?_push_size
abbrev Jq:=@Array.length_toList
abbrev Jr:=@List.size_toArray
abbrev Js:=@List.not_mem_nil
abbrev Jt:=@or_false
abbrev Ju:=@PyProof.Rows.boot_isinstance
abbrev Jv:=@List.getElem?_eq_some_iff
abbrev Jw:=@List.mem_cons_self
abbrev Jx:=@of_decide_eq_true
abbrev Jy:=@Option.some.inj
abbrev Jz:=@Bool.and_eq_true
abbrev JA:=@PySem.sizeLine_eq
abbrev JB:=@List.mem_map
abbrev JC:=@List.mem_cons_of_mem
abbrev JD:=@List.length_append
abbrev JE:=@if_false
abbrev JF:=@List.getD_eq_getElem?_getD
abbrev JG:=@PyProof.Rows.boot_tuple
abbrev JH:=@PySem.wpAny_mono
abbrev JI:=@Nat.zero_le
abbrev JJ:=@Nat.lt_of_lt_of_le
abbrev JK:=@Nat.le_trans
abbrev JL:=@PySem.wpAny_holding
abbrev JM:=@PySem.PassesOwn.never
abbrev JN:=@List.map_append
abbrev JO:=@List.filterMap_cons
abbrev JP:=@Bool.false_ne_true
abbrev JQ:=@List.map_cons
abbrev JR:=@PySem.wpAny_field
abbrev JS:=@PySem.wpAny_call_entry
abbrev JT:=@PySem.W.mg_none_of
abbrev JU:=@List.length_cons
abbrev JV:=@PySem.Heap.size_push
abbrev JW:=@List.mem_append
abbrev JX:=@Nat.ne_of_gt
abbrev JY:=@Nat.lt_irrefl
abbrev JZ:=@beq_iff_eq
abbrev J0:=@PySem.W.kia_one
abbrev J1:=@PySem.boot_len
abbrev J3:=@congrArg
abbrev J4:=@List.any_cons
abbrev J5:=@List.mem_range
abbrev DV:=@List.mem_of_getElem?
abbrev DW:=@PySem.Heap.SameBut.update
abbrev DX:=@List.mem_append_right
abbrev DY:=@List.getElem?_append_right
abbrev DZ:=@Option.map_eq_some_iff
abbrev D7:=@PyProof.Rows.boot_list
abbrev D8:=@List.getElem?_append_left
abbrev D9:=@PySem.wpAny_newObj_type
abbrev Eb:=@Bool.false_and
abbrev Ec:=@PySem.wpAny_rule
abbrev Ed:=@List.lookup_cons
abbrev Ee:=@Int.toNat_natCast
abbrev Eg:=@PySem.wpAny_of_eq
abbrev Eh:=@List.take_add_one
abbrev Ei:=@PySem.F.plainAttrs_list
abbrev Ej:=@Bool.eq_iff_iff
abbrev Ek:=@Nat.lt_succ_self
abbrev El:=@List.append_nil
abbrev Eo:=@Nat.le_succ
abbrev Ep:=@if_true
abbrev Er:=@PySem.wpAny_setField
abbrev Es:=@beq_self_eq_true
abbrev Et:=@List.nodup_cons
abbrev Eu:=@List.length_take
abbrev Ew:=@List.append_assoc
abbrev Ex:=@Nat.lt_succ_of_lt
abbrev Ey:=@List.getElem_mem
abbrev Ez:=@PySem.wpAny_attempt
abbrev EA:=@List.take_length
abbrev EB:=@List.map_map
abbrev EC:=@Int.le_refl
abbrev ED:=@beq_eq_false_iff_ne
abbrev EE:=@PySem.wpAny_truthy_bool
abbrev EF:=@PySem.wpAny_standAt
abbrev EG:=@List.length_singleton
abbrev EH:=@Option.getD_some
abbrev EI:=@PySem.wpAny_seqItems
abbrev EJ:=@PySem.wpAny_isInstance
abbrev EK:=@Nat.le_add_right
abbrev EL:=@PySem.codeAny_builtin
abbrev EM:=@Int.emod_nonneg
abbrev EN:=@Int.emod_lt_of_pos
abbrev EO:=@PySem.W.mg_of
abbrev ER:=@PyProof.Rows.boot_int
abbrev ES:=@Bool.true_and
abbrev ET:=@PySem.wpAny_pyIter_tuple
abbrev EU:=@PyProof.Rows.callWith_type1
abbrev EV:=@PySem.Heap.get?_update_self
abbrev EW:=@PySem.F.slot_zip_next
abbrev EX:=@PySem.isSubtype_type
abbrev EY:=@PySem.F.slot_list_append
abbrev EZ:=@PySem.F.type_list_append
abbrev E1:=@PySem.codeAny_mono
abbrev E2:=@PySem.mem_of_lookup
abbrev E3:=@List.length_set
abbrev E4:=@PySem.call_meets
abbrev E5:=@List.all_eq_true
abbrev E6:=@PySem.Obj.data_mapFields
abbrev E7:=@PySem.wpAny_specialOf
abbrev E8:=@PySem.Around.in1_units
abbrev E9:=@List.find?_cons
abbrev Fb:=@List.nodup_append
abbrev Fc:=@PyProof.Rows.boot_bool
abbrev Fd:=@PyProof.Rows.boot_str
abbrev Fe:=@List.mem_append_left
abbrev Ff:=@PySem.wpAny_pyIter_list
abbrev Fg:=@PySem.wpAny_typeOf
abbrev Fh:=@PySem.Heap.get?_update_other
abbrev Fi:=@List.replicate_succ
abbrev Fj:=@PySem.wpAny_loadPart'
abbrev Fk:=@PySem.W.kia_tup
abbrev Fl:=@PySem.typeLookup_type
abbrev Fn:=@PySem.builtinLookup_eq_fast
abbrev Fo:=@beq_false_of_ne
abbrev Fp:=@Nat.le_of_lt
abbrev Fq:=@PySem.wpAny_passesOwn
abbrev Ft:=@List.map_nil
abbrev Fu:=@Nat.le_of_not_lt
abbrev Fv:=@PySem.wpAny_pyIter_enum
abbrev Fw:=@decide_eq_true_iff
abbrev Fx:=@PySem.isSubtype_stop
abbrev Fy:=@PySem.wpAny_setField_rec
abbrev FA:=@List.map_congr_left
abbrev FB:=@List.nodup_nil
abbrev FC:=@PyProof.Rows.boot_max
abbrev FD:=@List.getElem?_range
abbrev FE:=@List.getElem?_set_self
abbrev FF:=@List.getElem?_set_ne
abbrev FG:=@Nat.le_of_eq
abbrev FH:=@PySem.wpAny_Call_Name_kw
abbrev FI:=@List.length_drop
abbrev FJ:=@PyProof.Rows.slot_tuple_getitem
abbrev FK:=@List.flatten_cons
abbrev FL:=@PySem.F.slot_tuple_iterator_next
abbrev FM:=@PySem.Obj.isFreed_of_fields
abbrev FN:=@PySem.F.entry_zip_next
abbrev FO:=@PySem.F.args_zip_next_1
abbrev FP:=@PySem.wpAny_pyIter_zip
abbrev FQ:=@PySem.tupleKind_room_in1
abbrev FR:=@Bool.eq_false_iff
abbrev FS:=@PyProof.Rows.boot_all
abbrev FT:=@PySem.wpAny_pyIter_rangeiter
abbrev FU:=@Option.isSome_iff_exists
abbrev FV:=@List.length_replicate
abbrev FW:=@PySem.F.slot_tuple_add
abbrev FX:=@PySem.F.entry_tuple_add
abbrev FY:=@PySem.F.args_tuple_add_2
abbrev FZ:=@PySem.Calls.callWith_builtin
abbrev F0:=@List.getElem?_eq_none
abbrev F1:=@PySem.F.slot_dict_get
abbrev F2:=@List.getElem?_append
end L0
open L0
namespace L0
open PySem
abbrev Gb:=Value->Shared->Prop
abbrev Gc:=Str->Option Value
abbrev Gd:=List (Addr×Obj)
end L0
open L0
namespace L2
open PySem PySem.Spec PyProof.Rows
abbrev qL:=Sum Int Str
def eI:qL->Value->Bool
 | .inl k,v=>Value.isInt k v
 | .inr x,v=>Value.isStrOf x v
def DL(w:World):qL->Int
 | .inl k=>hashInt k
 | .inr x=>hashStr w x
theorem zM:∀{k:qL} {v:Value},eI k v=true->(∃i t,k=Sum.inl i/\v=Value.int i t)\/(∃x t,k=Sum.inr x/\v=Value.str x t)
 | .inl i,v,h=>by
  obtain⟨t,e⟩:=Value.isInt_shape (k:=i) (v:=v) h
  exact .inl ⟨i,t,rfl,e⟩
 | .inr x,v,h=>by
  obtain⟨t,e⟩:=Value.isStrOf_shape (x:=x) (v:=v) h
  exact .inr ⟨x,t,rfl,e⟩
theorem sP(i:Int)(t:Tok):eI (.inl i) (.int i t)=true:=by simp [eI,Value.isInt]
theorem tX(x:Str)(t:Tok):eI (.inr x) (.str x t)=true:=by simp [eI,Value.isStrOf]
theorem Cd(a b:Int):decide ((Sum.inl a:qL)=Sum.inl b)=(a==b):=by
 by_cases e:a=b
 ·subst e;simp
 ·have h:¬(Sum.inl a:qL)=Sum.inl b:=fun q=>e (Sum.inl.inj q)
  rw[Jn h]
  exact(ED.mpr e).symm
theorem Ch(a b:Str):decide ((Sum.inr a:qL)=Sum.inr b)=decide (a=b):=by
 by_cases e:a=b
 ·subst e;simp
 ·have h:¬(Sum.inr a:qL)=Sum.inr b:=fun q=>e (Sum.inr.inj q)
  rw[Jn h,Jn e]
theorem Cf(a:Int)(b:Str):decide ((Sum.inl a:qL)=Sum.inr b)=false:=Jn (fun q=>nomatch q)
theorem BT(a:Str)(b:Int):decide ((Sum.inr a:qL)=Sum.inl b)=false:=Jn (fun q=>nomatch q)
def za(prog:Program)(w:World):PySem.KeyKind prog w qL where
 is:=eI
 hash:=DL w
 inj:=fun v a b ha hb=>by
  rcases zM ha with⟨i,t,rfl,rfl⟩|⟨x,t,rfl,rfl⟩
  ·rcases zM hb with⟨j,u,rfl,e⟩|⟨y,u,rfl,e⟩
   ·injection e with e1 _;rw[e1]
   ·exact nomatch e
  ·rcases zM hb with⟨j,u,rfl,e⟩|⟨y,u,rfl,e⟩
   ·exact nomatch e
   ·injection e with e1 _;rw[e1]
 byValue:=fun k v h=>by
  rcases zM h with⟨i,t,rfl,rfl⟩|⟨x,t,rfl,rfl⟩<;>rfl
 pyHash:=fun hv h=>by
  rcases zM hv with⟨i,t,rfl,rfl⟩|⟨x,t,rfl,rfl⟩
  ·exact wpAny_pyHash_int h
  ·exact wpAny_pyHash_str h
 eqBool:=fun hu hv h=>by
  rcases zM hu with⟨i,t,rfl,rfl⟩|⟨x,t,rfl,rfl⟩
  ·rcases zM hv with⟨j,u,rfl,rfl⟩|⟨y,u,rfl,rfl⟩
   ·rw[Cd]at h;exact wpAny_eqBool_int h
   ·rw[Cf]at h;exact SeqAt.EqAt.int_str i t y u _ _ _ _ h
  ·rcases zM hv with⟨j,u,rfl,rfl⟩|⟨y,u,rfl,rfl⟩
   ·rw[BT]at h;exact SeqAt.EqAt.str_int x t j u _ _ _ _ h
   ·rw[Ch]at h;exact wpAny_eqBool_str h
 «strs»:=fun k x t v h=>by
  rcases zM h with⟨i,u,rfl,e⟩|⟨y,u,rfl,e⟩
  ·exact nomatch e
  ·injection e with e1 _
   subst e1;cases v<;>rfl
theorem ml(prog:Program)(w:World)(i:Int)(t:Tok):(za prog w).is (.inl i) (.int i t)=true:=sP i t
theorem mt(prog:Program)(w:World)(x:Str)(t:Tok):(za prog w).is (.inr x) (.str x t)=true:=tX x t
inductive V where
 |non|bl (b:Bool)|int (i:Int)|str (x:Str)|byt (b:Array UInt8)|flt (b:UInt64)|ref (a:Addr)|ty (n:String)
 deriving DecidableEq
def Gn:V->Value->Prop
 | .non,u=>u=Value.none
 | .bl b,u=>u=Value.bool b
 | .int i,u=>∃t,u=Value.int i t
 | .str x,u=>∃t,u=Value.str x t
 | .byt b,u=>∃t,u=Value.bytes b t
 | .flt b,u=>∃t,u=Value.float b t
 | .ref a,u=>u=Value.ref a
 | .ty n,u=>u=Value.type n
abbrev Gk:List V->List Value->Prop:=Paired Gn
theorem Gk.length{xs:List V}{us:List Value}(r:Gk xs us):xs.length=us.length:=Paired.length r
theorem Gk.get:∀{xs:List V} {us:List Value} {i:Nat} {x:V},Gk xs us->xs[i]? =some x->∃u,us[i]? =some u/\Gn x u
 |_,_,_,_,.nil,e=>by simp at e
 |_,_,0,_,.cons r _,e=>by simp at e;subst e;exact⟨_,rfl,r⟩
 |_,_,i+1,x,.cons _ t,e=>by
  obtain⟨u,h1,h2⟩:=Gk.get (i:=i) (x:=x) t (by simpa using e)
  exact⟨u,by simpa using h1,h2⟩
theorem Gk.set{x:V}{u:Value}(r:Gn x u):∀{xs:List V} {us:List Value} (i:Nat),Gk xs us->Gk (xs.set i x) (us.set i u)
 |_,_,_,.nil=> .nil
 |_,_,0,.cons _ t=> .cons r t
 |_,_,i+1,.cons q t=> .cons q (Gk.set r i t)
theorem Gk.append:∀{xs ys:List V} {us ws:List Value},Gk xs us->Gk ys ws->Gk (xs++ys) (us++ws)
 |_,_,_,_,.nil,s=>s
 |_,_,_,_,.cons r t,s=> .cons r (Gk.append t s)
theorem Gk.take:∀{xs:List V} {us:List Value} (n:Nat),Gk xs us->Gk (xs.take n) (us.take n)
 |_,_,0,_=> .nil
 |_,_,_+1,.nil=> .nil
 |_,_,n+1,.cons r t=> .cons r (Gk.take n t)
theorem Gk.drop:∀{xs:List V} {us:List Value} (n:Nat),Gk xs us->Gk (xs.drop n) (us.drop n)
 |_,_,0,r=>r
 |_,_,_+1,.nil=> .nil
 |_,_,n+1,.cons _ t=>Gk.drop n t
def HK:Option V->Option Value->Prop
 |some v,some u=>Gn v u
 |none,none=>True
 |_,_=>False
def KV{κ:Type}:List (κ×V)->List (κ×Value)->Prop:=Paired fun(p:κ×V) (q:κ×Value)=>p.1=q.1/\Gn p.2 q.2
def kV:qL->V
 | .inl i=> .int i
 | .inr x=> .str x
inductive HO where
 |lst (xs:List V)
 |tup (xs:List V)
 |dK (kvs:List (qL×V))|dT (kvs:List (List qL×V))
 |set (S:Int->Bool) (n:Nat)
 |ins (C dx:Addr) (fs:List (Str×V))
 |own (x:Addr)
 |xd (fs:List (Str×V))
 |met (f x:Addr)
 |rng (lo hi:Int)
 |frz (o:Obj) (u:HO)
 |tbl (ps:Array Value)
 |ext (φ:Heap->Prop)
abbrev Hp:=Addr->Option HO
def Gh(H:Hp)(a:Addr)(o:HO):Hp:=fun b=>if b=a then some o else H b
theorem qc{H:Hp}{a:Addr}{o:HO}:Gh H a o a=some o:=by unfold Gh;rw[Jc rfl]
theorem qi{H:Hp}{a b:Addr}{o:HO}(h:b≠a):Gh H a o b=H b:=by unfold Gh;rw[Jd h]
theorem zY{H:Hp}{a b:Addr}{o u:HO}(h:H a=some o)(h':H b=some u)(d:o≠u):a≠b:=by
 intro e;subst e;rw[h]at h';exact d (Jy h')
theorem qo{H:Hp}{a b:Addr}{o:HO}(h:H a=some o)(h':H b=none):a≠b:=by
 intro e;subst e;rw[h]at h';cases h'
section
variable(P:Program)(w:World)
def Gz(H:Hp)(h:Heap)(a:Addr):HO->Prop
 | .lst xs=>xs.length<=sizeLine/\∃(its:List Value) (n:Nat),Gk xs its/\h.get? a=some {cls:= .type "list",data:= .seq its.toArray n}
 | .tup xs=>xs.length<=sizeLine/\∃its:List Value,Gk xs its/\IsTup h a its.toArray
 | .dK kvs=>kvs.length<=sizeLine/\(a==sysModules)=false/\∃vs,KV kvs vs/\h.DictOf (za P w) a vs
 | .dT kvs=>kvs.length<=sizeLine/\(a==sysModules)=false/\∃xs:List (List qL×Addr×Value),
   Paired (fun(p:List qL×V) (q:List qL×Addr×Value)=>p.1=q.1/\H q.2.1=some (.tup (p.1.map kV))/\Gn p.2 q.2.2) kvs xs/\
   ∃o es ep,h.get? a=some o/\o.ExactDict/\o.data= .dict es ep/\es.toList=xs.map (entryOfKey (tupleKind (za P w)))/\(xs.map (·.1)).Nodup
 | .set S n=>h.SetOf (intKind P w) a S n
 | .ins C dx fs=>H dx=some (.own a)/\fs.length<=1000/\dx≠a/\h.get? a=some (PySem.W.instObj C dx)/\
   ∃mA,h.Ns1 dx mA/\(∀f,HK (fs.lookup f) (mA f))/\PySem.Within mA (fs.map (·.1))
 | .own _=>∃o,h.get? a=some o
 | .xd fs=>∃mA,h.Ns1 a mA/\∀f,HK (fs.lookup f) (mA f)
 | .rng lo hi=>∃t u v,h.get? a=some {cls:= .type "range",data:= .fields #[.int lo t,.int hi u,.int 1 v]}
 | .frz o u=>h.get? a=some o/\Gz H h a u
 | .tbl ps=>h.get? a=some {cls:= .none,data:= .fields ps}
 | .met f x=>h.get? a=some (PySem.W.methodObj (.ref f) (.ref x))
 | .ext φ=>φ h/\(∃o,h.get? a=some o)/\∀h1 h2:Heap,φ h1->(∀o,h1.get? a=some o->h2.get? a=some o)->φ h2
def HW(H:Hp)(h:Heap):Prop:=∀a o,H a=some o->Gz P w H h a o
end
section
variable{P:Program}{w:World}{H H':Hp}{h h':Heap}{a:Addr}{o:HO}
theorem Gz.lt(x:Gz P w H h a o):a<h.objs.size:=by
 cases o with
 |lst xs=>obtain⟨_,_,_,_,e⟩:=x;exact Jh e
 |tup xs=>obtain⟨_,_,_,p⟩:=x;exact p.lt
 |dK kvs=>obtain⟨_,_,_,_,o,_,_,e,_⟩:=x;exact Jh e
 |dT kvs=>obtain⟨_,_,_,_,o,_,_,e,_⟩:=x;exact Jh e
 |set S n=>obtain⟨o,_,_,_,e,_⟩:=x;exact Jh e
 |ins C dx fs=>obtain⟨_,_,_,e,_⟩:=x;exact Jh e
 |own y=>obtain⟨_,e⟩:=x;exact Jh e
 |xd fs=>obtain⟨_,⟨_,_,_,e,_⟩,_⟩:=x;exact Jh e
 |rng lo hi=>obtain⟨_,_,_,e⟩:=x;exact Jh e
 |frz ob u=>obtain⟨e,_⟩:=x;exact Jh e
 |tbl ps=>exact Jh (show h.get? a=some _ from x)
 |met f y=>exact Jh (show h.get? a=some _ from x)
 |ext φ=>obtain⟨_,⟨_,e⟩,_⟩:=x;exact Jh e
theorem Paired.mapP{α β:Type}{F G:α->β->Prop}:∀{l₁:List α} {l₂:List β},Paired F l₁ l₂->(∀a b,F a b->G a b)->Paired G l₁ l₂
 |_,_,.nil,_=> .nil
 |_,_,.cons r t,f=> .cons (f _ _ r) (Paired.mapP t f)
theorem Gz.stay(x:Gz P w H h a o)(k:∀b u,(b=a\/H b=some (.own a))->h.get? b=some u->h'.get? b=some u)
  (ho:∀b,H b=some (.own a)->H' b=some (.own a))(ht:∀b xs,H b=some (.tup xs)->H' b=some (.tup xs)):Gz P w H' h' a o:=by
 induction o with
 |lst xs=>obtain⟨z,its,n,r,e⟩:=x;exact⟨z,its,n,r,k _ _ (.inl rfl) e⟩
 |tup xs=>obtain⟨z,its,r,ob,e,c⟩:=x;exact⟨z,its,r,ob,k _ _ (.inl rfl) e,c⟩
 |dK kvs=>obtain⟨z,y,vs,r,ob,es,ep,e,c⟩:=x;exact⟨z,y,vs,r,ob,es,ep,k _ _ (.inl rfl) e,c⟩
 |dT kvs=>
  obtain⟨z,y,xs,r,ob,es,ep,e,c⟩:=x
  exact⟨z,y,xs,Paired.mapP r fun p q z=>⟨z.1,ht _ _ z.2.1,z.2.2⟩,ob,es,ep,k _ _ (.inl rfl) e,c⟩
 |set S n=>obtain⟨ob,es,ep,t,e,c⟩:=x;exact⟨ob,es,ep,t,k _ _ (.inl rfl) e,c⟩
 |ins C dx fs=>
  obtain⟨d,z,ne,e,mA,⟨od,es,ep,e2,c⟩,r⟩:=x
  exact⟨ho _ d,z,ne,k _ _ (.inl rfl) e,mA,⟨od,es,ep,k _ _ (.inr d) e2,c⟩,r⟩
 |own y=>obtain⟨ob,e⟩:=x;exact⟨ob,k _ _ (.inl rfl) e⟩
 |xd fs=>obtain⟨mA,⟨od,es,ep,e,c⟩,r⟩:=x;exact⟨mA,⟨od,es,ep,k _ _ (.inl rfl) e,c⟩,r⟩
 |rng lo hi=>obtain⟨t,u,v,e⟩:=x;exact⟨t,u,v,k _ _ (.inl rfl) e⟩
 |frz ob u ih=>obtain⟨e,q⟩:=x;exact⟨k _ _ (.inl rfl) e,ih q⟩
 |tbl ps=>
  have e:h.get? a=some {cls:= .none,data:= .fields ps}:=x
  show h'.get? a=some {cls:= .none,data:= .fields ps}
  exact k a _ (.inl rfl) e
 |met f y=>
  have e:h.get? a=some (W.methodObj (.ref f) (.ref y)):=x
  show h'.get? a=some (W.methodObj (.ref f) (.ref y))
  exact k a _ (.inl rfl) e
 |ext φ=>obtain⟨p,⟨o,e⟩,st⟩:=x;exact⟨st _ _ p fun o q=>k _ _ (.inl rfl) q,⟨o,k _ _ (.inl rfl) e⟩,st⟩
theorem HW.lt(x:HW P w H h)(e:H a=some o):a<h.objs.size:=(x a o e).lt
theorem HW.fresh(x:HW P w H h)(e:h.objs.size<=a):H a=none:=by
 cases q:H a with
 |none=>rfl
 |some u=>exact absurd (JJ (x.lt q) e) (JY _)
theorem HW.kept(x:HW P w H h)(k:∀b u,h.get? b=some u->h'.get? b=some u):HW P w H h':=fun a o e=>
 (x a o e).stay (fun b u _ q=>k b u q) (fun _ q=>q) fun _ _ q=>q
theorem HW.laid(x:HW P w H h)(k:∀b u,h.get? b=some u->h'.get? b=some u)(hp:h.objs.size<=a)(new:Gz P w (Gh H a o) h' a o):HW P w (Gh H a o) h':=fun b u e=>by
 have hn:=x.fresh hp
 by_cases hb:b=a
 ·subst hb;rw[qc]at e;cases e;exact new
 ·rw[qi hb]at e
  exact(x b u e).stay (fun c v _ q=>k c v q) (fun c q=>by rw[qi (qo q hn)];exact q) fun c xs q=>by rw[qi (qo q hn)];exact q
end
def Rd(H:Hp)(a:Addr)(u:HO):Prop:=H a=some u\/∃o,H a=some (.frz o u)
theorem Rd.of{H:Hp}{a:Addr}{u:HO}(h:H a=some u):Rd H a u:= .inl h
theorem Rd.ok{P:Program}{w:World}{H:Hp}{h:Heap}{a:Addr}{u:HO}(r:Rd H a u)(x:HW P w H h):Gz P w H h a u:=by
 rcases r with r|⟨o,r⟩
 ·exact x a u r
 ·obtain⟨_,q⟩:=x a _ r
  exact q
def uM:Option HO->Prop
 |some (.lst _)=>True
 |some (.dK _)=>True
 |some (.dT _)=>True
 |some (.set _ _)=>True
 |some (.ins _ _ _)=>True
 |some (.ext _)=>True
 |_=>False
section
variable{P:Program}{w:World}{H:Hp}{h h':Heap}{x e:Addr}{o':HO}
theorem HW.write(ok:HW P w H h)(mu:uM (H x))(he:e=x\/H e=some (.own x))(k:∀b u,b≠e->h.get? b=some u->h'.get? b=some u)(heo:∃u,h'.get? e=some u)
  (new:Gz P w (Gh H x o') h' x o'):HW P w (Gh H x o') h':=fun b u q=>by
 have nown:∀c y,H c=some (.own y)->c≠x:=fun c y r z=>by subst z;rw[r]at mu;exact mu
 have ntup:∀c xs,H c=some (.tup xs)->c≠x:=fun c xs r z=>by subst z;rw[r]at mu;exact mu
 by_cases hb:b=x
 ·subst hb;rw[qc]at q;cases q;exact new
 ·rw[qi hb]at q
  by_cases hbe:b=e
  ·have q':H b=some (.own x):=by
    rcases he with z|z
    ·exact absurd (hbe.trans z) hb
    ·rw[hbe];exact z
   rw[q]at q';cases q'
   obtain⟨v,hv⟩:=heo
   exact⟨v,by rw[hbe];exact hv⟩
  ·refine(ok b u q).stay (fun c v hc r=>k c v ?_ r) (fun c r=>by rw[qi (nown c b r)];exact r) fun c xs r=>by rw[qi (ntup c xs r)];exact r
   rcases hc with rfl|hc
   ·exact hbe
   ·rintro rfl
    rcases he with z|z
    ·exact nown c b hc z
    ·rw[hc]at z;cases z;exact hb rfl
end
structure Un(fs ex:List Addr)(H H':Hp)(h h':Heap):Prop where
 keep:∀b o,h.get? b=some o->H b=none->b∉fs->b∉ex->h'.get? b=some o
 slot:∀b o,h.get? b=some o->H b=none->b∈fs->b∉ex->∃sl,h'.get? b=some {o with slots:=sl}
 free:∀b o,h.get? b=some o->H b=none->b∉ex->H' b=none
 there:∀b o,h.get? b=some o->b∉ex->∃o',h'.get? b=some o'
 tups:∀b xs,H b=some (.tup xs)->H' b=some (.tup xs)
 frzs:∀b o u,H b=some (.frz o u)->H' b=some (.frz o u)
 tbls:∀b ps,H b=some (.tbl ps)->∃more,H' b=some (.tbl (ps++more))
section
variable{fs ex:List Addr}{H H1:Hp}{h h1 h':Heap}{a x e:Addr}{o:HO}
theorem Un.any(u:Un fs ex H H1 h h1){b:Addr}{ob:Obj}(q:h.get? b=some ob)(n:H b=none)(hx:b∉ex):∃sl,h1.get? b=some {ob with slots:=sl}:=by
 by_cases hb:b∈fs
 ·exact u.slot b ob q n hb hx
 ·exact⟨ob.slots,u.keep b ob q n hb hx⟩
theorem Un.kept(k:∀b u,h.get? b=some u->h'.get? b=some u):Un fs ex H H h h':=
 ⟨fun b ob q _ _ _=>k b ob q,fun b ob q _ _ _=>⟨ob.slots,k b ob q⟩,fun _ _ _ n _=>n,fun b ob q _=>⟨ob,k b ob q⟩,fun _ _ q=>q,fun _ _ _ q=>q,fun _ ps q=>⟨#[],by rw[q];simp⟩⟩
theorem Un.refl:Un fs ex H H h h:=Un.kept fun _ _ q=>q
theorem Un.laid(k:∀b u,h.get? b=some u->h'.get? b=some u)(hp:h.objs.size<=a)(hn:H a=none):Un fs ex H (Gh H a o) h h' where
 keep:=fun b u q _ _ _=>k b u q
 slot:=fun b u q _ _ _=>⟨u.slots,k b u q⟩
 free:=fun b u q n _=>by rw[qi (Jm (JJ (Jh q) hp))];exact n
 there:=fun b u q _=>⟨u,k b u q⟩
 tups:=fun b xs q=>by rw[qi (qo q hn)];exact q
 frzs:=fun b u xs q=>by rw[qi (qo q hn)];exact q
 tbls:=fun b ps q=>⟨#[],by rw[qi (qo q hn),q];simp⟩
theorem Un.write(mu:uM (H x))(he:e=x\/H e=some (.own x))(k:∀b u,b≠e->h.get? b=some u->h'.get? b=some u)(heo:∃u,h'.get? e=some u):Un fs ex H (Gh H x o) h h':=by
 have hx:∀b,H b=none->b≠x:=fun b n z=>by subst z;rw[n]at mu;exact mu
 have hb:∀b,H b=none->b≠e:=fun b n z=>by
  subst z;rcases he with r|r
  ·exact hx b n r
  ·rw[n]at r;cases r
 have hm:∀b u,H b=some u->¬uM (some u)->b≠x:=fun b u q nm z=>by subst z;rw[q]at mu;exact nm mu
 refine⟨fun b u q n _ _=>k b u (hb b n) q,fun b u q n _ _=>⟨u.slots,k b u (hb b n) q⟩,fun b u q n _=>by rw[qi (hx b n)];exact n,fun b u q _=>?_,
  fun b xs q=>by rw[qi (hm b _ q fun z=>z)];exact q,fun b u xs q=>by rw[qi (hm b _ q fun z=>z)];exact q,fun b ps q=>⟨#[],by rw[qi (hm b _ q fun z=>z),q];simp⟩⟩
 by_cases hbe:b=e
 ·subst hbe;exact heo
 ·exact⟨u,k b u hbe q⟩
end
def xq(h:Heap)(H:Hp):List Addr:=(List.range h.objs.size).filter fun a=>(H a).isSome
def bM(h:Heap)(H:Hp):Heap:=PySem.W.hideAll h (xq h H)
theorem sZ(h:Heap)(H:Hp):(bM h H).objs.size=h.objs.size:=W.hideAll_size _ _
theorem wk{h:Heap}{H:Hp}{b:Addr}{o:Obj}(e:h.get? b=some o)(n:H b=none):(bM h H).get? b=some o:=
 W.hideAll_get _ e fun hm=>by
  have q:(H b).isSome=true:=(List.mem_filter.mp hm).2
  rw[n]at q;simp at q
theorem yS{h:Heap}{H:Hp}{b:Addr}{o:Obj}(e:(bM h H).get? b=some o):h.get? b=some o/\H b=none:=by
 have e':h.get? b=some o:=W.of_hideAll (xq h H) e
 refine⟨e',?_⟩
 cases q:H b with
 |none=>rfl
 |some x=>
  have hm:b∈xq h H:=List.mem_filter.mpr ⟨J5.mpr (Jh e'),by simp [q]⟩
  have z:(bM h H).get? b=none:=W.hideAll_none (xq h H) hm
  rw[z]at e;cases e
structure Ll(K:Frag)(mg:Gc)(base:Heap):Prop where
 kin:K.In base
 glob:base.Ns mainGlobals mg
 blt:∃mb,base.Ns builtinsNs mb/\∀x:Str,x≠"__name__"->mb x=bootBuiltins x
 nolimit:base.NoLimit
structure Cx where
 prog:Program
 w:World
 K:Frag
 mg:Str->Option Value
 base:Heap
 A:Around
 N:List Str
 s₀:Shared
 H₀:Hp
 env:Env
 outer:List Env
 stack:List Env
 ex:List Addr
 fn:Str->Bool
 calm:Bool
 pn:List (Addr×Obj)
 xe:Value->Shared->Prop
def bF(l:List Env):List Addr:=l.filterMap (·.frame)
abbrev Cx.fs(X:Cx):List Addr:=bF X.outer
def Bi(sc:Scope)(x:Str):Prop:=sc.names.lookup x=some .local\/sc.names.lookup x=some .cell\/sc.names.lookup x=some .free
def iN(sc:Scope)(x:Str):Prop:=sc.names.lookup x=some .local\/sc.names.lookup x=some .cell
def DB(env:Env)(h:Heap)(m:Gc)(x:Str)(u:Value):Prop:=
 (env.kindOf x=some .local/\m x=some u)\/((env.kindOf x=some .cell\/env.kindOf x=some .free)/\∃c,env.cells.lookup x=some c/\h.IsCell c (some u))
structure Cx.Ok(X:Cx):Prop where
 mod:Ll X.K X.mg X.base
 kind:X.env.scope.kind= .function
 glob:X.env.globals=mainGlobals
 blt:X.env.builtins=builtinsNs
 above:X.s₀.heap.objs.size<=X.env.locals
 inj:∀x y c,X.env.cells.lookup x=some c->X.env.cells.lookup y=some c->x=y
 has:∀x,(X.env.kindOf x=some .cell\/X.env.kindOf x=some .free)->∃c,X.env.cells.lookup x=some c
 cab:∀x c,X.fn x=true->X.env.cells.lookup x=some c->X.s₀.heap.objs.size<=c
 hd:X.calm=true->X.A.handled=none
 frames:X.A.frames=some X.stack
 stk:X.stack=X.outer\/(X.stack=X.env::X.outer/\X.env.frame=some X.env.locals)
 exf:∀b∈X.ex,b≠X.env.locals/\∀x c,X.env.cells.lookup x=some c->c≠b
 bs:∀b o,X.base.get? b=some o->X.s₀.heap.get? b=some o/\X.H₀ b=none
 bsz:X.base.objs.size<=X.s₀.heap.objs.size
 noex:∀b o,X.base.get? b=some o->b∉X.ex
 exfs:∀b∈X.ex,b∉X.fs
 funs:X.s₀.heap.FunFrames X.base X.outer
 frf:∀b∈X.fs,X.H₀ b=none
structure Gi(X:Cx)(tx:Gd)(σ:List (Option V))(H:Hp)(s:Shared):Prop where
 ok:X.Ok
 os:s.os=X.s₀.os
 bare:AllBare s.gens
 base:Un X.fs X.ex X.H₀ H X.s₀.heap s.heap
 loc:∃m,s.heap.Ns X.env.locals m/\∀(i:Nat) (x:Str) (v:V),X.N[i]? =some x->σ[i]? =some (some v)->Bi X.env.scope x->∃u,Gn v u/\DB X.env s.heap m x u
 cell:∀x c,X.env.cells.lookup x=some c->∃v,s.heap.IsCell c v
 free:H X.env.locals=none
 freeC:∀x c,X.env.cells.lookup x=some c->H c=none
 pin:∀p∈X.pn++tx,s.heap.get? p.1=some p.2/\H p.1=none/\p.1≠X.env.locals/\p.1∉X.fs/\∀v,p.2.data≠ .cell v
 hok:HW X.prog X.w H s.heap
 len:σ.length=X.N.length
section
variable{X:Cx}{tx:Gd}{σ:List (Option V)}{H H':Hp}{s:Shared}{h':Heap}
theorem Cx.Ok.nofr(ok:X.Ok){b:Addr}{o:Obj}(e:X.base.get? b=some o):b∉X.fs:=fun hb=>by
 have:=(ok.funs.mem hb).1
 rw[e]at this;cases this
theorem Gi.bs(I:Gi X tx σ H s):∀b o,X.base.get? b=some o->s.heap.get? b=some o/\H b=none:=fun b o e=>
 ⟨I.base.keep b o (I.ok.bs b o e).1 (I.ok.bs b o e).2 (I.ok.nofr e) (I.ok.noex b o e),I.base.free b o (I.ok.bs b o e).1 (I.ok.bs b o e).2 (I.ok.noex b o e)⟩
theorem Gi.bk(I:Gi X tx σ H s):∀b o,X.base.get? b=some o->s.heap.get? b=some o:=fun b o e=>(I.bs b o e).1
theorem Gi.mod(I:Gi X tx σ H s):Ll X.K X.mg X.base:=I.ok.mod
theorem Gi.kIn(I:Gi X tx σ H s):X.K.In s.heap:=I.ok.mod.kin.keeps I.bk
theorem Gi.lt(I:Gi X tx σ H s):X.env.locals<s.heap.objs.size:=let⟨_,hn,_⟩:=I.loc;hn.lt
theorem Gi.sz(I:Gi X tx σ H s):X.s₀.heap.objs.size<=s.heap.objs.size:=JK I.ok.above (Fp I.lt)
theorem Gi.nofs(I:Gi X tx σ H s){a:Addr}(h:s.heap.objs.size<=a):a∉X.fs:=fun hb=>by
 obtain⟨_,o,ho,_⟩:=I.ok.funs.mem hb;exact absurd (JJ (Jh ho) (JK I.sz h)) (JY _)
theorem Gi.cne(I:Gi X tx σ H s):∀x c,X.env.cells.lookup x=some c->c≠X.env.locals:=fun x c e z=>by
 obtain⟨v,o,ho,hd⟩:=I.cell x c e;obtain⟨m,⟨o',es,ep,ho',hd',_⟩,_⟩:=I.loc;rw[z,ho']at ho;cases ho;rw[hd']at hd;cases hd
theorem Gi.funs(I:Gi X tx σ H s):s.heap.FunFrames X.base X.outer:=by
 have all:∀(l:List Env),(∀b∈bF l,b∈X.fs)->X.s₀.heap.FunFrames X.base l->s.heap.FunFrames X.base l:=by
  intro l
  induction l with
  |nil=>intro _ _;trivial
  |cons env r ih=>
   intro hs hl;obtain⟨hk,⟨L,o,hf,hn,ho,hd⟩,hr⟩:=hl;have hL:L∈X.fs:=hs L (by unfold bF;rw[JO,hf];exact Jw)
   obtain⟨sl,e⟩:=I.base.slot L o ho (I.ok.frf L hL) hL fun z=>I.ok.exfs L z hL
   exact⟨hk,⟨L,_,hf,hn,e,hd⟩,ih (fun b hb=>hs b (by unfold bF;rw[JO,hf];exact JC _ hb)) hr⟩
 exact all X.outer (fun _ hb=>hb) I.ok.funs
theorem Gi.stack(I:Gi X tx σ H s):s.heap.FunFrames X.base X.stack:=by
 rcases I.ok.stk with e|⟨e,hf⟩
 ·rw[e];exact I.funs
 ·rw[e]
  obtain⟨m,hn,_⟩:=I.loc;refine .cons (by rw[I.ok.kind];decide) hf hn ?_ I.funs
  exact Heap.get?_none_of_le (JK I.ok.bsz I.ok.above)
theorem Gi.stkSub(I:Gi X tx σ H s):∀b∈bF X.stack,b∈X.env.locals::X.fs:=fun b hb=>by
 rcases I.ok.stk with e|⟨e,hf⟩
 ·rw[e]at hb;exact JC _ hb
 ·rw[e]at hb
  unfold bF at hb;rw[JO,hf]at hb;exact hb
theorem Gi.stkFree(I:Gi X tx σ H s):∀b∈bF X.stack,H b=none:=fun b hb=>by
 rcases Jk.mp (I.stkSub b hb)with e|hb
 ·rw[e];exact I.free
 ·obtain⟨_,o,ho,_⟩:=I.ok.funs.mem hb
  exact I.base.free b o ho (I.ok.frf b hb) fun z=>I.ok.exfs b z hb
theorem Gi.step{g':Array GenState}{t':Nat}{d':Drawn}{ch:List Addr}(I:Gi X tx σ H s)
  (hch:∀b∈ch,(b∈X.ex\/X.s₀.heap.objs.size<=b)/\b≠X.env.locals/\(∀x c,X.env.cells.lookup x=some c->c≠b)/\∀p∈X.pn++tx,p.1≠b)
  (keep:∀b o,b≠X.env.locals->b∉X.fs->b∉ch->s.heap.get? b=some o->H b=none->h'.get? b=some o)
  (slot:∀b o,b≠X.env.locals->b∈X.fs->b∉ch->s.heap.get? b=some o->H b=none->∃sl,h'.get? b=some {o with slots:=sl})(free:∀b o,b∉ch->s.heap.get? b=some o->H b=none->H' b=none)
  (there:∀b o,b∉ch->s.heap.get? b=some o->∃o',h'.get? b=some o')
  (tups:∀b xs,H b=some (.tup xs)->H' b=some (.tup xs))(frzs:∀b o u,H b=some (.frz o u)->H' b=some (.frz o u))(tbls:∀b ps,H b=some (.tbl ps)->∃more,H' b=some (.tbl (ps++more)))
  (ns:∀m,s.heap.Ns X.env.locals m->h'.Ns X.env.locals m)(hok:HW X.prog X.w H' h')(hg:AllBare g'):
  Gi X tx σ H' {s with heap:=h',gens:=g',drawn:=d',toks:=t'}:=by
 have neL:∀b o,X.s₀.heap.get? b=some o->b≠X.env.locals:=fun b o e=>Jm (JJ (Jh e) I.ok.above)
 have neC:∀b o,X.s₀.heap.get? b=some o->b∉X.ex->b∉ch:=fun b o e hx hb=>by
  rcases(hch b hb).1 with z|z
  ·exact hx z
  ·exact absurd (JJ (Jh e) z) (JY _)
 have cellK:∀x c,X.env.cells.lookup x=some c->∀v,s.heap.IsCell c v->h'.IsCell c v:=fun x c e v ⟨o,ho,hd⟩=>by
  have nch:c∉ch:=fun z=>(hch c z).2.2.1 x c e rfl
  by_cases hc:c∈X.fs
  ·obtain⟨sl,q⟩:=slot c o (I.cne x c e) hc nch ho (I.freeC x c e)
   exact⟨_,q,hd⟩
  ·exact⟨o,keep c o (I.cne x c e) hc nch ho (I.freeC x c e),hd⟩
 refine⟨I.ok,I.os,hg,⟨fun b o e n hb hx=>?_,fun b o e n hb hx=>?_,fun b o e n hx=>?_,fun b o e hx=>?_,fun b xs e=>tups b xs (I.base.tups b xs e),fun b o xs e=>frzs b o xs (I.base.frzs b o xs e),fun b ps e=>?_⟩,?_,fun x c e=>?_,?_,fun x c e=>?_,fun p hp=>?_,hok,I.len⟩
 ·exact keep b o (neL b o e) hb (neC b o e hx) (I.base.keep b o e n hb hx) (I.base.free b o e n hx)
 ·obtain⟨sl,e1⟩:=I.base.slot b o e n hb hx
  obtain⟨sl',e2⟩:=slot b _ (neL b o e) hb (neC b o e hx) e1 (I.base.free b o e n hx)
  exact⟨sl',e2⟩
 ·obtain⟨o',e1⟩:=I.base.there b o e hx
  exact free b o' (neC b o e hx) e1 (I.base.free b o e n hx)
 ·obtain⟨o',e1⟩:=I.base.there b o e hx
  exact there b o' (neC b o e hx) e1
 ·obtain⟨m1,e1⟩:=I.base.tbls b ps e
  obtain⟨m2,e2⟩:=tbls b _ e1
  exact⟨m1++m2,by rw[e2,Array.append_assoc]⟩
 ·obtain⟨m,hn,hl⟩:=I.loc
  refine⟨m,ns m hn,fun i x v e1 e2 e3=>?_⟩
  obtain⟨u,r,l⟩:=hl i x v e1 e2 e3;refine⟨u,r,?_⟩
  rcases l with l|⟨k,c,e,z⟩
  ·exact .inl l
  ·exact .inr ⟨k,c,e,cellK x c e _ z⟩
 ·obtain⟨v,z⟩:=I.cell x c e
  exact⟨v,cellK x c e v z⟩
 ·obtain⟨m,⟨o,_,_,ho,_⟩,_⟩:=I.loc
  exact free _ o (fun z=>(hch _ z).2.1 rfl) ho I.free
 ·obtain⟨v,o,ho,hd⟩:=I.cell x c e
  exact free c o (fun z=>(hch c z).2.2.1 x c e rfl) ho (I.freeC x c e)
 ·obtain⟨e,n,ne,nf,d⟩:=I.pin p hp
  have nch:p.1∉ch:=fun z=>(hch p.1 z).2.2.2 p hp rfl
  exact⟨keep p.1 p.2 ne nf nch e n,free p.1 p.2 nch e n,ne,nf,d⟩
theorem Gi.un{t':Nat}(I:Gi X tx σ H s)(u:Un X.fs [] H H' s.heap h')(hok:HW X.prog X.w H' h'):Gi X tx σ H' {s with heap:=h',toks:=t'}:=by
 obtain⟨m,⟨o,es,ep,ho,r⟩,_⟩:=id I.loc;obtain⟨sl,hL⟩:=u.any ho I.free (by simp)
 exact I.step (g':=s.gens) (d':=s.drawn) (ch:=[]) (fun _ z=>nomatch z) (fun b o _ hb _ e n=>u.keep b o e n hb (by simp)) (fun b o _ hb _ e n=>u.slot b o e n hb (by simp)) (fun b o _ e n=>u.free b o e n (by simp)) (fun b o _ e=>u.there b o e (by simp)) u.tups u.frzs u.tbls (fun m' hm=>by
  obtain⟨o',es',ep',ho',r'⟩:=hm;rw[ho]at ho';cases ho'
  exact⟨_,es',ep',hL,r'⟩) hok I.bare
theorem Gi.call{g':Array GenState}{t':Nat}{d':Drawn}{ch:List Addr}(I:Gi X tx σ H s)(u:Un (bF X.stack) ch H H' s.heap h')(hok:HW X.prog X.w H' h')(hg:AllBare g')
  (hch:∀b∈ch,(b∈X.ex\/X.s₀.heap.objs.size<=b)/\b≠X.env.locals/\(∀x c,X.env.cells.lookup x=some c->c≠b)/\∀p∈X.pn++tx,p.1≠b):
  Gi X tx σ H' {s with heap:=h',gens:=g',drawn:=d',toks:=t'}:=by
 obtain⟨m,⟨o,es,ep,ho,r⟩,_⟩:=id I.loc;obtain⟨sl,hL⟩:=u.any ho I.free fun z=>(hch _ z).2.1 rfl
 exact I.step (ch:=ch) hch (fun b o hL hb hc e n=>u.keep b o e n (fun z=>(Jk.mp (I.stkSub b z)).elim hL hb) hc) (fun b o _ _ hc e n=>u.any e n hc) (fun b o hc e n=>u.free b o e n hc) (fun b o hc e=>u.there b o e hc) u.tups u.frzs u.tbls (fun m' hm=>by
  obtain⟨o',es',ep',ho',r'⟩:=hm;rw[ho]at ho';cases ho'
  exact⟨_,es',ep',hL,r'⟩) hok hg
theorem Gi.turned{t':Nat}{it:Addr}(I:Gi X tx σ H s)(k:∀b o,b≠it->s.heap.get? b=some o->h'.get? b=some o)(hn:H it=none)(hL:it≠X.env.locals)
  (h1:it∈X.ex\/X.s₀.heap.objs.size<=it)(h2:∀x c,X.env.cells.lookup x=some c->c≠it)(h3:∀p∈X.pn++tx,p.1≠it):Gi X tx σ H {s with heap:=h',toks:=t'}:=by
 have nit:∀b u,H b=some u->b≠it:=fun b u e z=>by rw[z,hn]at e;cases e
 refine I.step (g':=s.gens) (d':=s.drawn) (ch:=[it]) (fun b hb=>?_) (fun b o _ _ hc e _=>k b o (fun z=>hc (by simp [z])) e) (fun b o _ _ hc e _=>⟨o.slots,k b o (fun z=>hc (by simp [z])) e⟩) (fun _ _ _ _ n=>n)
  (fun b o hc e=>⟨o,k b o (fun z=>hc (by simp [z])) e⟩) (fun _ _ e=>e) (fun _ _ _ e=>e) (fun b ps e=>⟨#[],by rw[e];simp⟩) (fun m hm=>?_) (fun b u e=>?_) I.bare
 ·have e:b=it:=by simpa using hb
  subst e
  exact⟨h1,hL,h2,h3⟩
 ·obtain⟨o,es,ep,ho,r⟩:=hm
  exact⟨o,es,ep,k _ o (Ne.symm hL) ho,r⟩
 ·refine(I.hok b u e).stay (fun c v hc q=>k c v ?_ q) (fun _ q=>q) fun _ _ q=>q
  rcases hc with z|z
  ·rw[z];exact nit b u e
  ·exact nit c _ z
theorem Gi.tok(I:Gi X tx σ H s)(t:Nat):Gi X tx σ H {s with toks:=t}:=I.un (h':=s.heap) (t':=t) Un.refl I.hok
theorem Gi.kept{t':Nat}(I:Gi X tx σ H s)(k:∀b u,s.heap.get? b=some u->h'.get? b=some u):Gi X tx σ H {s with heap:=h',toks:=t'}:=I.un (Un.kept k) (I.hok.kept k)
theorem Gi.laid{a:Addr}{o:HO}{t':Nat}(I:Gi X tx σ H s)(k:∀b u,s.heap.get? b=some u->h'.get? b=some u)(hp:s.heap.objs.size<=a)(new:Gz X.prog X.w (Gh H a o) h' a o):
  Gi X tx σ (Gh H a o) {s with heap:=h',toks:=t'}:=I.un (Un.laid k hp (I.hok.fresh hp)) (I.hok.laid k hp new)
theorem Gi.write{x e:Addr}{o:HO}{t':Nat}(I:Gi X tx σ H s)(mu:uM (H x))(he:e=x\/H e=some (.own x))(k:∀b u,b≠e->s.heap.get? b=some u->h'.get? b=some u)(heo:∃u,h'.get? e=some u)
  (new:Gz X.prog X.w (Gh H x o) h' x o):Gi X tx σ (Gh H x o) {s with heap:=h',toks:=t'}:=I.un (Un.write mu he k heo) (I.hok.write mu he k heo new)
theorem Gi.pins_of{pins':Gd}(I:Gi X tx σ H s)(h:∀p∈pins',s.heap.get? p.1=some p.2/\H p.1=none/\p.1≠X.env.locals/\p.1∉X.fs/\∀v,p.2.data≠ .cell v):Gi X pins' σ H s:=
 ⟨I.ok,I.os,I.bare,I.base,I.loc,I.cell,I.free,I.freeC,fun p hp=>(JW.mp hp).elim (fun z=>I.pin p (Fe _ z)) (h p),I.hok,I.len⟩
theorem lD{N:List Str}(hN:N.Nodup){i j:Nat}{x:Str}(a:N[i]? =some x)(b:N[j]? =some x):i=j:=by
 obtain⟨h1,e1⟩:=Jv.mp a;obtain⟨h2,e2⟩:=Jv.mp b
 exact(List.getElem_inj hN).mp (e1.trans e2.symm)
theorem iG{M:Model}{A:Around}{E:Gb}{i:Nat}{x:Str}{v:V}{u:Value}{Q:Unit->Shared->Prop}(I:Gi X tx σ H s)(hN:X.N.Nodup)(hi:X.N[i]? =some x)(hx:iN X.env.scope x)(r:Gn v u)
  (h:∀s',Gi X tx (σ.set i (some v)) H s'->(∃a,Heap.SameBut a s.heap s'.heap/\(a=X.env.locals\/X.env.cells.lookup x=some a))->Q () s')(hf:X.fn x=true\/X.env.scope.names.lookup x=some .local:=by first|exact .inl rfl|exact .inr rfl|assumption):wpAny M A (storeName X.env x u) Q E s:=by
 obtain⟨m,hn,hl⟩:=id I.loc;have hcls:(X.env.scope.kind== .class||(X.env.scope.kind== .module&&X.env.locals != X.env.globals))=false:=by rw[I.ok.kind];rfl
 have hiσ:i<σ.length:=by rw[I.len];exact(Jv.mp hi).1
 have cne:=I.cne;have tracked:∀{a:Addr} {h':Heap},(∃o,s.heap.get? a=some o/\H a=none)->Heap.SameBut a s.heap h'->HW X.prog X.w H h':=fun{a h'} ha hs b ob e=>by
  obtain⟨_,_,hfree⟩:=ha;refine(I.hok b ob e).stay (fun c w' hc q=>(hs.2 c ?_).trans q) (fun _ q=>q) fun _ _ q=>q
  rintro rfl
  rcases hc with rfl|hc
  ·rw[hfree]at e;cases e
  ·rw[hfree]at hc;cases hc
 rcases hx with hk|hk
 ·refine wpAny_storeName_local hk hn (fun h' hn' hs=>?_) hcls
  obtain⟨oL,_,_,hoL,_⟩:=id hn;refine h _ ⟨I.ok,I.os,I.bare,⟨fun b o e n hb hx=>?_,fun b o e n hb hx=>?_,I.base.free,fun b o e hx=>?_,I.base.tups,I.base.frzs,I.base.tbls⟩,⟨_,hn',fun j y v' e1 e2 e3=>?_⟩,fun y c e=>?_,I.free,I.freeC,fun p hp=>?_,tracked ⟨oL,hoL,I.free⟩ hs,by simpa using I.len⟩ ⟨_,hs,.inl rfl⟩
  ·exact(hs.2 b (Jm (JJ (Jh e) I.ok.above))).trans (I.base.keep b o e n hb hx)
  ·obtain⟨sl,e1⟩:=I.base.slot b o e n hb hx
   exact⟨sl,(hs.2 b (Jm (JJ (Jh e) I.ok.above))).trans e1⟩
  ·obtain⟨o',e1⟩:=I.base.there b o e hx
   exact⟨o',(hs.2 b (Jm (JJ (Jh e) I.ok.above))).trans e1⟩
  ·by_cases hj:j=i
   ·subst hj
    rw[hi]at e1;cases e1
    rw[FE hiσ]at e2;cases e2
    exact⟨u,r,.inl ⟨hk,by simp⟩⟩
   ·rw[FF (Ne.symm hj)]at e2
    obtain⟨u',r',q⟩:=hl j y v' e1 e2 e3;refine⟨u',r',?_⟩
    rcases q with⟨k,e⟩|⟨k,c,e,z⟩
    ·refine .inl ⟨k,?_⟩
     have:y≠x:=fun e=>hj (lD hN e1 (e▸hi))
     simp [this,e]
    ·exact .inr ⟨k,c,e,z.sameBut hs (cne y c e)⟩
  ·obtain⟨w',z⟩:=I.cell y c e
   exact⟨w',z.sameBut hs (cne y c e)⟩
  ·obtain⟨e,n,ne,nf,d⟩:=I.pin p hp
   exact⟨(hs.2 p.1 ne).trans e,n,ne,nf,d⟩
 ·have hfn:X.fn x=true:=by
   rcases hf with z|z
   ·exact z
   ·rw[z]at hk;cases hk
  obtain⟨c,hc⟩:=I.ok.has x (.inl hk)
  obtain⟨w',z⟩:=I.cell x c hc;refine wpAny_storeName_cell I.ok.kind hk hc z (fun h' hc' hs=>?_)
  obtain⟨oc,hoc,hocd⟩:=id z;refine h {s with heap:=h'} ⟨I.ok,I.os,I.bare,⟨fun b o e n hb hx=>?_,fun b o e n hb hx=>?_,I.base.free,fun b o e hx=>?_,I.base.tups,I.base.frzs,I.base.tbls⟩,⟨m,hn.sameBut hs (Ne.symm (cne x c hc)),fun j y v' e1 e2 e3=>?_⟩,fun y c' e=>?_,I.free,I.freeC,fun p hp=>?_,tracked ⟨oc,hoc,I.freeC x c hc⟩ hs,by simpa using I.len⟩ ⟨c,hs,.inr hc⟩
  ·exact(hs.2 b (Jm (JJ (Jh e) (I.ok.cab x c hfn hc)))).trans (I.base.keep b o e n hb hx)
  ·obtain⟨sl,e1⟩:=I.base.slot b o e n hb hx
   exact⟨sl,(hs.2 b (Jm (JJ (Jh e) (I.ok.cab x c hfn hc)))).trans e1⟩
  ·obtain⟨o',e1⟩:=I.base.there b o e hx
   exact⟨o',(hs.2 b (Jm (JJ (Jh e) (I.ok.cab x c hfn hc)))).trans e1⟩
  ·by_cases hj:j=i
   ·subst hj
    rw[hi]at e1;cases e1
    rw[FE hiσ]at e2;cases e2
    exact⟨u,r,.inr ⟨.inl hk,c,hc,hc'⟩⟩
   ·rw[FF (Ne.symm hj)]at e2
    obtain⟨u',r',q⟩:=hl j y v' e1 e2 e3;refine⟨u',r',?_⟩
    rcases q with q|⟨k,c',e,z'⟩
    ·exact .inl q
    ·refine .inr ⟨k,c',e,z'.sameBut hs ?_⟩
     rintro rfl
     exact hj (lD hN e1 (I.ok.inj _ _ _ e hc▸hi))
  ·by_cases hcc:c'=c
   ·subst hcc;exact⟨_,hc'⟩
   ·obtain⟨w2,z2⟩:=I.cell y c' e
    exact⟨w2,z2.sameBut hs hcc⟩
  ·obtain⟨e,n,ne,nf,d⟩:=I.pin p hp
   refine⟨(hs.2 p.1 ?_).trans e,n,ne,nf,d⟩
   intro q;rw[q,hoc]at e;have q':oc=p.2:=Jy e
   exact d w' (by rw[<- q'];exact hocd)
theorem kD{M:Model}{A:Around}{E:Gb}{i:Nat}{x:Str}{v:V}{u:Value}{Q:Unit->Shared->Prop}(I:Gi X tx σ H s)(hN:X.N.Nodup)(hi:X.N[i]? =some x)(hx:iN X.env.scope x)(r:Gn v u)
  (h:∀s',Gi X tx (σ.set i (some v)) H s'->Q () s')(hf:X.fn x=true\/X.env.scope.names.lookup x=some .local:=by first|exact .inl rfl|exact .inr rfl|assumption):wpAny M A (storeName X.env x u) Q E s:=
 iG I hN hi hx r (fun s' I' _=>h s' I') hf
theorem Gi.call'{s':Shared}{ch:List Addr}(I:Gi X tx σ H s)(ho:s'.os=s.os)(u:Un (bF X.stack) ch H H' s.heap s'.heap)(hok:HW X.prog X.w H' s'.heap)(hg:AllBare s'.gens)
  (hch:∀b∈ch,(b∈X.ex\/X.s₀.heap.objs.size<=b)/\b≠X.env.locals/\(∀x c,X.env.cells.lookup x=some c->c≠b)/\∀p∈X.pn++tx,p.1≠b):Gi X tx σ H' s':=by
 obtain⟨h',g',d',t',o'⟩:=s';have e:o'=s.os:=ho
 subst e;exact I.call (g':=g') (t':=t') (d':=d') u hok hg hch
end
abbrev XK:=Value->Option Addr->Hp->Prop
abbrev St:=List (Option V)
abbrev VK:=V->Hp->Prop
abbrev TE:=St->Hp->VK->Prop
abbrev TT:=St->Hp->(Bool->Hp->Prop)->Prop
abbrev TA:=St->Hp->(List V->Hp->Prop)->Prop
structure Ht where
 nx:St->Hp->Prop
 rt:VK
 bk:St->Hp->Prop:=fun _ _=>False
 ct:St->Hp->Prop:=fun _ _=>False
abbrev TS:=Ht->St->Hp->Prop
def EP(X:Cx)(tx:Gd)(σ:St)(Q:VK)(u:Value)(s':Shared):Prop:=∃v H',Gi X tx σ H' s'/\Gn v u/\Q v H'
def TP(X:Cx)(tx:Gd)(σ:St)(Q:Bool->Hp->Prop)(b:Bool)(s':Shared):Prop:=∃H',Gi X tx σ H' s'/\Q b H'
def AP(X:Cx)(tx:Gd)(σ:St)(Q:List V->Hp->Prop)(us:List Value)(s':Shared):Prop:=∃vs H',Gi X tx σ H' s'/\Gk vs us/\Q vs H'
def SP(X:Cx)(tx:Gd)(D:Ht)(f:Flow)(s':Shared):Prop:=
 match f with
 | .next=>∃σ' H',Gi X tx σ' H' s'/\D.nx σ' H'
 | .brk=>∃σ' H',Gi X tx σ' H' s'/\D.bk σ' H'
 | .cont=>∃σ' H',Gi X tx σ' H' s'/\D.ct σ' H'
 | .ret u=>∃v σ' H',Gi X tx σ' H' s'/\Gn v u/\D.rt v H'
def PE(X:Cx)(e:Expr)(t:TE):Prop:=
 ∀(tx:Gd) (s:Shared) (σ:St) (H:Hp) (Q:VK),Gi X tx σ H s->t σ H Q->wpAny (model X.prog X.w) X.A (eval e X.env) (EP X tx σ Q) X.xe s
def PT(X:Cx)(e:Expr)(t:TT):Prop:=
 ∀(tx:Gd) (s:Shared) (σ:St) (H:Hp) (Q:Bool->Hp->Prop),Gi X tx σ H s->t σ H Q->wpAny (model X.prog X.w) X.A (isTrue e X.env (eval e X.env)) (TP X tx σ Q) X.xe s
def PW(X:Cx)(e:Expr)(t:TT):Prop:=
 ∀(whole:Sem Value) (tx:Gd) (s:Shared) (σ:St) (H:Hp) (Q:Bool->Hp->Prop),Gi X tx σ H s->t σ H Q->wpAny (model X.prog X.w) X.A (isTrue e X.env whole) (TP X tx σ Q) X.xe s
theorem PW.pt{X:Cx}{e:Expr}{t:TT}(h:PW X e t):PT X e t:=h _
def PA(X:Cx)(es:List Expr)(t:TA):Prop:=
 ∀(pos:Pos) (tx:Gd) (s:Shared) (σ:St) (H:Hp) (Q:List V->Hp->Prop),Gi X tx σ H s->t σ H Q->wpAny (model X.prog X.w) X.A (spliced (backTo pos (starEach es X.env))) (AP X tx σ Q) X.xe s
def PS(X:Cx)(st:Stmt)(t:TS):Prop:=
 ∀(tx:Gd) (s:Shared) (σ:St) (H:Hp) (D:Ht),Gi X tx σ H s->t D σ H->wpAny (model X.prog X.w) X.A (exec st X.env) (SP X tx D) X.xe s
def IG(X:Cx)(st:List Stmt)(t:TS):Prop:=
 ∀(tx:Gd) (s:Shared) (σ:St) (H:Hp) (D:Ht),Gi X tx σ H s->t D σ H->wpAny (model X.prog X.w) X.A (execs st X.env) (SP X tx D) X.xe s
theorem qC{α:Type}{t:Sem α}{Q Q':α->Shared->Prop}{M:Model}{A:Around}{E:Gb}{s:Shared}(h:wpAny M A t Q E s)(hQ:∀a s,Q a s->Q' a s):wpAny M A t Q' E s:=JH h hQ fun _ _ x=>x
section
variable{X:Cx}
def BL(i:Nat):TE:=fun σ H Q=>∃v,σ[i]? =some (some v)/\Q v H
def tC(v:V):TE:=fun _ H Q=>Q v H
theorem Bn{i:Nat}{x:Str}{pos:Pos}(hN:X.N[i]? =some x)(hv:Bi X.env.scope x)(hd:(x==("__debug__":Str))=false:=by decide)(hcd:(x==("__classdict__":Str))=false:=by decide):PE X (.Name x pos) (BL i):=by
 intro tx s σ H Q I h;obtain⟨v,e,h⟩:=h;obtain⟨m,hn,hl⟩:=I.loc;obtain⟨u,r,l⟩:=hl i x v hN e hv;have fin:EP X tx σ Q u s:=⟨v,H,I,r,h⟩
 rcases l with⟨hk,hm⟩|⟨hk,c,hc,hcell⟩
 ·exact wpAny_Name (wpAny_loadName_local I.ok.kind hk hn hm fin) hd
 ·rcases hk with hk|hk
  ·exact wpAny_Name (wpAny_loadName_cell I.ok.kind hk hc hcell fin) hd
  ·exact wpAny_Name (wpAny_loadName_free I.ok.kind hk hc hcell fin hcd) hd
theorem BN{i j pos}:PE X (.Constant (.int i) j pos) (tC (.int i)):=fun _ _ _ H _ I h=>wpAny_Constant_int ⟨.int i,H,I.tok _,⟨_,rfl⟩,h⟩
theorem CT{b j pos}:PE X (.Constant (.bool b) j pos) (tC (.bl b)):=fun _ _ _ H _ I h=>Constant_bool ⟨.bl b,H,I,rfl,h⟩
theorem Bd{j pos}:PE X (.Constant .none j pos) (tC .non):=fun _ _ _ H _ I h=>Constant_none ⟨.non,H,I,rfl,h⟩
theorem Bc{x j pos}:PE X (.Constant (.str x) j pos) (tC (.str x)):=fun _ _ _ H _ I h=>Calls.Constant_str ⟨.str x,H,I.tok _,⟨_,rfl⟩,h⟩
def Gl(X:Cx)(x:Str):Prop:=X.env.kindOf x=some .globalImplicit
theorem ik{E:Gb}{tx:Gd}{s:Shared}{σ:St}{H:Hp}{x:Str}{u:Value}{pos:Pos}{Q:Gb}(I:Gi X tx σ H s)(hg:Gl X x)(hm:X.mg x=some u)(h:Q u s)
  (hd:(x==("__debug__":Str))=false:=by decide):wpAny (model X.prog X.w) X.A (eval (.Name x pos) X.env) Q E s:=
 Calls.Name_function_global I.ok.kind hg (Calls.loadGlobal_global (by rw[I.ok.glob];exact I.mod.glob.keeps I.bk) hm h) hd
theorem QZ{E:Gb}{tx:Gd}{s:Shared}{σ:St}{H:Hp}{x:Str}{u:Value}{pos:Pos}{Q:Gb}(I:Gi X tx σ H s)(hg:Gl X x)(hm:X.mg x=none)(hv:bootBuiltins x=some u)(h:Q u s)
  (hn:x≠"__name__":=by decide)(hd:(x==("__debug__":Str))=false:=by decide):wpAny (model X.prog X.w) X.A (eval (.Name x pos) X.env) Q E s:=by
 obtain⟨mb,h1,h2⟩:=I.mod.blt;exact Calls.Name_function_global I.ok.kind hg (Calls.loadGlobal_builtin (by rw[I.ok.glob];exact I.mod.glob.keeps I.bk) hm (by rw[I.ok.blt];exact h1.keeps I.bk) ((h2 x hn).trans hv) h) hd
theorem yR{x:Str}{v:V}{u:Value}{pos:Pos}(hg:Gl X x)(hm:X.mg x=some u)(r:Gn v u)(hd:(x==("__debug__":Str))=false:=by decide):PE X (.Name x pos) (tC v):=
 fun _ _ _ H _ I h=>ik I hg hm ⟨v,H,I,r,h⟩ hd
theorem AQ{x:Str}{v:V}{u:Value}{pos:Pos}(hg:Gl X x)(hm:X.mg x=none)(hv:bootBuiltins x=some u)(r:Gn v u)(hn:x≠"__name__":=by decide)(hd:(x==("__debug__":Str))=false:=by decide):PE X (.Name x pos) (tC v):=
 fun _ _ _ H _ I h=>QZ I hg hm hv ⟨v,H,I,r,h⟩ hn hd
variable{a b:Expr}{ta tb:TE}{pos:Pos}
def PC(X:Cx)(op:CmpOp)(a b:Expr)(t:TE):Prop:=
 ∀(tx:Gd) (s:Shared) (σ:St) (H:Hp) (Q:VK),Gi X tx σ H s->t σ H Q->
  wpAny (model X.prog X.w) X.A (eval a X.env) (fun v s₁=>wpAny (model X.prog X.w) X.A (eval b X.env) (fun u s₂=>wpAny (model X.prog X.w) X.A (compareOp op v u) (EP X tx σ Q) X.xe s₂) X.xe s₁) X.xe s
def tB(t:TE):TT:=fun σ H Q=>t σ H fun x H1=>∃c,x= .bl c/\Q c H1
theorem CC{op:CmpOp}{t:TE}(h:PC X op a b t)(h1:behindInMarks op b=false:=by first|exact nobehind _ (by decide) (by decide)|rfl):PT X (.Compare a [op] [b] pos) (tB t):=by
 intro tx s σ H Q I hw;refine wpAny_isTrue_Compare1 (qC (h tx s σ H _ I hw) fun v s1 h1=>qC h1 fun u s2 h2=>qC h2 fun c s3 zq=>?_) h1
 obtain⟨x,H1,I1,r1,q1⟩:=zq;obtain⟨d,rfl,q⟩:=q1;cases r1;exact EE ⟨H1,I1,q⟩
theorem AZ{e:Expr}{t:TE}(h:PE X e t)(he:∀whole,isTrue e X.env whole=(do let v <- whole;standAt e.pos;holding [v] (truthy v)):=by intro _;rfl):PT X e (tB t):=by
 intro tx s σ H Q I hw;refine isTrue_plain (qC (h tx s σ H _ I hw) fun v s1 zq=>?_) (he _)
 obtain⟨x,H1,I1,r1,q1⟩:=zq;obtain⟨d,rfl,q⟩:=q1;cases r1;exact EE ⟨H1,I1,q⟩
variable{tA tB':TT}{rest:List Expr}
def Cs(t u:TT):TT:=fun σ H Q=>t σ H fun c H1=>if c=true then u σ H1 Q else Q false H1
def Dj(t u:TT):TT:=fun σ H Q=>t σ H fun c H1=>if c=true then Q true H1 else u σ H1 Q
def CF(t:TT):TT:=fun σ H Q=>t σ H fun c H1=>Q (!c) H1
theorem yQ(ha:PT X a tA):PW X (.BoolOp .And [a] pos) tA:=by
 intro wh tx s σ H Q I h;refine isTrue_and (qC (ha tx s σ H Q I h) fun c s1 e=>?_)
 cases c with
 |true=>exact isTrue_and_nil e
 |false=>exact e
theorem BA(ha:PT X a tA):PW X (.BoolOp .Or [a] pos) tA:=by
 intro wh tx s σ H Q I h;refine isTrue_or (qC (ha tx s σ H Q I h) fun c s1 e=>?_)
 cases c with
 |false=>exact isTrue_or_nil e
 |true=>exact e
theorem BH(ha:PT X a tA)(hb:PW X (.BoolOp .And (b::rest) pos) tB'):PW X (.BoolOp .And (a::b::rest) pos) (Cs tA tB'):=by
 intro wh tx s σ H Q I h;refine isTrue_and (qC (ha tx s σ H _ I h) fun c s1 zq=>?_)
 obtain⟨H1,I1,q1⟩:=zq;cases c with
 |true=>exact hb wh tx s1 σ H1 Q I1 q1
 |false=>exact⟨H1,I1,q1⟩
theorem C4(ha:PT X a tA)(hb:PW X (.BoolOp .Or (b::rest) pos) tB'):PW X (.BoolOp .Or (a::b::rest) pos) (Dj tA tB'):=by
 intro wh tx s σ H Q I h;refine isTrue_or (qC (ha tx s σ H _ I h) fun c s1 zq=>?_)
 obtain⟨H1,I1,q1⟩:=zq;cases c with
 |true=>exact⟨H1,I1,q1⟩
 |false=>exact hb wh tx s1 σ H1 Q I1 q1
theorem Cz(ha:PT X a tA):PT X (.UnaryOp .Not a pos) (CF tA):=by
 intro tx s σ H Q I h;exact isTrue_not (ha tx s σ H (fun c H1=>Q (!c) H1) I h)
def xt(ta tb:TE):TE:=fun σ H Q=>ta σ H fun x H1=>∃c,x= .bl c/\if c=true then tb σ H1 Q else Q (.bl false) H1
def xm(ta:TE):TE:=fun σ H Q=>ta σ H fun x H1=>∃c,x= .bl c/\Q (.bl (!c)) H1
theorem BX{op}{t:TE}(h:PE X a t):PE X (.BoolOp op [a] pos) t:=fun tx s σ H Q I hw=>BoolOp_one (h tx s σ H Q I hw)
theorem BK(ha:PE X a ta)(hb:PE X (.BoolOp .And (b::rest) pos) tb):PE X (.BoolOp .And (a::b::rest) pos) (xt ta tb):=by
 intro tx s σ H Q I h;refine BoolOp_and (qC (ha tx s σ H _ I h) fun v s1 zq=>?_)
 obtain⟨x,H1,I1,r1,q1⟩:=zq;obtain⟨c,rfl,q1⟩:=q1;cases r1;refine EE ?_
 cases c with
 |true=>exact hb tx s1 σ H1 Q I1 q1
 |false=>exact⟨.bl false,H1,I1,rfl,q1⟩
theorem BE(ha:PE X a ta):PE X (.UnaryOp .Not a pos) (xm ta):=by
 intro tx s σ H Q I h;refine UnaryOp_ (qC (ha tx s σ H _ I h) fun v s1 zq=>?_)
 obtain⟨x,H1,I1,r1,q1⟩:=zq;obtain⟨c,rfl,q1⟩:=q1;cases r1;exact not_of (EE ⟨.bl (!c),H1,I1,rfl,q1⟩)
def Dm(t:TT)(ta tb:TE):TE:=fun σ H Q=>t σ H fun c H1=>if c=true then ta σ H1 Q else tb σ H1 Q
theorem vI{c:Expr}(hc:PT X c tA)(ha:PE X a ta)(hb:PE X b tb):PE X (.IfExp c a b pos) (Dm tA ta tb):=by
 intro tx s σ H Q I h;refine wpAny_IfExp (qC (hc tx s σ H _ I h) fun d s1 zq=>?_)
 obtain⟨H1,I1,q1⟩:=zq;cases d with
 |true=>exact ha tx s1 σ H1 Q I1 q1
 |false=>exact hb tx s1 σ H1 Q I1 q1
end
def Gq(K:Frag)(H:Hp)(a:Addr)(xs:List V):Prop:=
 Rd H a (.lst xs)\/
  ∃(o:Obj) (its:Array Value) (n:Nat),K.lookup a=some o/\o.cls= .type "list"/\o.dict=none/\o.data= .seq its n/\its.size<=sizeLine/\Gk xs its.toList
def Gu(K:Frag)(H:Hp)(a:Addr)(xs:List V):Prop:=
 Rd H a (.tup xs)\/
  ∃(o:Obj) (its:Array Value) (n:Nat),K.lookup a=some o/\o.cls= .type "tuple"/\o.data= .seq its n/\its.size<=sizeLine/\Gk xs its.toList
def Dx:Value->Option V
 | .none=>some .non
 | .bool b=>some (.bl b)
 | .int i _=>some (.int i)
 | .str x _=>some (.str x)
 | .bytes b _=>some (.byt b)
 | .float b _=>some (.flt b)
 | .ref a=>some (.ref a)
 | .type n=>some (.ty n)
 |_=>none
theorem Gn.abs{x:V}{u:Value}(r:Gn x u):Dx u=some x:=by
 cases x with
 |non=>cases r;rfl
 |bl _=>cases r;rfl
 |int _=>obtain⟨t,rfl⟩:=r;rfl
 |str _=>obtain⟨t,rfl⟩:=r;rfl
 |byt _=>obtain⟨t,rfl⟩:=r;rfl
 |flt _=>obtain⟨t,rfl⟩:=r;rfl
 |ref _=>cases r;rfl
 |ty _=>cases r;rfl
theorem Gn.inj{x y:V}{u:Value}(r:Gn x u)(q:Gn y u):x=y:=Jy (r.abs.symm.trans q.abs)
theorem Gk.inj:∀{xs ys:List V} {us:List Value},Gk xs us->Gk ys us->xs=ys
 :=by
 intro xs ys us h
 induction h generalizing ys with
 |nil=>intro g;cases g;rfl
 |cons r t ih=>intro g;cases g with
  |cons r' t'=>rw[r.inj r',ih t']
section
variable{X:Cx}{tx:Gd}{σ:St}{H:Hp}{s:Shared}{a:Addr}{xs ys:List V}
theorem Gq.of{K:Frag}(h:H a=some (.lst xs)):Gq K H a xs:= .inl (.inl h)
theorem Gu.of{K:Frag}(h:H a=some (.tup xs)):Gu K H a xs:= .inl (.inl h)
theorem Gi.list(I:Gi X tx σ H s)(h:Gq X.K H a xs):∃its:List Value,Gk xs its/\PlainL s.heap a its.toArray/\xs.length<=sizeLine:=by
 rcases h with h|⟨o,its,n,hk,hc,hd,hs,hz,r⟩
 ·obtain⟨z,its,n,r,e⟩:=h.ok I.hok
  exact⟨its,r,⟨_,n,e,rfl,rfl,rfl⟩,z⟩
 ·refine⟨its.toList,r,⟨o,n,I.kIn a o hk,hc,hd,by simpa using hs⟩,?_⟩
  have e:=r.length;simp only[Jq]at e;lia
theorem Gi.tuple(I:Gi X tx σ H s)(h:Gu X.K H a xs):∃its:List Value,Gk xs its/\IsTup s.heap a its.toArray/\xs.length<=sizeLine:=by
 rcases h with h|⟨o,its,n,hk,hc,hs,hz,r⟩
 ·obtain⟨z,its,r,p⟩:=h.ok I.hok
  exact⟨its,r,p,z⟩
 ·refine⟨its.toList,r,⟨o,I.kIn a o hk,hc,n,by simpa using hs⟩,?_⟩
  have e:=r.length;simp only[Jq]at e;lia
theorem Gi.list_inj(I:Gi X tx σ H s)(h:Gq X.K H a xs)(h':Gq X.K H a ys):xs=ys:=by
 obtain⟨its,r,⟨o,n,e,_,_,d⟩,_⟩:=I.list h;obtain⟨its',r',⟨o',n',e',_,_,d'⟩,_⟩:=I.list h';rw[e]at e';cases e'
 rw[d]at d';injection d' with d1 _
 have:its=its':=by simpa using J3 Array.toList d1
 subst this;exact r.inj r'
theorem Gi.tuple_inj(I:Gi X tx σ H s)(h:Gu X.K H a xs)(h':Gu X.K H a ys):xs=ys:=by
 obtain⟨its,r,⟨o,e,_,n,d⟩,_⟩:=I.tuple h;obtain⟨its',r',⟨o',e',_,n',d'⟩,_⟩:=I.tuple h';rw[e]at e';cases e'
 rw[d]at d';injection d' with d1 _
 have:its=its':=by simpa using J3 Array.toList d1
 subst this;exact r.inj r'
end
abbrev Cx.wish(X:Cx)(E:Gb):Cx:={X with xe:=E}
abbrev Cx.nox(X:Cx):Cx:=X.wish fun _ _=>False
theorem Cx.Ok.wish{X:Cx}(ok:X.Ok)(E:Gb):(X.wish E).Ok:=
 ⟨ok.mod,ok.kind,ok.glob,ok.blt,ok.above,ok.inj,ok.has,ok.cab,ok.hd,ok.frames,ok.stk,ok.exf,ok.bs,ok.bsz,ok.noex,ok.exfs,ok.funs,ok.frf⟩
theorem Cx.Ok.unwish{X:Cx}{E:Gb}(ok:(X.wish E).Ok):X.Ok:=
 ⟨ok.mod,ok.kind,ok.glob,ok.blt,ok.above,ok.inj,ok.has,ok.cab,ok.hd,ok.frames,ok.stk,ok.exf,ok.bs,ok.bsz,ok.noex,ok.exfs,ok.funs,ok.frf⟩
section
variable{X:Cx}{tx:Gd}{σ:St}{H:Hp}{s:Shared}{E:Gb}
theorem Gi.wish(I:Gi X tx σ H s)(E:Gb):Gi (X.wish E) tx σ H s:=⟨I.ok.wish E,I.os,I.bare,I.base,I.loc,I.cell,I.free,I.freeC,I.pin,I.hok,I.len⟩
theorem Gi.unwish(I:Gi (X.wish E) tx σ H s):Gi X tx σ H s:=⟨I.ok.unwish,I.os,I.bare,I.base,I.loc,I.cell,I.free,I.freeC,I.pin,I.hok,I.len⟩
theorem SP.unwish{D:Ht}{f:Flow}{s':Shared}(h:SP (X.wish E) tx D f s'):SP X tx D f s':=by
 cases f with
 |next=>obtain⟨σ',H',I,q⟩:=h;exact⟨σ',H',I.unwish,q⟩
 |brk=>obtain⟨σ',H',I,q⟩:=h;exact⟨σ',H',I.unwish,q⟩
 |cont=>obtain⟨σ',H',I,q⟩:=h;exact⟨σ',H',I.unwish,q⟩
 |ret u=>obtain⟨v,σ',H',I,r,q⟩:=h;exact⟨v,σ',H',I.unwish,r,q⟩
theorem IG.nox{st:List Stmt}{t:TS}(h:IG X.nox st t):IG X st t:=fun tx s σ H D I hw=>
 JH (h tx s σ H D (I.wish _) hw) (fun _ _ q=>q.unwish) fun _ _ z=>False.elim z
end
section
variable{X:Cx}{st:Stmt}{rest:List Stmt}{t u:TS}{e:Expr}{te:TE}{pos:Pos}
def xf:TS:=fun D σ H=>D.nx σ H
def fL(t u:TS):TS:=fun D σ H=>t {D with nx:=u D} σ H
theorem AS:IG X [] xf:=fun _ _ σ H _ I h=>wpAny_execs_nil ⟨σ,H,I,h⟩
theorem ve(h1:PS X st t)(h2:IG X rest u):IG X (st::rest) (fL t u):=by
 intro tx s σ H D I h;refine wpAny_execs_cons (qC (h1 tx s σ H {D with nx:=u D} I h) fun f s1 q=>?_)
 cases f with
 |next=>
  obtain⟨σ',H',I',q⟩:=q;exact h2 tx s1 σ' H' D I' q
 |ret v=>exact q
 |brk=>exact q
 |cont=>exact q
theorem Ad(h1:PS X st t):IG X [st] t:=by
 intro tx s σ H D I h;refine wpAny_execs_cons (qC (h1 tx s σ H D I h) fun f s1 q=>?_)
 cases f with
 |next=>exact wpAny_execs_nil q
 |ret v=>exact q
 |brk=>exact q
 |cont=>exact q
theorem Gi.quiet{tx:Gd}{σ:St}{H:Hp}{s:Shared}(I:Gi X tx σ H s):interactive X.env=false:=by simp [interactive,I.ok.kind]
def xz(te:TE):TS:=fun D σ H=>te σ H fun _ H1=>D.nx σ H1
theorem yU(he:PE X e te)(hs:swapsWith e none pos.line X.env=pure false:=by rfl):PS X (.Expr e pos) (xz te):=by
 intro tx s σ H D I h;exact wpAny_Expr_any (qC (he tx s σ H _ I h) fun v s1 ⟨x,H1,I1,r1,q1⟩=>⟨σ,H1,I1,q1⟩) I.quiet hs
def BP(te:TE):TS:=fun D σ H=>te σ H D.rt
theorem B6(he:PE X e te):PS X (.Return (some e) pos) (BP te):=by
 intro tx s σ H D I h;exact wpAny_Return_some (qC (he tx s σ H _ I h) fun v s1 ⟨x,H1,I1,r1,q1⟩=>⟨x,σ,H1,I1,r1,q1⟩)
def Cy(c:TT)(t u:TS):TS:=fun D σ H=>c σ H fun b H1=>if b=true then t D σ H1 else u D σ H1
theorem CS{c:Expr}{a b:List Stmt}{tc:TT}(hc:PT X c tc)(ha:IG X a t)(hb:IG X b u):PS X (.If c a b pos) (Cy tc t u):=by
 intro tx s σ H D I h;refine wpAny_If (qC (hc tx s σ H _ I h) fun d s1 zq=>?_)
 obtain⟨H1,I1,q1⟩:=zq;cases d with
 |true=>exact ha tx s1 σ H1 D I1 q1
 |false=>exact hb tx s1 σ H1 D I1 q1
def sv:TS:=fun _ _ _=>False
theorem sS{sts:List Stmt}:IG X sts sv:=fun _ _ _ _ _ _ h=>h.elim
end
abbrev TG:=V->St->Hp->(St->Hp->Prop)->Prop
abbrev aP:=List V->St->Hp->(St->Hp->Prop)->Prop
def PG(X:Cx)(target:Expr)(t:TG):Prop:=
 ∀(tx:Gd) (s:Shared) (σ:St) (H:Hp) (v:V) (u:Value) (Q:St->Hp->Prop),Gi X tx σ H s->Gn v u->t v σ H Q->
  wpAny (model X.prog X.w) X.A (assign target X.env u) (fun _ s'=>∃σ' H',Gi X tx σ' H' s'/\Q σ' H') X.xe s
def n9(X:Cx)(ts:List Expr)(t:aP):Prop:=
 ∀(tx:Gd) (s:Shared) (σ:St) (H:Hp) (vs:List V) (us:List Value) (Q:St->Hp->Prop),Gi X tx σ H s->Gk vs us->t vs σ H Q->
  wpAny (model X.prog X.w) X.A (assignInOrder ((assignEach ts X.env).map (·.2)) us) (fun _ s'=>∃σ' H',Gi X tx σ' H' s'/\Q σ' H') X.xe s
abbrev fK:=V->V->V->Hp->(Hp->Prop)->Prop
def jN(X:Cx)(t:fK):Prop:=
 ∀(tx:Gd) (s:Shared) (σ:St) (H:Hp) (o i v:V) (ov iv u:Value) (Q:Hp->Prop),Gi X tx σ H s->Gn o ov->Gn i iv->Gn v u->t o i v H Q->
  wpAny (model X.prog X.w) X.A (setItem ov iv u) (fun _ s'=>∃H',Gi X tx σ H' s'/\Q H') X.xe s
abbrev sY:=V->V->Hp->VK->Prop
def Cj(X:Cx)(op:Operator)(t:sY):Prop:=
 ∀(tx:Gd) (s:Shared) (σ:St) (H:Hp) (x y:V) (v u:Value) (Q:VK),Gi X tx σ H s->Gn x v->Gn y u->t x y H Q->
  wpAny (model X.prog X.w) X.A (inplaceOp op v u) (EP X tx σ Q) X.xe s
section
variable{X:Cx}{pos:Pos}
def QN(i:Nat):TG:=fun v σ H Q=>Q (σ.set i (some v)) H
theorem Av{i:Nat}{x:Str}(hN:X.N.Nodup)(hi:X.N[i]? =some x)(hx:iN X.env.scope x)(hf:X.fn x=true\/X.env.scope.names.lookup x=some .local:=by first|exact .inl rfl|exact .inr rfl|assumption):PG X (.Name x pos) (QN i):=by
 intro tx s σ H v u Q I r h;exact wpAny_assign_Name (kD I hN hi hx r (fun s' I'=>⟨_,H,I',h⟩) hf)
def pH:aP:=fun vs σ H Q=>vs=[]/\Q σ H
def eP(t:TG)(u:aP):aP:=fun vs σ H Q=>∃v r,vs=v::r/\t v σ H fun σ' H'=>u r σ' H' Q
theorem AB:n9 X [] pH:=by
 intro tx s σ H vs us Q I r h;obtain⟨e,h⟩:=h;subst e;cases r;exact assignInOrder_nil ⟨σ,H,I,h⟩
theorem wI{e:Expr}{es:List Expr}{t:TG}{u:aP}(h1:PG X e t)(h2:n9 X es u)
  (hs:(assignEach (e::es) X.env).map (·.2)=assign e X.env::(assignEach es X.env).map (·.2):=by rfl):n9 X (e::es) (eP t u):=by
 intro tx s σ H vs us Q I r h;obtain⟨v,vr,e1,h⟩:=h;subst e1;cases r with
 |cons r rr=>
  rw[hs];refine assignInOrder_cons (qC (h1 tx s σ H _ _ _ I r h) fun _ s1 zq=>?_)
  obtain⟨σ1,H1,I1,q1⟩:=zq;exact h2 tx s1 σ1 H1 _ _ Q I1 rr q1
def kZ(K:Frag)(n:Nat)(t:aP):TG:=fun v σ H Q=>∃a xs,v= .ref a/\Gu K H a xs/\xs.length=n/\t xs σ H Q
theorem lE{es:List Expr}{k:Nat}{t:aP}{n:Nat}(hc:X.calm=true)(h:n9 X es t)
  (hn:(assignEach es X.env).length=n:=by rfl)(hst:(assignEach es X.env).findIdx? (·.1)=none:=by rfl):PG X (.Tuple es k pos) (kZ X.K n t):=by
 intro tx s σ H v u Q I r hw;obtain⟨a,xs,e1,hq,hl,hw⟩:=hw;subst e1;cases r;obtain⟨its,rv,ht,hz⟩:=I.tuple hq;refine assign_Tuple_tuple (I.ok.hd hc) ht (by simp [hn,<- hl,rv.length]) hst fun h' hx=>?_
 have I1:Gi X tx σ H {s with heap:=h'}:=I.kept (t':=s.toks) fun b o e=>hx b o (Jm (Jh e)) e
 exact h tx _ σ H xs _ Q I1 (by simpa using rv) hw
def Be(to ti:TE)(t:fK):TG:=fun v σ H Q=>to σ H fun o H1=>ti σ H1 fun i H2=>t o i v H2 fun H3=>Q σ H3
theorem CA{o i:Expr}{to ti:TE}{t:fK}(ho:PE X o to)(hi:PE X i ti)(hs:jN X t)
  (ha:∀v,assign (.Subscript o i pos) X.env v=(do
   let ov <- holding [v] (eval o X.env)
   let iv <- holding [v,ov] (eval i X.env)
   standAt pos
   holding [v,ov,iv] (setItem ov iv v)
   release [v,ov,iv] []):=by intro _;rfl):PG X (.Subscript o i pos) (Be to ti t):=by
 intro tx s σ H v u Q I r h;rw[ha];refine Ja (JL (qC (ho tx s σ H _ I h) fun ov s1 zq=>?_))
 obtain⟨x,H1,I1,r1,q1⟩:=zq;refine Ja (JL (qC (hi tx s1 σ H1 _ I1 q1) fun iv s2 zq=>?_))
 obtain⟨y,H2,I2,r2,q2⟩:=zq;refine Ja (EF (Ja (JL (qC (hs tx s2 σ H2 x y v ov iv u _ I2 r1 r2 r q2) fun _ s3 zq=>?_))))
 obtain⟨H3,I3,q3⟩:=zq;exact wpAny_release ⟨σ,H3,I3,q3⟩
def gO(te:TE)(g:TG):TS:=fun D σ H=>te σ H fun x H1=>g x σ H1 D.nx
theorem Cw{tg e:Expr}{te:TE}{g:TG}(he:PE X e te)(hg:PG X tg g)(hs:swapsWithSole [tg] e pos.line X.env=pure false:=by rfl)(hw:swappedStores [tg] e X.env=pure none:=by rfl)
  (h1:(assignEach [tg] X.env).map (·.2)=[assign tg X.env]:=by rfl):PS X (.Assign [tg] e pos) (gO te g):=by
 intro tx s σ H D I h;refine wpAny_Assign_stores (qC (he tx s σ H _ I h) fun v s1 zq=>?_) hs hw
 obtain⟨x,H1,I1,r1,q1⟩:=zq;rw[h1];exact qC (hg tx s1 σ H1 x v _ I1 r1 q1) fun _ s2 q=>q
theorem Ct{i:Nat}{x:Str}{e:Expr}{te:TE}{pos':Pos}(hN:X.N.Nodup)(hi:X.N[i]? =some x)(hx:iN X.env.scope x)(he:PE X e te)(hs:swapsWith e (some (.Name x pos')) pos.line X.env=pure false:=by rfl)(hf:X.fn x=true\/X.env.scope.names.lookup x=some .local:=by first|exact .inl rfl|exact .inr rfl|assumption):
  PS X (.Assign [.Name x pos'] e pos) (gO te (QN i)):=by
 intro tx s σ H D I h;refine wpAny_Assign_Name (qC (he tx s σ H _ I h) fun v s1 zq=>?_) hs
 obtain⟨y,H1,I1,r1,q1⟩:=zq;exact kD I1 hN hi hx r1 (fun s2 I2=>⟨_,H1,I2,q1⟩) hf
def xk(to ti te:TE)(tget:V->V->Hp->VK->Prop)(tip:sY)(tset:fK):TS:=fun D σ H=>to σ H fun o H1=>ti σ H1 fun i H2=>tget o i H2 fun x H3=>te σ H3 fun y H4=>tip x y H4 fun z H5=>tset o i z H5 fun H6=>D.nx σ H6
def vx(X:Cx)(t:V->V->Hp->VK->Prop):Prop:=
 ∀(tx:Gd) (s:Shared) (σ:St) (H:Hp) (o i:V) (ov iv:Value) (Q:VK),Gi X tx σ H s->Gn o ov->Gn i iv->t o i H Q->
  wpAny (model X.prog X.w) X.A (getItem ov iv) (EP X tx σ Q) X.xe s
theorem yq{o i e:Expr}{to ti te:TE}{tget:V->V->Hp->VK->Prop}{tip:sY}{tset:fK}{op:Operator}{tpos:Pos}(ho:PE X o to)(hi:PE X i ti)(hg:vx X tget)(he:PE X e te)(hp:Cj X op tip)(hs:jN X tset)
  (ha:∀ov iv new,augStore i ov iv new=(do holding [new,ov,iv] (setItem ov iv new);release [new,ov,iv] [];pure .next):=by intros;rfl):PS X (.AugAssign (.Subscript o i tpos) op e pos) (xk to ti te tget tip tset):=by
 intro tx s σ H D I h;refine wpAny_AugAssign_SubscriptAny (qC (ho tx s σ H _ I h) fun ov s1 zq=>?_) ha
 obtain⟨x1,H1,I1,r1,q1⟩:=zq;refine qC (hi tx s1 σ H1 _ I1 q1) fun iv s2 zq=>?_
 obtain⟨x2,H2,I2,r2,q2⟩:=zq;refine qC (hg tx s2 σ H2 x1 x2 ov iv _ I2 r1 r2 q2) fun old s3 zq=>?_
 obtain⟨x3,H3,I3,r3,q3⟩:=zq;refine qC (he tx s3 σ H3 _ I3 q3) fun v s4 zq=>?_
 obtain⟨x4,H4,I4,r4,q4⟩:=zq;refine qC (hp tx s4 σ H4 x3 x4 old v _ I4 r3 r4 q4) fun new s5 zq=>?_
 obtain⟨x5,H5,I5,r5,q5⟩:=zq;exact qC (hs tx s5 σ H5 x1 x2 x5 ov iv new _ I5 r1 r2 r5 q5) fun _ s6 ⟨H6,I6,q6⟩=>⟨σ,H6,I6,q6⟩
def DM(f:Int->Int->Int):sY:=fun x y H Q=>∃i j,x= .int i/\y= .int j/\Q (.int (f i j)) H
theorem Cc:Cj X .Add (DM fun i j=>i+j):=by
 intro tx s σ H x y v u Q I r1 r2 h;obtain⟨i,j,e1,e2,q⟩:=h;subst e1;subst e2
 obtain⟨t,rfl⟩:=r1;obtain⟨t',rfl⟩:=r2;exact iadd_int ⟨.int _,H,I.tok _,⟨_,rfl⟩,q⟩
end
structure It where
 go:Nat->Hp->Prop
 yld:Nat->Hp->V->Hp->Prop
 stop:Nat->Hp->Prop
def Zt(X:Cx)(tx:Gd)(H:Hp)(b:Addr):Prop:=
 H b=none/\b≠X.env.locals/\b∉X.fs/\(b∈X.ex\/X.s₀.heap.objs.size<=b)/\(∀x c,X.env.cells.lookup x=some c->c≠b)/\∀p∈X.pn++tx,p.1≠b
theorem Gi.fpOk{X:Cx}{tx:Gd}{σ:St}{H H':Hp}{s:Shared}{b:Addr}(I:Gi X tx σ H s)(hb:s.heap.objs.size<=b)(hn:H' b=none):Zt X tx H' b:=by
 refine⟨hn,JX (JJ I.lt hb),I.nofs hb,.inr (JK I.sz hb),fun x c e z=>?_,fun p hp z=>?_⟩
 ·obtain⟨v,q⟩:=I.cell x c e
  exact absurd (JJ q.lt (by rw[z];exact hb)) (JY _)
 ·exact absurd (JJ (Jh (I.pin p hp).1) (by rw[z];exact hb)) (JY _)
structure Ig(P:Program)(w:World)(K:Frag)(tg:Expr)(J:It)(fp:List Addr)(it:Addr)(tn:Nat->Heap->Prop):Prop where
 mem:it∈fp
 obj:∀i h,tn i h->∀b∈fp,∃o,h.get? b=some o/\∀v,o.data≠ .cell v
 keep:∀i h h',tn i h->(∀b∈fp,∀o,h.get? b=some o->h'.get? b=some o)->tn i h'
 item:∀(X:Cx),X.prog=P->X.w=w->X.K=K->X.calm=true->∀(i:Nat) (tx:Gd) (s:Shared) (σ:St) (H:Hp) (E:Gb),Gi X tx σ H s->(∀b∈fp,Zt X tx H b)->tn i s.heap->J.go i H->
  wpAny (model P w) X.A (pyNext (.ref it)) (fun r s1=>∃u,r=some u/\
   wpAny (model P w) X.A (letOwnedTupleGo tg (.ref it) u) (fun _ s2=>∃x H',Gi X tx σ H' s2/\Gn x u/\J.yld i H x H'/\tn (i+1) s2.heap/\∀b∈fp,H' b=none) E s1) E s
 done:∀(X:Cx),X.prog=P->X.w=w->X.K=K->X.calm=true->∀(i:Nat) (tx:Gd) (s:Shared) (σ:St) (H:Hp) (E:Gb),Gi X tx σ H s->(∀b∈fp,Zt X tx H b)->tn i s.heap->J.stop i H->
  wpAny (model P w) X.A (pyNext (.ref it)) (fun r s1=>r=none/\Gi X tx σ H s1) E s
 self:∀(A:Around) (i:Nat) (s:Shared) (Q:Gb) (E:Gb),tn i s.heap->Q (.ref it) s->wpAny (model P w) A (pyIter (.ref it)) Q E s
abbrev TI:=St->Hp->(It->Hp->Prop)->Prop
def Dq(X:Cx)(tx:Gd)(σ:St)(tg:Expr)(R:It->Hp->Prop)(itv:Value)(s2:Shared):Prop:=
 ∃(it:Addr) (fp:List Addr) (tn:Nat->Heap->Prop) (J:It) (H':Hp),itv= .ref it/\Gi X tx σ H' s2/\Ig X.prog X.w X.K tg J fp it tn/\tn 0 s2.heap/\(∀b∈fp,Zt X tx H' b)/\R J H'
def PI(X:Cx)(tg iter:Expr)(wi:TI):Prop:=
 ∀(tx:Gd) (s:Shared) (σ:St) (H:Hp) (R:It->Hp->Prop),Gi X tx σ H s->wi σ H R->
  wpAny (model X.prog X.w) X.A (eval iter X.env) (fun v s1=>wpAny (model X.prog X.w) X.A (pyIter v) (Dq X tx σ tg R) X.xe s1) X.xe s
theorem bX{M:Model}{A:Around}{E:Gb}{s:Shared}{tg:Expr}{it:Addr}{u:Value}{o:Obj}{n:String}{vs:Array Value}{Q:Unit->Shared->Prop}(ho:s.heap.get? it=some o)(hc:o.cls= .type n)(hd:o.data= .fields vs)
    (hn:["enumerate","zip","dict_itemiterator","dict_reverseitemiterator","odict_iterator","itertools.zip_longest","itertools.pairwise"].contains n=false)(hQ:Q () s):wpAny M A (letOwnedTupleGo tg (.ref it) u) Q E s:=by
  unfold letOwnedTupleGo;cases tg<;>first
    |exact Jb hQ
    |(cases u<;>first
        |exact Jb hQ
        | (refine Ja (wpAny_load ho ?_)
           rw[hc,hd]
           show wpAny M A (if(["enumerate","zip","dict_itemiterator","dict_reverseitemiterator","odict_iterator","itertools.zip_longest","itertools.pairwise"].contains n&&vs[0]? ==some (rawInt _))=true then _ else _) Q E s
           rw[Jd (by intro h;rw[hn,Eb]at h;cases h)]
           exact Jb hQ))
def i8(K:Frag)(a:Addr):It:=
 ⟨fun i H=>∃xs x,Gq K H a xs/\xs[i]? =some x,fun i H x H'=>H'=H/\∀xs,Gq K H a xs->xs[i]? =some x,fun i H=>∃xs,Gq K H a xs/\xs.length<=i⟩
def iP(K:Frag)(a:Addr):It:=
 ⟨fun i H=>∃xs x,Gu K H a xs/\xs[i]? =some x,fun i H x H'=>H'=H/\∀xs,Gu K H a xs->xs[i]? =some x,fun i H=>∃xs,Gu K H a xs/\xs.length<=i⟩
def iy(lo:Int)(n:Nat):It:=⟨fun i _=>i<n,fun i H x H'=>H'=H/\x= .int (lo+i),fun i _=>n<=i⟩
theorem i5{P:Program}{w:World}{K:Frag}{tg:Expr}(a it:Addr):Ig P w K tg (i8 K a) [it] it (fun i h=>h.IsListIter it a i) where
 mem:=by simp
 obj:=fun i h st b hb=>by
  have e:b=it:=by simpa using hb
  subst e;obtain⟨o,e,c,d⟩:=st
  exact⟨o,e,fun v z=>by rw[d]at z;cases z⟩
 keep:=fun i h h' st k=>st.at fun o e=>k it (by simp) o e
 item:=by
  intro X hP hw hK hc i tx s σ H E I hf st hg;subst hP hw hK;obtain⟨xs,x,hq,hx⟩:=hg;obtain⟨its,rv,p,hz⟩:=I.list hq;obtain⟨u,hu,ru⟩:=rv.get hx;obtain⟨f0,f1,f2,f3,f4,f5⟩:=hf it (by simp)
  refine wpAny_pyNext_list_item st p.isList (x:=u) (by simpa using hu) fun h' st' sb=>?_
  have I1:Gi X tx σ H {s with heap:=h'}:=I.turned (t':=s.toks) (fun b o hb e=>(sb.2 b hb).trans e) f0 f1 f3 f4 f5
  obtain⟨o,e,c,d⟩:=id st'
  exact⟨u,rfl,bX (s:={s with heap:=h'}) e c d (by decide) ⟨x,H,I1,ru,⟨rfl,fun ys hy=>by rw[I.list_inj hy hq];exact hx⟩,st',fun b hb=>(hf b hb).1⟩⟩
 done:=by
  intro X hP hw hK hc i tx s σ H E I hf st hg;subst hP hw hK;obtain⟨xs,hq,hx⟩:=hg;obtain⟨its,rv,p,hz⟩:=I.list hq;obtain⟨f0,f1,f2,f3,f4,f5⟩:=hf it (by simp)
  have hl:=rv.length;exact wpAny_pyNext_list_end (I.ok.hd hc) st p.isList (by simp;lia) fun h' eb=>⟨rfl,I.turned (t':=s.toks) (fun b o hb e=>eb b o hb e) f0 f1 f3 f4 f5⟩
 self:=fun _ _ _ _ _ st h=>wpAny_pyIter_listiter st h
theorem gF{P:Program}{w:World}{K:Frag}{tg:Expr}(a it:Addr):Ig P w K tg (iP K a) [it] it (fun i h=>h.IsTupleIter it a i) where
 mem:=by simp
 obj:=fun i h st b hb=>by
  have e:b=it:=by simpa using hb
  subst e;obtain⟨o,e,c,d⟩:=st
  exact⟨o,e,fun v z=>by rw[d]at z;cases z⟩
 keep:=fun i h h' st k=>st.at fun o e=>k it (by simp) o e
 item:=by
  intro X hP hw hK hc i tx s σ H E I hf st hg;subst hP hw hK;obtain⟨xs,x,hq,hx⟩:=hg;obtain⟨its,rv,p,hz⟩:=I.tuple hq;obtain⟨u,hu,ru⟩:=rv.get hx;obtain⟨f0,f1,f2,f3,f4,f5⟩:=hf it (by simp)
  refine wpAny_pyNext_tuple_item st (show s.heap.IsTuple a its.toArray from p) (x:=u) (by simpa using hu) fun h' st' sb=>?_
  have I1:Gi X tx σ H {s with heap:=h'}:=I.turned (t':=s.toks) (fun b o hb e=>(sb.2 b hb).trans e) f0 f1 f3 f4 f5
  obtain⟨o,e,c,d⟩:=id st'
  exact⟨u,rfl,bX (s:={s with heap:=h'}) e c d (by decide) ⟨x,H,I1,ru,⟨rfl,fun ys hy=>by rw[I.tuple_inj hy hq];exact hx⟩,st',fun b hb=>(hf b hb).1⟩⟩
 done:=by
  intro X hP hw hK hc i tx s σ H E I hf st hg;subst hP hw hK;obtain⟨xs,hq,hx⟩:=hg;obtain⟨its,rv,p,hz⟩:=I.tuple hq;obtain⟨f0,f1,f2,f3,f4,f5⟩:=hf it (by simp)
  have hl:=rv.length;exact wpAny_pyNext_tuple_end (I.ok.hd hc) st (show s.heap.IsTuple a its.toArray from p) (by simp;lia) fun h' eb=>⟨rfl,I.turned (t':=s.toks) (fun b o hb e=>eb b o hb e) f0 f1 f3 f4 f5⟩
 self:=fun _ _ _ _ _ st h=>wpAny_pyIter_tupleiter st h
theorem pT{P:Program}{w:World}{K:Frag}{tg:Expr}(it:Addr)(lo:Int)(n:Nat):Ig P w K tg (iy lo n) [it] it (fun i h=>IsRangeIter h it (lo+(i:Nat)*1) ((n:Int)-(i:Nat)) 1) where
 mem:=by simp
 obj:=fun i h st b hb=>by
  have e:b=it:=by simpa using hb
  subst e
  exact⟨_,st,fun v z=>by
   have z':Data.fields _=Data.cell v:=z
   cases z'⟩
 keep:=fun i h h' st k=>k it (by simp) _ st
 item:=by
  intro X hP hw hK hc i tx s σ H E I hf st hg;subst hP hw hK;obtain⟨f0,f1,f2,f3,f4,f5⟩:=hf it (by simp)
  have W:=Walks.range (prog:=X.prog) (w:=X.w) (I.ok.hd hc) it lo 1 n
  refine W.item i s _ _ hg st fun v h' tk hv st' kk=>?_
  obtain⟨t,rfl⟩:=hv;have I1:Gi X tx σ H {s with heap:=h',toks:=tk}:=I.turned (fun b o hb e=>kk b o (by simpa using hb) e) f0 f1 f3 f4 f5
  refine⟨_,rfl,bX (s:={s with heap:=h',toks:=tk}) (n:="range_iterator") st' rfl rfl (by decide) ⟨.int (lo+i),H,I1,⟨t,?_⟩,⟨rfl,rfl⟩,st',fun b hb=>(hf b hb).1⟩⟩
  rw[Int.mul_one]
 done:=by
  intro X hP hw hK hc i tx s σ H E I hf st hg;subst hP hw hK;obtain⟨f0,f1,f2,f3,f4,f5⟩:=hf it (by simp)
  exact wpAny_pyNext_range_end (I.ok.hd hc) st (by have:n<=i:=hg;lia) fun h' eb=>⟨rfl,I.turned (t':=s.toks) (fun b o hb e=>eb b o hb e) f0 f1 f3 f4 f5⟩
 self:=fun _ _ _ _ _ st h=>FT st h
section
variable{X:Cx}{tg:Expr}
def wP(K:Frag)(tl:TE):TI:=fun σ H R=>tl σ H fun x H1=>∃a,x= .ref a/\(∃xs,Gq K H1 a xs)/\R (i8 K a) H1
def B2(K:Frag)(tl:TE):TI:=fun σ H R=>tl σ H fun x H1=>∃a,x= .ref a/\(∃xs,Gu K H1 a xs)/\R (iP K a) H1
theorem Ak{l:Expr}{tl:TE}(hl:PE X l tl):PI X tg l (wP X.K tl):=by
 intro tx s σ H R I h;refine qC (hl tx s σ H _ I h) fun v s1 zq=>?_
 obtain⟨x,H1,I1,r1,q1⟩:=zq;obtain⟨a,e,⟨xs,hq⟩,q⟩:=q1;subst e;cases r1;obtain⟨its,rv,p,hz⟩:=I1.list hq;refine Ff p.isList ?_
 refine⟨s1.heap.objs.size,[s1.heap.objs.size],_,_,H1,rfl,I1.kept (t':=s1.toks) fun b o e=>Ji _ e,i5 a _,⟨_,Jp _ rfl,rfl,rfl⟩,fun b hb=>?_,q⟩
 have e:b=s1.heap.objs.size:=by simpa using hb
 subst e;exact I1.fpOk (Jf _) (I1.hok.fresh (Jf _))
theorem By{l:Expr}{tl:TE}(hl:PE X l tl):PI X tg l (B2 X.K tl):=by
 intro tx s σ H R I h;refine qC (hl tx s σ H _ I h) fun v s1 zq=>?_
 obtain⟨x,H1,I1,r1,q1⟩:=zq;obtain⟨a,e,⟨xs,hq⟩,q⟩:=q1;subst e;cases r1;obtain⟨its,rv,p,hz⟩:=I1.tuple hq;refine ET (show s1.heap.IsTuple a its.toArray from p) ?_
 refine⟨s1.heap.objs.size,[s1.heap.objs.size],_,_,H1,rfl,I1.kept (t':=s1.toks) fun b o e=>Ji _ e,gF a _,⟨_,Jp _ rfl,rfl,rfl⟩,fun b hb=>?_,q⟩
 have e:b=s1.heap.objs.size:=by simpa using hb
 subst e;exact I1.fpOk (Jf _) (I1.hok.fresh (Jf _))
theorem kM{tx:Gd}{σ:St}{H:Hp}{s:Shared}{R:It->Hp->Prop}{E:Gb}{lo hi:Int}{t u v:Tok}{tk:Nat}(I:Gi X tx σ H s)(h1: -(2 ^ 62)<=lo)(h2:lo<2 ^ 62)(h3: -(2 ^ 62)<=hi)(h4:hi<2 ^ 62)
  (q:R (iy lo (hi-lo).toNat) H):wpAny (model X.prog X.w) X.A (pyIter (.ref s.heap.objs.size)) (Dq X tx σ tg R) E {s with heap:=s.heap.push {cls:= .type "range",data:= .fields #[.int lo t,.int hi u,.int 1 v]},toks:=tk}:=by
 refine wpAny_pyIter_range (IsRange.new ..) (small_one h1 h2 h3 h4) ?_
 have I1:Gi X tx σ H {s with heap:=s.heap.push {cls:= .type "range",data:= .fields #[.int lo t,.int hi u,.int 1 v]},toks:=tk}:=I.kept fun b o e=>Ji _ e
 refine⟨(s.heap.push {cls:= .type "range",data:= .fields #[.int lo t,.int hi u,.int 1 v]}).objs.size,[(s.heap.push {cls:= .type "range",data:= .fields #[.int lo t,.int hi u,.int 1 v]}).objs.size],_,_,H,rfl,
  I1.kept (t':=tk) fun b o e=>Ji _ e,pT _ lo (hi-lo).toNat,?_,fun b hb=>?_,q⟩
 ·have e1:lo+((0:Nat):Int)*1=lo:=by simp
  have e2:(((hi-lo).toNat:Nat):Int)-((0:Nat):Int)=Builtin.Range.rangeSize lo hi 1:=by rw[rangeSize_one];split<;>lia
  show IsRangeIter _ _ (lo+((0:Nat):Int)*1) ((((hi-lo).toNat:Nat):Int)-((0:Nat):Int)) 1
  rw[e1,e2];exact Jp _ rfl
 ·have e:b=(s.heap.push {cls:= .type "range",data:= .fields #[.int lo t,.int hi u,.int 1 v]}).objs.size:=by simpa using hb
  subst e;exact I1.fpOk (Jf _) (I1.hok.fresh (Jf _))
def xu(ta:TA):TI:=fun σ H R=>ta σ H fun vs H1=>∃j:Int,vs=[.int j]/\ -(2 ^ 62)<=j/\j<2 ^ 62/\R (iy 0 j.toNat) H1
def xn(ta:TA):TI:=fun σ H R=>ta σ H fun vs H1=>∃i j:Int,vs=[.int i,.int j]/\(-(2 ^ 62)<=i/\i<2 ^ 62/\ -(2 ^ 62)<=j/\j<2 ^ 62)/\R (iy i (j-i).toNat) H1
theorem tL{a:Expr}{ta:TA}{p pos:Pos}(hg:Gl X "range")(hm:X.mg "range"=none)(ha:PA X [a] ta)(hs:starEach [a] X.env=[(false,eval a X.env)]:=by rfl):PI X tg (.Call (.Name "range" p) [a] [] pos) (xu ta):=by
 intro tx s σ H R I h;refine Call_ (QZ I hg hm boot_range (EU (qC (ha pos tx s σ H _ I h) fun us s1 zq=>?_) hs rfl))
 obtain⟨vs,H1,I1,r1,q1⟩:=zq;obtain⟨j,e,q1,q2,q⟩:=q1;subst e;cases r1 with
 |cons r rr=>
  cases rr;obtain⟨t,rfl⟩:=r;exact call_range_1 (kM I1 (by lia) (by lia) q1 q2 (by simpa using q))
theorem uH{a b:Expr}{ta:TA}{p pos:Pos}(hg:Gl X "range")(hm:X.mg "range"=none)(ha:PA X [a,b] ta)(hs:starEach [a,b] X.env=[(false,eval a X.env),(false,eval b X.env)]:=by rfl)(hs2:starEach [b] X.env=[(false,eval b X.env)]:=by rfl):
  PI X tg (.Call (.Name "range" p) [a,b] [] pos) (xn ta):=by
 intro tx s σ H R I h;refine Call_ (QZ I hg hm boot_range (EU (qC (ha pos tx s σ H _ I h) fun us s1 zq=>?_) (by rw[hs,hs2]) (by rw[hs2];rfl)))
 obtain⟨vs,H1,I1,r1,q1⟩:=zq;obtain⟨i,j,e,⟨q1,q2,q3,q4⟩,q⟩:=q1;subst e;cases r1 with
 |cons r rr=>
  cases rr with
  |cons r' rr=>
   cases rr;obtain⟨t,rfl⟩:=r;obtain⟨t',rfl⟩:=r';exact call_range_2 (kM I1 q1 q2 q3 q4 q)
def B4(wi:TI)(g:TG)(tb:TS):TS:=fun D σ H=>wi σ H fun J H1=>∃W:Nat->Nat->St->Hp->Prop,(∃m,W 0 m σ H1)/\∀i m σ H,W i m σ H->
 (J.stop i H/\D.nx σ H)\/(J.go i H/\∃N:St->Hp->Prop,(∀σ' H',N σ' H'->∃m',m'<m/\W (i+1) m' σ' H')/\∀x H',J.yld i H x H'->g x σ H' fun σ2 H2=>tb {D with nx:=N,ct:=N,bk:=D.nx} σ2 H2)
def ZQ(fp:List Addr)(h:Heap):List (Addr×Obj):=fp.filterMap fun b=>(h.get? b).map fun o=>(b,o)
theorem Zi{fp:List Addr}{h:Heap}{b:Addr}{o:Obj}(hb:b∈fp)(e:h.get? b=some o):(b,o)∈ZQ fp h:=List.mem_filterMap.mpr ⟨b,hb,by rw[e];rfl⟩
theorem iY{fp:List Addr}{h:Heap}{p:Addr×Obj}(hp:p∈ZQ fp h):p.1∈fp/\h.get? p.1=some p.2:=by
 obtain⟨b,hb,e⟩:=List.mem_filterMap.mp hp;cases q:h.get? b with
 |none=>rw[q]at e;cases e
 |some o=>
  rw[q]at e;have e':(b,o)=p:=Jy e
  subst e'
  exact⟨hb,q⟩
theorem Gi.pinned{tx:Gd}{σ:St}{H:Hp}{s:Shared}{fp:List Addr}(I:Gi X tx σ H s)(hf:∀b∈fp,Zt X tx H b)(ho:∀b∈fp,∃o,s.heap.get? b=some o/\∀v,o.data≠ .cell v):Gi X (tx++ZQ fp s.heap) σ H s:=
 I.pins_of fun p hp=>(JW.mp hp).elim (fun z=>I.pin p (DX _ z)) fun z=>by
  obtain⟨hb,e⟩:=iY z;obtain⟨f0,f1,f2,_⟩:=hf p.1 hb;obtain⟨o,e',d⟩:=ho p.1 hb;rw[e]at e';cases e'
  exact⟨e,f0,f1,f2,d⟩
theorem Gi.unpinned{tx pl:Gd}{σ:St}{H:Hp}{s:Shared}(I:Gi X (tx++pl) σ H s):Gi X tx σ H s:=I.pins_of fun p hp=>I.pin p (DX _ (Fe _ hp))
theorem BU{iter:Expr}{body:List Stmt}{wi:TI}{g:TG}{tb:TS}{pos:Pos}(hp:PassesOwn (model X.prog X.w) X.A X.env X.xe)(hc:X.calm=true)(hi:PI X tg iter wi)(hg:PG X tg g)(hb:IG X body tb)
  (hs:∀x,foldedSetIterable iter X.env x=pure x:=by intro _;rfl):PS X (.For tg iter body [] pos) (B4 wi g tb):=by
 intro tx s σ H D I h;refine wpAny_For (qC (hi tx s σ H _ I h) fun v s1 h1=>qC h1 fun itv s2 h2=>?_) hs
 obtain⟨it,fp,tn,J,H2,e,I2,T,st2,f2,W,⟨m0,w0⟩,turn⟩:=h2;subst e;have stat:∀{H':Hp},(∀b∈fp,H' b=none)->∀b∈fp,Zt X tx H' b:=fun hn b hb=>⟨hn b hb,(f2 b hb).2⟩
 refine codeAny_forLoop_any (fun n s'=>∃i σ' H',Gi X tx σ' H' s'/\tn i s'.heap/\(∀b∈fp,H' b=none)/\W i n σ' H') ?_ m0 ⟨0,σ,H2,I2,st2,fun b hb=>(f2 b hb).1,w0⟩
 rintro n s3 ⟨i,σ3,H3,I3,st3,fr3,w3⟩
 rcases turn i n σ3 H3 w3 with⟨stop,qn⟩|⟨go,N,hN,step⟩
 ·refine Fq hp (qC (T.done X rfl rfl rfl hc i tx s3 σ3 H3 X.xe I3 (stat fr3) st3 stop) fun r s4 zq=>?_)
  obtain⟨hr,I4⟩:=zq;subst hr;exact wpAny_execs_nil ⟨σ3,H3,I4,qn⟩
 ·refine Fq hp (qC (T.item X rfl rfl rfl hc i tx s3 σ3 H3 X.xe I3 (stat fr3) st3 go) fun r s4 zq=>?_)
  obtain⟨u,hr,h4⟩:=zq;subst hr;refine Fq hp (qC h4 fun _ s5 zq=>?_)
  obtain⟨x,H5,I5,r5,y5,st5,fr5⟩:=zq;have I5':=I5.pinned (stat fr5) (T.obj _ _ st5);refine Fq hp (qC (hg _ s5 σ3 H5 x u _ I5' r5 (step x H5 y5)) fun _ s6 zq=>?_)
  obtain⟨σ6,H6,I6,q6⟩:=zq;refine Fq hp (qC (hb _ s6 σ6 H6 _ I6 q6) fun f s7 q7=>?_)
  have again:∀{σ7:St} {H7:Hp},Gi X (tx++ZQ fp s5.heap) σ7 H7 s7->N σ7 H7->∃m,m<n/\∃i σ' H',Gi X tx σ' H' s7/\tn i s7.heap/\(∀b∈fp,H' b=none)/\W i m σ' H':=fun{σ7 H7} I7 n7=>by
   obtain⟨m',hm,w7⟩:=hN σ7 H7 n7;refine⟨m',hm,i+1,σ7,H7,I7.unpinned,T.keep _ _ _ st5 fun b hb o e=>(I7.pin (b,o) (DX _ (DX _ (Zi hb e)))).1,fun b hb=>?_,w7⟩
   obtain⟨o,e,d⟩:=T.obj _ _ st5 b hb
   exact(I7.pin (b,o) (DX _ (DX _ (Zi hb e)))).2.1
  cases f with
  |next=>obtain⟨σ7,H7,I7,n7⟩:=q7;exact again I7 n7
  |cont=>obtain⟨σ7,H7,I7,n7⟩:=q7;exact again I7 n7
  |brk=>obtain⟨σ7,H7,I7,q7⟩:=q7;exact⟨σ7,H7,I7.unpinned,q7⟩
  |ret v=>obtain⟨x7,σ7,H7,I7,r7,q7⟩:=q7;exact⟨x7,σ7,H7,I7.unpinned,r7,q7⟩
end
theorem Qj{K:Frag}{a:Addr}{xs:List V}{g:TG}{tb:TS}{D:Ht}{σ:St}{H:Hp}(Pv:Nat->St->Hp->Prop)(h0:Pv 0 σ H)(hl:∀i σ H,i<=xs.length->Pv i σ H->Gq K H a xs)
  (hs:∀i x σ H,xs[i]? =some x->Pv i σ H->g x σ H fun σ2 H2=>tb {D with nx:=Pv (i+1),ct:=Pv (i+1),bk:=D.nx} σ2 H2)(hd:∀σ H,Pv xs.length σ H->D.nx σ H):
  ∃W:Nat->Nat->St->Hp->Prop,(∃m,W 0 m σ H)/\∀i m σ H,W i m σ H->
   ((i8 K a).stop i H/\D.nx σ H)\/((i8 K a).go i H/\∃N:St->Hp->Prop,(∀σ' H',N σ' H'->∃m',m'<m/\W (i+1) m' σ' H')/\∀x H',(i8 K a).yld i H x H'->g x σ H' fun σ2 H2=>tb {D with nx:=N,ct:=N,bk:=D.nx} σ2 H2):=by
 refine⟨fun i m σ H=>m=xs.length-i/\i<=xs.length/\Pv i σ H,⟨xs.length,by simp,JI _,h0⟩,?_⟩
 rintro i m σ H ⟨rfl,hi,p⟩
 have q:=hl i σ H hi p
 by_cases hlt:i<xs.length
 ·refine .inr ⟨⟨xs,xs[i],q,by simp [hlt]⟩,Pv (i+1),fun σ' H' p'=>⟨xs.length-(i+1),by lia,rfl,hlt,p'⟩,fun x H' y=>?_⟩
  obtain⟨e,y⟩:=y;subst e;exact hs i x σ _ (y xs q) p
 ·have e:i=xs.length:=by lia
  subst e;exact .inl ⟨⟨xs,q,Jf _⟩,hd σ H p⟩
theorem nK{K:Frag}{a:Addr}{xs:List V}{g:TG}{tb:TS}{D:Ht}{σ:St}{H:Hp}(Pv:Nat->St->Hp->Prop)(h0:Pv 0 σ H)(hl:∀i σ H,i<=xs.length->Pv i σ H->Gu K H a xs)
  (hs:∀i x σ H,xs[i]? =some x->Pv i σ H->g x σ H fun σ2 H2=>tb {D with nx:=Pv (i+1),ct:=Pv (i+1),bk:=D.nx} σ2 H2)(hd:∀σ H,Pv xs.length σ H->D.nx σ H):
  ∃W:Nat->Nat->St->Hp->Prop,(∃m,W 0 m σ H)/\∀i m σ H,W i m σ H->
   ((iP K a).stop i H/\D.nx σ H)\/((iP K a).go i H/\∃N:St->Hp->Prop,(∀σ' H',N σ' H'->∃m',m'<m/\W (i+1) m' σ' H')/\∀x H',(iP K a).yld i H x H'->g x σ H' fun σ2 H2=>tb {D with nx:=N,ct:=N,bk:=D.nx} σ2 H2):=by
 refine⟨fun i m σ H=>m=xs.length-i/\i<=xs.length/\Pv i σ H,⟨xs.length,by simp,JI _,h0⟩,?_⟩
 rintro i m σ H ⟨rfl,hi,p⟩
 have q:=hl i σ H hi p
 by_cases hlt:i<xs.length
 ·refine .inr ⟨⟨xs,xs[i],q,by simp [hlt]⟩,Pv (i+1),fun σ' H' p'=>⟨xs.length-(i+1),by lia,rfl,hlt,p'⟩,fun x H' y=>?_⟩
  obtain⟨e,y⟩:=y;subst e;exact hs i x σ _ (y xs q) p
 ·have e:i=xs.length:=by lia
  subst e;exact .inl ⟨⟨xs,q,Jf _⟩,hd σ H p⟩
theorem Qo{lo:Int}{n:Nat}{g:TG}{tb:TS}{D:Ht}{σ:St}{H:Hp}(Pv:Nat->St->Hp->Prop)(h0:Pv 0 σ H)
  (hs:∀i σ H,i<n->Pv i σ H->g (.int (lo+i)) σ H fun σ2 H2=>tb {D with nx:=Pv (i+1),ct:=Pv (i+1),bk:=D.nx} σ2 H2)(hd:∀σ H,Pv n σ H->D.nx σ H):
  ∃W:Nat->Nat->St->Hp->Prop,(∃m,W 0 m σ H)/\∀i m σ H,W i m σ H->
   ((iy lo n).stop i H/\D.nx σ H)\/((iy lo n).go i H/\∃N:St->Hp->Prop,(∀σ' H',N σ' H'->∃m',m'<m/\W (i+1) m' σ' H')/\∀x H',(iy lo n).yld i H x H'->g x σ H' fun σ2 H2=>tb {D with nx:=N,ct:=N,bk:=D.nx} σ2 H2):=by
 refine⟨fun i m σ H=>m=n-i/\i<=n/\Pv i σ H,⟨n,by simp,JI _,h0⟩,?_⟩
 rintro i m σ H ⟨rfl,hi,p⟩
 by_cases hlt:i<n
 ·refine .inr ⟨hlt,Pv (i+1),fun σ' H' p'=>⟨n-(i+1),by lia,rfl,hlt,p'⟩,fun x H' y=>?_⟩
  obtain⟨e,y⟩:=y;subst e y;exact hs i σ _ hlt p
 ·have e:i=n:=by lia
  subst e;exact .inl ⟨Jf _,hd σ H p⟩
abbrev R2:=V->V->Hp->VK->Prop
def zw(X:Cx)(f:Value->Value->Sem Value)(r:R2):Prop:=
 ∀(tx:Gd) (s:Shared) (σ:St) (H:Hp) (x y:V) (v u:Value) (Q:VK),Gi X tx σ H s->Gn x v->Gn y u->r x y H Q->
  wpAny (model X.prog X.w) X.A (f v u) (EP X tx σ Q) X.xe s
def qY(X:Cx)(f:Value)(r:List V->Hp->VK->Prop):Prop:=
 ∀(tx:Gd) (s:Shared) (σ:St) (H:Hp) (xs:List V) (us:List Value) (Q:VK),Gi X tx σ H s->Gk xs us->r xs H Q->
  wpAny (model X.prog X.w) X.A (call f us) (EP X tx σ Q) X.xe s
def iJ(r:R2)(ta tb:TE):TE:=fun σ H Q=>ta σ H fun x H1=>tb σ H1 fun y H2=>r x y H2 Q
def rI(C:Int->Int->Prop)(g:Int->Int->V):R2:=fun x y H Q=>∃i j,x= .int i/\y= .int j/\C i j/\Q (g i j) H
def jn(g:Int->Int->V):R2:=fun x y H Q=>∃i j,x= .int i/\y= .int j/\Q (g i j) H
section
variable{X:Cx}{a b:Expr}{ta tb:TE}{pos:Pos}
theorem vq(ha:PE X a ta)(hb:PE X b tb){tx:Gd}{s:Shared}{σ:St}{H:Hp}{R:V->V->Hp->Prop}(I:Gi X tx σ H s)
  (h:ta σ H fun x H1=>tb σ H1 fun y H2=>R x y H2){Q:Gb}{f:Value->Value->Sem Value}
  (hf:∀v u s2 x y H2,Gi X tx σ H2 s2->Gn x v->Gn y u->R x y H2->wpAny (model X.prog X.w) X.A (f v u) Q X.xe s2):
  wpAny (model X.prog X.w) X.A (eval a X.env) (fun v s₁=>wpAny (model X.prog X.w) X.A (eval b X.env) (fun u s₂=>wpAny (model X.prog X.w) X.A (f v u) Q X.xe s₂) X.xe s₁) X.xe s:=by
 refine qC (ha tx s σ H _ I h) fun v s1 zq=>?_
 obtain⟨x,H1,I1,r1,q1⟩:=zq;refine qC (hb tx s1 σ H1 _ I1 q1) fun u s2 zq=>?_
 obtain⟨y,H2,I2,r2,q2⟩:=zq;exact hf v u s2 x y H2 I2 r1 r2 q2
theorem CY{op:Operator}{r:R2}(ho:zw X (binaryOp op) r)(ha:PE X a ta)(hb:PE X b tb):PE X (.BinOp a op b pos) (iJ r ta tb):=by
 intro tx s σ H Q I h;exact wpAny_BinOp (vq ha hb I h fun v u s2 x y H2 I2 rx ry q=>ho tx s2 σ H2 x y v u Q I2 rx ry q)
theorem xb{f:Value->Value->Sem Value}{C:Int->Int->Prop}{g:Int->Int->Int}
  (rule:∀(i j:Int) (t u:Tok) (s:Shared) (Q:Gb) (E:Gb),C i j->Q (.int (g i j) s.toks) {s with toks:=s.toks+1}->wpAny (model X.prog X.w) X.A (f (.int i t) (.int j u)) Q E s):
  zw X f (rI C fun i j=> .int (g i j)):=by
 intro tx s σ H x y v u Q I rx ry h;obtain⟨i,j,rfl,rfl,hc,q⟩:=h;obtain⟨t,rfl⟩:=rx;obtain⟨t',rfl⟩:=ry;exact rule i j t t' s _ _ hc ⟨.int (g i j),H,I.tok _,⟨_,rfl⟩,q⟩
theorem Bb{f:Value->Value->Sem Value}{g:Int->Int->Int}
  (rule:∀(i j:Int) (t u:Tok) (s:Shared) (Q:Gb) (E:Gb),Q (.int (g i j) s.toks) {s with toks:=s.toks+1}->wpAny (model X.prog X.w) X.A (f (.int i t) (.int j u)) Q E s):
  zw X f (jn fun i j=> .int (g i j)):=by
 intro tx s σ H x y v u Q I rx ry h;obtain⟨i,j,rfl,rfl,q⟩:=h;obtain⟨t,rfl⟩:=rx;obtain⟨t',rfl⟩:=ry;exact rule i j t t' s _ _ ⟨.int (g i j),H,I.tok _,⟨_,rfl⟩,q⟩
theorem pZ{f:Value->Value->Sem Value}{g:Int->Int->Bool}
  (rule:∀(i j:Int) (t u:Tok) (s:Shared) (Q:Gb) (E:Gb),Q (.bool (g i j)) s->wpAny (model X.prog X.w) X.A (f (.int i t) (.int j u)) Q E s):
  zw X f (jn fun i j=> .bl (g i j)):=by
 intro tx s σ H x y v u Q I rx ry h;obtain⟨i,j,rfl,rfl,q⟩:=h;obtain⟨t,rfl⟩:=rx;obtain⟨t',rfl⟩:=ry;exact rule i j t t' s _ _ ⟨.bl (g i j),H,I,rfl,q⟩
def DD(i j:Int):Prop:=0<j/\j<1073741824
def Ds(i j:Int):Prop:=0<=j/\j<=1000000/\i.natAbs<2 ^ 64
def Ld(i j:Int):Prop:=(-(2 ^ 64)<i/\i<2 ^ 64)\/(-(2 ^ 64)<j/\j<2 ^ 64)
theorem Ld.ok{i j:Int}(h:Ld i j):IntMulOk i j:=by
 rcases h with⟨h1,h2⟩|⟨h1,h2⟩
 ·exact .of_left (intBits_le_64 h1 h2)
 ·exact .of_right (intBits_le_64 h1 h2)
theorem qJ:zw X (binaryOp .Add) (jn fun i j=> .int (i+j)):=Bb fun _ _ _ _ _ _ _ q=>add_int q
theorem Qf:zw X (binaryOp .Sub) (jn fun i j=> .int (i-j)):=Bb fun _ _ _ _ _ _ _ q=>sub_int q
theorem Zn:zw X (binaryOp .Mult) (rI Ld fun i j=> .int (i*j)):=xb fun _ _ _ _ _ _ _ hc q=>mul_int q hc.ok
theorem bH:zw X (binaryOp .FloorDiv) (rI DD fun i j=> .int (i/j)):=xb fun i j _ _ _ _ _ hc q=>by
 have h1:(0:Int)<j:=hc.1
 have h2:j<1073741824:=hc.2
 exact floordiv_int (by lia) (by rw[Int.fdiv_eq_ediv_of_nonneg i (by lia)];exact q) (.inl (PyProof.noPylong_small (by lia)))
theorem Qe:zw X (binaryOp .Mod) (rI (fun _ j=>0<j) fun i j=> .int (i%j)):=xb fun i j _ _ _ _ _ hc q=>by
 have h1:(0:Int)<j:=hc
 exact mod_int' (by lia) (by rw[Int.fmod_eq_emod_of_nonneg i (by lia)];exact q)
theorem AT:zw X (binaryOp .Pow) (rI Ds fun i j=> .int (i ^ j.toNat)):=xb fun _ _ _ _ _ _ _ hc q=>pow_int_small hc.1 hc.2.1 hc.2.2 q
end
def Bp:V->V->Bool
 | .non,.non=>true| .non,.int _=>true| .int _,.non=>true| .non,.bl _=>true| .bl _,.non=>true| .non,.str _=>true| .str _,.non=>true
 | .int _,.int _=>true| .bl _,.bl _=>true| .str _,.str _=>true| .byt _,.byt _=>true
 | .int _,.str _=>true| .str _,.int _=>true| .bl _,.str _=>true| .str _,.bl _=>true
 |_,_=>false
def DO:R2:=fun x y H Q=>Bp x y=true/\Q (.bl (decide (x=y))) H
def DU:R2:=fun x y H Q=>Bp x y=true/\Q (.bl (!decide (x=y))) H
theorem ng{i j:Int}:decide (V.int i=V.int j)=(i==j):=by
 rw[Ej];simp
theorem sN{i j:Bool}:decide (V.bl i=V.bl j)=(i==j):=by
 rw[Ej];simp
theorem nj{i j:Str}:decide (V.str i=V.str j)=(i==j):=by
 rw[Ej];simp
theorem oI{i j:Array UInt8}:decide (V.byt i=V.byt j)=(i.toList==j.toList):=by
 rw[Ej];cases i;cases j;simp
section
variable{X:Cx}{a b c:Expr}{ta tb tc:TE}{pos:Pos}
theorem qQ{tx:Gd}{σ:St}{H:Hp}{s:Shared}{Q:VK}{k k':Bool}(I:Gi X tx σ H s)(q:Q (.bl k) H)(e:k=k'):EP X tx σ Q (.bool k') s:=by
 subst e
 exact⟨.bl k,H,I,rfl,q⟩
theorem zt:zw X (compareOp .Eq) DO:=by
 intro tx s σ H x y v u Q I rx ry h;obtain⟨hs,q⟩:=h;cases x with
 |non=>
  cases rx;cases y with
  |non=>cases ry;exact PySem.EqNone.eq_none_none (qQ I q (by simp))
  |bl j=>cases ry;exact PySem.EqNone.eq_none_bool (qQ I q (by simp))
  |int j=>obtain⟨t',rfl⟩:=ry;exact PySem.EqNone.eq_none_int (qQ I q (by simp))
  |str j=>obtain⟨t',rfl⟩:=ry;exact PySem.EqNone.eq_none_str (qQ I q (by simp))
  |_=>exact absurd (show false=true from hs) JP
 |bl i=>
  cases rx;cases y with
  |non=>cases ry;exact PySem.EqNone.eq_bool_none (qQ I q (by simp))
  |bl j=>cases ry;exact eq_bool (qQ I q sN)
  |str j=>obtain⟨t',rfl⟩:=ry;exact PySem.EqMixed.eq_bool_str (qQ I q (by simp))
  |_=>exact absurd (show false=true from hs) JP
 |int i=>
  obtain⟨t,rfl⟩:=rx;cases y with
  |non=>cases ry;exact PySem.EqNone.eq_int_none (qQ I q (by simp))
  |int j=>obtain⟨t',rfl⟩:=ry;exact eq_int (qQ I q ng)
  |str j=>obtain⟨t',rfl⟩:=ry;exact PySem.EqMixed.eq_int_str (qQ I q (by simp))
  |_=>exact absurd (show false=true from hs) JP
 |str i=>
  obtain⟨t,rfl⟩:=rx;cases y with
  |non=>cases ry;exact PySem.EqNone.eq_str_none (qQ I q (by simp))
  |bl j=>cases ry;exact PySem.EqMixed.eq_str_bool (qQ I q (by simp))
  |int j=>obtain⟨t',rfl⟩:=ry;exact PySem.EqMixed.eq_str_int (qQ I q (by simp))
  |str j=>obtain⟨t',rfl⟩:=ry;exact eq_str (qQ I q nj)
  |_=>exact absurd (show false=true from hs) JP
 |byt i=>
  obtain⟨t,rfl⟩:=rx;cases y with
  |byt j=>obtain⟨t',rfl⟩:=ry;exact W.eq_bytes (qQ I q oI)
  |_=>exact absurd (show false=true from hs) JP
 |_=>cases y<;>exact absurd (show false=true from hs) JP
theorem ZJ:zw X (compareOp .NotEq) DU:=by
 intro tx s σ H x y v u Q I rx ry h;obtain⟨hs,q⟩:=h;cases x with
 |non=>
  cases rx;cases y with
  |non=>cases ry;exact PySem.EqNone.ne_none_none (qQ I q (by simp))
  |bl j=>cases ry;exact PySem.EqNone.ne_none_bool (qQ I q (by simp))
  |int j=>obtain⟨t',rfl⟩:=ry;exact PySem.EqNone.ne_none_int (qQ I q (by simp))
  |str j=>obtain⟨t',rfl⟩:=ry;exact PySem.EqNone.ne_none_str (qQ I q (by simp))
  |_=>exact absurd (show false=true from hs) JP
 |bl i=>
  cases rx;cases y with
  |non=>cases ry;exact PySem.EqNone.ne_bool_none (qQ I q (by simp))
  |bl j=>cases ry;exact ne_bool (qQ I q (J3 not sN))
  |str j=>obtain⟨t',rfl⟩:=ry;exact PySem.EqMixed.ne_bool_str (qQ I q (by simp))
  |_=>exact absurd (show false=true from hs) JP
 |int i=>
  obtain⟨t,rfl⟩:=rx;cases y with
  |non=>cases ry;exact PySem.EqNone.ne_int_none (qQ I q (by simp))
  |int j=>obtain⟨t',rfl⟩:=ry;exact ne_int (qQ I q (J3 not ng))
  |str j=>obtain⟨t',rfl⟩:=ry;exact PySem.EqMixed.ne_int_str (qQ I q (by simp))
  |_=>exact absurd (show false=true from hs) JP
 |str i=>
  obtain⟨t,rfl⟩:=rx;cases y with
  |non=>cases ry;exact PySem.EqNone.ne_str_none (qQ I q (by simp))
  |bl j=>cases ry;exact PySem.EqMixed.ne_str_bool (qQ I q (by simp))
  |int j=>obtain⟨t',rfl⟩:=ry;exact PySem.EqMixed.ne_str_int (qQ I q (by simp))
  |str j=>obtain⟨t',rfl⟩:=ry;exact ne_str (qQ I q (J3 not nj))
  |_=>exact absurd (show false=true from hs) JP
 |byt i=>
  obtain⟨t,rfl⟩:=rx;cases y with
  |byt j=>obtain⟨t',rfl⟩:=ry;exact W.ne_bytes (qQ I q (J3 not oI))
  |_=>exact absurd (show false=true from hs) JP
 |_=>cases y<;>exact absurd (show false=true from hs) JP
theorem eZ:zw X (compareOp .Lt) (jn fun i j=> .bl (decide (i<j))):=pZ fun _ _ _ _ _ _ _ q=>lt_int q
theorem ZI:zw X (compareOp .LtE) (jn fun i j=> .bl (decide (i<=j))):=pZ fun _ _ _ _ _ _ _ q=>le_int q
theorem wM:zw X (compareOp .Gt) (jn fun i j=> .bl (decide (j<i))):=pZ fun _ _ _ _ _ _ _ q=>gt_int q
theorem rh:zw X (compareOp .GtE) (jn fun i j=> .bl (decide (j<=i))):=pZ fun _ _ _ _ _ _ _ q=>ge_int q
theorem zP:zw X (compareOp .Is) (fun x y H Q=>y= .non/\Q (.bl (decide (x= .non))) H):=by
 intro tx s σ H x y v u Q I rx ry h;obtain⟨rfl,q⟩:=h;cases ry;refine is_none_gen (qQ I q ?_)
 cases x<;>first
  |(cases rx;rfl)
  |(obtain⟨t,rfl⟩:=rx;rfl)
theorem Zg:zw X (compareOp .IsNot) (fun x y H Q=>y= .non/\Q (.bl (!decide (x= .non))) H):=by
 intro tx s σ H x y v u Q I rx ry h;obtain⟨rfl,q⟩:=h;cases ry;refine isnot_none_gen (qQ I q ?_)
 cases x<;>first
  |(cases rx;rfl)
  |(obtain⟨t,rfl⟩:=rx;rfl)
theorem qu(b:Expr){op:CmpOp}(h:op≠ .In:=by decide)(h2:op≠ .NotIn:=by decide):behindInMarks op b=false:=by
 have e1:(op==CmpOp.In)=false:=by cases op<;>first|rfl|exact absurd rfl h
 have e2:(op==CmpOp.NotIn)=false:=by cases op<;>first|rfl|exact absurd rfl h2
 cases b<;>simp [behindInMarks,e1,e2]
theorem AH{op:CmpOp}{r:R2}(ho:zw X (compareOp op) r)(ha:PE X a ta)(hb:PE X b tb)(hm:behindInMarks op b=false):PE X (.Compare a [op] [b] pos) (iJ r ta tb):=by
 intro tx s σ H Q I h;exact wpAny_Compare1 (vq ha hb I h fun v u s2 x y H2 I2 rx ry q=>ho tx s2 σ H2 x y v u Q I2 rx ry q) hm
def gD(t:TE):TT:=fun σ H Q=>t σ H fun x H'=>∃k,x= .bl k/\Q k H'
theorem yO{op:CmpOp}{r:R2}(ho:zw X (compareOp op) r)(ha:PE X a ta)(hb:PE X b tb)(hm:behindInMarks op b=false):PT X (.Compare a [op] [b] pos) (gD (iJ r ta tb)):=by
 intro tx s σ H Q I h;refine wpAny_isTrue_Compare1 (qC (ha tx s σ H _ I h) fun v s1 ⟨x,H1,I1,r1,q1⟩=>qC (hb tx s1 σ H1 _ I1 q1) fun u s2 ⟨y,H2,I2,r2,q2⟩=>
  qC (ho tx s2 σ H2 x y v u _ I2 r1 r2 q2) fun c s3 ⟨z,H3,I3,r3,k,e,q3⟩=>?_) hm
 subst e;cases r3;exact EE ⟨H3,I3,q3⟩
def gE(r r':R2)(ta tb tc:TE):TE:=fun σ H Q=>ta σ H fun x H1=>tb σ H1 fun y H2=>r x y H2 fun z H3=>∃k,z= .bl k/\
 (if k=true then tc σ H3 fun w' H4=>r' y w' H4 Q else Q (.bl false) H3)
theorem vX{op op':CmpOp}{r r':R2}(ho:zw X (compareOp op) r)(ho':zw X (compareOp op') r')(ha:PE X a ta)(hb:PE X b tb)(hc:PE X c tc)
  (hm:lastMarks [op,op'] [b,c]=false:=by with_unfolding_all rfl):PE X (.Compare a [op,op'] [b,c] pos) (gE r r' ta tb tc):=by
 intro tx s σ H Q I h;refine Compare_chain (qC (ha tx s σ H _ I h) fun v s1 ⟨x,H1,I1,r1,q1⟩=>chain_link (qC (hb tx s1 σ H1 _ I1 q1) fun u s2 ⟨y,H2,I2,r2,q2⟩=>
  qC (ho tx s2 σ H2 x y v u _ I2 r1 r2 q2) fun d s3 ⟨z,H3,I3,r3,k,e,q3⟩=>?_)) hm
 subst e;cases r3;refine EE ?_
 cases k with
 |false=>exact ite_ff ⟨.bl false,H3,I3,rfl,q3⟩
 |true=>exact ite_tt (chain_last (qC (hc tx s3 σ H3 _ I3 q3) fun w' s4 ⟨z',H4,I4,r4,q4⟩=>ho' tx s4 σ H4 y z' u w' Q I4 r2 r4 q4))
theorem vW{op op':CmpOp}{r r':R2}(ho:zw X (compareOp op) r)(ho':zw X (compareOp op') r')(ha:PE X a ta)(hb:PE X b tb)(hc:PE X c tc)
  (hm:lastMarks [op,op'] [b,c]=false:=by with_unfolding_all rfl):PT X (.Compare a [op,op'] [b,c] pos) (gD (gE r r' ta tb tc)):=by
 intro tx s σ H Q I h;refine isTrue_chain (qC (ha tx s σ H _ I h) fun v s1 ⟨x,H1,I1,r1,q1⟩=>test_link (qC (hb tx s1 σ H1 _ I1 q1) fun u s2 ⟨y,H2,I2,r2,q2⟩=>
  qC (ho tx s2 σ H2 x y v u _ I2 r1 r2 q2) fun d s3 ⟨z,H3,I3,r3,k,e,q3⟩=>?_)) hm
 subst e;cases r3;refine EE ?_
 cases k with
 |false=>
  obtain⟨k',e',q'⟩:=q3;cases e';exact ite_ff ⟨H3,I3,q'⟩
 |true=>
  refine ite_tt (test_last (qC (hc tx s3 σ H3 _ I3 q3) fun w' s4 ⟨z',H4,I4,r4,q4⟩=>qC (ho' tx s4 σ H4 y z' u w' _ I4 r2 r4 q4) fun d' s5 zq=>?_))
  obtain⟨z2,H5,I5,r5,k2,e2,q5⟩:=zq;subst e2;cases r5;exact EE ⟨H5,I5,q5⟩
theorem ZR:(sizeLine:Nat)<2 ^ 63:=by rw[JA];decide
theorem zL{x:V}{us:List Value}(r:Gk [x] us):∃u,us=[u]/\Gn x u:=by
 cases r with
 |cons r1 r2=>cases r2;exact⟨_,rfl,r1⟩
theorem bS{x y:V}{us:List Value}(r:Gk [x,y] us):∃u w',us=[u,w']/\Gn x u/\Gn y w':=by
 cases r with
 |cons r1 r2=>
  cases r2 with
  |cons r3 r4=>cases r4;exact⟨_,_,rfl,r1,r3⟩
theorem kT:qY X (.builtin "abs") (fun xs H Q=>∃i,xs=[.int i]/\Q (.int (if i<0 then -i else i)) H):=by
 intro tx s σ H xs us Q I r h;obtain⟨i,rfl,q⟩:=h;obtain⟨u,rfl,t,rfl⟩:=zL r;exact call_abs_int fun u tk=>⟨.int (if i<0 then -i else i),H,I.tok _,⟨_,rfl⟩,q⟩
theorem ZS(hc:X.calm=true):qY X (.builtin "max") (fun xs H Q=>∃i j,xs=[.int i,.int j]/\Q (.int (if j>i then j else i)) H):=by
 intro tx s σ H xs us Q I r h;obtain⟨i,j,rfl,q⟩:=h;obtain⟨u,w',rfl,⟨t,rfl⟩,⟨t',rfl⟩⟩:=bS r;refine max_two_ints (I.ok.hd hc) fun h' tk k=>⟨_,H,I.kept k,?_,q⟩
 by_cases hj:j>i
 ·rw[Jc hj,Jc hj];exact⟨_,rfl⟩
 ·rw[Jd hj,Jd hj];exact⟨_,rfl⟩
theorem Qr(hc:X.calm=true):qY X (.builtin "min") (fun xs H Q=>∃i j,xs=[.int i,.int j]/\Q (.int (if j<i then j else i)) H):=by
 intro tx s σ H xs us Q I r h;obtain⟨i,j,rfl,q⟩:=h;obtain⟨u,w',rfl,⟨t,rfl⟩,⟨t',rfl⟩⟩:=bS r;refine min_two_ints (I.ok.hd hc) fun h' tk k=>⟨_,H,I.kept k,?_,q⟩
 by_cases hj:j<i
 ·rw[Jc hj,Jc hj];exact⟨_,rfl⟩
 ·rw[Jd hj,Jd hj];exact⟨_,rfl⟩
theorem je:qY X (.type "int") (fun xs H Q=>(∃i,xs=[.int i]/\Q (.int i) H)\/∃k,xs=[.bl k]/\Q (.int (if k then 1 else 0)) H):=by
 intro tx s σ H xs us Q I r h;rcases h with⟨i,rfl,q⟩|⟨k,rfl,q⟩
 ·obtain⟨u,rfl,t,rfl⟩:=zL r
  exact call_int_int ⟨.int i,H,I,⟨_,rfl⟩,q⟩
 ·obtain⟨u,rfl,r1⟩:=zL r
  cases r1;exact call_int_bool ⟨.int (if k then 1 else 0),H,I.tok _,⟨_,rfl⟩,q⟩
theorem lc:qY X (.builtin "ord") (fun xs H Q=>∃x,xs=[.str x]/\x.length=1/\Q (.int (x.cps.getD 0 0:Nat)) H):=by
 intro tx s σ H xs us Q I r h;obtain⟨x,rfl,hz,q⟩:=h;obtain⟨u,rfl,t,rfl⟩:=zL r;exact ord_of_one hz ⟨.int _,H,I.tok _,⟨_,rfl⟩,q⟩
end
structure IH(h:Heap)(x dx C:Addr)(mA:Gc):Prop where
 obj:h.get? x=some (PySem.W.instObj C dx)
 ns:h.Ns1 dx mA
 ne:dx≠x
theorem tm{h:Heap}{dx:Addr}{mA:Gc}(n:h.Ns1 dx mA):∃od,h.get? dx=some od/\∀name,W.lookIn name od=some (mA name):=by
 obtain⟨o,es,ep,ho,hd,hk,_,hm⟩:=n;refine⟨o,ho,fun name=>?_⟩
 have e:=hm name;unfold nsFind findBy at e;rw[<- Array.find?_toList]at e;unfold W.lookIn;rw[hd]
 dsimp only
 split
 ·rename_i y q
  rw[q]at e;exact J3 some e
 ·rename_i q
  rw[q]at e;have a:es.toList.any (·.refKey)=false:=by
   rw[List.any_eq_false];intro y hy;obtain⟨z,t,hkey⟩:=hk y (Array.mem_toList_iff.mp hy)
   simp [DictEntry.refKey,hkey]
  have a':¬es.toList.any (·.refKey)=true:=by rw[a];exact JP
  rw[Jd a'];exact J3 some e
theorem IH.look{h:Heap}{x dx C:Addr}{mA:Gc}(I:IH h x dx C mA):∃od,W.InstAt h x (W.instObj C dx) C (some od)/\∀name,W.lookIn name od=some (mA name):=
 let⟨od,ho,hl⟩:=tm I.ns
 ⟨od,⟨I.obj,rfl,rfl,ho⟩,hl⟩
section
variable{prog:Program}{w:World}{A:Around}{E:Gb}{s:Shared}{K:Frag}{x dx C f:Addr}{mA:Gc}{name:Str}{v:Value}
theorem y7{expr:Bool}{Q:Gb}(X:K.In s.heap)(I:IH s.heap x dx C mA)(hg:W.plainGet K C name=true)(hh:W.hasDictIn K C=true)
  (ha:W.findIn K (.ref C) name=some none)(hv:mA name=some v)(hv':W.handedIn v=true)(h:Q v {s with toks:=s.toks+1}):
  wpAny (model prog w) A (getAttr (.ref x) name expr) Q E s:=by
 obtain⟨od,J,hl⟩:=I.look;exact W.get_value X J (W.plainGet_of hg).1 (W.findObj_own hh ha rfl (by rw[hl,hv])) hv' h
theorem vt{pl:Sem Bool}{Q:Value×List Value->Shared->Prop}(X:K.In s.heap)(I:IH s.heap x dx C mA)(hg:W.plainGet K C name=true)
  (hf:W.findIn K (.ref C) name=some (some (.ref f)))(ht:W.isFn K (.ref f)=true)(hv:mA name=none)(h:Q (.ref f,[.ref x]) s):
  wpAny (model prog w) A (getMethod (.ref x) name pl) Q E s:=by
 obtain⟨od,J,hl⟩:=I.look;exact W.method_fn X J (W.plainGet_of hg).1 (W.plainGet_of hg).2 hf (JZ.mp ht) (by show(W.lookIn name od).map (·.isSome)=some false;rw[hl,hv];rfl) h
theorem Am{ns:List Str}{Q:Unit->Shared->Prop}(X:K.In s.heap)(I:IH s.heap x dx C mA)
  (hs:W.findIn K (.ref C) "__setattr__"=some (some (.builtin "object.__setattr__")))(hp:W.plainOver K C=true)(ht:W.takerIn K C name=some none)(hh:W.hasDictIn K C=true)
  (hw:PySem.Within mA ns)(hsz:ns.length<=sizeLine)
  (h:∀h',IH h' x dx C (fun y=>if y=name then some v else mA y)->Heap.SameBut dx s.heap h'->Q () {s with heap:=h',toks:=s.toks+2}):
  wpAny (model prog w) A (setAttr (.ref x) name v) Q E s:=by
 obtain⟨od,J,hl⟩:=I.look;refine W.set_plain X J hs (W.osa_open (s:={s with toks:=s.toks+1}) (r:=none) X J hp ht fun b=>?_)
 obtain⟨cd,hc,hd'⟩:=W.any_some hh;have hx:s.heap.get? x=some ⟨.ref C,some dx,.plain,#[]⟩:=I.obj
 refine Ja (Jb (Ja (Ja (wpAny_loadPart hx (Ja (W.Looks.here (s:={s with toks:=s.toks+1}) (W.looks_clsIn X hc) ?_))))))
 rw[hd'];refine Jb (a:=some dx) (Ja (Jb (Ja ?_)))
 refine wpAny_nsSet1 (s:={s with toks:=s.toks+1}) I.ns fun h' hn2 hs2=>?_
 obtain⟨oD,esD,epD,hoD,hdD,hcD⟩:=hn2.count (PySem.Within.cons name v hw)
 refine Ja (wpAny_lookBehind hoD (by rw[hdD];exact pastItsLine_dict (JK hcD (by rw[JU];lia))) ?_)
 exact Jb (h _ ⟨(hs2.2 _ (Ne.symm I.ne)).trans I.obj,hn2,I.ne⟩ hs2)
theorem vO{R:Result->Shared->Prop}{vs:List Value}{kw:List (Str×Value)}(X:K.In s.heap)(hm:W.makesIn K C=true)
  (hi:W.findIn K (.ref C) "__init__"=some (some (.ref f)))(hf:W.typeIn K (.ref f)=some (.type "function"))
  (h:codeAny (model prog w) (A.under (.builtin "type.__call__" ⟨.ref C::vs,kw⟩)) (.call (.ref f) ⟨.ref (s.heap.objs.size+1)::vs,kw⟩) (W.InitBack (s.heap.objs.size+1) R)
   {s with heap:=(s.heap.push W.emptyDict).push (W.instObj C s.heap.objs.size)}):
  codeAny (model prog w) A (.call (.ref C) ⟨vs,kw⟩) R s:=by
 obtain⟨hh,g,d,t,os⟩:=s;exact W.make_core (W.makes_of X hm) (W.looks_findIn X hi) (fun self=>W.bind_fn X self hf) (.inl rfl) h
end
def Ql(f:Str)(v:V):List (Str×V)->List (Str×V)
 | []=>[(f,v)]
 |(g,x)::r=>if g=f then(g,v)::r else(g,x)::Ql f v r
theorem fv(f g:Str)(v:V):∀fs:List (Str×V),(Ql f v fs).lookup g=if g=f then some v else fs.lookup g
 | []=>by
  show List.lookup g [(f,v)]=_
  by_cases h:g=f
  ·have hb:(g==f)=true:=JZ.mpr h
   simp only[List.lookup,hb,Jc h]
  ·have hb:(g==f)=false:=ED.mpr h
   simp only[List.lookup,hb,Jd h]
 |(k,x)::r=>by
  have ih:=fv f g v r;rw[show Ql f v ((k,x)::r)=(if k=f then(k,v)::r else(k,x)::Ql f v r)from rfl]
  by_cases hk:k=f
  ·rw[Jc hk]
   by_cases h:g=k
   ·have hb:(g==k)=true:=JZ.mpr h
    simp only[List.lookup,hb,Jc (h.trans hk)]
   ·have hb:(g==k)=false:=ED.mpr h
    simp only[List.lookup,hb,Jd (fun e:g=f=>h (e.trans hk.symm))]
  ·rw[Jd hk]
   by_cases h:g=k
   ·have hb:(g==k)=true:=JZ.mpr h
    simp only[List.lookup,hb,Jd (fun e:g=f=>hk (h.symm.trans e))]
   ·have hb:(g==k)=false:=ED.mpr h
    simp only[List.lookup,hb];exact ih
theorem ee(f:Str)(v:V):∀fs:List (Str×V),f∈(Ql f v fs).map (·.1)/\∀g,g∈fs.map (·.1)->g∈(Ql f v fs).map (·.1)
 | []=>⟨by simp [Ql],fun g h=>by simp at h⟩
 |(k,x)::r=>by
  obtain⟨i1,i2⟩:=ee f v r;rw[show Ql f v ((k,x)::r)=(if k=f then(k,v)::r else(k,x)::Ql f v r)from rfl]
  by_cases hk:k=f
  ·rw[Jc hk]
   subst hk
   exact⟨by simp,fun g h=>by simpa using h⟩
  ·rw[Jd hk]
   refine⟨?_,fun g h=>?_⟩
   ·rw[JQ]
    exact JC _ i1
   ·rw[JQ]at h⊢
    rcases Jk.mp h with e|e
    ·exact Jk.mpr (.inl e)
    ·exact JC _ (i2 g e)
theorem fC(f:Str)(v:V):∀fs:List (Str×V),(Ql f v fs).length<=fs.length+1
 | []=>by simp [Ql]
 |(k,x)::r=>by
  have ih:=fC f v r;rw[show Ql f v ((k,x)::r)=(if k=f then(k,v)::r else(k,x)::Ql f v r)from rfl]
  by_cases hk:k=f
  ·rw[Jc hk,JU,JU];lia
  ·rw[Jd hk,JU,JU];lia
theorem HK.some_of{v:V}{o:Option Value}(r:HK (some v) o):∃u,o=some u/\Gn v u:=by
 cases o with
 |none=>exact(show False from r).elim
 |some u=>exact⟨u,rfl,r⟩
theorem HK.none_of{o:Option Value}(r:HK none o):o=none:=by
 cases o with
 |none=>rfl
 |some u=>exact(show False from r).elim
theorem rW{v:V}{u:Value}(r:Gn v u):W.handedIn u=true:=by
 cases v with
 |non=>cases(show u=Value.none from r);rfl
 |bl b=>cases(show u=Value.bool b from r);rfl
 |int i=>obtain⟨t,e⟩:=(show∃t,u=Value.int i t from r);cases e;rfl
 |str x=>obtain⟨t,e⟩:=(show∃t,u=Value.str x t from r);cases e;rfl
 |byt b=>obtain⟨t,e⟩:=(show∃t,u=Value.bytes b t from r);cases e;rfl
 |flt b=>obtain⟨t,e⟩:=(show∃t,u=Value.float b t from r);cases e;rfl
 |ref a=>cases(show u=Value.ref a from r);rfl
 |ty n=>cases(show u=Value.type n from r);rfl
section
variable{P:Program}{w:World}{H:Hp}{h:Heap}{a C dx:Addr}{fs:List (Str×V)}
theorem eB(hok:HW P w H h)(e:H a=some (.ins C dx fs)):∃mA,IH h a dx C mA/\(∀f,HK (fs.lookup f) (mA f))/\PySem.Within mA (fs.map (·.1))/\fs.length<=1000/\H dx=some (.own a):=by
 obtain⟨d,z,ne,ob,mA,n,r,q⟩:=(show Gz P w H h a (.ins C dx fs)from hok a _ e)
 exact⟨mA,⟨ob,n,ne⟩,r,q,z,d⟩
end
structure IL(K:Frag)(C:Addr):Prop where
 pg:PySem.W.plainGet K C Str.empty=true
 hd:PySem.W.hasDictIn K C=true
 po:PySem.W.plainOver K C=true
 sa:PySem.W.findIn K (.ref C) "__setattr__"=some (some (.builtin "object.__setattr__"))
theorem IL.get{K:Frag}{C:Addr}(c:IL K C)(f:Str):W.plainGet K C f=true:=c.pg
def GD(K:Frag)(C:Addr)(f:Str):Prop:=PySem.W.findIn K (.ref C) f=some none
theorem GD.taker{K:Frag}{C:Addr}{f:Str}(n:GD K C f):W.takerIn K C f=some none:=by
 unfold W.takerIn;rw[show W.findIn K (.ref C) f=some none from n]
 rfl
structure IZ(K:Frag)(C:Addr)(m:Str)(f:Addr):Prop where
 at_:PySem.W.findIn K (.ref C) m=some (some (.ref f))
 fn:PySem.W.isFn K (.ref f)=true
 kp:PySem.W.keepIn K (.ref f)=true
section
variable{X:Cx}{tx:Gd}{σ:St}{H:Hp}{s:Shared}{a C dx:Addr}{fs:List (Str×V)}{f:Str}{v:V}{A:Around}{E:Gb}
theorem pL{b:Bool}{Q:Gb}(I:Gi X tx σ H s)(e:H a=some (.ins C dx fs))(c:IL X.K C)(n:GD X.K C f)(l:fs.lookup f=some v)
  (h:∀u s',Gi X tx σ H s'->Gn v u->Q u s'):wpAny (model X.prog X.w) A (getAttr (.ref a) f b) Q E s:=by
 obtain⟨mA,O,r,_,_,_⟩:=eB I.hok e;obtain⟨u,hu,ru⟩:=HK.some_of (v:=v) (o:=mA f) (by rw[<- l];exact r f)
 exact y7 I.kIn O (c.get f) c.hd n hu (rW ru) (h u _ (I.tok _) ru)
theorem gC{m:Str}{g:Addr}{pl:Sem Bool}{Q:Value×List Value->Shared->Prop}(I:Gi X tx σ H s)(e:H a=some (.ins C dx fs))(c:IL X.K C)(k:IZ X.K C m g)(l:fs.lookup m=none)
  (h:Q (.ref g,[.ref a]) s):wpAny (model X.prog X.w) A (getMethod (.ref a) m pl) Q E s:=by
 obtain⟨mA,O,r,_,_,_⟩:=eB I.hok e;have hn:mA m=none:=HK.none_of (by rw[<- l];exact r m)
 exact vt I.kIn O (c.get m) k.at_ k.fn hn h
theorem oY{y:V}{u:Value}{Q:Unit->Shared->Prop}(I:Gi X tx σ H s)(e:H a=some (.ins C dx fs))(c:IL X.K C)(n:GD X.K C f)(hl:fs.length<1000)(ry:Gn y u)
  (h:∀s',Gi X tx σ (Gh H a (.ins C dx (Ql f y fs))) s'->Q () s'):wpAny (model X.prog X.w) A (setAttr (.ref a) f u) Q E s:=by
 obtain⟨mA,O,r,wi,_,ho⟩:=eB I.hok e;have hz:(fs.map (·.1)).length<=sizeLine:=by rw[Je,JA];lia
 refine Am I.kIn O c.sa c.po n.taker c.hd wi hz fun h' O' sb=>h _ ?_
 have hd:∃o,h'.get? dx=some o:=let⟨o,_,_,e',_⟩:=O'.ns;⟨o,e'⟩
 refine I.write (x:=a) (e:=dx) (by rw[e];exact True.intro) (.inr ho) (fun b q hb z=>(sb.2 b hb).trans z) hd ?_
 refine⟨by rw[qi O.ne];exact ho,?_,O.ne,O'.obj,_,O'.ns,fun g=>?_,fun g hg=>?_⟩
 ·have:=fC f y fs;lia
 ·show HK ((Ql f y fs).lookup g) (if g=f then some u else mA g)
  rw[fv]
  by_cases q:g=f
  ·rw[Jc q,Jc q];exact ry
  ·rw[Jd q,Jd q];exact r g
 ·by_cases q:g=f
  ·rw[q];exact(ee f y fs).1
  ·refine(ee f y fs).2 g (wi g fun z=>hg ?_)
   show(if g=f then some u else mA g)=none
   rw[Jd q];exact z
theorem Gi.made(I:Gi X tx σ H s):Gi X tx σ (Gh (Gh H s.heap.objs.size (.own (s.heap.objs.size+1))) (s.heap.objs.size+1) (.ins C s.heap.objs.size []))
  {s with heap:=(s.heap.push W.emptyDict).push (W.instObj C s.heap.objs.size)}:=by
 have e1:(s.heap.push W.emptyDict).get? s.heap.objs.size=some W.emptyDict:=Jp s.heap rfl
 have e2:((s.heap.push W.emptyDict).push (W.instObj C s.heap.objs.size)).get? (s.heap.objs.size+1)=some (W.instObj C s.heap.objs.size):=by
  have:=Jp (s.heap.push W.emptyDict) (o:=W.instObj C s.heap.objs.size) rfl
  rwa [JV]at this
 have e3:(s.heap.push W.emptyDict).Ns s.heap.objs.size (fun _=>none):=⟨W.emptyDict,#[],_,e1,rfl,(fun e he=>absurd he (by simp)),fun _=>rfl⟩
 have I1:=I.laid (a:=s.heap.objs.size) (o:= .own (s.heap.objs.size+1)) (h':=s.heap.push W.emptyDict) (t':=s.toks) (fun b u q=>Ji _ q) (Jf _) ⟨_,e1⟩
 refine I1.laid (a:=s.heap.objs.size+1) (o:= .ins C s.heap.objs.size []) (t':=s.toks) (fun b u q=>Ji _ q) (FG (JV _ _)) ?_
 have ne:s.heap.objs.size≠s.heap.objs.size+1:=Jm (Ek _)
 refine⟨by rw[qi ne,qc],JI _,ne,e2,fun _=>none,(Heap.Ns1.of_empty e3).at fun o q=>Ji _ q,fun _=>True.intro,fun y hy=>absurd rfl hy⟩
theorem yj{prog:Program}{w:World}{env:Env}{e:Expr}{f:Str}{pos:Pos}{s:Shared}{Q:Gb}(hb:attributeBase e f env (eval e env)=eval e env)
  (h:wpAny (model prog w) A (eval e env) (fun o s₁=>wpAny (model prog w) A (getAttr o f true) Q E s₁) E s):wpAny (model prog w) A (eval (.Attribute e f pos) env) Q E s:=
 Attribute_any_ h (by rw[arm_eval_Attribute,hb])
end
section
variable{X:Cx}{tx:Gd}{σ:St}{H:Hp}{s:Shared}{A:Around}{E:Gb}{Q:Gb}{c:Value}{b:Bool}
inductive HX (K:Frag) (H:Hp):V->Value->Prop where
 |non:HX K H .non (.type "NoneType")
 |bl (x:Bool):HX K H (.bl x) (.type "bool")
 |int (i:Int):HX K H (.int i) (.type "int")
 |str (x:Str):HX K H (.str x) (.type "str")
 |flt (x:UInt64):HX K H (.flt x) (.type "float")
 |lst {a:Addr} {xs:List V} (e:H a=some (.lst xs)):HX K H (.ref a) (.type "list")
 |frz {a:Addr} {o:Obj} {xs:List V} (e:H a=some (.frz o (.lst xs))):HX K H (.ref a) (.type "list")
 |tup {a:Addr} {xs:List V} (e:H a=some (.tup xs)):HX K H (.ref a) (.type "tuple")
 |dK {a:Addr} {kvs:List (qL×V)} (e:H a=some (.dK kvs)):HX K H (.ref a) (.type "dict")
 |dT {a:Addr} {kvs:List (List qL×V)} (e:H a=some (.dT kvs)):HX K H (.ref a) (.type "dict")
 | ins {a C dx:Addr} {fs:List (Str×V)} (e:H a=some (.ins C dx fs)) (cl:IL K C) (ha:PySem.W.findIn K (.ref C) "__class__"=some (some (.builtin "object.__class__")))
   (hn:PySem.W.specialIn K (.builtin "object.__class__") "__get__"=some (some (.builtin "getset_descriptor.__get__"))) (htk:PySem.W.takesIn K (.builtin "object.__class__")=some true)
   (hm:PySem.W.mroIn K C (.type "object")=some true):HX K H (.ref a) (.ref C)
theorem sH{x:V}{u t:Value}(I:Gi X tx σ H s)(rx:Gn x u)(ty:HX X.K H x t)(e:W.kitOne X.K t c=some b)(h:∀tk,Q (.bool b) {s with toks:=tk}):
  wpAny (model X.prog X.w) A (call (.builtin "isinstance") [u,c]) Q E s:=by
 cases ty with
 |non=>cases(show u=Value.none from rx);exact J0 W.kitx_none I.kIn True.intro e (fun z=>nomatch z) h
 |bl y=>cases(show u=Value.bool y from rx);exact J0 W.kitx_bool I.kIn True.intro e (fun z=>nomatch z) h
 |int i=>obtain⟨t,q⟩:=(show∃t,u=Value.int i t from rx);cases q;exact J0 W.kitx_int I.kIn True.intro e (fun z=>nomatch z) h
 |str y=>obtain⟨t,q⟩:=(show∃t,u=Value.str y t from rx);cases q;exact J0 W.kitx_str I.kIn True.intro e (fun z=>nomatch z) h
 |flt y=>obtain⟨t,q⟩:=(show∃t,u=Value.float y t from rx);cases q;exact J0 W.kitx_float I.kIn True.intro e (fun z=>nomatch z) h
 | @lst a xs ea=>
  cases(show u=Value.ref a from rx)
  obtain⟨_,_,n,_,h1⟩:=(show Gz X.prog X.w H s.heap a (.lst xs)from I.hok a _ ea)
  exact J0 W.kitx_list I.kIn ⟨_,h1,rfl⟩ e (fun z=>nomatch z) h
 | @frz a ob xs ea=>
  cases(show u=Value.ref a from rx)
  obtain⟨_,_,_,n,_,h1⟩:=(show Gz X.prog X.w H s.heap a (.frz ob (.lst xs))from I.hok a _ ea)
  exact J0 W.kitx_list I.kIn ⟨_,h1,rfl⟩ e (fun z=>nomatch z) h
 | @tup a xs ea=>
  cases(show u=Value.ref a from rx)
  obtain⟨_,_,_,p⟩:=(show Gz X.prog X.w H s.heap a (.tup xs)from I.hok a _ ea)
  obtain⟨o,h1,h2,_⟩:=p;exact J0 W.kitx_tuple I.kIn ⟨o,h1,h2⟩ e (fun z=>nomatch z) h
 | @dK a kvs ea=>
  cases(show u=Value.ref a from rx)
  obtain⟨_,_,vs,_,p⟩:=(show Gz X.prog X.w H s.heap a (.dK kvs)from I.hok a _ ea)
  obtain⟨o,es,ep,h1,h2,_⟩:=p;exact J0 W.kitx_dict I.kIn ⟨o,h1,h2.1⟩ e (fun z=>nomatch z) h
 | @dT a kvs ea=>
  cases(show u=Value.ref a from rx)
  obtain⟨_,_,xs,_,o,es,ep,h1,h2,_⟩:=(show Gz X.prog X.w H s.heap a (.dT kvs)from I.hok a _ ea)
  exact J0 W.kitx_dict I.kIn ⟨o,h1,h2.1⟩ e (fun z=>nomatch z) h
 | @ins a C dx fs ea cl ha hn htk hm=>
  cases(show u=Value.ref a from rx)
  obtain⟨mA,O,_⟩:=eB I.hok ea;obtain⟨od,J,_⟩:=O.look;exact J0 (W.kitx_own (cl.get _) cl.hd ha hn htk hm) I.kIn J e (fun z=>nomatch z) h
end
structure GA(k:Nat)(A:Around):Prop where
 hd:A.handled=none
 dp:A.depth+3*k+5<recursionLimit
 un:A.units+16*k+200<cLine
theorem GA.mono{j k:Nat}{A:Around}(r:GA k A)(h:j<=k):GA j A:=⟨r.hd,by have:=r.dp;lia,by have:=r.un;lia⟩
theorem GA.mo{j k:Nat}{A:Around}(r:GA k A)(h:j<=k:=by first|decide|omega):GA j A:=r.mono h
theorem GA.deeper{k:Nat}{A:Around}(r:GA (k+1) A)(env:Env):GA k (A.deeper env):=
 ⟨r.hd,by have:=r.dp;show A.depth+1+3*k+5<_;lia,by have:=r.un;show A.units+3+16*k+200<_;lia⟩
theorem pI{A:Around}{C:Addr}{us:List Value}{kw:List (Str×Value)}:(A.under (.builtin "type.__call__" ⟨.ref C::us,kw⟩)).depth=A.depth+1:=by
 first|rfl|simp [Around.under,Code.weight,Code.isCreation,Code.isGuard,Code.isCaller,Code.frames,Code.isFrame,guardIds]
theorem oN{A:Around}{C:Addr}{us:List Value}{kw:List (Str×Value)}:(A.under (.builtin "type.__call__" ⟨.ref C::us,kw⟩)).units=A.units+1:=by
 first|rfl|simp [Around.under,Code.cUnits,Code.frames,Code.isFrame]
theorem GA.make{k:Nat}{A:Around}(r:GA (k+1) A)(C:Addr)(us:List Value)(kw:List (Str×Value)):GA k (A.under (.builtin "type.__call__" ⟨.ref C::us,kw⟩)):=
 ⟨r.hd,by have:=r.dp;rw[pI];lia,by have:=r.un;rw[oN];lia⟩
theorem GA.depth{k:Nat}{A:Around}(r:GA k A):A.depth<recursionLimit:=by have:=r.dp;lia
def vV:TA:=fun _ H Q=>Q [] H
def oR(ta:TE)(tr:TA):TA:=fun σ H Q=>ta σ H fun x H1=>tr σ H1 fun xs H2=>Q (x::xs) H2
section
variable{X:Cx}{e:Expr}{es:List Expr}{te:TE}{t:TA}{pos:Pos}
theorem BM:PA X [] vV:=fun _ _ _ _ H Q I h=>Calls.spliced_nil ⟨[],H,I,.nil,h⟩
theorem yN(ha:PE X e te)(hr:PA X es t)(hs:starEach (e::es) X.env=(false,eval e X.env)::starEach es X.env:=by rfl):PA X (e::es) (oR te t):=by
 intro pos tx s σ H Q I h;rw[hs]
 show wpAny _ _ (spliced ((false,eval e X.env)::backTo pos (starEach es X.env))) _ _ s
 refine Calls.spliced_cons (qC (ha tx s σ H _ I h) fun u s1 zq=>?_)
 obtain⟨x,H1,I1,r1,q1⟩:=zq;exact qC (hr pos tx s1 σ H1 _ I1 q1) fun us s2 ⟨xs,H2,I2,r2,q2⟩=>⟨x::xs,H2,I2,.cons r1 r2,q2⟩
def BG(t:TA):TE:=fun σ H Q=>t σ H fun xs H1=>xs.length<=sizeLine/\∀p,H1 p=none->Q (.ref p) (Gh H1 p (.tup xs))
def AY(t:TA):TE:=fun σ H Q=>t σ H fun xs H1=>xs.length<=sizeLine/\∀p,H1 p=none->Q (.ref p) (Gh H1 p (.lst xs))
theorem Cb{x1}(h:PA X es t):PE X (.Tuple es x1 pos) (BG t):=by
 intro tx s σ H Q I hq;refine wpAny_Tuple_spliced (qC (h pos tx s σ H _ I hq) fun us s1 ⟨xs,H1,I1,r,z,q⟩=>⟨by rw[<- r.length];exact z,?_⟩)
 have hf:H1 s1.heap.objs.size=none:=I1.hok.fresh (Jf _)
 refine⟨.ref s1.heap.objs.size,Gh H1 s1.heap.objs.size (.tup xs),I1.laid (t':=s1.toks) (fun b u e=>Ji _ e) (Jf _) ?_,rfl,q _ hf⟩
 exact⟨z,us,r,⟨_,Jp _ rfl,rfl,_,rfl⟩⟩
theorem Bt(h:PA X es t):PE X (.List es pos) (AY t):=by
 intro tx s σ H Q I hq;refine wpAny_List_spliced (qC (h pos tx s σ H _ I hq) fun us s1 ⟨xs,H1,I1,r,z,q⟩=>⟨by rw[<- r.length];exact z,?_⟩)
 have hf:H1 s1.heap.objs.size=none:=I1.hok.fresh (Jf _)
 refine⟨.ref s1.heap.objs.size,Gh H1 s1.heap.objs.size (.lst xs),I1.laid (t':=s1.toks) (fun b u e=>Ji _ e) (Jf _) ?_,rfl,q _ hf⟩
 exact⟨z,us,0,r,Jp _ rfl⟩
end
abbrev Sp:=List V->Hp->VK->XK->Prop
abbrev fu:=List Env->Hp->Shared->XK->Value->Shared->Prop
structure II(P:Program)(w:World)(K:Frag)(mg:Gc)(base:Heap)(A:Around)(outer:List Env)(s:Shared)(H:Hp):Prop where
 frames:A.frames=some outer
 mod:Ll K mg base
 bs:∀b o,base.get? b=some o->s.heap.get? b=some o/\H b=none
 bsz:base.objs.size<=s.heap.objs.size
 funs:s.heap.FunFrames base outer
 frf:∀b∈bF outer,H b=none
 hok:HW P w H s.heap
 bare:AllBare s.gens
def CE(outer:List Env)(P:Program)(w:World)(H:Hp)(s:Shared)(Q:VK)(u:Value)(s':Shared):Prop:=
 ∃v H',s'.os=s.os/\AllBare s'.gens/\Un (bF outer) [] H H' s.heap s'.heap/\HW P w H' s'.heap/\Gn v u/\Q v H'
def CR(CX:fu)(outer:List Env)(P:Program)(w:World)(H:Hp)(s:Shared)(Q:VK)(E:XK)(r:Result)(s':Shared):Prop:=
 match r with
 | .ok (.ret u)=>CE outer P w H s Q u s'
 | .ok _=>False
 | .error e=>CX outer H s E e s'
structure HS(P:Program)(w:World)(K:Frag)(mg:Gc)(base:Heap)(CX:fu)(k:Nat)(f:Addr)(fd:FuncData)(ps:List Str)(sp:Sp):Prop where
 len:∀vs H Q E,sp vs H Q E->vs.length=ps.length
 run:∀(A:Around) (outer:List Env) (s:Shared) (H:Hp) (args:Args) (us:List Value) (vs:List V) (Q:VK) (E:XK),GA k A->II P w K mg base A outer s H->BindsTo s fd args (ps.zip us)->Gk vs us->sp vs H Q E->
  codeAny (model P w) A (.call (.ref f) args) (CR CX outer P w H s Q E) s
theorem II.make{P:Program}{w:World}{K:Frag}{mg:Gc}{base:Heap}{A:Around}{outer:List Env}{s:Shared}{H:Hp}(e:II P w K mg base A outer s H)(C:Addr)(us:List Value)(kw:List (Str×Value)):
  II P w K mg base (A.under (.builtin "type.__call__" ⟨.ref C::us,kw⟩)) outer s H:=⟨by first|exact e.frames|(simpa [Around.under,Code.envs,Code.isFrame,pushEnvs]using e.frames),e.mod,e.bs,e.bsz,e.funs,e.frf,e.hok,e.bare⟩
section
variable{X:Cx}{tx:Gd}{σ:St}{H:Hp}{s s':Shared}
theorem Gi.env0(I:Gi X tx σ H s):II X.prog X.w X.K X.mg X.base X.A X.stack s H:=
 ⟨I.ok.frames,I.ok.mod,I.bs,JK I.ok.bsz I.sz,I.stack,I.stkFree,I.hok,I.bare⟩
theorem Gi.after{Q:VK}{u:Value}(I:Gi X tx σ H s)(h:CE X.stack X.prog X.w H s Q u s'):EP X tx σ Q u s':=by
 obtain⟨v,H',os,bare,un,hok,r,q⟩:=h;obtain⟨hh,g,d,t,os'⟩:=s'
 obtain rfl:os'=s.os:=os
 exact⟨v,H',I.call (h':=hh) (g':=g) (d':=d) (t':=t) (ch:=[]) un hok bare (fun b z=>absurd z (by simp)),r,q⟩
end
def rc(sp:Sp)(dvs:List V)(E:XK)(t:TA):TE:=fun σ H Q=>t σ H fun vs H1=>sp (vs++dvs) H1 Q E
def wL(C:Addr)(sp:Sp)(dvs:List V)(E:XK)(t:TA):TE:=fun σ H Q=>t σ H fun vs H1=>∀x dx,H1 x=none->H1 dx=none->dx≠x->
 sp (.ref x::(vs++dvs)) (Gh (Gh H1 dx (.own x)) x (.ins C dx [])) (fun v H2=>v= .non/\Q (.ref x) H2) E
def HH(K:Frag)(fd:FuncData)(ps:List Str)(ds:List Value):Prop:=
 ∀(s:Shared) (us:List Value),K.In s.heap->(us++ds).length=ps.length->BindsTo s fd ⟨us,[]⟩ (ps.zip (us++ds))
theorem HH.all{K:Frag}{fd:FuncData}{ps:List Str}(h:∀us:List Value,us.length=ps.length->bindArgs fd ⟨us,[]⟩=pure (ps.zip us)):HH K fd ps []:=fun s us _ hl=>by
 rw[El]at hl⊢;exact .of_eq (h us hl)
def cR(CX:fu)(X:Cx)(E:XK):Prop:=∀(tx:Gd) (σ:St) (H:Hp) (s:Shared) (e:Value) (s':Shared),Gi X tx σ H s->CX X.stack H s E e s'->X.xe e s'
section
variable{X:Cx}{CX:fu}{k:Nat}{f C:Addr}{fd:FuncData}{ps:List Str}{sp:Sp}{dvs:List V}{ds:List Value}{E:XK}{x:Str}{p pos:Pos}{e:Expr}{es:List Expr}{t:TA}
theorem kC{tx:Gd}{σ:St}{H:Hp}{s:Shared}{Q:VK}{us:List Value}{vs:List V}(F:HS X.prog X.w X.K X.mg X.base CX k f fd ps sp)(hr:GA k X.A)(hb:HH X.K fd ps ds)(hd:Gk dvs ds)(hx:cR CX X E)
  (I:Gi X tx σ H s)(r:Gk vs us)(h:sp (vs++dvs) H Q E):wpAny (model X.prog X.w) X.A (call (.ref f) us) (EP X tx σ Q) X.xe s:=by
 have r2:Gk (vs++dvs) (us++ds):=r.append hd
 have hl:(us++ds).length=ps.length:=by rw[<- r2.length];exact F.len _ _ _ _ h
 refine wpAny_call (E1 (F.run X.A X.stack s H ⟨us,[]⟩ (us++ds) (vs++dvs) Q E hr I.env0 (hb s us I.kIn hl) r2 h) fun r s' hq=>?_)
 cases r with
 |error e=>exact hx tx σ H s e s' I hq
 |ok fl=>
  cases fl with
  |ret u=>exact I.after hq
  |next=>exact False.elim hq
  |brk=>exact False.elim hq
  |cont=>exact False.elim hq
theorem Ax(F:HS X.prog X.w X.K X.mg X.base CX k f fd ps sp)(hr:GA k X.A)(hg:Gl X x)(hm:X.mg x=some (.ref f))(hk:W.keepIn X.K (.ref f)=true)(hb:HH X.K fd ps ds)(hd:Gk dvs ds)(hx:cR CX X E)
  (ha:PA X (e::es) t)(hdb:(x==("__debug__":Str))=false:=by decide)(he:starEach (e::es) X.env=(false,eval e X.env)::starEach es X.env:=by rfl)(hpl:(backTo pos (starEach es X.env)).any (·.1)=false:=by rfl):
  PE X (.Call (.Name x p) (e::es) [] pos) (rc sp dvs E t):=by
 intro tx s σ H Q I h;refine FH (ik I hg hm ?_ hdb)
 refine W.callWith_K (h₀:=X.base) I.ok.mod.kin hk (qC (ha pos tx s σ H _ I h) fun us s1 ⟨vs,H1,I1,r,q⟩=>⟨I1.kIn,?_⟩) he hpl
 exact kC F hr hb hd hx I1 r q
structure Mk(K:Frag)(C f:Addr):Prop where
 makes:PySem.W.makesIn K C=true
 init:PySem.W.findIn K (.ref C) "__init__"=some (some (.ref f))
 fn:PySem.W.isFn K (.ref f)=true
 kp:PySem.W.keepIn K (.ref C)=true
theorem vY{tx:Gd}{σ:St}{H:Hp}{s:Shared}{Q:VK}{us:List Value}{vs:List V}(M:Mk X.K C f)(F:HS X.prog X.w X.K X.mg X.base CX k f fd ps sp)(hr:GA (k+1) X.A)(hb:HH X.K fd ps ds)(hd:Gk dvs ds)
  (hx:cR CX X E)(I:Gi X tx σ H s)(r:Gk vs us)
  (h:∀x dx,H x=none->H dx=none->dx≠x->sp (.ref x::(vs++dvs)) (Gh (Gh H dx (.own x)) x (.ins C dx [])) (fun v H2=>v= .non/\Q (.ref x) H2) E):
  wpAny (model X.prog X.w) X.A (call (.ref C) us) (EP X tx σ Q) X.xe s:=by
 have hq:=h (s.heap.objs.size+1) s.heap.objs.size (I.hok.fresh (Eo _)) (I.hok.fresh (Jf _)) (Jm (Ek _));have I2:=Gi.made (C:=C) I
 have r2:Gk (V.ref (s.heap.objs.size+1)::(vs++dvs)) (Value.ref (s.heap.objs.size+1)::(us++ds)):= .cons rfl (r.append hd)
 have hl:(Value.ref (s.heap.objs.size+1)::us++ds).length=ps.length:=by
  have e:=r2.length;rw[F.len _ _ _ _ hq]at e;exact e.symm
 refine wpAny_call (vO (f:=f) I.kIn M.makes M.init (JZ.mp M.fn) (E1 (F.run _ X.stack _ _ ⟨Value.ref (s.heap.objs.size+1)::us,[]⟩ (Value.ref (s.heap.objs.size+1)::(us++ds)) _ _ E (hr.make C us [])
  (I2.env0.make C us []) (hb _ (Value.ref (s.heap.objs.size+1)::us) I2.kIn hl) r2 hq) fun r s' hq'=>?_))
 cases r with
 |error e=>exact hx tx σ _ _ e s' I2 hq'
 |ok fl=>
  cases fl with
  |ret u=>
   obtain⟨v,H',I3,rv,ev,q3⟩:=I2.after hq';subst ev
   exact⟨rv,⟨V.ref (s.heap.objs.size+1),H',I3,rfl,q3⟩⟩
  |next=>exact False.elim hq'
  |brk=>exact False.elim hq'
  |cont=>exact False.elim hq'
theorem Au(M:Mk X.K C f)(F:HS X.prog X.w X.K X.mg X.base CX k f fd ps sp)(hr:GA (k+1) X.A)(hg:Gl X x)(hm:X.mg x=some (.ref C))(hb:HH X.K fd ps ds)(hd:Gk dvs ds)(hx:cR CX X E)
  (ha:PA X (e::es) t)(hdb:(x==("__debug__":Str))=false:=by decide)(he:starEach (e::es) X.env=(false,eval e X.env)::starEach es X.env:=by rfl)(hpl:(backTo pos (starEach es X.env)).any (·.1)=false:=by rfl):
  PE X (.Call (.Name x p) (e::es) [] pos) (wL C sp dvs E t):=by
 intro tx s σ H Q I h;refine FH (ik I hg hm ?_ hdb)
 refine W.callWith_K (h₀:=X.base) I.ok.mod.kin M.kp (qC (ha pos tx s σ H _ I h) fun us s1 ⟨vs,H1,I1,r,q⟩=>⟨I1.kIn,?_⟩) he hpl
 exact vY M F hr hb hd hx I1 r q
end
structure Gf(N P:List Str)(sc:Scope):Prop where
 kind:sc.kind= .function
 co:sc.isCoroutine=false
 gen:sc.isGenerator=false
 nd:N.Nodup
 pre:N.take P.length=P
 par:∀x∈P,sc.names.lookup x=some .local\/sc.names.lookup x=some .cell
 nofree:∀y∈sc.names,y.2≠ .free
theorem jb{kindOf:Str->Option NameKind}{x:Str}:∀{binds:List (Str×Value)} {m:Gc},(∀v,(x,v)∉binds)->bindL kindOf binds m x=m x
 | [],_,_=>rfl
 |(n,v)::r,m,h=>by
  unfold bindL;rw[jb fun w hw=>h w (JC _ hw)]
  split
  ·have:x≠n:=by rintro rfl;exact h v Jw
   simp [this]
  ·rfl
theorem jg{kindOf:Str->Option NameKind}{x:Str}:∀{binds:List (Str×Value)} {m:Gc},(∀v,(x,v)∉binds)->bindC kindOf binds m x=m x
 | [],_,_=>rfl
 |(n,v)::r,m,h=>by
  unfold bindC;rw[jg fun w hw=>h w (JC _ hw)]
  split
  ·rfl
  ·have:x≠n:=by rintro rfl;exact h v Jw
   simp [this]
theorem iU{kindOf:Str->Option NameKind}{x:Str}{v:Value}:∀{P:List Str} {vs:List Value} {i:Nat} {m:Gc},P.Nodup->P[i]? =some x->vs[i]? =some v->kindOf x=some .local->
  bindL kindOf (P.zip vs) m x=some v
 | [],_,_,_,_,h,_,_=>by simp at h
 |_::_,[],_,_,_,_,h,_=>by simp at h
 |p::P,w::vs,0,m,nd,h1,h2,hk=>by
  simp at h1 h2;subst h1;subst h2
  show bindL kindOf ((p,w)::P.zip vs) m p=_
  unfold bindL;rw[jb fun v hv=>(Et.mp nd).1 (List.of_mem_zip hv).1,Jc hk]
  simp
 |p::P,w::vs,i+1,m,nd,h1,h2,hk=>by
  show bindL kindOf ((p,w)::P.zip vs) m x=_
  unfold bindL;exact iU (i:=i) (Et.mp nd).2 (by simpa using h1) (by simpa using h2) hk
theorem iQ{kindOf:Str->Option NameKind}{x:Str}{v:Value}:∀{P:List Str} {vs:List Value} {i:Nat} {m:Gc},P.Nodup->P[i]? =some x->vs[i]? =some v->kindOf x≠some .local->
  bindC kindOf (P.zip vs) m x=some v
 | [],_,_,_,_,h,_,_=>by simp at h
 |_::_,[],_,_,_,_,h,_=>by simp at h
 |p::P,w::vs,0,m,nd,h1,h2,hk=>by
  simp at h1 h2;subst h1;subst h2
  show bindC kindOf ((p,w)::P.zip vs) m p=_
  unfold bindC;rw[jg fun v hv=>(Et.mp nd).1 (List.of_mem_zip hv).1,Jd hk]
  simp
 |p::P,w::vs,i+1,m,nd,h1,h2,hk=>by
  show bindC kindOf ((p,w)::P.zip vs) m x=_
  unfold bindC;exact iQ (i:=i) (Et.mp nd).2 (by simpa using h1) (by simpa using h2) hk
def Q1(N:List Str)(vs:List V):St:=vs.map some++List.replicate (N.length-vs.length) none
def bh(CX:fu)(P:Program)(w:World)(K:Frag)(mg:Gc)(base:Heap)(N:List Str)(Lo:Str)(scope:Scope)(f:Addr)(cd:Value)(A:Around)(outer:List Env)(s:Shared)(H:Hp)(E:XK):Cx where
 prog:=P
 w:=w
 K:=K
 mg:=mg
 base:=base
 A:=A.deeper (envOfC Lo scope s.heap.objs.size f cd)
 N:=N
 s₀:=s
 H₀:=H
 env:=envOfC Lo scope s.heap.objs.size f cd
 outer:=outer
 stack:=envOfC Lo scope s.heap.objs.size f cd::outer
 ex:=[]
 calm:=true
 fn:=fun _=>true
 pn:=[]
 xe:=fun e s'=>wpAny (model P w) (A.deeper (envOfC Lo scope s.heap.objs.size f cd)) (leaving (envOfC Lo scope s.heap.objs.size f cd) e) (fun _ s''=>CX outer H s E e s'') (fun e' s''=>CX outer H s E e' s'') s'
theorem jO{sc:Scope}{n:Nat}{x:Str}(h:sc.names.lookup x=some .cell):∃c,(cellsFrom n sc.names []).lookup x=some c:=by
 have q:=W.cellsFrom_some sc.names n [] (.inl h);exact FU.mp q
theorem sG{CX:fu}{P:Program}{w:World}{K:Frag}{mg:Gc}{base:Heap}{N ps:List Str}{Lo:Str}{scope:Scope}{f:Addr}{cd:Value}{A:Around}{outer:List Env}{s s1:Shared}{H:Hp}{E:XK}{us:List Value}{vs:List V}
  (S:Gf N ps scope)(hd:A.handled=none)(e0:II P w K mg base A outer s H)(hl:vs.length=ps.length)(r:Gk vs us)
  (x:InCallC s s.heap.objs.size (bindL (envOfC Lo scope s.heap.objs.size f cd).kindOf (ps.zip us) fun _=>none) (cellsFrom (s.heap.objs.size+1) scope.names []) (bindC (envOfC Lo scope s.heap.objs.size f cd).kindOf (ps.zip us) fun _=>none) s1):
  Gi (bh CX P w K mg base N Lo scope f cd A outer s H E) [] (Q1 N vs) H s1:=by
 have hpl:ps.length<=N.length:=by have:=J3 List.length S.pre;rw[Eu]at this;lia
 obtain⟨h1,tk,rfl,hk⟩:=x.done;have noA:∀b:Addr,b∉(bh CX P w K mg base N Lo scope f cd A outer s H E).ex:=fun b z=>absurd (show b∈([]:List Addr)from z) (by simp)
 refine⟨⟨e0.mod,S.kind,rfl,rfl,Jf _,fun y z c h1 h2=>?_,fun y hy=>?_,fun y c _ h=>?_,fun _=>hd,Around.frames_deeper e0.frames,.inr ⟨rfl,rfl⟩,fun b z=>absurd z (noA b),e0.bs,e0.bsz,fun b _ _=>noA b,fun b z=>absurd z (noA b),e0.funs,e0.frf⟩,
  rfl,e0.bare,Un.kept hk,⟨_,x.toInCall.ns,fun i y v h1 h2 h3=>?_⟩,fun y c h=>⟨_,x.cell y c h⟩,e0.hok.fresh (Jf _),fun y c h=>?_,fun p hp=>absurd (show p∈([]:Gd)from hp) (by simp),e0.hok.kept hk,?_⟩
 ·exact name_of_addr x.apart (E2 h1) (E2 h2)
 ·have hy:scope.names.lookup y=some .cell\/scope.names.lookup y=some .free:=hy
  rcases hy with hy|hy
  ·exact jO hy
  ·exact absurd rfl (S.nofree _ (E2 hy))
 ·exact Fp (x.above y c (E2 h))
 ·have hi:i<vs.length:=by
   unfold Q1 at h2
   by_cases hi:i<vs.length
   ·exact hi
   ·rw[DY (by simpa using hi)]at h2
    rw[List.getElem?_replicate]at h2;split at h2<;>cases h2
  have ha:vs[i]? =some v:=by
   unfold Q1 at h2;rw[D8 (by simpa using hi),Jo]at h2
   cases e:vs[i]? with
   |none=>rw[e]at h2;cases h2
   |some a=>rw[e]at h2;cases h2;rfl
  obtain⟨u,hu,rv⟩:=r.get ha;have hp:ps[i]? =some y:=by
   rw[<- S.pre,List.getElem?_take_of_lt (by lia)];exact h1
  have ndP:ps.Nodup:=by rw[<- S.pre];exact S.nd.sublist (List.take_sublist _ _)
  refine⟨u,rv,?_⟩
  rcases S.par y (DV hp)with k|k
  ·exact .inl ⟨k,iU ndP hp hu k⟩
  ·obtain⟨c,e⟩:=jO (n:=s.heap.objs.size+1) k
   refine .inr ⟨.inl k,c,e,?_⟩
   have q:=x.cell y c e;rw[iQ ndP hp hu (by show scope.names.lookup y≠_;rw[k];decide)]at q
   exact q
 ·exact e0.hok.fresh (Fp (x.above y c (E2 h)))
 ·unfold Q1
  show _=N.length
  rw[JD,Je,FV];lia
theorem CZ{CX:fu}{P:Program}{w:World}{K:Frag}{mg:Gc}{base:Heap}{k:Nat}{f:Addr}{name Lo:Str}{params:Arguments}{body:List Stmt}{scope:Scope}{dV kV doc pm cdv ct oc:Value}{an od:Option Addr}
  {osl:Array (Option Value)}{N ps:List Str}{sp:Sp}(lk:K.lookup f=some ⟨oc,od,.func (W.fnOf name Lo params body scope dV kV doc pm an cdv ct),osl⟩)(hcd:W.codeIn K cdv Lo=true)(S:Gf N ps scope)
  (len:∀vs H Q E,sp vs H Q E->vs.length=ps.length)
  (hbody:∀(A:Around) (outer:List Env) (s:Shared) (H:Hp) (vs:List V) (Q:VK) (E:XK),GA k (A.deeper (envOfC Lo scope s.heap.objs.size f cdv))->sp vs H Q E->
   ∃t,IG (bh CX P w K mg base N Lo scope f cdv A outer s H E) body t/\t {nx:=fun _ H'=>Q .non H',rt:=Q} (Q1 N vs) H):
  HS P w K mg base CX (k+1) f (W.fnOf name Lo params body scope dV kV doc pm an cdv ct) ps sp:=by
 refine⟨len,fun A outer s H args us vs Q E hr e0 hb r hsp=>?_⟩
 have hl:=len _ _ _ _ hsp;have KX:K.In s.heap:=e0.mod.kin.keeps fun b o e=>(e0.bs b o e).1
 have lim:s.heap.NoLimit:=e0.mod.nolimit.keeps fun b o e=>(e0.bs b o e).1
 have hkind:∀y∈ps.zip us,scope.names.lookup y.1=some .local\/(scope.names.lookup y.1=some .cell/\((cellsFrom (s.heap.objs.size+1) scope.names []).lookup y.1).isSome=true):=fun⟨n,v⟩ hy=>by
  rcases S.par n (List.of_mem_zip hy).1 with q|q
  ·exact .inl q
  ·exact .inr ⟨q,W.cellsFrom_some _ _ _ (.inl q)⟩
 refine codeAny_call_function hr.depth (KX _ _ lk) rfl S.co S.gen rfl (W.codeRec_of KX hcd) (hb _ _ _ _ ?_)
 refine wpAny_newFunctionEnv_cells S.kind hkind fun env he s1 x=>?_
 subst he;refine⟨lim.keeps x.toInCall.keep,codeAny_func ?_⟩
 obtain⟨t,ht,hq⟩:=hbody A outer s H vs Q E (hr.deeper _) hsp
 have I:Gi (bh CX P w K mg base N Lo scope f cdv A outer s H E) [] (Q1 N vs) H s1:=sG S hr.hd e0 hl r x
 refine JH (ht [] s1 (Q1 N vs) H _ I hq) (fun fl s' hs=>?_) fun e s' hs=>hs
 have fin:∀{σ':St} {H':Hp} {v:V} {u:Value},Gi (bh CX P w K mg base N Lo scope f cdv A outer s H E) [] σ' H' s'->Gn v u->Q v H'->CE outer P w H s Q u s':=
  fun{σ' H' v u} J rv q=>⟨v,H',J.os,J.bare,J.base,J.hok,rv,q⟩
 cases fl with
 |ret u=>
  obtain⟨v,σ',H',J,rv,q⟩:=hs;exact fin J rv q
 |next=>
  obtain⟨σ',H',J,q⟩:=hs;exact fin (v:=V.non) (u:=Value.none) J rfl q
 |brk=>
  obtain⟨_,_,_,q⟩:=hs;exact False.elim q
 |cont=>
  obtain⟨_,_,_,q⟩:=hs;exact False.elim q
section
variable{X:Cx}{x:Str}{p pos:Pos}{e:Expr}{es:List Expr}{t:TA}{id T:String}{r:List V->Hp->VK->Prop}
def wR(r:List V->Hp->VK->Prop)(t:TA):TE:=fun σ H Q=>t σ H fun vs H1=>r vs H1 Q
theorem vL(hc:qY X (.builtin id) r)(hg:Gl X x)(hm:X.mg x=none)(hv:bootBuiltins x=some (.builtin id))(ha:PA X (e::es) t)(hn:x≠"__name__":=by decide)(hdb:(x==("__debug__":Str))=false:=by decide)
  (he:starEach (e::es) X.env=(false,eval e X.env)::starEach es X.env:=by rfl)(hpl:(backTo pos (starEach es X.env)).any (·.1)=false:=by rfl):PE X (.Call (.Name x p) (e::es) [] pos) (wR r t):=by
 intro tx s σ H Q I h;refine FH (QZ I hg hm hv ?_ hn hdb)
 exact PyProof.Rows.callWith_builtin1 (qC (ha pos tx s σ H _ I h) fun us s1 ⟨vs,H1,I1,r1,q1⟩=>hc tx s1 σ H1 vs us Q I1 r1 q1) he hpl
theorem tE(hc:qY X (.type T) r)(hg:Gl X x)(hm:X.mg x=none)(hv:bootBuiltins x=some (.type T))(ha:PA X (e::es) t)(hn:x≠"__name__":=by decide)(hdb:(x==("__debug__":Str))=false:=by decide)
  (he:starEach (e::es) X.env=(false,eval e X.env)::starEach es X.env:=by rfl)(hpl:(backTo pos (starEach es X.env)).any (·.1)=false:=by rfl):PE X (.Call (.Name x p) (e::es) [] pos) (wR r t):=by
 intro tx s σ H Q I h;refine FH (QZ I hg hm hv ?_ hn hdb)
 exact EU (qC (ha pos tx s σ H _ I h) fun us s1 ⟨vs,H1,I1,r1,q1⟩=>hc tx s1 σ H1 vs us Q I1 r1 q1) he hpl
end
end L2
namespace HT
open PySem PyProof.Rows
section
variable{prog:Program}{w:World}{A:Around}{E:Gb}{s:Shared}
theorem cat_tup{t b:Addr}{vs ws:List Value}{Q:Gb}(ht:IsTup s.heap t vs.toArray)(hb:IsTup s.heap b ws.toArray)(hv:vs≠[])
  (h1:ws=[]->Q (.ref t) s)(h2:ws≠[]->Q (.ref s.heap.objs.size) {s with heap:=s.heap.push {cls:= .type "tuple",data:= .seq (vs++ws).toArray}})
  (hsz:vs.length+ws.length<=sizeLine):wpAny (model prog w) A (binaryOp .Add (.ref t) (.ref b)) Q E s:=by
 obtain⟨⟨cls,dd,data,sl⟩,ho,hc,n,hd⟩:=id ht;obtain⟨⟨cls2,dd2,data2,sl2⟩,ho2,hc2,n2,hd2⟩:=id hb;simp only at hc hd hc2 hd2
 subst hc hd hc2 hd2;have e:vs.toArray++ws.toArray=(vs++ws).toArray:=by simp
 by_cases hw:ws=[]
 ·exact concat_meets ⟨_,ho,rfl⟩ ⟨_,ho2,rfl⟩ noFill_tuple_add seq_tuple_add FW FX (FY _ _)
   (tuple_addW1 t b vs.toArray ws.toArray n n2 dd dd2 sl sl2 (by simpa using hv) (by simp [hw])) ⟨ho,ho2,h1 hw⟩
 ·refine concat_meets ⟨_,ho,rfl⟩ ⟨_,ho2,rfl⟩ noFill_tuple_add seq_tuple_add FW FX (FY _ _)
   (tuple_addW2 t b vs.toArray ws.toArray n n2 dd dd2 sl sl2 (by simpa using hv) (by simpa using hw) (by rw[Jr,Jr];exact hsz)) ⟨ho,ho2,?_⟩
  rw[e];exact h2 hw
def sIx(n d:Nat):Option Int->Nat
 |none=>d
 |some v=>if v<0 then(v+(n:Int)).toNat else min v.toNat n
theorem Br(n d:Nat)(hd:d<=n)(o:Option Int):sIx n d o<=n:=by
 cases o with
 |none=>exact hd
 |some v=>
  show(if v<0 then(v+(n:Int)).toNat else min v.toNat n)<=n
  by_cases hv:v<0
  ·rw[Jc hv];lia
  ·rw[Jd hv];exact Nat.min_le_right _ _
theorem n6(v:Int)(n d:Nat):(if v<0 then max (v+(n:Int)) 0 else min v (n:Int))=((sIx n d (some v):Nat):Int):=by
 show(if v<0 then max (v+(n:Int)) 0 else min v (n:Int))=(((if v<0 then(v+(n:Int)).toNat else min v.toNat n):Nat):Int)
 by_cases hv:v<0
 ·simp only[Jc hv];lia
 ·simp only[Jd hv];lia
theorem pS(lo hi:Option Int)(n:Nat):Builtin.Slice.sliceAdjust lo hi 1 (n:Int)=(((sIx n 0 lo:Nat):Int),((sIx n n hi:Nat):Int)):=by
 have h1:¬((1:Int)<0):=by lia
 unfold Builtin.Slice.sliceAdjust;simp only[h1,JE];refine Prod.ext ?_ ?_
 ·cases lo with
  |none=>rfl
  |some v=>exact n6 v n 0
 ·cases hi with
  |none=>rfl
  |some v=>exact n6 v n n
theorem pF(i j:Nat):Builtin.Slice.slicePlaces (i:Int) (j:Int) 1=j-i:=by
 unfold Builtin.Slice.slicePlaces;have h1:(1:Int)>0:=by lia
 simp only[h1,Ep,Int.ediv_one];split<;>lia
theorem ge{v:Value}{o:Option Int}{Q:Option Int->Shared->Prop}(p:IsPart v o)(h:Q o s):wpAny (model prog w) A (Builtin.Slice.slicePartIndex v) Q E s:=by
 cases p with
 |none=>exact slicePart_none h
 |int i t=>exact slicePart_int h
theorem sliceApplied_gen{sl:Addr}{vl vu:Value}{lo hi:Option Int}{n:Nat}{Q:Int×Int×Nat->Shared->Prop}(hs:s.heap.IsSliceOf sl vl vu .none)(pl:IsPart vl lo)(pu:IsPart vu hi)
  (h:Q (((sIx n 0 lo:Nat):Int),1,sIx n n hi-sIx n 0 lo) s):wpAny (model prog w) A (Builtin.Slice.sliceApplied (.ref sl) (pure (n:Int))) Q E s:=by
 obtain⟨os,hos,hcs,hds⟩:=id hs;unfold Builtin.Slice.sliceApplied Builtin.Slice.sliceFields;refine Ja (Ja (JR hos hds (x:=vl) rfl (Ja (JR hos hds (x:=vu) rfl (Ja (JR hos hds (x:= .none) rfl (Jb ?_)))))))
 refine Ja (slicePart_none ?_)
 show wpAny _ _ (if((1:Int)==0)=true then _ else _) _ _ s
 rw[Jd (by decide)]
 refine Ja (ge pl (Ja (ge pu (Ja (Jb ?_)))))
 show wpAny _ _ (match Builtin.Slice.sliceAdjust lo hi 1 (n:Int)with|(lo,hi)=>pure (lo,(1:Int),Builtin.Slice.slicePlaces lo hi 1)) _ _ s
 rw[pS lo hi n]
 show wpAny _ _ (pure (((sIx n 0 lo:Nat):Int),(1:Int),Builtin.Slice.slicePlaces ((sIx n 0 lo:Nat):Int) ((sIx n n hi:Nat):Int) 1)) _ _ s
 rw[pF];exact Jb h
theorem wz(xs:Array Value)(i k:Nat):((List.range k).filterMap fun(m:Nat)=>xs[((i:Int)+(m:Int)*1).toNat]?).toArray=((xs.toList.drop i).take k).toArray:=by
 have e:(fun(m:Nat)=>xs[((i:Int)+(m:Int)*1).toNat]?)=fun m=>xs[i+m]? :=by
  funext m
  have:((i:Int)+(m:Int)*1).toNat=i+m:=by lia
  rw[this]
 rw[e]
 have:=pick_run xs i k
 rw[List.filterMap_map]at this;have e2:((fun x=>xs[x]?)∘fun x=>i+x)=fun m=>xs[i+m]? :=rfl
 rw[e2]at this;rw[this]
theorem getItem_tuple_cut{t sl:Addr}{items:Array Value}{vl vu:Value}{lo hi:Option Int}{Q:Gb}(ht:IsTup s.heap t items)(hs:s.heap.IsSliceOf sl vl vu .none)(pl:IsPart vl lo)(pu:IsPart vu hi)
  (hw:¬(sIx items.size 0 lo=0/\sIx items.size items.size hi=items.size))
  (h:Q (.ref s.heap.objs.size) {s with heap:=s.heap.push {cls:= .type "tuple",data:= .seq ((items.toList.drop (sIx items.size 0 lo)).take (sIx items.size items.size hi-sIx items.size 0 lo)).toArray}})
  (hsz:items.size<=sizeLine):wpAny (model prog w) A (getItem (.ref t) (.ref sl)) Q E s:=by
 have htake:sizeOk (.seq ((items.toList.drop (sIx items.size 0 lo)).take (sIx items.size items.size hi-sIx items.size 0 lo)).toArray):=by
  show((items.toList.drop (sIx items.size 0 lo)).take (sIx items.size items.size hi-sIx items.size 0 lo)).toArray.size<=sizeLine
  rw[Jr,Eu,FI,Jq];lia
 have hj:sIx items.size items.size hi<=items.size:=Br _ _ (Jf _) hi
 obtain⟨os,hos,hcs,hds⟩:=id hs;have hTs:s.TypeIs (.ref sl) "slice":=⟨os,hos,hcs⟩
 unfold getItem
 try with_reducible refine JL ?_
 first|refine Ja (Jb ?_)|skip
 refine Ja (wpAny_sequenceKey ht.typeIs (by decide) ?_)
 refine Ja (wpAny_callSpecial?_slot (name:=Str.ofString "__getitem__") ht.typeIs FJ
  (JS FJ ht.typeIs entry_tuple_getitem ?_ (args_tuple_getitem _ _)))
 show wpAny _ _ (Builtin.Tuple.tupleItemsOf (.ref t) >>= _) _ _ s
 refine Ja (tupleItemsOf_ ht ?_)
 refine Ja (Fg hTs ?_)
 rw[Jc (by decide)]
 refine Ja (sliceApplied_gen hs pl pu ?_)
 have hno:¬((((sIx items.size 0 lo:Nat):Int)==0&&(1:Int)==1&&(sIx items.size items.size hi-sIx items.size 0 lo)==items.size)=true):=by
  intro q;rw[Jz,Jz]at q;have q1:((sIx items.size 0 lo:Nat):Int)=0:=eq_of_beq q.1.1
  have q2:sIx items.size items.size hi-sIx items.size 0 lo=items.size:=eq_of_beq q.2
  exact hw ⟨by lia,by lia⟩
 show wpAny _ _ (if(((sIx items.size 0 lo:Nat):Int)==0&&(1:Int)==1&&(sIx items.size items.size hi-sIx items.size 0 lo)==items.size)=true then _ else _) _ _ s
 rw[Jd hno,wz]
 first
  |exact Ja (m:=Builtin.Tuple.tupleExact _) (D9 (Jb ⟨_,rfl,Jb h⟩) htake)
  |exact Ja (m:=Builtin.Tuple.tupleExact _) (D9 (Ja (Jb (Jb ⟨_,rfl,Jb h⟩))) htake)
  |exact Ja (Ja (m:=Builtin.Tuple.tupleExact _) (D9 (Jb (Jb ⟨_,rfl,Jb h⟩)) htake))
  |exact Ja (Ja (m:=Builtin.Tuple.tupleExact _) (D9 (Jb ⟨_,rfl,Jb h⟩) htake))
end
end HT
namespace L2
open PySem PySem.Spec PyProof.Rows
abbrev TO:=St->Hp->(Option Int->Hp->Prop)->Prop
def PO(X:Cx)(e:Option Expr)(t:TO):Prop:=
 ∀(tx:Gd) (s:Shared) (σ:St) (H:Hp) (Q:Option Int->Hp->Prop),Gi X tx σ H s->t σ H Q->
  wpAny (model X.prog X.w) X.A (evalPart e X.env) (fun u s'=>∃o H',Gi X tx σ H' s'/\IsPart u o/\Q o H') X.xe s
def nF:TO:=fun _ H Q=>Q none H
def xr(t:TE):TO:=fun σ H Q=>t σ H fun x H1=>∃i,x= .int i/\Q (some i) H1
theorem oZ{ns:List Int}:∀{us:List Value},Gk (ns.map V.int) us->IntsAre us ns:=by
 induction ns with
 |nil=>intro us r;rw[Ft]at r;cases r;exact .nil
 |cons n ns ih=>
  intro us r;rw[JQ]at r;cases r with
  |cons r1 r2=>
   obtain⟨t,e⟩:=r1;subst e;exact .cons n t (ih r2)
section
variable{X:Cx}{e:Expr}{te:TE}{lo hi:Option Expr}{tl th:TO}{pos p2:Pos}
theorem AR:PO X none nF:=by
 intro tx s σ H Q I h;rw[evalPart_none];exact Jb ⟨none,H,I,.none,h⟩
theorem yn(h:PE X e te):PO X (some e) (xr te):=by
 intro tx s σ H Q I hw;rw[evalPart_some];refine qC (h tx s σ H _ I hw) fun u s1 zq=>?_
 obtain⟨x,H1,I1,r1,q1⟩:=zq;obtain⟨i,rfl,q⟩:=q1;obtain⟨t,rfl⟩:=r1
 exact⟨some i,H1,I1,.int i t,q⟩
def tM(X:Cx)(r:V->Option Int->Option Int->Hp->VK->Prop):Prop:=
 ∀(tx:Gd) (s:Shared) (σ:St) (H:Hp) (x:V) (v vl vu:Value) (lo hi:Option Int) (sl:Addr) (Q:VK),Gi X tx σ H s->Gn x v->s.heap.IsSliceOf sl vl vu .none->IsPart vl lo->IsPart vu hi->r x lo hi H Q->
  ∃T id,typeLookup (.type T) "__getitem__"=pure (some (.builtin id))/\s.TypeIs v T/\wpAny (model X.prog X.w) X.A (getItem v (.ref sl)) (EP X tx σ Q) X.xe s
def Di(r:V->Option Int->Option Int->Hp->VK->Prop)(te:TE)(tl th:TO):TE:=fun σ H Q=>te σ H fun x H1=>tl σ H1 fun l H2=>th σ H2 fun u H3=>r x l u H3 Q
theorem wo{r:V->Option Int->Option Int->Hp->VK->Prop}(hr:tM X r)(he:PE X e te)(hl:PO X lo tl)(hu:PO X hi th):PE X (.Subscript e (.Slice lo hi none p2) pos) (Di r te tl th):=by
 intro tx s σ H Q I h;refine Subscript_ (qC (he tx s σ H _ I h) fun v s1 zq=>?_)
 obtain⟨x,H1,I1,r1,q1⟩:=zq;refine wpAny_Slice (qC (hl tx s1 σ H1 _ I1 q1) fun vl s2 ⟨l,H2,I2,pl,q2⟩=>qC (hu tx s2 σ H2 _ I2 q2) fun vu s3 zq=>?_)
 obtain⟨u,H3,I3,pu,q3⟩:=zq;rw[evalPart_none];refine Jb ?_
 have I4:Gi X tx σ H3 {s3 with heap:=s3.heap.push {cls:= .type "slice",data:= .fields #[vl,vu,.none]}}:=I3.kept (t':=s3.toks) fun b ob q=>Ji _ q
 obtain⟨T,id,hT,ht,hg⟩:=hr tx {s3 with heap:=s3.heap.push {cls:= .type "slice",data:= .fields #[vl,vu,.none]}} σ H3 x v vl vu l u s3.heap.objs.size Q I4 r1 (Heap.IsSliceOf.new ..) pl pu q3
 show wpAny (model X.prog X.w) X.A (subscriptTail e (.Slice lo hi none p2) v (.ref s3.heap.objs.size)) (EP X tx σ Q) X.xe {s3 with heap:=s3.heap.push {cls:= .type "slice",data:= .fields #[vl,vu,.none]}}
 exact tail_any (ops:=[.ref s3.heap.objs.size,v]) ht hT hg (by with_unfolding_all rfl)
def ZF(xs:List V)(lo hi:Option Int):List V:=(xs.drop (HT.sIx xs.length 0 lo)).take (HT.sIx xs.length xs.length hi-HT.sIx xs.length 0 lo)
theorem fA(xs:List V)(lo hi:Option Int):(ZF xs lo hi).length<=xs.length:=by
 unfold ZF;rw[Eu,FI];lia
def Dy(K:Frag):V->Option Int->Option Int->Hp->VK->Prop:=fun x lo hi H Q=>∃a xs,x= .ref a/\Gu K H a xs/\
 ¬(HT.sIx xs.length 0 lo=0/\HT.sIx xs.length xs.length hi=xs.length)/\∀p,H p=none->Q (.ref p) (Gh H p (.tup (ZF xs lo hi)))
theorem Cl:tM X (Dy X.K):=by
 intro tx s σ H x v vl vu lo hi sl Q I rx hs pl pu h;obtain⟨a,xs,rfl,hx,hw,q⟩:=h;cases rx;obtain⟨its,r,ht,hz⟩:=I.tuple hx;have hlen:its.toArray.size=xs.length:=by rw[Jr];exact r.length.symm
 refine⟨"tuple",_,PyProof.Rows.slot_tuple_getitem.lookup,ht.typeIs,?_⟩
 refine HT.getItem_tuple_cut ht hs pl pu (by rw[hlen];exact hw) ?_ (by rw[hlen];exact hz)
 rw[hlen];refine⟨.ref s.heap.objs.size,_,I.laid (t':=s.toks) (o:= .tup (ZF xs lo hi)) (fun b ob q=>Ji _ q) (Jf _) ?_,rfl,q _ (I.hok.fresh (Jf _))⟩
 exact⟨JK (fA xs lo hi) hz,_,(r.drop (HT.sIx xs.length 0 lo)).take (HT.sIx xs.length xs.length hi-HT.sIx xs.length 0 lo),IsTup.new _ _⟩
def De(K:Frag):R2:=fun x y H Q=>∃a b xs ys,x= .ref a/\y= .ref b/\Gu K H a xs/\Gu K H b ys/\xs≠[]/\xs.length+ys.length<=sizeLine/\
 (ys=[]->Q (.ref a) H)/\(ys≠[]->∀p,H p=none->Q (.ref p) (Gh H p (.tup (xs++ys))))
theorem Gk.nil_iff{xs:List V}{us:List Value}(r:Gk xs us):us=[]↔xs=[]:=by
 cases r with
 |nil=>simp
 |cons _ _=>simp
theorem yp:zw X (binaryOp .Add) (De X.K):=by
 intro tx s σ H x y v u Q I rx ry h;obtain⟨a,b,xs,ys,rfl,rfl,ha,hb,hx,hz,q1,q2⟩:=h;cases rx;cases ry;obtain⟨its,r1,p1,_⟩:=I.tuple ha;obtain⟨its2,r2,p2,_⟩:=I.tuple hb;refine HT.cat_tup p1 p2 (fun z=>hx (r1.nil_iff.mp z)) (fun z=>⟨.ref a,H,I,rfl,q1 (r2.nil_iff.mp z)⟩) (fun z=>?_) (by rw[<- r1.length,<- r2.length];exact hz)
 refine⟨.ref s.heap.objs.size,_,I.laid (t':=s.toks) (o:= .tup (xs++ys)) (fun b ob q=>Ji _ q) (Jf _) ?_,rfl,q2 (fun w=>z (r2.nil_iff.mpr w)) _ (I.hok.fresh (Jf _))⟩
 exact⟨by rw[JD];exact hz,_,r1.append r2,IsTup.new _ _⟩
end
def cy(n:Nat)(i:Int):Option Nat:=if 0<=i then(if i<n then some i.toNat else none)else if -(n:Int)<=i then some (i+n).toNat else none
def QY{α:Type}(xs:List α)(i:Int):Option α:=(cy xs.length i).bind fun j=>xs[j]?
theorem nz{n:Nat}{i:Int}{j:Nat}(h:cy n i=some j):seqIndex? i n=some j/\j<n/\ -(n:Int)<=i/\i<n:=by
 unfold cy at h
 by_cases h0:0<=i
 ·rw[Jc h0]at h
  by_cases h1:i<n
  ·rw[Jc h1]at h
   have e:i.toNat=j:=Jy h
   exact⟨by rw[seqIndex_of h0 h1,e],by lia,by lia,h1⟩
  ·rw[Jd h1]at h;cases h
 ·rw[Jd h0]at h
  by_cases h1: -(n:Int)<=i
  ·rw[Jc h1]at h
   have e:(i+n).toNat=j:=Jy h
   exact⟨by rw[seqIndex_neg (by lia) h1,e],by lia,h1,by lia⟩
  ·rw[Jd h1]at h;cases h
theorem ny{α:Type}{xs:List α}{i:Int}{v:α}(h:QY xs i=some v):∃j,seqIndex? i xs.length=some j/\xs[j]? =some v/\j<xs.length/\ -(xs.length:Int)<=i/\i<xs.length:=by
 unfold QY at h;cases e:cy xs.length i with
 |none=>rw[e]at h;cases h
 |some j=>
  rw[e]at h;obtain⟨h1,h2,h3,h4⟩:=nz e
  exact⟨j,h1,h,h2,h3,h4⟩
theorem Zc{α:Type}{xs:List α}{j:Nat}{v:α}(h:xs[j]? =some v):QY xs (j:Int)=some v:=by
 have hj:j<xs.length:=(Jv.mp h).1
 have e:cy xs.length (j:Int)=some j:=by
  unfold cy;rw[Jc (by lia),Jc (by lia)];simp
 unfold QY;rw[e];exact h
def mX(b:Expr):Prop:=∀o i,subscripted b false o i=operate [o,i] (getItem o i)
def IV(X:Cx)(r:R2):Prop:=
 ∀(value slice:Expr) (tx:Gd) (s:Shared) (σ:St) (H:Hp) (x y:V) (v u:Value) (Q:VK),Gi X tx σ H s->Gn x v->Gn y u->r x y H Q->
  subscripted slice false v u=operate [v,u] (getItem v u)->wpAny (model X.prog X.w) X.A (subscriptTail value slice v u) (EP X tx σ Q) X.xe s
def gx(X:Cx)(id:String)(r:V->List V->Hp->VK->Prop):Prop:=
 ∀(tx:Gd) (s:Shared) (σ:St) (H:Hp) (x:V) (xs:List V) (v:Value) (us:List Value) (Q:VK),Gi X tx σ H s->Gn x v->Gk xs us->r x xs H Q->
  wpAny (model X.prog X.w) X.A (call (.builtin id) (v::us)) (EP X tx σ Q) X.xe s
section
variable{X:Cx}{a b:Expr}{ta tb:TE}{pos:Pos}
theorem IV.or{r r':R2}(h:IV X r)(h':IV X r'):IV X (fun x y H Q=>r x y H Q\/r' x y H Q):=by
 intro value slice tx s σ H x y v u Q I rx ry q hs;rcases q with q|q
 ·exact h value slice tx s σ H x y v u Q I rx ry q hs
 ·exact h' value slice tx s σ H x y v u Q I rx ry q hs
theorem C3{r:R2}(hr:IV X r)(ha:PE X a ta)(hb:PE X b tb)(hs:mX b):PE X (.Subscript a b pos) (iJ r ta tb):=by
 intro tx s σ H Q I h;exact Subscript_ (vq ha hb I h fun v u s2 x y H2 I2 rx ry q=>hr a b tx s2 σ H2 x y v u Q I2 rx ry q (hs _ _))
def Cv(K:Frag):R2:=fun x y H Q=>∃p xs i v,x= .ref p/\y= .int i/\Gq K H p xs/\QY xs i=some v/\Q v H
def vN(K:Frag):R2:=fun x y H Q=>∃p xs i v,x= .ref p/\y= .int i/\Gu K H p xs/\QY xs i=some v/\Q v H
theorem qK:IV X (Cv X.K):=by
 intro value slice tx s σ H x y v u Q I rx ry h hs;obtain⟨p,xs,i,z,rfl,rfl,hq,he,q⟩:=h;cases rx;obtain⟨t,rfl⟩:=ry;obtain⟨its,r,pl,hz⟩:=I.list hq;obtain⟨j,h1,h2,h3,h4,h5⟩:=ny he;obtain⟨w,ew,rw'⟩:=r.get h2;have hl:=r.length;have hn:=ZR;have fin:EP X tx σ Q w s:=⟨z,H,I,rw',q⟩
 by_cases h0:0<=i
 ·have hj:i.toNat=j:=by
   rw[seqIndex_of h0 h5]at h1;exact Jy h1
  exact item_listR pl.isList h0 (by lia) (by rw[hj];simpa using ew) fin hs
 ·have hj:(i+(its.toArray.size:Int)).toNat=j:=by
   rw[seqIndex_neg (by lia) h4]at h1
   rw[Jr,<- hl];exact Jy h1
  exact subscriptTail_builtinR (x:=w) pl.isList.typeIs slot_list_getitem.lookup
   (wpAny_getItem_list_neg (Q:=fun r s'=>r=w/\EP X tx σ Q r s') pl.isList (by lia) (by rw[Jr]<;>lia) (by lia) (by rw[hj];simpa using ew) ⟨rfl,fin⟩) hs
theorem qP:IV X (vN X.K):=by
 intro value slice tx s σ H x y v u Q I rx ry h hs;obtain⟨p,xs,i,z,rfl,rfl,hq,he,q⟩:=h;cases rx;obtain⟨t,rfl⟩:=ry;obtain⟨its,r,pl,hz⟩:=I.tuple hq;obtain⟨j,h1,h2,h3,h4,h5⟩:=ny he;obtain⟨w,ew,rw'⟩:=r.get h2;have hl:=r.length;have hn:=ZR;have fin:EP X tx σ Q w s:=⟨z,H,I,rw',q⟩
 exact subscriptTail_builtinR (x:=w) pl.typeIs slot_tuple_getitem.lookup
  (getItem_tuple (j:=j) (Q:=fun r s'=>r=w/\EP X tx σ Q r s') pl (by lia) (by lia) (by rw[Jr,<- hl];exact h1) (by simpa using ew) ⟨rfl,fin⟩) hs
theorem rH(its:List Value)(n j:Nat)(u:Value):Obj.mapSeq (·.setIfInBounds j u) {cls:= .type "list",data:= .seq its.toArray n}={cls:= .type "list",data:= .seq (its.set j u).toArray n}:=by
 simp [Obj.mapSeq]
theorem Gi.lst{tx:Gd}{σ:St}{H:Hp}{s:Shared}{p:Addr}{xs:List V}(I:Gi X tx σ H s)(h:H p=some (.lst xs)):
  ∃(its:List Value) (n:Nat),Gk xs its/\s.heap.get? p=some {cls:= .type "list",data:= .seq its.toArray n}/\xs.length<=sizeLine:=by
 obtain⟨z,its,n,r,e⟩:=I.hok p _ h
 exact⟨its,n,r,e,z⟩
theorem Gi.lstUpd{tx:Gd}{σ:St}{H:Hp}{s:Shared}{p:Addr}{xs ys:List V}{its its':List Value}{n n':Nat}{f:Obj->Obj}(I:Gi X tx σ H s)(h:H p=some (.lst xs))
  (ho:s.heap.get? p=some {cls:= .type "list",data:= .seq its.toArray n})(hf:f {cls:= .type "list",data:= .seq its.toArray n}={cls:= .type "list",data:= .seq its'.toArray n'})(r:Gk ys its')(hz:ys.length<=sizeLine)(t:Nat):
  Gi X tx σ (Gh H p (.lst ys)) {s with heap:=s.heap.update p f,toks:=t}:=by
 have e:(s.heap.update p f).get? p=some {cls:= .type "list",data:= .seq its'.toArray n'}:=by
  rw[EV f ho (by rw[hf]<;>rfl),hf]
 refine I.write (x:=p) (e:=p) (by rw[h];trivial) (.inl rfl) (fun b u hb q=>(Fh _ _ (Ne.symm hb)).trans q) ⟨_,e⟩ ?_
 exact⟨hz,its',n',r,e⟩
def CW:V->V->V->Hp->(Hp->Prop)->Prop:=fun o i v H Q=>∃p xs k j,o= .ref p/\i= .int k/\H p=some (.lst xs)/\cy xs.length k=some j/\Q (Gh H p (.lst (xs.set j v)))
theorem Zv:jN X CW:=by
 intro tx s σ H o i v ov iv u Q I ro ri rv h;obtain⟨p,xs,k,j,rfl,rfl,hp,hj,q⟩:=h;cases ro;obtain⟨t,rfl⟩:=ri;obtain⟨its,n,r,ho,hz⟩:=I.lst hp;obtain⟨h1,h2,h3,h4⟩:=nz hj;have hl:=r.length;have hn:=ZR;have I':Gi X tx σ (Gh H p (.lst (xs.set j v))) {s with heap:=s.heap.update p (Obj.mapSeq (·.setIfInBounds j u))}:=
  I.lstUpd hp ho (rH its n j u) (r.set rv j) (by rw[E3];exact hz) s.toks
 by_cases h0:0<=k
 ·have hk:k.toNat=j:=by
   rw[seqIndex_of h0 h4]at h1;exact Jy h1
  exact W.ki_setAt ho h0 (by lia) (by rw[Jr,<- hl];exact h4) (by rw[hk];exact⟨_,I',q⟩)
 ·have hk:(k+(its.toArray.size:Int)).toNat=j:=by
   rw[seqIndex_neg (by lia) h3]at h1
   rw[Jr,<- hl];exact Jy h1
  exact W.ki_setBack ho (by lia) (by rw[Jr,<- hl];exact h3) (by lia) (by rw[hk];exact⟨_,I',q⟩)
theorem lf(lo hi:Option Int)(n:Nat):(sliceBounds lo hi none n).1=((HT.sIx n 0 lo:Nat):Int)/\(sliceBounds lo hi none n).2.1=((HT.sIx n n hi:Nat):Int)/\(sliceBounds lo hi none n).2.2=1:=by
 refine⟨?_,?_,rfl⟩
 ·cases lo with
  |none=>simp [sliceBounds,HT.sIx]
  |some i=>
   simp only[sliceBounds,HT.sIx,Option.getD_none,show(1:Int)>0 by decide,Ep]
   by_cases h:i<0
   ·simp only[h,Ep]<;>lia
   ·simp only[h,JE]<;>lia
 ·cases hi with
  |none=>simp [sliceBounds,HT.sIx]
  |some i=>
   simp only[sliceBounds,HT.sIx,Option.getD_none,show(1:Int)>0 by decide,Ep]
   by_cases h:i<0
   ·simp only[h,Ep]<;>lia
   ·simp only[h,JE]<;>lia
theorem jr(its:List Value)(lo hi:Option Int):slicePick its.toArray lo hi none=((its.drop (HT.sIx its.length 0 lo)).take (HT.sIx its.length its.length hi-HT.sIx its.length 0 lo)).toArray:=by
 obtain⟨h1,h2,h3⟩:=lf lo hi its.toArray.size;unfold slicePick;rw[h1,h2,h3];simp only[sliceRange_one,pick_run,Jr]<;>rfl
def Du(K:Frag):V->Option Int->Option Int->Hp->VK->Prop:=fun x lo hi H Q=>∃a xs,x= .ref a/\Gq K H a xs/\∀p,H p=none->Q (.ref p) (Gh H p (.lst (ZF xs lo hi)))
theorem mV:tM X (Du X.K):=by
 intro tx s σ H x v vl vu lo hi sl Q I rx hs pl pu h;obtain⟨a,xs,rfl,hx,q⟩:=h;cases rx;obtain⟨its,r,ht,hz⟩:=I.list hx;have hlen:=r.length;refine⟨"list",_,slot_list_getitem.lookup,ht.isList.typeIs,?_⟩
 refine wpAny_getItem_list_slice ht.isList hs pl pu .none (by simp) ?_ (by rw[Jr]<;>lia)
 rw[jr,<- hlen];refine⟨.ref s.heap.objs.size,_,I.laid (t':=s.toks) (o:= .lst (ZF xs lo hi)) (fun b ob q=>Ji _ q) (Jf _) ?_,rfl,q _ (I.hok.fresh (Jf _))⟩
 exact⟨JK (fA xs lo hi) hz,_,0,(r.drop (HT.sIx xs.length 0 lo)).take (HT.sIx xs.length xs.length hi-HT.sIx xs.length 0 lo),Jp _ rfl⟩
theorem qR:qY X (.builtin "len") (fun xs H Q=>∃p ys,xs=[.ref p]/\(Gq X.K H p ys\/Gu X.K H p ys)/\Q (.int ys.length) H):=by
 intro tx s σ H xs us Q I r h;obtain⟨p,ys,rfl,hq,q⟩:=h;obtain⟨u,rfl,rx⟩:=zL r;cases rx;have hn:=ZR;rcases hq with hq|hq
 ·obtain⟨its,r',pl,hz⟩:=I.list hq
  have hlen:=r'.length;exact Calls.call_len_list pl.isList (by simp only[Jr]<;>lia) ⟨.int ys.length,H,I.tok _,⟨s.toks+1,by rw[Jr,hlen]⟩,q⟩
 ·obtain⟨its,r',pl,hz⟩:=I.tuple hq
  have hlen:=r'.length;exact len_tuple pl (by simp only[Jr]<;>lia) ⟨.int ys.length,H,I.tok _,⟨s.toks+1,by rw[Jr,hlen]⟩,q⟩
theorem ke:qY X (.builtin "len") (fun xs H Q=>∃z,xs=[.str z]/\z.length<=sizeLine/\Q (.int z.length) H):=by
 intro tx s σ H xs us Q I r h;obtain⟨z,rfl,hz,q⟩:=h;obtain⟨u,rfl,t,rfl⟩:=zL r;have hn:=ZR;exact len_str (by lia) ⟨.int z.length,H,I.tok _,⟨_,rfl⟩,q⟩
theorem aA:qY X (.type "list") (fun xs H Q=>∃p ys,xs=[.ref p]/\(Gq X.K H p ys\/Gu X.K H p ys)/\∀l,H l=none->Q (.ref l) (Gh H l (.lst ys))):=by
 intro tx s σ H xs us Q I r h;obtain⟨p,ys,rfl,hq,q⟩:=h;obtain⟨u,rfl,rx⟩:=zL r;cases rx;have fin:∀(its:List Value),Gk ys its->ys.length<=sizeLine->∀(h':Heap) (c':Nat),(∀b o',s.heap.get? b=some o'->h'.get? b=some o')->
   h'.get? s.heap.objs.size=some {cls:= .type "list",dict:=none,data:= .seq its.toArray c',slots:= #[]}->EP X tx σ Q (.ref s.heap.objs.size) {s with heap:=h'}:=fun its r' hz h' c' kp e=>
  ⟨.ref s.heap.objs.size,_,I.laid (t':=s.toks) kp (Jf _) (show Gz X.prog X.w _ h' _ (.lst ys)from⟨hz,its,c',r',e⟩),rfl,q _ (I.hok.fresh (Jf _))⟩
 rcases hq with hq|hq
 ·obtain⟨its,r',pl,hz⟩:=I.list hq
  have hlen:=r'.length;obtain⟨o,ho,hc,n,hd⟩:=pl.isList;exact call_list_seq p (.inl rfl) ho hc hd (fun h' c' kp e=>fin its r' hz h' c' kp e) (by simp only[Jr]<;>lia)
 ·obtain⟨its,r',pl,hz⟩:=I.tuple hq
  have hlen:=r'.length;obtain⟨o,ho,hc,n,hd⟩:=pl;exact call_list_seq p (.inr rfl) ho hc hd (fun h' c' kp e=>fin its r' hz h' c' kp e) (by simp only[Jr]<;>lia)
theorem qZ:qY X (.type "tuple") (fun xs H Q=>∃p ys,xs=[.ref p]/\((Gq X.K H p ys/\∀l,H l=none->Q (.ref l) (Gh H l (.tup ys)))\/(Gu X.K H p ys/\Q (.ref p) H))):=by
 intro tx s σ H xs us Q I r h;obtain⟨p,ys,rfl,h⟩:=h;obtain⟨u,rfl,rx⟩:=zL r;cases rx;rcases h with⟨hq,q⟩|⟨hq,q⟩
 ·obtain⟨its,r',pl,hz⟩:=I.list hq
  have hlen:=r'.length;refine call_tuple_list pl.isList (fun h' kp=>?_) (by simp only[Jr]<;>lia)
  have I1:Gi X tx σ H {s with heap:=h'}:=I.kept (t':=s.toks) kp
  have I2:Gi X tx σ (Gh H h'.objs.size (.tup ys)) {s with heap:=h'.push {cls:= .type "tuple",data:= .seq its.toArray}}:=
   I1.laid (t':=s.toks) (fun b o e=>Ji _ e) (Jf _) (show Gz X.prog X.w _ _ _ (.tup ys)from⟨hz,its,r',IsTup.new _ _⟩)
  exact⟨.ref h'.objs.size,_,I2,rfl,q _ (I1.hok.fresh (Jf _))⟩
 ·obtain⟨its,r',pl,hz⟩:=I.tuple hq
  exact call_tuple_same pl ⟨.ref p,H,I,rfl,q⟩
def BI(K:Frag)(T:String)(x:V)(H:Hp):Prop:=match x with
 | .str _=>T="str"
 | .int _=>T="int"
 | .ref p=>(T="list"/\∃xs,Gq K H p xs)\/(T="tuple"/\∃o,K.lookup p=some o/\o.cls= .type "tuple"/\o.dict=none)\/
   (T="dict"/\((∃kvs,H p=some (.dK kvs))\/∃kvs,H p=some (.dT kvs)))\/(T="set"/\∃S n,H p=some (.set S n))
 |_=>False
theorem ue{tx:Gd}{σ:St}{H:Hp}{s:Shared}{T:String}{x:V}{v:Value}(I:Gi X tx σ H s)(r:Gn x v)(ty:BI X.K T x H):
  s.TypeIs v T/\∀a,v= .ref a->∃ob,s.heap.get? a=some ob/\ob.dict=none:=by
 cases x with
 |str z=>
  obtain⟨t,rfl⟩:=r
  cases(show T="str" from ty)
  exact⟨typeIs_str s z t,fun _ e=>nomatch e⟩
 |int i=>
  obtain⟨t,rfl⟩:=r
  cases(show T="int" from ty)
  exact⟨typeIs_int s i t,fun _ e=>nomatch e⟩
 |ref p=>
  cases r;rcases ty with⟨rfl,xs,hq⟩|⟨rfl,o,hk,hc,hd⟩|⟨rfl,hk⟩|⟨rfl,S,n,hk⟩
  ·obtain⟨its,_,pl,_⟩:=I.list hq
   refine⟨pl.isList.typeIs,fun a e=>?_⟩
   cases e;obtain⟨o,n,e,c,hd,_⟩:=pl
   exact⟨o,e,hd⟩
  ·refine⟨⟨o,I.kIn p o hk,hc⟩,fun a e=>?_⟩
   cases e
   exact⟨o,I.kIn _ o hk,hd⟩
  ·have z:∃o,s.heap.get? p=some o/\o.ExactDict:=by
    rcases hk with⟨kvs,hk⟩|⟨kvs,hk⟩
    ·obtain⟨_,_,_,_,o,_,_,e,ex,_⟩:=I.hok p _ hk
     exact⟨o,e,ex⟩
    ·obtain⟨_,_,_,_,o,_,_,e,ex,_⟩:=I.hok p _ hk
     exact⟨o,e,ex⟩
   obtain⟨o,e,ex⟩:=z;refine⟨⟨o,e,ex.1⟩,fun a e2=>?_⟩
   cases e2
   exact⟨o,e,ex.2.1⟩
  ·obtain⟨o,_,_,_,e,ex,_⟩:=I.hok p _ hk
   refine⟨⟨o,e,ex.1⟩,fun a e2=>?_⟩
   cases e2
   exact⟨o,e,ex.2.1⟩
 |_=>exact False.elim ty
def CM(K:Frag)(T:String)(r:V->List V->Hp->VK->Prop)(to:TE):TE:=fun σ H Q=>to σ H fun x H1=>BI K T x H1/\r x [] H1 Q
def B9(K:Frag)(T:String)(r:V->List V->Hp->VK->Prop)(to:TE)(t:TA):TE:=fun σ H Q=>to σ H fun x H1=>BI K T x H1/\t σ H1 fun xs H2=>r x xs H2 Q
variable{o e:Expr}{es:List Expr}{to:TE}{t:TA}{name:Str}{apos cpos:Pos}{T id:String}{r:V->List V->Hp->VK->Prop}
theorem Bl(pa:PlainAttrs T)(slot:Slot T name id)(hty:typeOf (.builtin id)=pure (.type "method_descriptor"))(hm:gx X id r)(ho:PE X o to)
  (hbase:attributeBase o name X.env (eval o X.env)=eval o X.env:=by rfl)(hline:(apos.endLine==cpos.line)=true:=by rfl):PE X (.Call (.Attribute o name apos) [] [] cpos) (CM X.K T r to):=by
 intro tx s σ H Q I h;refine wpAny_Call_method0_late hbase hline (qC (ho tx s σ H _ I h) fun v s1 zq=>?_)
 obtain⟨x,H1,I1,r1,ty,q1⟩:=zq;obtain⟨h1,h2⟩:=ue I1 r1 ty
 exact⟨T,id,pa,slot,hty,h1,h2,FZ rfl (PySem.evalArgs_none (hm tx s1 σ H1 x [] v [] Q I1 r1 .nil q1))⟩
theorem C1(pa:PlainAttrs T)(slot:Slot T name id)(hty:typeOf (.builtin id)=pure (.type "method_descriptor"))(hm:gx X id r)(ho:PE X o to)(ha:PA X (e::es) t)
  (hbase:attributeBase o name X.env (eval o X.env)=eval o X.env:=by rfl)
  (hfew:((backTo cpos (starEach (e::es) X.env)).all (fun x=> !x.1)&&(backToKw cpos (keywordEach [] X.env)).all (fun x=>x.1.isSome)
   &&decide ((e::es).length+([]:List Keyword).length+(if([]:List Keyword).isEmpty then 0 else 1)<30))=true:=by rfl)
  (hline:(apos.endLine==cpos.line)=true:=by rfl)(hs:starEach (e::es) X.env=(false,eval e X.env)::starEach es X.env:=by rfl)(hplain:(backTo cpos (starEach es X.env)).any (·.1)=false:=by rfl):
  PE X (.Call (.Attribute o name apos) (e::es) [] cpos) (B9 X.K T r to t):=by
 intro tx s σ H Q I h;refine wpAny_Call_method_late hbase hfew hline rfl (qC (ho tx s σ H _ I h) fun v s1 zq=>?_)
 obtain⟨x,H1,I1,r1,ty,q1⟩:=zq;obtain⟨h1,h2⟩:=ue I1 r1 ty;refine⟨T,id,pa,slot,hty,h1,h2,?_⟩
 have hA:=ha cpos tx s1 σ H1 _ I1 q1;rw[hs]at hA⊢;refine FZ (by show(false||(backTo cpos (starEach es X.env)).any (·.1))=false;rw[hplain]<;>rfl) (Calls.evalArgs_plain ?_)
 exact qC hA fun us s2 ⟨vs,H2,I2,r2,q2⟩=>hm tx s2 σ H2 x vs v us Q I2 r1 r2 q2
end
def Bg(X:Cx)(id:String)(r:V->List V->Hp->VK->Prop):Prop:=
 ∀(tx:Gd) (s:Shared) (σ:St) (H:Hp) (x:V) (xs:List V) (v:Value) (us:List Value) (Q:VK),Gi X tx σ H s->Gn x v->Gk xs us->r x xs H Q->
  wpAny (model X.prog X.w) X.A (call (.builtin id) (v::us)) (EP X tx σ Q) X.xe s
theorem Gk.one:∀{x:V} {us:List Value},Gk [x] us->∃u,us=[u]/\Gn x u
 :=by
 intro x us h;cases h with
 |cons r q=>cases q;exact⟨_,rfl,r⟩
theorem Gk.two:∀{x y:V} {us:List Value},Gk [x,y] us->∃u v,us=[u,v]/\Gn x u/\Gn y v
 :=by
 intro x y us h;cases h with
 |cons r q=>cases q with
  |cons q z=>cases z;exact⟨_,_,rfl,r,q⟩
theorem Gk.zero:∀{us:List Value},Gk [] us->us=[]
 |_,.nil=>rfl
theorem Gk.eraseIdx:∀{xs:List V} {us:List Value} (i:Nat),Gk xs us->Gk (xs.eraseIdx i) (us.eraseIdx i)
 |_,_,_,.nil=> .nil
 |_,_,0,.cons _ t=>t
 |_,_,i+1,.cons r t=> .cons r (Gk.eraseIdx i t)
theorem Gk.reverse{xs:List V}{us:List Value}(h:Gk xs us):Gk xs.reverse us.reverse:=by
 induction h with
 |nil=>exact .nil
 |cons r t ih=>rw[List.reverse_cons,List.reverse_cons];exact Gk.append ih (.cons r .nil)
theorem Gk.rep{xs:List V}{us:List Value}(h:Gk xs us):∀k:Nat,Gk (List.replicate k xs).flatten (List.replicate k us).flatten
 |0=> .nil
 |k+1=>by
  rw[Fi,Fi,FK,FK];exact Gk.append h (Gk.rep h k)
theorem iz{α:Type}:∀(l:List α) (i:Nat),(l.eraseIdx i).length<=l.length
 | [],_=>Jf _
 |_::_,0=>Eo _
 |_::r,i+1=>Nat.succ_le_succ (iz r i)
theorem ji(its:List Value):∀(k:Nat) (acc:List Value),
  List.foldl (fun x1 x2=>x1++x2) acc.toArray (List.replicate k its.toArray)=(acc++(List.replicate k its).flatten).toArray
 |0,acc=>by simp
 |k+1,acc=>by
  have e:acc.toArray++its.toArray=(acc++its).toArray:=by simp
  have e2:(acc++its)++(List.replicate k its).flatten=acc++(List.replicate (k+1) its).flatten:=by
   rw[Fi,FK,Ew]
  rw[<- e2,<- ji its k (acc++its),<- e,Fi,List.foldl_cons]
section
variable{X:Cx}{tx:Gd}{σ:St}{H:Hp}{s:Shared}{l:Addr}{xs ys:List V}
theorem Gi.lset{its its':List Value}{n:Nat}{f:Array Value->Array Value}{t':Nat}(I:Gi X tx σ H s)(hH:H l=some (.lst xs))
  (e:s.heap.get? l=some {cls:= .type "list",data:= .seq its.toArray n})(hf:f its.toArray=its'.toArray)(hv:Gk ys its')(hz:ys.length<=sizeLine):
  Gi X tx σ (Gh H l (.lst ys)) {s with heap:=s.heap.update l (Obj.mapSeq f),toks:=t'}:=by
 have q:=PySem.IsL.update e f;rw[hf]at q;refine I.write (x:=l) (e:=l) (by rw[hH];exact trivial) (.inl rfl) (fun b' u hb hu=>(Fh s.heap (Obj.mapSeq f) (Ne.symm hb)).trans hu) ⟨_,q⟩ ?_
 exact⟨hz,its',_,hv,q⟩
theorem Gi.lnew{its:List Value}{t':Nat}(I:Gi X tx σ H s)(hv:Gk ys its)(hz:ys.length<=sizeLine):
  Gi X tx σ (Gh H s.heap.objs.size (.lst ys)) {s with heap:=s.heap.push {cls:= .type "list",data:= .seq its.toArray},toks:=t'}:=
 I.laid (fun _ _ q=>Ji _ q) (Jf _) ⟨hz,its,0,hv,Jp _ rfl⟩
theorem Gi.fresh(I:Gi X tx σ H s):H s.heap.objs.size=none:=I.hok.fresh (Jf _)
theorem Gi.lstM(I:Gi X tx σ H s)(hH:H l=some (.lst xs)):xs.length<=sizeLine/\∃(its:List Value) (n:Nat),Gk xs its/\xs.length=its.length/\s.heap.get? l=some {cls:= .type "list",data:= .seq its.toArray n}:=by
 obtain⟨z,its,n,r,e⟩:=I.hok l _ hH
 exact⟨z,its,n,r,r.length,e⟩
theorem vy{n:Nat}(h:n<=sizeLine):Builtin.List.listTooLong n=false:=by
 unfold Builtin.List.listTooLong;exact Jn (by lia)
end
section
variable{X:Cx}
def oE:V->List V->Hp->VK->Prop:=fun x vs H Q=>∃l xs y,x= .ref l/\vs=[y]/\H l=some (.lst xs)/\xs.length<sizeLine/\Q .non (Gh H l (.lst (xs++[y])))
theorem rM:Bg X "list.append" oE:=by
 intro tx s σ H x vs v us Q I rx rv h;obtain⟨l,xs,y,rfl,rfl,hH,hz,q⟩:=h;cases rx;obtain⟨u,rfl,ru⟩:=rv.one;obtain⟨z,its,n,r,hl,e⟩:=I.lstM hH;refine E4 F.slot_list_append ⟨_,e,rfl⟩ F.entry_list_append (F.args_list_append_2 _ _) (PySem.list_append l its.toArray n u (by rw[Jr];lia)) ⟨e,?_⟩
 refine⟨.non,_,I.lset (its':=its++[u]) hH e (by simp) (r.append (.cons ru .nil)) ?_,rfl,q⟩
 rw[JD,EG];lia
def t9:V->List V->Hp->VK->Prop:=fun x vs H Q=>∃l xs i k y,x= .ref l/\vs=[.int i]/\H l=some (.lst xs)/\ -(2 ^ 63)<=i/\i<2 ^ 63/\seqIndex? i xs.length=some k/\xs[k]? =some y/\Q y (Gh H l (.lst (xs.eraseIdx k)))
theorem wK:Bg X "list.pop" t9:=by
 intro tx s σ H x vs v us Q I rx rv h;obtain⟨l,xs,i,k,y,rfl,rfl,hH,h1,h2,hk,hy,q⟩:=h;cases rx;obtain⟨u,rfl,ru⟩:=rv.one;obtain⟨t,rfl⟩:=ru;obtain⟨z,its,n,r,hl,e⟩:=I.lstM hH;obtain⟨w,hw,rw'⟩:=r.get hy;refine E4 F.slot_list_pop ⟨_,e,rfl⟩ F.entry_list_pop (F.args_list_pop_2 _ _)
  (MeetsSeq.list_pop_at l its.toArray n i t k w (fitsIndex_both h1 h2) (by rw[Jr,<- hl];exact hk) (by rw[<- Array.getElem?_toList];exact hw) (by rw[Jr];lia)) ⟨e,?_⟩
 refine⟨y,_,I.lset (its':=its.eraseIdx k) hH e ?_ (r.eraseIdx k) ?_,rw',q⟩
 ·show its.toArray.eraseIdxIfInBounds k=(its.eraseIdx k).toArray
  rw[List.eraseIdxIfInBounds_toArray]
 ·have:=iz xs k
  lia
def lp:V->List V->Hp->VK->Prop:=fun x vs H Q=>∃l xs,x= .ref l/\vs=[]/\H l=some (.lst xs)/\Q .non (Gh H l (.lst xs.reverse))
theorem pJ:Bg X "list.reverse" lp:=by
 intro tx s σ H x vs v us Q I rx rv h;obtain⟨l,xs,rfl,rfl,hH,q⟩:=h;cases rx;have hus:=rv.zero;subst hus;obtain⟨z,its,n,r,hl,e⟩:=I.lstM hH;refine E4 F.slot_list_reverse ⟨_,e,rfl⟩ F.entry_list_reverse (F.args_list_reverse_1 _) (AutoSeq1.list_reverse_list_0 l its.toArray n (by rw[Jr];lia)) ⟨e,?_⟩
 refine⟨.non,_,I.lset (its':=its.reverse) hH e (by simp) r.reverse ?_,rfl,q⟩
 rw[List.length_reverse];lia
def DC:R2:=fun x y H Q=>∃l k xs,x= .ref l/\y= .int k/\H l=some (.lst xs)/\ -(2 ^ 63)<=k/\k<2 ^ 63/\xs.length*k.toNat<=sizeLine/\
 ∀p,H p=none->Q (.ref p) (Gh H p (.lst (List.replicate k.toNat xs).flatten))
theorem Aj{α:Type}(xs:List α)(k:Nat):(List.replicate k xs).flatten.length=k*xs.length:=by
 induction k with
 |zero=>simp
 |succ k ih=>rw[Fi,FK,JD,ih,Nat.succ_mul,Nat.add_comm]
theorem ux:zw X (binaryOp .Mult) DC:=by
 intro tx s σ H x y v u Q I rx ry h;obtain⟨l,k,xs,rfl,rfl,hH,h1,h2,hz,q⟩:=h;cases rx;obtain⟨t,rfl⟩:=ry;obtain⟨z,its,n,r,hl,e⟩:=I.lstM hH;have hlen:its.toArray.size*k.toNat<=sizeLine:=by rw[Jr,<- hl];exact hz
 have hcap:¬its.toArray.size*k.toNat>(2 ^ 63-1)/8:=by
  have:(sizeLine:Nat)<=(2 ^ 63-1)/8:=by decide
  lia
 have hfit:¬(!Builtin.List.listFitsIndex k)=true:=by
  rw[fitsIndex_both h1 h2];exact JP
 have hlong:¬Builtin.List.listTooLong (its.toArray.size*k.toNat)=true:=by
  rw[vy hlen];exact JP
 have hnew:List.foldl (fun x1 x2=>x1++x2) #[] (List.replicate (if its.toArray.isEmpty=true then 0 else k.toNat) its.toArray)=(List.replicate k.toNat its).flatten.toArray:=by
  have f0:∀m:Nat,List.foldl (fun x1 x2=>x1++x2) #[] (List.replicate m its.toArray)=(List.replicate m its).flatten.toArray:=fun m=>by
   have:=ji its m []
   rw[List.nil_append]at this;exact this
  rw[f0];cases its with
  |nil=>simp
  |cons a r'=>rw[Jd (by simp)]
 refine wpAny_binaryOp_repeat_ref (T:="list") (U:="int") (by decide) ⟨_,e,rfl⟩ (fun s'=>typeIs_int s' k t) noFill_list_mul F.fills_int_mul F.slot_int_rmul repeat_list F.slot_int_index.lookup
  (E4 F.slot_int_rmul (typeIs_int s k t) F.entry_int_rmul (F.args_int_rmul_2 _ _) (int___rmul___int_list k t l its.toArray n)
   ⟨e,rfl,⟨_,e,rfl⟩,E4 F.slot_list_mul ⟨_,e,rfl⟩ F.entry_list_mul (F.args_list_mul_2 _ _) (AutoListH.list___mul___list_int_3 l its.toArray n k t hfit hcap hlong) ⟨e,?_⟩⟩)
 rw[hnew]
 exact⟨.ref _,_,I.lnew (t':=s.toks) (r.rep k.toNat) (by rw[Aj,Nat.mul_comm];exact hz),rfl,q _ I.fresh⟩
end
end L2
namespace Att
open PySem PySem.W PySem.Calls PyProof.Rows
theorem gj{P:Params}{h:Heap}:∀(ns:List Int) (vs:List Value),WellAll P h vs (ns.map WData.int)->IntsAre vs ns:=by
 intro ns
 induction ns with
 |nil=>
  intro vs w;rw[Ft]at w;cases w;exact .nil
 |cons n ns ih=>
  intro vs w;rw[JQ]at w;cases w with
  |cons a b=>
   cases a;exact .cons _ _ (ih _ b)
theorem tD{l:OpenLaw}{n:Nat}(hn:l.most=some n){P:Params}{h:Heap}{args:List WData}{vals:List Value}
  (hpre:l.row.toRowW.claim.pre args=true)(hwl:WellAll P h vals args):
  ∃a vs ns,vals=[Value.ref a]/\args=[WData.list (ns.map WData.int)]/\h.get? a=some {cls:= .type "list",data:= .seq vs.toArray}/\IntsAre vs ns/\ns.length<=n:=by
 have hsh:WShape.hasAll [] args [.list .int]=true:=(pre_splitW hpre).1
 have hc:l.pre.holds [] {args:=args}=true:=(pre_splitW hpre).2
 obtain⟨d,r,rfl,h1,h2⟩:=hasAllW_cons hsh
 obtain rfl:=hasAllW_nil h2
 obtain⟨xs,rfl,h3⟩:=hasW_list h1;obtain⟨ns,rfl⟩:=items_int h3;have hlen:ns.length<=n:=by
  unfold OpenLaw.pre at hc;have h4:(WTm.not (.lt (.lit (.int (n:Int))) (.len (.arg 0)))).holds [] {args:=[.list (ns.map .int)]}=true:=by
   have h4:=(holds_andW hc).1;rw[hn]at h4;exact h4
  have h5:=condW_of h4 (w_not (w_lt w_lit (w_len_list (w_arg rfl))));rw[Je]at h5;refine Fu fun q=>?_
  have q':(n:Int)<((ns.length:Nat):Int):=by lia
  first
   |(rw[Jg q']at h5;exact absurd h5 (by decide))
   |(simp at h5;lia)
 cases hwl with
 |cons w1 w2=>
  cases w2;cases w1 with
  |list ho hall=>exact⟨_,_,ns,rfl,rfl,ho,gj ns _ hall,hlen⟩
theorem uO(l:OpenLaw)(args:List WData):l.row.toRowW.claim.post args (.bool true) args=true:=
 postW_of (r:=l.row.toRowW) (X:=(true==true))
  (show WShape.has [] (.bool true) .bool=true by first|rfl|decide|simp [WShape.has,WShape.arms,WShape.armsAll])
  (show(WTm.eq .res (.lit (.bool true))).value [] {args:=args,res:=some (.bool true),after:=args}=some (.bool (true==true))from w_eq_bool (w_res rfl) w_lit) rfl
theorem attach_call{l:OpenLaw}{n:Nat}{q:Program}{loose:List Str}{XP:(Str->Option Value)->Heap->Prop}{YP:World->Heap->Prop}{d:DefRec}
  (hn:l.most=some n)(hdf:d.params.defaults=[])
  (call:∀(w:World) (s₀ s₁:Shared) (mg mb:Gc) (fa:Addr) (o:Obj) (pm cd doc:Value) (a:Addr) (vs:List Value) (ns:List Int),
   Ground q loose [] XP w s₀ mg mb s₁.heap->YP w s₁.heap->
   s₁.heap.get? fa=some o->o.data= .func (docDef d.name d.params d.body d.scope pm cd doc)->s₁.heap.CodeRec cd d.name->mg d.name=some (.ref fa)->
   s₁.heap.get? a=some {cls:= .type "list",data:= .seq vs.toArray}->IntsAre vs ns->ns.length<=n->s₁.gens= #[]->
   codeAny (model l.prog w) callerA (.call (.ref fa) ⟨[.ref a],[]⟩) (fun r s'=>r= .ok (.ret (.bool true))/\OldK s₁.heap s'.heap/\s'.os=s₁.os/\AllBare s'.gens) s₁):
  WalkO q loose XP YP l.row.toRowW d [] (fun f vs=>PySem.call f vs):=by
 intro w s₀ s₁ mg mb G Y fa o pm cd doc dV kV ho hd hcd hD hmg hg args vals as hpre hlay hrd hwl hlo
 obtain rfl:dV= .none:=Dflts.none hD hdf
 obtain rfl:kV= .none:=Dflts.noKw hD
 obtain⟨a,vs,ns,rfl,rfl,hobj,hints,hlen⟩:=tD hn hpre hwl;refine enter_call (E1 (call w s₀ s₁ mg mb fa o pm cd doc a vs ns G Y ho (fd_plain hd) hcd hmg hobj hints hlen hg) fun r s' hq=>?_)
 obtain⟨rfl,h2,h3,h4⟩:=hq
 exact⟨.inl ⟨.bool true,.bool true,[],rfl,fun _=>rfl,.bool true,uO l _,fun _=>⟨List.Pairwise.nil,fun _ hm=>(nomatch hm)⟩⟩,h2,h3,h4⟩
end Att
namespace L2
open PySem PySem.Spec PyProof.Rows
theorem cS:∀{vs:List Value} {ns:List Int},IntsAre vs ns->Gk (ns.map V.int) vs
 |_,_,.nil=> .nil
 |_,_,.cons n t h=> .cons ⟨t,rfl⟩ (cS h)
def vZ(H:Hp):Prop:=∀b,H b=none\/∃o xs,H b=some (.frz o (.lst xs))
theorem ww{P:Program}{w:World}{K:Frag}{mg mb:Gc}{CX:fu}{k:Nat}{fa a:Addr}{fd:FuncData}{x:Str}{sp:Sp}{s₁:Shared}{vs:List Value}{ns:List Int}
  (KX:K.In s₁.heap)(hns:s₁.heap.Ns mainGlobals mg)(hb:s₁.heap.Ns builtinsNs mb)(hbb:∀x:Str,x≠"__name__"->mb x=bootBuiltins x)(hlim:s₁.heap.NoLimit)(hg:s₁.gens= #[])
  (ha:s₁.heap.get? a=some {cls:= .type "list",data:= .seq vs.toArray})(hi:IntsAre vs ns)(hl:ns.length<=sizeLine)(hr:GA k callerA)
  (F:∀base:Heap,K.In base->base.Ns mainGlobals mg->HS P w K mg base CX k fa fd [x] sp)(hbind:∀(s:Shared) (u:Value),BindsTo s fd ⟨[u],[]⟩ [(x,u)])
  (hsp:∀H:Hp,vZ H->Gq K H a (ns.map V.int)->sp [.ref a] H (fun v _=>v= .bl true) fun _ _ _=>False)
  (hCX:∀H e s',CX [] H s₁ (fun _ _ _=>False) e s'->False):
  codeAny (model P w) callerA (.call (.ref fa) ⟨[.ref a],[]⟩) (fun r s'=>r= .ok (.ret (.bool true))/\OldK s₁.heap s'.heap/\s'.os=s₁.os/\AllBare s'.gens) s₁:=by
 have rv:=cS hi;have lenV:=hi.length;have core:∀H:Hp,vZ H->Gq K H a (ns.map V.int)->HW P w H s₁.heap->(∀b,H b≠none->b=a)->(H a≠none->K.lookup a=none)->
   codeAny (model P w) callerA (.call (.ref fa) ⟨[.ref a],[]⟩) (fun r s'=>r= .ok (.ret (.bool true))/\OldK s₁.heap s'.heap/\s'.os=s₁.os/\AllBare s'.gens) s₁:=by
  intro H hO hS hok hA hK;have base_of:∀{b:Addr} {o:Obj},s₁.heap.get? b=some o->H b=none->(bM s₁.heap H).get? b=some o:=fun e n=>wk e n
  have noA:∀{b:Addr} {o:Obj} {es:Array DictEntry} {ep:Nat},s₁.heap.get? b=some o->o.data= .dict es ep->H b=none:=fun{b o es ep} e d=>by
   cases q:H b with
   |none=>rfl
   |some u=>
    have e':b=a:=hA b (by rw[q];simp)
    subst e';rw[ha]at e;cases e
    have d':Data.seq vs.toArray _=Data.dict es ep:=d
    cases d'
  have nsK:∀{b:Addr} {m:Gc},s₁.heap.Ns b m->(bM s₁.heap H).Ns b m:=fun{b m} ⟨o,es,ep,e,d,r⟩=>⟨o,es,ep,base_of e (noA e d),d,r⟩
  have hKb:K.In (bM s₁.heap H):=fun b o e=>base_of (KX b o e) (by
   cases q:H b with
   |none=>rfl
   |some u=>
    have e':b=a:=hA b (by rw[q];simp)
    subst e';rw[hK (by rw[q];simp)]at e;cases e)
  have hM:Ll K mg (bM s₁.heap H):=⟨hKb,nsK hns,⟨mb,nsK hb,hbb⟩,let⟨mc,h1,h2⟩:=hlim;⟨mc,nsK h1,h2⟩⟩
  have e0:II P w K mg (bM s₁.heap H) callerA [] s₁ H:=⟨rfl,hM,fun b o e=>yS e,FG (sZ _ _),trivial,fun b hb=>absurd (show b∈([]:List Addr)from hb) (by simp),hok,.of_eq hg⟩
  refine E1 ((F _ hKb (nsK hns)).run callerA [] s₁ H ⟨[.ref a],[]⟩ [.ref a] [.ref a] _ _ hr e0 (hbind s₁ (.ref a)) (.cons rfl .nil) (hsp H hO hS)) fun r s' h=>?_
  cases r with
  |error e=>exact(hCX H e s' h).elim
  |ok fl=>
   cases fl with
   |next=>exact False.elim h
   |brk=>exact False.elim h
   |cont=>exact False.elim h
   |ret u=>
    obtain⟨v,H',os,bare,un,hok',r',q⟩:=h;have q':v= .bl true:=q
    subst q'
    obtain rfl:u=Value.bool true:=r'
    refine⟨rfl,OldK.of_keep fun b o e=>?_,os,bare⟩
    cases q:H b with
    |none=>exact un.keep b o e q (by intro z;exact absurd (show b∈([]:List Addr)from z) (by simp)) (by simp)
    |some u=>
     rcases hO b with z|⟨ob,xs,z⟩
     ·rw[q]at z;cases z
     ·have z2:=un.frzs b ob _ z
      obtain⟨e1,_⟩:=hok b _ z;obtain⟨e2,_⟩:=hok' b _ z2;rw[e]at e1;cases e1
      exact e2
 cases hk:K.lookup a with
 |some o=>
  have e:=KX a o hk;rw[ha]at e;cases e;refine core (fun _=>none) (fun _=> .inl rfl) (.inr ⟨_,vs.toArray,_,hk,rfl,rfl,rfl,by rw[Jr,lenV];exact hl,by simpa using rv⟩) (fun b u z=>by have z':(none:Option HO)=some u:=z;cases z') (fun b z=>absurd rfl z) fun z=>absurd rfl z
 |none=>
  refine core (fun b=>if b=a then some (.frz {cls:= .type "list",data:= .seq vs.toArray} (.lst (ns.map V.int)))else none) (fun b=>?_) (.inl (.inr ⟨{cls:= .type "list",data:= .seq vs.toArray},Jc rfl⟩)) (fun b u z=>?_) (fun b z=>?_) fun _=>hk
  ·by_cases hb:b=a
   ·exact .inr ⟨_,_,Jc hb⟩
   ·exact .inl (Jd hb)
  ·by_cases hb:b=a
   ·have z':=(Jc hb).symm.trans z
    cases z';subst hb
    exact⟨ha,by rw[Je];exact hl,vs,_,rv,ha⟩
   ·have z':=(Jd hb).symm.trans z
    cases z'
  ·by_cases hb:b=a
   ·exact hb
   ·exact absurd (Jd hb) z
theorem yT{l:W.OpenLaw}{n k:Nat}{q:Program}{loose:List Str}{XP:(Str->Option Value)->Heap->Prop}{YP:World->Heap->Prop}{d:DefRec}{K:Params->Frag}{CX:World->fu}{sp:World->Sp}{x:Str}
  (hn:l.most=some n)(hn2:n<=sizeLine)(hdf:d.params.defaults=[])(hr:GA k callerA)
  (hY:∀(w:World) (h:Heap),YP w h->(K w.params).In h)
  (F:∀(w:World) (mg:Gc) (fa:Addr) (h:Heap),(K w.params).In h->h.Ns mainGlobals mg->mg d.name=some (.ref fa)->
   ∃fd:FuncData,(∀(s:Shared) (u:Value),BindsTo s fd ⟨[u],[]⟩ [(x,u)])/\
    ∀base:Heap,(K w.params).In base->base.Ns mainGlobals mg->HS l.prog w (K w.params) mg base (CX w) k fa fd [x] (sp w))
  (hsp:∀(w:World) (H:Hp) (a:Addr) (ns:List Int),ns.length<=n->vZ H->Gq (K w.params) H a (ns.map V.int)->sp w [.ref a] H (fun v _=>v= .bl true) fun _ _ _=>False)
  (hCX:∀(w:World) (H:Hp) (s:Shared) (e:Value) (s':Shared),CX w [] H s (fun _ _ _=>False) e s'->False):
  W.WalkO q loose XP YP l.row.toRowW d [] (fun f vs=>PySem.call f vs):=by
 refine Att.attach_call hn hdf fun w s₀ s₁ mg mb fa o pm cd doc a vs ns G Y ho hd hcd hmg hobj hints hlen hg=>?_
 have KX:=hY w _ Y;obtain⟨fd,hb,hF⟩:=F w mg fa _ KX G.T.g hmg;exact ww KX G.T.g G.T.b G.T.builtins G.T.nolimit hg hobj hints (JK hlen hn2) hr hF hb (fun H hO hS=>hsp w H a ns hlen hO hS) fun H e s'=>hCX w H s₁ e s'
def zy(s:Stmt)(j:Nat):Stmt:=match s with
 | .ClassDef _ _ _ body _ _ _ _ _ _ _=>body.getD j (.Pass ⟨0,0,0,0⟩)
 |_=> .Pass ⟨0,0,0,0⟩
def Qw(s:Stmt):Arguments:=match s with
 | .FunctionDef _ a _ _ _ _ _ _ _ _=>a
 |_=>{posonlyargs:=[],args:=[],vararg:=none,kwonlyargs:=[],kw_defaults:=[],kwarg:=none,defaults:=[]}
def zH(s:Stmt):List Stmt:=match s with
 | .FunctionDef _ _ b _ _ _ _ _ _ _=>b
 |_=>[]
def ql(s:Stmt):Scope:=match s with
 | .FunctionDef _ _ _ _ _ _ sc _ _ _=>sc
 |_=>{kind:= .function,names:=[],isGenerator:=false,isCoroutine:=false}
abbrev aJ:fu:=fun _ _ _ _ _ _=>False
abbrev E0:XK:=fun _ _ _=>False
theorem jL{X:Cx}:cR aJ X E0:=fun _ _ _ _ _ _ _ h=>h.elim
structure IM(K:Frag)(x Lo:Str)(st:Stmt)(f:Addr)(fd:FuncData):Prop where
 ex:∃(oc:Value) (od:Option Addr) (kV doc pm:Value) (an:Option Addr) (cdv ct:Value) (osl:Array (Option Value)),
  fd=PySem.W.fnOf x Lo (Qw st) (zH st) (ql st) .none kV doc pm an cdv ct/\K.lookup f=some ⟨oc,od,.func fd,osl⟩/\PySem.W.codeIn K cdv Lo=true
 kp:PySem.W.keepIn K (.ref f)=true
section
variable{P:Program}{w:World}{K:Frag}{mg:Gc}{base:Heap}
theorem IM.ok{x Lo:Str}{st:Stmt}{f:Addr}{fd:FuncData}{N ps:List Str}{k:Nat}{sp:Sp}(F:IM K x Lo st f fd)(S:Gf N ps (ql st))(len:∀vs H Q E,sp vs H Q E->vs.length=ps.length)
  (hbody:∀(cdv:Value) (A:Around) (outer:List Env) (s:Shared) (H:Hp) (vs:List V) (Q:VK) (E:XK),GA k (A.deeper (envOfC Lo (ql st) s.heap.objs.size f cdv))->sp vs H Q E->
   ∃t,IG (bh aJ P w K mg base N Lo (ql st) f cdv A outer s H E).nox (zH st) t/\t {nx:=fun _ H'=>Q .non H',rt:=Q} (Q1 N vs) H):HS P w K mg base aJ (k+1) f fd ps sp:=by
 obtain⟨oc,od,kV,doc,pm,an,cdv,ct,osl,rfl,lk,hcd⟩:=F.ex;refine CZ lk hcd S len fun A outer s H vs Q E hr hsp=>?_
 obtain⟨t,h,q⟩:=hbody cdv A outer s H vs Q E hr hsp
 exact⟨t,h.nox,q⟩
theorem IM.binds{x Lo:Str}{st:Stmt}{f:Addr}{fd:FuncData}{ps:List Str}(F:IM K x Lo st f fd)
  (h:∀(kV doc pm:Value) (an:Option Addr) (cdv ct:Value) (us:List Value),us.length=ps.length->bindArgs (W.fnOf x Lo (Qw st) (zH st) (ql st) .none kV doc pm an cdv ct) ⟨us,[]⟩=pure (ps.zip us)):HH K fd ps []:=by
 obtain⟨oc,od,kV,doc,pm,an,cdv,ct,osl,rfl,lk,hcd⟩:=F.ex;exact .all (h kV doc pm an cdv ct)
theorem lh{x Lo:Str}{st:Stmt}{f:Addr}{oc:Value}{od an:Option Addr}{osl:Array (Option Value)}{kV doc pm cdv ct:Value}(l:K.lookup f=some ⟨oc,od,.func (W.fnOf x Lo (Qw st) (zH st) (ql st) .none kV doc pm an cdv ct),osl⟩)
  (c:W.codeIn K cdv Lo=true)(k:W.keepIn K (.ref f)=true):IM K x Lo st f (W.fnOf x Lo (Qw st) (zH st) (ql st) .none kV doc pm an cdv ct):=⟨⟨oc,od,kV,doc,pm,an,cdv,ct,osl,rfl,l,c⟩,k⟩
end
theorem qW{A B:Prop}(h:B):if false=true then A else B:=by
 rw[Jd JP];exact h
theorem zf{A B:Prop}(h:A):if true=true then A else B:=by
 rw[Jc rfl];exact h
theorem q9{c A B:Prop} [Decidable c](h1:c->A)(h2:¬c->B):if c then A else B:=by
 by_cases h:c
 ·rw[Jc h]
  exact h1 h
 ·rw[Jd h]
  exact h2 h
theorem Z6{c A B:Prop} [Decidable c](hc:c)(h:B):if(!decide c)=true then A else B:=by
 rw[Jg hc];exact qW h
def Ge(H H':Hp):Prop:=∀b o,H b=some o->H' b=some o
theorem Ge.refl(H:Hp):Ge H H:=fun _ _ h=>h
theorem Ge.trans{H H1 H2:Hp}(a:Ge H H1)(b:Ge H1 H2):Ge H H2:=fun c o h=>b c o (a c o h)
theorem Ge.seq{K:Frag}{H H':Hp}{a:Addr}{xs:List V}(e:Ge H H')(h:Gq K H a xs):Gq K H' a xs:=by
 rcases h with(h|⟨o,h⟩)|h
 ·exact .inl (.inl (e _ _ h))
 ·exact .inl (.inr ⟨o,e _ _ h⟩)
 ·exact .inr h
end L2
namespace L3
open PySem PySem.Spec PyProof.Rows L2
def zK(X:Cx)(N:List Str)(scope:Scope)(cl:List (Str×Addr))(C:Addr)(s:Shared)(H:Hp)(fp:List Addr):Cx:=
 {X with N:=N,s₀:=s,H₀:=H,env:=compEnvC scope cl C X.env,outer:=X.stack,ex:=fp,fn:=fun _=>false,pn:=[],xe:=fun _ _=>False}
structure Hu(X:Cx)(scope:Scope)(fr:List Str)(js:List Nat):Prop where
 kind:scope.kind= .function
 names:∀x∈scope.names,x.2= .local->scope.names.lookup x.1=some .local
 nocell:∀x∈scope.names,x.2≠ .cell
 free:∀x∈scope.names,x.2= .free->x.1∈fr
 len:js.length=fr.length
 at_:∀(i j:Nat) (y:Str),js[i]? =some j->fr[i]? =some y->X.N[j]? =some y/\X.env.kindOf y=some .cell/\(relabel scope X.env).names.lookup y=some .cell
theorem zQ{α:Type}{y:Str}:∀{l:List (Str×α)},y∈l.map (·.1)->∃c,l.lookup y=some c
 | [],h=>by simp at h
 |(n,a)::r,h=>by
  cases e:y==n with
  |true=>exact⟨a,by simp [Ed,e]⟩
  |false=>
   have hr:y∈r.map (·.1):=by
    rcases Jk.mp h with z|z
    ·exact absurd z (by simpa using e)
    ·exact z
   obtain⟨c,hc⟩:=zQ hr
   exact⟨c,by simp [Ed,e,hc]⟩
def σ0(k:Nat)(js:List Nat)(σ:L2.St):L2.St:=List.replicate k none++js.map fun j=>(σ[j]?).join
def jK(k:Nat)(js:List Nat)(g:TG)(te:TE)(σ:L2.St)(Q:VK)(J:It)(H1:Hp):Prop:=∃W:Nat->Nat->List V->L2.St->Hp->Prop,(∃m,W 0 m [] (σ0 k js σ) H1)/\∀i m ys τ H,W i m ys τ H->
 (J.stop i H/\∀p,H p=none->Q (.ref p) (Gh H p (.lst ys)))\/(J.go i H/\ys.length<sizeLine/\∀x H',J.yld i H x H'->g x τ H' fun τ2 H2=>∃N:V->Hp->Prop,(∀v H3,N v H3->∃m',m'<m/\W (i+1) m' (ys++[v]) τ2 H3)/\te τ2 H2 N)
def gt(k:Nat)(js:List Nat)(wi:TI)(g:TG)(te:TE):TE:=fun σ H Q=>wi σ H (jK k js g te σ Q)
section
variable{prog:Program}{w:World}{A:Around}{R:Result->Shared->Prop}{s:Shared}
theorem lW{elt target iter:Expr}{scope:Scope}{pos:Pos}{it acc:Value}{env:Env}(I:Nat->Shared->Prop)
  (turn:∀n s,I n s->wpAny (model prog w) A (pyNext it) (fun r s₁=>match r with
   |none=>R (.ok .next) s₁
   | some v=>wpAny (model prog w) A (letOwnedTupleGo target it v) (fun _ s₁'=>wpAny (model prog w) A (assign target env v) (fun _ s₂=>wpAny (model prog w) A (eval elt env) (fun x s₃=>
     wpAny (model prog w) A (call (.builtin "list.append") [acc,x]) (fun _ s₄=>∃m,m<n/\I m s₄) (fun _ _=>False) s₃)
     (fun _ _=>False) s₂) (fun _ _=>False) s₁') (fun _ _=>False) s₁) (fun _ _=>False) s)
  (n:Nat)(h:I n s):
  codeAny (model prog w) A (.compLoop (.ListComp elt [⟨target,iter,[],0⟩] scope pos) 0 it acc env) R s:=by
 refine codeAny_loop rfl I (fun n s hI=>?_) n h
 show wpAny _ _ ((compTurn (.ListComp elt [⟨target,iter,[],0⟩] scope pos) 0 it acc env).onRaise (fun x=>do noteFrame x env;theTreesLotGoes x)) _ _ s
 refine wpAny_noted ?_
 rw[compTurn_list1];refine Ja (EF (Ja (JH (turn n s hI) (fun r s₁ h₁=>?_) fun _ _ h'=>h'.elim)))
 cases r with
 |none=>exact Jb h₁
 |some v=>
  refine Ja (JH h₁ (fun _ s₁' h₁'=>?_) fun _ _ h'=>h'.elim)
  exact Ja (JH h₁' (fun _ s₂ h₂=>Ja (Ja (JH h₂ (fun x s₃ h₃=>Ja (JH h₃
   (fun _ s₄ h₄=>Jb (Jb ⟨rfl,h₄⟩)) fun _ _ h'=>h'.elim)) fun _ _ h'=>h'.elim))) fun _ _ h'=>h'.elim)
end
variable{X:Cx}
structure Lh(X:Cx)(tx:Gd)(H:Hp)(C:Addr):Prop where
 free:H C=none
 loc:C≠X.env.locals
 new:X.s₀.heap.objs.size<=C
 cell:∀x c,X.env.cells.lookup x=some c->c≠C
 pin:∀p∈X.pn++tx,p.1≠C
theorem lG{elt tg iter:Expr}{scope:Scope}{cl:List (Str×Addr)}{pos fpos:Pos}{fr own:List Str}{js:List Nat}{wi:TI}{g:TG}{te:TE}{use:Option (Value->Sem Unit)}{Post:Gb}
  {tx:Gd}{s:Shared}{σ:L2.St}{H:Hp}{Q:VK}
  (hc:X.calm=true)(hi:PI X tg iter wi)(hclos:closureFor scope X.env=pure cl)(hcl:∀y c,cl.lookup y=some c->X.env.cells.lookup y=some c)(hfr:cl.map (·.1)=fr)
  (S:Hu X scope fr js)
  (hg:∀C s H fp,PG (zK X (own++fr) scope cl C s H fp) tg g)(he:∀C s H fp,PE (zK X (own++fr) scope cl C s H fp) elt te)
  (hs:∀x,foldedSetIterable iter X.env x=pure x)
  (I:L2.Gi X tx σ H s)(h:gt own.length js wi g te σ H Q)
  (hfin:∀(acc C:Addr) (s5:Shared) (H':Hp) (m:Gc),L2.Gi X tx σ H' s5->s5.heap.Ns C m->Lh X tx H' C->Q (.ref acc) H'->compPost (model X.prog X.w) X.A X.xe use Post (.ref acc) C (.ok .next) s5):
  wpAny (model X.prog X.w) X.A (comprehension (.ListComp elt [⟨tg,iter,[],0⟩] scope pos) scope X.env fpos (newList []) false (eval iter X.env) use) Post X.xe s:=by
 refine wpAny_comprehension_free (use:=use) rfl hs hclos S.kind S.names (qC (hi tx s σ H _ I h) fun v s1 h1=>qC h1 fun itv s2 h2=>?_)
 obtain⟨it,fp,tn,J,H2,e,I2,T,st2,f2,W,⟨m0,w0⟩,turn⟩:=h2;subst e;refine D9 (wpAny_newFunctionEnv S.nocell (by intro y hy;simp at hy) (fun h₁ hns₁ hsb₁=>?_) S.kind)
 dsimp only at hns₁ hsb₁⊢
 generalize hH2:s2.heap.push {cls:= .type "list",dict:=none,data:= .seq ([]:List Value).toArray}=G at hns₁ hsb₁⊢
 have hC:G.objs.size=s2.heap.objs.size+1:=by rw[<- hH2,JV]
 have hDC:s2.heap.objs.size≠G.objs.size:=by rw[hC];exact Jm (Ek _)
 have below:∀b,b<s2.heap.objs.size->b≠G.objs.size/\b≠s2.heap.objs.size:=fun b hb=>⟨by rw[hC];exact Jm (Ex hb),Jm hb⟩
 have old:∀b o,s2.heap.get? b=some o->h₁.get? b=some o:=fun b o e=>hsb₁.extBut b o (below b (Jh e)).1 (Ji _ (hH2▸Ji _ e))
 have hacc:h₁.get? s2.heap.objs.size=some {cls:= .type "list",data:= .seq ([]:List Value).toArray 0}:=hsb₁.extBut _ _ hDC (Ji _ (hH2▸Jp _ rfl))
 let Y:Cx:=zK X (own++fr) scope cl G.objs.size s2 H2 fp
 have fplt:∀b∈fp,b<s2.heap.objs.size:=fun b hb=>by obtain⟨o,e,_⟩:=T.obj _ _ st2 b hb;exact Jh e
 have okY:Y.Ok:=by
  refine⟨I2.ok.mod,S.kind,I2.ok.glob,I2.ok.blt,by show s2.heap.objs.size<=G.objs.size;lia,?_,?_,?_,I2.ok.hd,I2.ok.frames,.inl rfl,?_,I2.bs,JK I2.ok.bsz I2.sz,?_,?_,I2.stack,I2.stkFree⟩
  ·exact fun x y c e1 e2=>I2.ok.inj x y c (hcl x c e1) (hcl y c e2)
  ·intro x hx
   have hx':(relabel scope X.env).names.lookup x=some .cell\/(relabel scope X.env).names.lookup x=some .free:=hx
   have hm:∃k,(x,k)∈scope.names/\k= .free:=by
    have aux:∀kk:NameKind,(kk= .cell\/kk= .free)->(relabel scope X.env).names.lookup x=some kk->∃k,(x,k)∈scope.names/\k= .free:=by
     intro kk hk el;obtain⟨⟨n,k⟩,hmem,e⟩:=JB.mp (E2 el)
     dsimp only at e
     split at e
     ·rename_i hcond
      cases e;refine⟨k,hmem,?_⟩
      simp only[Jz,JZ]at hcond;exact hcond.1.1
     ·cases e
      rcases hk with z|z
      ·subst z;exact absurd rfl (S.nocell _ hmem)
      ·exact⟨_,hmem,z⟩
    rcases hx' with z|z
    ·exact aux _ (.inl rfl) z
    ·exact aux _ (.inr rfl) z
   obtain⟨k,hmem,hk⟩:=hm;exact zQ (l:=cl) (by rw[hfr];exact S.free _ hmem hk)
  ·exact fun x c e _=>nomatch e
  ·refine fun b hb=>⟨?_,fun x c e=>(f2 b hb).2.2.2.2.1 x c (hcl x c e)⟩
   show b≠G.objs.size
   exact(below b (fplt b hb)).1
  ·intro b o e hb
   rcases(f2 b hb).2.2.2.1 with z|z
   ·exact I2.ok.noex b o e z
   ·exact absurd (JJ (Jh e) (JK I2.ok.bsz z)) (JY _)
  ·intro b hb hf
   rcases Jk.mp (I2.stkSub b hf)with z|z
   ·exact(f2 b hb).2.1 z
   ·exact(f2 b hb).2.2.1 z
 have lenσ:(σ0 own.length js σ).length=(own++fr).length:=by unfold σ0;simp [S.len]
 have IY:Gi Y [] (σ0 own.length js σ) H2 {s2 with heap:=h₁,toks:=s2.toks+([]:List (Str×Value)).length}:=by
  refine⟨okY,rfl,I2.bare,Un.kept old,⟨_,hns₁,?_⟩,?_,?_,?_,fun p hp=>absurd (show p∈([]:Gd)from hp) (by simp),I2.hok.kept old,lenσ⟩
  ·intro i x v hN hv _
   have hN':(own++fr)[i]? =some x:=hN
   unfold σ0 at hv
   by_cases hlt:i<own.length
   ·rw[D8 (by simpa using hlt),List.getElem?_replicate]at hv
    split at hv<;>cases hv
   ·rw[DY (by simpa using Fu hlt),FV,Jo]at hv
    rw[DY (Fu hlt)]at hN';cases ej:js[i-own.length]? with
    |none=>rw[ej]at hv;cases hv
    |some j=>
     rw[ej]at hv;have hσ:σ[j]? =some (some v):=by
      have hv':(σ[j]?).join=some v:=Jy hv
      cases q:σ[j]? with
      |none=>rw[q]at hv';cases hv'
      |some o=>rw[q]at hv';have:o=some v:=hv';rw[this]
     obtain⟨hNj,hk,hkr⟩:=S.at_ _ j x ej hN';obtain⟨m,hn,hl⟩:=I2.loc;obtain⟨u,ru,lk⟩:=hl j x v hNj hσ (.inr (.inl hk))
     refine⟨u,ru,.inr ?_⟩
     rcases lk with⟨k1,_⟩|⟨_,c,ec,ic⟩
     ·rw[hk]at k1;cases k1
     ·obtain⟨c',hc'⟩:=zQ (y:=x) (l:=cl) (by rw[hfr];exact DV hN')
      have:c'=c:=by have:=hcl x c' hc';rw[ec]at this;exact(Jy this).symm
      subst this;refine⟨?_,c',hc',?_⟩
      ·show(relabel scope X.env).names.lookup x=some .cell\/(relabel scope X.env).names.lookup x=some .free
       exact .inl hkr
      ·obtain⟨oc,hoc,hd⟩:=ic
       exact⟨oc,old _ _ hoc,hd⟩
  ·intro x c e
   obtain⟨v,oc,hoc,hd⟩:=I2.cell x c (hcl x c e)
   exact⟨v,oc,old _ _ hoc,hd⟩
  ·exact I2.hok.fresh (by show s2.heap.objs.size<=G.objs.size;lia)
  ·exact fun x c e=>I2.freeC x c (hcl x c e)
 have accfs:s2.heap.objs.size∉bF X.stack:=fun hf=>by
  rcases Jk.mp (I2.stkSub _ hf)with z|z
  ·exact absurd (by rw[<- z];exact Jf _:s2.heap.objs.size<=X.env.locals) (Nat.not_le.mpr I2.lt)
  ·exact I2.nofs (Jf _) z
 have acccell:∀x c,cl.lookup x=some c->c≠s2.heap.objs.size:=fun x c e z=>by
  obtain⟨v,oc,hoc,_⟩:=I2.cell x c (hcl x c e)
  exact absurd (Jh hoc) (by rw[z];exact JY _)
 have fpY:∀{H':Hp} {pl:Gd},(∀b∈fp,H' b=none)->(∀p∈pl,p.1=s2.heap.objs.size)->∀b∈fp,Zt Y pl H' b:=fun{H' pl} hn hp b hb=>
  ⟨hn b hb,(below b (fplt b hb)).1,okY.exfs b hb,.inl hb,fun x c e=>(f2 b hb).2.2.2.2.1 x c (hcl x c e),fun p hpp=>by
   have hpp':p∈pl:=by simpa [Y,zK]using hpp
   rw[hp p hpp'];exact Ne.symm (below b (fplt b hb)).2⟩
 have loop:∀s₃:Shared,Gi Y [] (σ0 own.length js σ) H2 s₃->tn 0 s₃.heap->s₃.heap.get? s2.heap.objs.size=some {cls:= .type "list",data:= .seq ([]:List Value).toArray 0}->
   codeAny (model X.prog X.w) X.A (.compLoop (.ListComp elt [⟨tg,iter,[],0⟩] scope pos) 0 (.ref it) (.ref s2.heap.objs.size) (compEnvC scope cl G.objs.size X.env))
    (compPost (model X.prog X.w) X.A X.xe use Post (.ref s2.heap.objs.size) G.objs.size) s₃:=by
  intro s₃ I3 st3 ha3;refine lW (fun n s'=>∃i ys τ H' its k,Gi Y [(s2.heap.objs.size,{cls:= .type "list",data:= .seq its.toArray k})] τ H' s'/\tn i s'.heap/\(∀b∈fp,H' b=none)/\Gk ys its/\ys.length<=sizeLine/\W i n ys τ H') ?_ m0 ?_
  ·rintro n s4 ⟨i,ys,τ,H4,its,k,I4,st4,fr4,vl,hz,w4⟩
   have pin4:=I4.pin (s2.heap.objs.size,{cls:= .type "list",data:= .seq its.toArray k}) (by simp [Y,zK])
   rcases turn i n ys τ H4 w4 with⟨stop,qn⟩|⟨go,hlt,step⟩
   ·refine qC (T.done Y rfl rfl rfl hc i _ s4 τ H4 _ I4 (fpY fr4 (by simp)) st4 stop) fun r s5 zq=>?_
    obtain⟨hr,I5⟩:=zq;subst hr
    show compPost _ _ _ _ _ _ _ _ _
    obtain⟨m5,hn5,_⟩:=I5.loc;have pin5:=I5.pin (s2.heap.objs.size,{cls:= .type "list",data:= .seq its.toArray k}) (by simp [Y,zK])
    have nacc:H4 s2.heap.objs.size=none:=pin5.2.1
    have B:=I5.base;have nC:H4 G.objs.size=none:=I5.free
    refine hfin s2.heap.objs.size G.objs.size s5 (Gh H4 s2.heap.objs.size (.lst ys)) m5 ?_ hn5 ?_ (qn _ nacc)
    ·refine I2.call' (s':=s5) (ch:=fp) I5.os ⟨B.keep,B.slot,fun b o e n hx=>?_,B.there,fun b xs e=>?_,fun b o u e=>?_,fun b ps e=>?_⟩ ?_ I5.bare ?_
     ·rw[qi (below b (Jh e)).2];exact B.free b o e n hx
     ·have e1:=B.tups b xs e
      rw[qi (qo e1 nacc)];exact e1
     ·have e1:=B.frzs b o u e
      rw[qi (qo e1 nacc)];exact e1
     ·obtain⟨more,e1⟩:=B.tbls b ps e
      exact⟨more,by rw[qi (qo e1 nacc)];exact e1⟩
     ·intro b u e
      by_cases hb:b=s2.heap.objs.size
      ·subst hb
       rw[qc]at e;cases e
       exact⟨hz,its,k,vl,pin5.1⟩
      ·rw[qi hb]at e
       exact(I5.hok b u e).stay (fun c v _ q=>q) (fun c q=>by rw[qi (qo q nacc)];exact q) fun c xs q=>by rw[qi (qo q nacc)];exact q
     ·exact fun b hb=>⟨(f2 b hb).2.2.2.1,(f2 b hb).2.1,(f2 b hb).2.2.2.2.1,(f2 b hb).2.2.2.2.2⟩
    ·have hge:s2.heap.objs.size<=G.objs.size:=by lia
     refine⟨by rw[qi (Ne.symm hDC)];exact nC,?_,JK I2.sz hge,fun x c e z=>?_,fun p hp z=>?_⟩
     ·exact JX (JJ I2.lt hge)
     ·obtain⟨v,oc,hoc,_⟩:=I2.cell x c e
      exact absurd (JJ (Jh hoc) hge) (by rw[z];exact JY _)
     ·exact absurd (JJ (Jh (I2.pin p hp).1) hge) (by rw[z];exact JY _)
   ·refine qC (T.item Y rfl rfl rfl hc i _ s4 τ H4 _ I4 (fpY fr4 (by simp)) st4 go) fun r s5 zq=>?_
    obtain⟨u,hr,h5⟩:=zq;subst hr;refine qC h5 fun _ s6 zq=>?_
    obtain⟨x,H6,I6,r6,y6,st6,fr6⟩:=zq;have I6':=I6.pinned (fpY fr6 (by simp)) (T.obj _ _ st6)
    refine qC (hg _ _ _ _ _ s6 τ H6 x u _ I6' r6 (step x H6 y6)) fun _ s7 zq=>?_
    obtain⟨τ7,H7,I7,N,hN,q7⟩:=zq;refine qC (he _ _ _ _ _ s7 τ7 H7 _ I7 q7) fun v' s8 zq=>?_
    obtain⟨y,H8,I8,r8,n8⟩:=zq;obtain⟨m',hm',w8⟩:=hN _ _ n8;have pin8:=I8.pin (s2.heap.objs.size,{cls:= .type "list",data:= .seq its.toArray k}) (by simp [zK])
    have pinfp:∀b∈fp,∀o,s6.heap.get? b=some o->s8.heap.get? b=some o/\H8 b=none:=fun b hb o e=>by
     have:=I8.pin (b,o) (DX _ (DX _ (Zi hb e)))
     exact⟨this.1,this.2.1⟩
    refine wpAny_list_append_plain (items:=its.toArray) ⟨k,pin8.1⟩ (fun h' ha' hs'=>?_) (by have:=vl.length;simp;lia)
    obtain⟨k',ha'⟩:=ha';have I9:Gi Y [] τ7 H8 {s8 with heap:=h'}:=by
     refine(I8.pins_of (pins':=[]) (by simp)).turned (t':=s8.toks) (it:=s2.heap.objs.size) (fun b o hb e=>(hs'.2 b hb).trans e) pin8.2.1 ?_ (.inr (Jf _)) (fun x c e=>acccell x c e) (fun p hp=>absurd (show p∈([]:Gd)from by simpa [Y,zK]using hp) (by simp))
     exact hDC
    have ea:(its.toArray.push v')=(its++[v']).toArray:=by simp
    rw[ea]at ha';refine⟨m',hm',i+1,ys++[y],τ7,H8,its++[v'],k',I9.pins_of ?_,T.keep _ _ _ st6 fun b hb o e=>(hs'.2 b (below b (fplt b hb)).2).trans (pinfp b hb o e).1,fun b hb=>?_,vl.append (.cons r8 .nil),?_,w8⟩
    ·intro p hp
     rw[Jl.mp hp]
     exact⟨ha',pin8.2.1,hDC,accfs,fun v z=>by cases z⟩
    ·obtain⟨o,e,_⟩:=T.obj _ _ st6 b hb
     exact(pinfp b hb o e).2
    ·rw[JD,EG];lia
  ·refine⟨0,[],σ0 own.length js σ,H2,[],0,I3.pins_of ?_,st3,fun b hb=>(f2 b hb).1,.nil,JI _,w0⟩
   intro p hp;rw[Jl.mp hp]
   exact⟨ha3,I2.hok.fresh (Jf _),hDC,accfs,fun v z=>by cases z⟩
 have st1:tn 0 h₁:=T.keep _ _ _ st2 fun b _ o e=>old b o e
 exact codeAny_compStart_list (loop _ IY st1 hacc) (T.self _ 0 _ _ _ st1 (loop _ IY st1 hacc))
theorem Ao{elt tg iter:Expr}{scope:Scope}{cl:List (Str×Addr)}{pos:Pos}{fr own:List Str}{js:List Nat}{wi:TI}{g:TG}{te:TE}
  (hc:X.calm=true)(hi:PI X tg iter wi)(hclos:closureFor scope X.env=pure cl)(hcl:∀y c,cl.lookup y=some c->X.env.cells.lookup y=some c)(hfr:cl.map (·.1)=fr)
  (S:Hu X scope fr js)
  (hg:∀C s H fp,PG (zK X (own++fr) scope cl C s H fp) tg g)(he:∀C s H fp,PE (zK X (own++fr) scope cl C s H fp) elt te)
  (hs:∀x,foldedSetIterable iter X.env x=pure x:=by intro _;rfl):
  PE X (.ListComp elt [⟨tg,iter,[],0⟩] scope pos) (gt own.length js wi g te):=by
 intro tx s σ H Q I h;rw[eval_ListComp];refine lG (use:=none) hc hi hclos hcl hfr S hg he hs I h fun acc C s5 H' m I5 hn aw q=>?_
 exact⟨m,hn,fun h' hs'=>⟨.ref acc,H',I5.turned (t':=s5.toks) (fun b o hb e=>(hs'.2 b hb).trans e) aw.free aw.loc (.inr aw.new) aw.cell aw.pin,rfl,q⟩⟩
theorem yz{elt tg iter:Expr}{scope:Scope}{cl:List (Str×Addr)}{pos spos py:Pos}{fr own:List Str}{js:List Nat}{wi:TI}{g:TG}{te:TE}{i:Nat}{y:Str}
  (hN:X.N.Nodup)(hi':X.N[i]? =some y)(hx:iN X.env.scope y)
  (hc:X.calm=true)(hi:PI X tg iter wi)(hclos:closureFor scope X.env=pure cl)(hcl:∀y c,cl.lookup y=some c->X.env.cells.lookup y=some c)(hfr:cl.map (·.1)=fr)
  (S:Hu X scope fr js)
  (hg:∀C s H fp,PG (zK X (own++fr) scope cl C s H fp) tg g)(he:∀C s H fp,PE (zK X (own++fr) scope cl C s H fp) elt te)
  (hs:∀x,foldedSetIterable iter X.env x=pure x:=by intro _;rfl)(hsw:swapsWith (.ListComp elt [⟨tg,iter,[],0⟩] scope pos) (some (.Name y py)) spos.line X.env=pure true:=by rfl)
  (hf:X.fn y=true\/X.env.scope.names.lookup y=some .local:=by first|exact .inl rfl|exact .inr rfl|assumption):
  PS X (.Assign [.Name y py] (.ListComp elt [⟨tg,iter,[],0⟩] scope pos) spos) (gO (gt own.length js wi g te) (QN i)):=by
 intro tx s σ H D I h;rw[exec_Assign_Name_used _ _ _ _ hsw];refine Ja (EF (Ja ?_))
 show wpAny _ X.A (do let _ <- comprehension (.ListComp elt [⟨tg,iter,[],0⟩] scope pos) scope X.env _ (newList []) false (eval iter X.env) (some (assign (.Name y py) X.env))) _ _ s
 refine Ja (JH (lG (use:=some (assign (.Name y py) X.env)) (Post:=fun _ s'=>SP X tx D .next s') hc hi hclos hcl hfr S hg he hs I h ?_) (fun _ s' hq=>Jb (Jb hq)) fun _ _ e=>e)
 intro acc C s5 H' m I5 hn aw q
 show wpAny _ X.A (assign (.Name y py) X.env (.ref acc)) _ _ _
 refine wpAny_assign_Name (iG (v:= .ref acc) I5 hN hi' hx rfl (fun s6 I6 zq=>?_) hf)
 obtain⟨a,hs6,ha⟩:=zq;have hCa:C≠a:=by
  rcases ha with z|z
  ·rw[z];exact aw.loc
  ·exact Ne.symm (aw.cell _ _ z)
 refine⟨m,hn.sameBut hs6 hCa,fun h' hs'=>?_⟩
 exact⟨_,H',I6.turned (t':=s6.toks) (fun b o hb e=>(hs'.2 b hb).trans e) aw.free aw.loc (.inr aw.new) aw.cell aw.pin,q⟩
section
variable{js:List Nat}{te:TE}{σ:L2.St}{H:Hp}{Q:VK}{K:Frag}
abbrev ZH(js:List Nat)(σ:L2.St):L2.St:=js.map fun j=>(σ[j]?).join
abbrev gz(J:It)(js:List Nat)(te:TE)(σ:L2.St)(H1:Hp)(Q:VK):Prop:=jK 1 js (QN 0) te σ Q J H1
theorem cn{J:It}{n:Nat}(hn:n<=sizeLine)(item:Nat->V->Prop)(Pv:Nat->List V->Hp->Prop)(h0:Pv 0 [] H)(hgo:∀i ys H,i<n->Pv i ys H->J.go i H)(hst:∀ys H,Pv n ys H->J.stop n H)
  (hy:∀i ys H x H',i<n->Pv i ys H->J.yld i H x H'->H'=H/\item i x)
  (hs:∀i ys H x,i<n->ys.length=i->Pv i ys H->item i x->te (some x::ZH js σ) H fun v H3=>Pv (i+1) (ys++[v]) H3)
  (hd:∀ys H,ys.length=n->Pv n ys H->∀p,H p=none->Q (.ref p) (Gh H p (.lst ys))):gz J js te σ H Q:=by
 refine⟨fun i m ys τ H=>m=n-i/\i<=n/\ys.length=i/\Pv i ys H/\∃o,τ=o::ZH js σ,⟨n,by simp,JI _,rfl,h0,none,rfl⟩,?_⟩
 rintro i m ys τ H ⟨rfl,hi,hl,p,o,rfl⟩
 by_cases hlt:i<n
 ·refine .inr ⟨hgo i ys H hlt p,by lia,fun x H' y=>?_⟩
  obtain⟨e,hx⟩:=hy i ys H x H' hlt p y;subst e
  exact⟨fun v H3=>Pv (i+1) (ys++[v]) H3,fun v H3 p3=>⟨n-(i+1),by lia,rfl,hlt,by simp [hl],p3,_,rfl⟩,hs i ys _ x hlt hl p hx⟩
 ·have e:i=n:=by lia
  subst e;exact .inl ⟨hst ys H p,hd ys H hl p⟩
theorem aX{a:Addr}{xs:List V}(hn:xs.length<=sizeLine)(Pv:Nat->List V->Hp->Prop)(h0:Pv 0 [] H)(hl:∀i ys H,Pv i ys H->Gq K H a xs)
  (hs:∀i ys H x,xs[i]? =some x->ys.length=i->Pv i ys H->te (some x::ZH js σ) H fun v H3=>Pv (i+1) (ys++[v]) H3)
  (hd:∀ys H,ys.length=xs.length->Pv xs.length ys H->∀p,H p=none->Q (.ref p) (Gh H p (.lst ys))):gz (i8 K a) js te σ H Q:=
 cn hn (fun i x=>xs[i]? =some x) Pv h0 (fun i ys H hi p=>⟨xs,xs[i],hl _ _ _ p,by simp [hi]⟩) (fun ys H p=>⟨xs,hl _ _ _ p,Jf _⟩) (fun i ys H x H' _ p y=>⟨y.1,y.2 xs (hl _ _ _ p)⟩) (fun i ys H x _ hl p hx=>hs i ys H x hx hl p) hd
theorem aM{a:Addr}{xs:List V}(hn:xs.length<=sizeLine)(Pv:Nat->List V->Hp->Prop)(h0:Pv 0 [] H)(hl:∀i ys H,Pv i ys H->Gu K H a xs)
  (hs:∀i ys H x,xs[i]? =some x->ys.length=i->Pv i ys H->te (some x::ZH js σ) H fun v H3=>Pv (i+1) (ys++[v]) H3)
  (hd:∀ys H,ys.length=xs.length->Pv xs.length ys H->∀p,H p=none->Q (.ref p) (Gh H p (.lst ys))):gz (iP K a) js te σ H Q:=
 cn hn (fun i x=>xs[i]? =some x) Pv h0 (fun i ys H hi p=>⟨xs,xs[i],hl _ _ _ p,by simp [hi]⟩) (fun ys H p=>⟨xs,hl _ _ _ p,Jf _⟩) (fun i ys H x H' _ p y=>⟨y.1,y.2 xs (hl _ _ _ p)⟩) (fun i ys H x _ hl p hx=>hs i ys H x hx hl p) hd
theorem Z5{lo:Int}{n:Nat}(hn:n<=sizeLine)(Pv:Nat->List V->Hp->Prop)(h0:Pv 0 [] H)
  (hs:∀i ys H,i<n->ys.length=i->Pv i ys H->te (some (.int (lo+i))::ZH js σ) H fun v H3=>Pv (i+1) (ys++[v]) H3)
  (hd:∀ys H,ys.length=n->Pv n ys H->∀p,H p=none->Q (.ref p) (Gh H p (.lst ys))):gz (iy lo n) js te σ H Q:=
 cn hn (fun i x=>x= .int (lo+i)) Pv h0 (fun i ys H hi p=>hi) (fun ys H p=>Jf _) (fun i ys H x H' _ p y=>y) (fun i ys H x hi hl p hx=>by subst hx;exact hs i ys H hi hl p) hd
end
end L3
namespace L3
open PySem PySem.Spec PyProof.Rows L2
section
variable{X:Cx}{tx:Gd}{σ:L2.St}{H:Hp}{s:Shared}
theorem eO{h':Heap}{t':Nat}{ch:List Addr}{a:Addr}{xs:List V}{its:List Value}(I:L2.Gi X tx σ H s)(k:∀b o,b∉ch->s.heap.get? b=some o->h'.get? b=some o)(hch:∀b∈ch,Zt X tx H b)
  (ho:∀b∈ch,∃o,h'.get? b=some o)(ha:s.heap.objs.size<=a)(hz:xs.length<=sizeLine)(hv:Gk xs its)(ht:IsTup h' a its.toArray):L2.Gi X tx σ (Gh H a (.tup xs)) {s with heap:=h',toks:=t'}:=by
 have na:H a=none:=I.hok.fresh ha
 have nlt:∀b o,s.heap.get? b=some o->b≠a:=fun b o e=>Jm (JJ (Jh e) ha)
 have nch:∀b u,H b=some u->b∉ch:=fun b u e z=>by rw[(hch b z).1]at e;cases e
 refine I.step (g':=s.gens) (d':=s.drawn) (ch:=ch) (fun b hb=>⟨(hch b hb).2.2.2.1,(hch b hb).2.1,(hch b hb).2.2.2.2.1,(hch b hb).2.2.2.2.2⟩) (fun b o _ _ hc e _=>k b o hc e) (fun b o _ _ hc e _=>⟨o.slots,k b o hc e⟩)
  (fun b o _ e n=>by rw[qi (nlt b o e)];exact n) (fun b o hc e=>⟨o,k b o hc e⟩) (fun b ys e=>by rw[qi (qo e na)];exact e) (fun b o u e=>by rw[qi (qo e na)];exact e)
  (fun b ps e=>⟨#[],by rw[qi (qo e na),e];simp⟩) (fun m hm=>?_) (fun b u e=>?_) I.bare
 ·obtain⟨o,es,ep,ho,r⟩:=hm
  exact⟨o,es,ep,k _ o (fun z=>(hch _ z).2.1 rfl) ho,r⟩
 ·by_cases hb:b=a
  ·subst hb
   rw[qc]at e;cases e
   exact⟨hz,its,hv,ht⟩
  ·rw[qi hb]at e
   refine(I.hok b u e).stay (fun c v hc q=>k c v ?_ q) (fun c q=>by rw[qi (qo q na)];exact q) fun c ys q=>by rw[qi (qo q na)];exact q
   rcases hc with z|z
   ·rw[z];exact nch b u e
   ·exact nch c _ z
def oB(K:Frag)(a:Addr):It:=
 ⟨fun i H=>∃xs x,Gq K H a xs/\xs[i]? =some x,fun i H x H'=>∃p v,H p=none/\x= .ref p/\(∀xs,Gq K H a xs->xs[i]? =some v)/\H'=Gh H p (.tup [.int i,v]),fun i H=>∃xs,Gq K H a xs/\xs.length<=i⟩
theorem iR{P:Program}{w:World}{K:Frag}{elts:List Expr}{x1}{pos:Pos}(a e it:Addr)(hei:e≠it):
  Ig P w K (.Tuple elts x1 pos) (oB K a) [e,it] e (fun i h=>(∃old,IsEnum h e it i old)/\h.IsListIter it a i) where
 mem:=by simp
 obj:=fun i h st b hb=>by
  obtain⟨⟨old,he⟩,⟨o,ho,hc,hd⟩⟩:=st;rcases Jk.mp hb with z|z
  ·subst z
   refine⟨_,he,fun v z=>?_⟩
   have z':Data.fields _=Data.cell v:=z
   cases z'
  ·rw[Jl.mp z]
   exact⟨o,ho,fun v z=>by rw[hd]at z;cases z⟩
 keep:=fun i h h' st k=>⟨let⟨old,he⟩:=st.1;⟨old,k e (by simp) _ he⟩,st.2.at fun o q=>k it (by simp) o q⟩
 item:=by
  intro X hP hw hK hc i tx s σ H E I hf st hg;subst hP hw hK;obtain⟨xs,x,hq,hx⟩:=hg;obtain⟨its,rv,p,hz⟩:=I.list hq;obtain⟨u,hu,ru⟩:=rv.get hx;obtain⟨⟨old,he⟩,hit⟩:=st;refine wpAny_pyNext_enum_item he hit p.isList (x:=u) (by simpa using hu) hei fun h' ho hit' ht hsz hk=>⟨_,rfl,?_⟩
  refine wpAny_letOwnedTupleGo_enum ho fun h'' he'' hs''=>?_
  have helt:e<s.heap.objs.size:=Jh he
  have hilt:it<s.heap.objs.size:=by obtain⟨_,y,_⟩:=hit;exact Jh y
  refine⟨.ref s.heap.objs.size,Gh H s.heap.objs.size (.tup [.int i,x]),?_,rfl,⟨_,x,I.hok.fresh (Jf _),rfl,fun ys hy=>by rw[I.list_inj hy hq];exact hx,rfl⟩,⟨⟨_,by simpa using he''⟩,?_⟩,?_⟩
  ·show L2.Gi X tx σ _ {s with heap:=h'',toks:=s.toks+1}
   refine eO (s:=s) (its:=[.int i s.toks,u]) I (ch:=[e,it]) (fun b o hb q=>?_) hf (fun b hb=>?_) (Jf _) (by show 2<=sizeLine;decide) (.cons ⟨_,rfl⟩ (.cons ru .nil)) ?_
   ·have hb1:b≠e:=fun z=>hb (by simp [z])
    have hb2:b≠it:=fun z=>hb (by simp [z])
    exact(hs''.2 b hb1).trans (hk b o hb1 hb2 q)
   ·rcases Jk.mp hb with z|z
    ·subst z;exact⟨_,he''⟩
    ·rw[Jl.mp z]
     obtain⟨o,y,_⟩:=hit'
     exact⟨o,(hs''.2 it (Ne.symm hei)).trans y⟩
   ·exact⟨_,(hs''.2 _ (JX helt)).trans ht,rfl,_,rfl⟩
  ·exact hit'.extBut hs''.extBut (Ne.symm hei)
  ·intro b hb
   rw[qi]
   ·exact(hf b hb).1
   ·rcases Jk.mp hb with z|z
    ·subst z;exact Jm helt
    ·rw[Jl.mp z];exact Jm hilt
 done:=by
  intro X hP hw hK hc i tx s σ H E I hf st hg;subst hP hw hK;obtain⟨xs,hq,hx⟩:=hg;obtain⟨its,rv,p,hz⟩:=I.list hq;obtain⟨⟨old,he⟩,hit⟩:=st;obtain⟨f0,f1,f2,f3,f4,f5⟩:=hf it (by simp)
  have hl:=rv.length;exact wpAny_pyNext_enum_end (I.ok.hd hc) he hit p.isList (by simp;lia) fun h' eb=>⟨rfl,I.turned (t':=s.toks) (fun b o hb e=>eb b o hb e) f0 f1 f3 f4 f5⟩
 self:=fun _ _ _ _ _ st h=>by
  obtain⟨⟨old,he⟩,_⟩:=st;exact Fv he h
def xh(K:Frag)(ta:TA):TI:=fun σ H R=>ta σ H fun vs H1=>∃a,vs=[.ref a]/\(∃xs,Gq K H1 a xs)/\R (oB K a) H1
theorem ym{a:Expr}{ta:TA}{p pos:Pos}{elts:List Expr}{x1}{tpos:Pos}(hg:Gl X "enumerate")(hm:X.mg "enumerate"=none)(ha:PA X [a] ta)(hs:starEach [a] X.env=[(false,eval a X.env)]:=by rfl):
  PI X (.Tuple elts x1 tpos) (.Call (.Name "enumerate" p) [a] [] pos) (xh X.K ta):=by
 intro tx s σ H R I h;refine Call_ (QZ I hg hm boot_enumerate (EU (qC (ha pos tx s σ H _ I h) fun us s1 zq=>?_) hs rfl))
 obtain⟨vs,H1,I1,r1,q1⟩:=zq;obtain⟨l,e,⟨xs,hq⟩,q⟩:=q1;subst e;obtain⟨u,rfl,ru⟩:=r1.one;cases ru;obtain⟨its,rv,pl,hz⟩:=I1.list hq;refine call_enumerate_list pl.isList fun h' he hit hsz hk=>Fv he ?_
 have I2:L2.Gi X tx σ H1 {s1 with heap:=h'}:=I1.kept (t':=s1.toks) hk
 refine⟨s1.heap.objs.size+1,[s1.heap.objs.size+1,s1.heap.objs.size],_,_,H1,rfl,I2,iR l _ _ (JX (Ek _)),⟨⟨_,he⟩,hit⟩,fun b hb=>?_,q⟩
 have hb':s1.heap.objs.size<=b:=by
  rcases Jk.mp hb with z|z
  ·rw[z];exact Eo _
  ·rw[Jl.mp z];exact Jf _
 exact I1.fpOk hb' (I1.hok.fresh hb')
theorem jX{K:Frag}{a:Addr}{xs:List V}{g:TG}{tb:TS}{D:Ht}{σ:L2.St}{H:Hp}(Pv:Nat->L2.St->Hp->Prop)(h0:Pv 0 σ H)(hl:∀i σ H,i<=xs.length->Pv i σ H->Gq K H a xs)
  (hs:∀i x σ H p,xs[i]? =some x->Pv i σ H->H p=none->g (.ref p) σ (Gh H p (.tup [.int i,x])) fun σ2 H2=>tb {D with nx:=Pv (i+1),ct:=Pv (i+1),bk:=D.nx} σ2 H2)(hd:∀σ H,Pv xs.length σ H->D.nx σ H):
  ∃W:Nat->Nat->L2.St->Hp->Prop,(∃m,W 0 m σ H)/\∀i m σ H,W i m σ H->
   ((oB K a).stop i H/\D.nx σ H)\/((oB K a).go i H/\∃N:L2.St->Hp->Prop,(∀σ' H',N σ' H'->∃m',m'<m/\W (i+1) m' σ' H')/\∀x H',(oB K a).yld i H x H'->g x σ H' fun σ2 H2=>tb {D with nx:=N,ct:=N,bk:=D.nx} σ2 H2):=by
 refine⟨fun i m σ H=>m=xs.length-i/\i<=xs.length/\Pv i σ H,⟨xs.length,by simp,JI _,h0⟩,?_⟩
 rintro i m σ H ⟨rfl,hi,p⟩
 have q:=hl i σ H hi p
 by_cases hlt:i<xs.length
 ·refine .inr ⟨⟨xs,xs[i],q,by simp [hlt]⟩,Pv (i+1),fun σ' H' p'=>⟨xs.length-(i+1),by lia,rfl,hlt,p'⟩,fun x H' y=>?_⟩
  obtain⟨pp,v,hp,rfl,hv,rfl⟩:=y;exact hs i v σ H pp (hv xs q) p hp
 ·have e:i=xs.length:=by lia
  subst e;exact .inl ⟨⟨xs,q,Jf _⟩,hd σ H p⟩
end
def zk(t c:String):Bool:=t==c||(t=="bool"&&c=="int")
abbrev gT:List String:=["NoneType","bool","int","str","list","tuple"]
abbrev cZ:List String:=["bool","int","str","list","tuple"]
theorem fc(K:Frag):∀t∈gT,∀c∈cZ,W.kitOne K (.type t) (.type c)=some (zk t c):=by
 intro t ht c hc;simp only[gT,cZ,Jk,Js,Jt]at ht hc;rcases ht with rfl|rfl|rfl|rfl|rfl|rfl<;>rcases hc with rfl|rfl|rfl|rfl|rfl<;>kernel_rfl
section
variable{X:Cx}
theorem lX:qY X (.builtin "isinstance") (fun xs H Q=>∃x c t,xs=[x,.ty c]/\HX X.K H x (.type t)/\t∈gT/\c∈cZ/\Q (.bl (zk t c)) H):=by
 intro tx s σ H xs us Q I r h;obtain⟨x,c,t,rfl,ty,ht,hc,q⟩:=h;obtain⟨u,v,rfl,ru,rv⟩:=bS r
 cases(show v=Value.type c from rv)
 exact sH I ru ty (fc X.K t ht c hc) fun tk=>⟨.bl _,H,I.tok tk,rfl,q⟩
theorem kY:∀{bs:List Bool} {us:List Value},Gk (bs.map V.bl) us->us=bs.map Value.bool
 | [],_,.nil=>rfl
 |b::bs,_,.cons r t=>by
  cases(show _=Value.bool b from r)
  rw[kY t];rfl
theorem pQ(bs:List Bool):((List.range bs.length).all fun i=>(bs[i]?).getD true)=bs.all id:=by
 rw[Ej,E5,E5];constructor
 ·intro h b hb
  obtain⟨i,hi,e⟩:=List.mem_iff_getElem.mp hb
  have:=h i (J5.mpr hi)
  rw[Jj hi,EH,e]at this;exact this
 ·intro h i hi
  have hi':=J5.mp hi;rw[Jj hi',EH];exact h _ (Ey hi')
theorem aY(hc:X.calm=true):qY X (.builtin "all") (fun xs H Q=>∃(p:Addr) (bs:List Bool),xs=[.ref p]/\Gq X.K H p (bs.map V.bl)/\Q (.bl (bs.all id)) H):=by
 intro tx s σ H xs us Q I r h;obtain⟨p,bs,rfl,hq,q⟩:=h;obtain⟨u,rfl,ru⟩:=zL r;cases ru;obtain⟨its,rv,pl,hz⟩:=I.list hq;have e:=kY rv;have hl:=pl.isList;have hlt:p<s.heap.objs.size:=by obtain⟨_,e,_⟩:=hl;exact Jh e
 refine call_all_walk (Ff hl ?_)
 refine⟨s.heap.objs.size,[s.heap.objs.size,p],[s.heap.objs.size],its.toArray.size,_,_,fun i=>(bs[i]?).getD true,rfl,Walks.list (A:=X.A.in1) (I.ok.hd hc) _ p (Jm hlt) its.toArray,
  ⟨⟨_,Jp _ rfl,rfl,rfl⟩,hl.push _⟩,fun i v s' Q' E' hP hQ=>?_,fun h' tk hk=>?_⟩
 ·have hP':its[i]? =some v:=by simpa using hP
  rw[e,Jo]at hP';cases eb:bs[i]? with
  |none=>rw[eb]at hP';cases hP'
  |some b=>
   rw[eb]at hP'
   cases(Jy hP':Value.bool b=v)
   simp only[eb,EH]at hQ;exact EE hQ
 ·have e2:((List.range its.toArray.size).all fun i=>(bs[i]?).getD true)=bs.all id:=by
   rw[Jr,e,Je];exact pQ bs
  rw[e2];refine⟨.bl _,H,I.kept (h':=h') (t':=tk) fun b o q=>hk b o (fun hm=>?_) (Ji _ q),rfl,q⟩
  rw[Jl.mp hm]at q;exact JY _ (Jh q)
theorem mK:zw X (compareOp .IsNot) (fun x y H Q=>∃a b,x= .bl a/\y= .bl b/\Q (.bl (!decide (a=b))) H):=by
 intro tx s σ H x y v u Q I rx ry h;obtain⟨a,b,rfl,rfl,q⟩:=h
 cases(show v=Value.bool a from rx)
 cases(show u=Value.bool b from ry)
 refine wpAny_isNot_plain rfl ⟨.bl _,H,I,?_,q⟩
 cases a<;>cases b<;>rfl
theorem iH:qY X (.type "range") (fun xs H Q=>∃j:Int,xs=[.int j]/\∀p,H p=none->Q (.ref p) (Gh H p (.rng 0 j))):=by
 intro tx s σ H xs us Q I r h;obtain⟨j,rfl,q⟩:=h;obtain⟨u,rfl,ru⟩:=zL r;obtain⟨t,rfl⟩:=ru;refine call_range_1 ⟨.ref s.heap.objs.size,_,I.laid (o:= .rng 0 j) (fun b o e=>Ji _ e) (Jf _) ⟨_,_,_,Jp _ rfl⟩,rfl,q _ (I.hok.fresh (Jf _))⟩
theorem pA(hc:X.calm=true):qY X (.type "list") (fun xs H Q=>∃(p:Addr) (j:Nat),xs=[.ref p]/\H p=some (.rng 0 (j:Int))/\j<=2 ^ 24/\∀l,H l=none->Q (.ref l) (Gh H l (.lst ((List.range j).map fun i=>V.int (i:Nat))))):=by
 intro tx s σ H xs us Q I r h;obtain⟨p,j,rfl,hp,hj,q⟩:=h;obtain⟨u,rfl,ru⟩:=zL r;cases ru;obtain⟨t,u,v,e⟩:=I.hok p _ hp;refine call_list_range (n:=j) (I.ok.hd hc) (show IsRange s.heap p 0 (j:Int) 1 t u v from e) (small_one (by lia) (by lia) (by lia) (by lia)) (by rw[rangeSize_one];split<;>lia) hj fun h' tk acc' c' hk hS' hacc=>?_
 refine⟨.ref s.heap.objs.size,_,I.laid (h':=h') (t':=tk) hk (Jf _) ?_,rfl,q _ (I.hok.fresh (Jf _))⟩
 have aux:∀(us:List Value) (n k:Nat),us.length=n->(∀i v,us[i]? =some v->∃t,v=Value.int ((k+i:Nat):Int) t)->Gk ((List.range' k n).map fun i=>V.int (i:Nat)) us:=by
  intro us
  induction us with
  |nil=>intro n k hn _;cases hn;exact .nil
  |cons u us ih=>
   intro n k hn hv;cases n with
   |zero=>cases hn
   |succ n=>
    rw[List.range'_succ,JQ];obtain⟨t,ht⟩:=hv 0 u rfl;refine .cons ⟨t,by simpa using ht⟩ (ih n (k+1) (by simpa using hn) fun i v hi=>?_)
    obtain⟨t,ht⟩:=hv (i+1) v hi
    exact⟨t,by rw[ht];congr 1;lia⟩
 have vals:Gk ((List.range j).map fun i=>V.int (i:Nat)) acc'.toList:=by
  rw[List.range_eq_range'];refine aux _ _ 0 (by rw[Jq];exact hacc.1) fun i v hi=>?_
  obtain⟨t,ht⟩:=hacc.2 i v (by rw[<- Array.getElem?_toList];exact hi)
  exact⟨t,by rw[ht];congr 1;lia⟩
 exact⟨by simp only[Je,List.length_range];exact JK hj (by rw[JA];decide),acc'.toList,c',vals,hS'⟩
def DH:V->Option Int->Option Int->Hp->VK->Prop:=fun x lo hi H Q=>∃a xs,x= .ref a/\H a=some (.tup xs)/\∀p H',Ge H H'->H' p=some (.tup (ZF xs lo hi))->(p=a\/H p=none)->Q (.ref p) H'
theorem cF{prog:Program}{w:World}{A:Around}{E:Gb}{s:Shared}{t sl:Addr}{items:Array Value}{vl vu:Value}{lo hi:Option Int}{Q:Gb}(ht:IsTup s.heap t items)(hs:s.heap.IsSliceOf sl vl vu .none)(pl:IsPart vl lo)(pu:IsPart vu hi)
  (hw:HT.sIx items.size 0 lo=0/\HT.sIx items.size items.size hi=items.size)(h:Q (.ref t) s):wpAny (model prog w) A (getItem (.ref t) (.ref sl)) Q E s:=by
 obtain⟨os,hos,hcs,hds⟩:=id hs;have hTs:s.TypeIs (.ref sl) "slice":=⟨os,hos,hcs⟩
 unfold getItem
 try with_reducible refine JL ?_
 first|refine Ja (Jb ?_)|skip
 refine Ja (wpAny_sequenceKey ht.typeIs (by decide) ?_)
 refine Ja (wpAny_callSpecial?_slot (name:=Str.ofString "__getitem__") ht.typeIs FJ
  (JS FJ ht.typeIs entry_tuple_getitem ?_ (args_tuple_getitem _ _)))
 show wpAny _ _ (Builtin.Tuple.tupleItemsOf (.ref t) >>= _) _ _ s
 refine Ja (tupleItemsOf_ ht ?_)
 refine Ja (Fg hTs ?_)
 rw[Jc (by decide)]
 refine Ja (HT.sliceApplied_gen hs pl pu ?_)
 show wpAny _ _ (if(((HT.sIx items.size 0 lo:Nat):Int)==0&&(1:Int)==1&&(HT.sIx items.size items.size hi-HT.sIx items.size 0 lo)==items.size)=true then _ else _) _ _ s
 rw[hw.1,hw.2,Jc (by simp)]
 refine Ja (m:=Builtin.Tuple.tupleIsExact _) ?_
 unfold Builtin.Tuple.tupleIsExact;refine Ja (Fg ht.typeIs (Jb ?_))
 rw[Jc (by rfl)]
 exact Ja (Ec (Jb ⟨_,rfl,Jb h⟩))
theorem eE:tM X DH:=by
 intro tx s σ H x v vl vu lo hi sl Q I rx hs pl pu h;obtain⟨a,xs,rfl,hx,q⟩:=h
 by_cases hw:HT.sIx xs.length 0 lo=0/\HT.sIx xs.length xs.length hi=xs.length
 ·cases rx
  obtain⟨its,r,ht,hz⟩:=I.tuple (Gu.of hx)
  have hlen:its.toArray.size=xs.length:=by rw[Jr];exact r.length.symm
  refine⟨"tuple",_,PyProof.Rows.slot_tuple_getitem.lookup,ht.typeIs,?_⟩
  refine cF ht hs pl pu (by rw[hlen];exact hw) ⟨.ref a,H,I,rfl,q a H (Ge.refl H) ?_ (.inl rfl)⟩
  have:ZF xs lo hi=xs:=by unfold ZF;rw[hw.1,hw.2];simp
  rw[this];exact hx
 ·exact Cl tx s σ H _ v vl vu lo hi sl Q I rx hs pl pu ⟨a,xs,rfl,Gu.of hx,hw,fun p hp=>q p _ (fun b o e=>by rw[qi (qo e hp)];exact e) qc (.inr hp)⟩
def CU:R2:=fun x y H Q=>∃a b xs ys,x= .ref a/\y= .ref b/\H a=some (.tup xs)/\H b=some (.tup ys)/\xs.length+ys.length<=sizeLine/\∀p H',Ge H H'->H' p=some (.tup (xs++ys))->Q (.ref p) H'
theorem Z9:zw X (binaryOp .Add) CU:=by
 intro tx s σ H x y v u Q I rx ry h;obtain⟨a,b,xs,ys,rfl,rfl,ha,hb,hz,q⟩:=h
 by_cases hx:xs=[]
 ·subst hx
  cases rx;cases ry;obtain⟨its,r1,p1,_⟩:=I.tuple (Gu.of ha)
  obtain⟨its2,r2,p2,_⟩:=I.tuple (Gu.of hb)
  cases r1;obtain⟨⟨cls,dd,data,sl⟩,ho,hc,n,hd⟩:=id p1;obtain⟨⟨cls2,dd2,data2,sl2⟩,ho2,hc2,n2,hd2⟩:=id p2;simp only at hc hd hc2 hd2
  subst hc hd hc2 hd2;exact concat_meets ⟨_,ho,rfl⟩ ⟨_,ho2,rfl⟩ noFill_tuple_add seq_tuple_add FW FX (FY _ _)
   (tuple_addW0 a b _ its2.toArray n n2 dd dd2 sl sl2 (by simp)) ⟨ho,ho2,⟨.ref b,H,I,rfl,q b H (Ge.refl H) hb⟩⟩
 ·refine yp tx s σ H _ _ v u Q I rx ry ⟨a,b,xs,ys,rfl,rfl,Gu.of ha,Gu.of hb,hx,hz,fun e=>q a H (Ge.refl H) (by subst e;simpa using ha),fun _ p hp=>q p _ (fun b o e=>by rw[qi (qo e hp)];exact e) qc⟩
theorem eU{ns:List Int}{us:List Value}(r:Gk (ns.map V.int) us)(j:Nat)(h:j<us.length)(h':j<ns.length):∃t,us[j]=Value.int ns[j] t:=by
 obtain⟨u,hu,ru⟩:=r.get (i:=j) (x:=V.int ns[j]) (by rw[Jo,Jj h'];rfl)
 rw[Jj h]at hu;cases hu;exact ru
theorem vM(ns ms:List Int)(h:ns.length=ms.length):((List.range ns.length).all fun j=>(ns.getD j 0==ms.getD j 0))=decide (ns=ms):=by
 rw[Ej,E5,Fw];constructor
 ·intro q
  refine List.ext_getElem h fun i h1 h2=>?_
  have:=q i (J5.mpr h1)
  simp only[JF,Jj h1,Jj h2,EH,JZ]at this;exact this
 ·rintro rfl i _
  simp
end
def zU:Expr->Bool
 | .Starred .. =>false
 |_=>true
theorem Ze{e:Expr}{es:List Expr}{env:Env}(h:zU e=true):starEach (e::es) env=(false,eval e env)::starEach es env:=by
 cases e<;>first|rfl|cases h
theorem DT{X:Cx}{e:Expr}{es:List Expr}{te:TE}{t:TA}(ha:PE X e te)(hr:PA X es t)(h:zU e=true:=by rfl):PA X (e::es) (oR te t):=yN ha hr (Ze h)
structure Df(P:Program)(w:World)(K:Frag)(mg:Gc)(base:Heap)(x:Str)(ps:List Str)(k:Nat)(sp:Sp):Prop where
 ex:∃(f:Addr) (fd:FuncData),HS P w K mg base aJ k f fd ps sp/\mg x=some (.ref f)/\PySem.W.keepIn K (.ref f)=true/\HH K fd ps []
structure At(K:Frag)(mg:Gc)(x:Str)(st:Stmt)(ps:List Str):Prop where
 ex:∃(f:Addr) (fd:FuncData),IM K x x st f fd/\mg x=some (.ref f)/\PySem.W.keepIn K (.ref f)=true/\HH K fd ps []
section
variable{P:Program}{w:World}{K:Frag}{mg:Gc}{base:Heap}
theorem At.df{x:Str}{st:Stmt}{ps N:List Str}{k:Nat}{sp:Sp}(a:At K mg x st ps)(S:Gf N ps (ql st))(len:∀vs H Q E,sp vs H Q E->vs.length=ps.length)
  (hbody:∀(f:Addr) (cdv:Value) (A:Around) (outer:List Env) (s:Shared) (H:Hp) (vs:List V) (Q:VK) (E:XK),GA k (A.deeper (envOfC x (ql st) s.heap.objs.size f cdv))->sp vs H Q E->
   ∃t,IG (bh aJ P w K mg base N x (ql st) f cdv A outer s H E).nox (zH st) t/\t {nx:=fun _ H'=>Q .non H',rt:=Q} (Q1 N vs) H):Df P w K mg base x ps (k+1) sp:=by
 obtain⟨f,fd,F,m,kp,bd⟩:=a.ex
 exact⟨f,fd,F.ok S len (fun cdv A outer s H vs Q E hr h=>hbody f cdv A outer s H vs Q E hr h),m,kp,bd⟩
end
section
variable{X:Cx}{x:Str}{ps:List Str}{k:Nat}{sp:Sp}{e:Expr}{es:List Expr}{p pos:Pos}{t:TA}
theorem Bo(D:Df X.prog X.w X.K X.mg X.base x ps k sp)(hr:GA k X.A)(ha:PA X (e::es) t)(hg:Gl X x:=by rfl)(hdb:(x==("__debug__":Str))=false:=by decide)(he:starEach (e::es) X.env=(false,eval e X.env)::starEach es X.env:=by rfl)(hpl:(backTo pos (starEach es X.env)).any (·.1)=false:=by rfl):
  PE X (.Call (.Name x p) (e::es) [] pos) (rc sp [] E0 t):=by
 obtain⟨f,fd,ok,m,kp,bd⟩:=D.ex;exact Ax ok hr hg m kp bd .nil jL ha hdb he hpl
end
theorem cq{X:Cx}{scope:Scope}(kind:scope.kind= .function)(names:∀x∈scope.names,x.2= .local->scope.names.lookup x.1=some .local)(nocell:∀x∈scope.names,x.2≠ .cell)
  (free:∀x∈scope.names,x.2= .free->x.1∈([]:List Str)):Hu X scope [] []:=⟨kind,names,nocell,free,rfl,fun i j y h=>by simp at h⟩
theorem jZ{X:Cx}{scope:Scope}{y:Str}{j:Nat}(kind:scope.kind= .function)(names:∀x∈scope.names,x.2= .local->scope.names.lookup x.1=some .local)(nocell:∀x∈scope.names,x.2≠ .cell)
  (free:∀x∈scope.names,x.2= .free->x.1∈([y]:List Str))(h1:X.N[j]? =some y)(h2:X.env.kindOf y=some .cell)(h3:(relabel scope X.env).names.lookup y=some .cell):Hu X scope [y] [j]:=
 ⟨kind,names,nocell,free,rfl,fun i j' y' e1 e2=>by
  cases i with
  |zero=>cases e1;cases e2;exact⟨h1,h2,h3⟩
  |succ i=>simp at e1⟩
theorem lN{X:Cx}{y:Str}{c:Addr}(h:X.env.cells.lookup y=some c):∀z d,([(y,c)]:List (Str×Addr)).lookup z=some d->X.env.cells.lookup z=some d:=fun z d e=>by
 by_cases hz:z=y
 ·subst hz
  simp at e
  rw[<- e];exact h
 ·simp [Ed,show(z==y)=false from by simpa using hz]at e
theorem AL{X:Cx}{K:Frag}(h:X.K=K):IV X (vN K):=by subst h;exact qP
abbrev ra(n m k:Int):HO:= .lst [.int n,.int m,.int k]
theorem _root_.L2.Ge.upd{H:Hp}{p:Addr}{o:HO}(h:H p=none):Ge H (Gh H p o):=fun b u e=>by rw[qi (qo e h)];exact e
theorem rR(c:Bool): -(2 ^ 64:Int)<(if c=true then(1:Int)else 0):=by cases c<;>decide
theorem tK(c:Bool):(if c=true then(1:Int)else 0)<(2 ^ 64:Int):=by cases c<;>decide
theorem mW{n j:Nat}(h:j<n):cy n (j:Int)=some j:=by unfold cy;rw[Jc (by lia),Jc (by lia)];simp
def aI(ns:List Int)(lo hi:Option Int):List Int:=(ns.drop (HT.sIx ns.length 0 lo)).take (HT.sIx ns.length ns.length hi-HT.sIx ns.length 0 lo)
theorem bP(ns:List Int)(lo hi:Option Int):ZF (ns.map V.int) lo hi=(aI ns lo hi).map V.int:=by unfold ZF aI;rw[Je,List.map_take,List.map_drop]
theorem Qu{ns:List Int}{i:Nat}{x:V}(h:(ns.map V.int)[i]? =some x):∃z,x= .int z/\ns[i]? =some z:=by
 rw[Jo]at h;cases e:ns[i]? with
 |none=>rw[e]at h;cases h
 |some z=>rw[e]at h;exact⟨z,(Jy h).symm,rfl⟩
theorem gJ{ns:List Int}{i:Nat}(h:i<ns.length):(ns.map V.int)[i]? =some (.int ns[i]):=by rw[Jo,Jj h];rfl
theorem cr(ns:List Int)(i:Nat)(z:Int):(ns.map V.int).set i (.int z)=(ns.set i z).map V.int:=by rw[List.map_set]
def xo:Option HO->Option String
 |some (.lst _)=>some "list"
 |some (.tup _)=>some "tuple"
 |_=>none
def kd(H:Hp):V->Option String
 | .non=>some "NoneType"
 | .bl _=>some "bool"
 | .int _=>some "int"
 | .str _=>some "str"
 | .ref a=>xo (H a)
 |_=>none
theorem t8{o:Option HO}{t:String}(h:xo o=some t):(∃xs,o=some (.lst xs)/\t="list")\/(∃xs,o=some (.tup xs)/\t="tuple"):=by
 cases o with
 |none=>cases h
 |some u=>
  cases u with
  |lst xs=>cases h;exact .inl ⟨xs,rfl,rfl⟩
  |tup xs=>cases h;exact .inr ⟨xs,rfl,rfl⟩
  |_=>cases h
theorem f8{H:Hp}{a:Addr}{t:String}(h:kd H (.ref a)=some t):(∃xs,H a=some (.lst xs)/\t="list")\/(∃xs,H a=some (.tup xs)/\t="tuple"):=t8 h
theorem C8{K:Frag}{H:Hp}{x:V}{t:String}(h:kd H x=some t):HX K H x (.type t)/\t∈gT:=by
 cases x with
 |non=>cases h;exact⟨.non,by simp⟩
 |bl b=>cases h;exact⟨.bl b,by simp⟩
 |int i=>cases h;exact⟨.int i,by simp⟩
 |str x=>cases h;exact⟨.str x,by simp⟩
 |byt b=>cases h
 |flt b=>cases h
 |ty b=>cases h
 |ref a=>
  rcases f8 h with⟨xs,e,rfl⟩|⟨xs,e,rfl⟩
  ·exact⟨.lst e,by simp⟩
  ·exact⟨.tup e,by simp⟩
theorem eY{H H':Hp}{x:V}{t:String}(s:Ge H H')(h:kd H x=some t):kd H' x=some t:=by
 cases x with
 |ref a=>
  rcases f8 h with⟨xs,e,rfl⟩|⟨xs,e,rfl⟩
  ·show xo (H' a)=_;rw[s _ _ e];rfl
  ·show xo (H' a)=_;rw[s _ _ e];rfl
 |_=>exact h
def cm:V->Bool
 | .int i=>decide (0<=i)&&decide (i<16)
 |_=>false
theorem Zf{α:Type}{xs:List α}{r:Int}(h0:0<=r)(h1:r<xs.length):∃v,QY xs r=some v/\v∈xs:=by
 have hr:r.toNat<xs.length:=by lia
 refine⟨xs[r.toNat],?_,Ey hr⟩
 have e:QY xs ((r.toNat:Nat):Int)=some xs[r.toNat]:=Zc (Jj hr)
 rwa [show((r.toNat:Nat):Int)=r by lia]at e
def jH(K:Frag):Sp:=fun vs H Q _=>∃(a:Addr) (ns:List Int),vs=[.ref a]/\Gq K H a (ns.map V.int)/\ns.length<=63/\∀H',Q (.bl true) H'
def nG:Sp:=fun vs H Q _=>∃x t,vs=[x]/\kd H x=some t/\Q (.bl (cm x)) H
def lP:Sp:=fun vs H Q _=>∃p xs,vs=[.ref p]/\H p=some (.tup xs)/\xs.length<=sizeLine/\(∀x∈xs,∃t,kd H x=some t)/\∀H',Ge H H'->Q (.bl (xs.all cm)) H'
end L3
namespace L3
open PySem PySem.Spec L2
structure QE(X:Cx)(e:Expr)(t:TE):Prop where
 h:PE X e t
structure QT(X:Cx)(e:Expr)(t:TT):Prop where
 h:PT X e t
structure QW(X:Cx)(e:Expr)(t:TT):Prop where
 h:PW X e t
structure QA(X:Cx)(e:List Expr)(t:TA):Prop where
 h:PA X e t
structure QS(X:Cx)(e:Stmt)(t:TS):Prop where
 h:PS X e t
structure IT(X:Cx)(e:List Stmt)(t:TS):Prop where
 h:IG X e t
structure QG(X:Cx)(e:Expr)(t:TG):Prop where
 h:PG X e t
structure Lf(X:Cx)(e:List Expr)(t:aP):Prop where
 h:n9 X e t
structure QO(X:Cx)(e:Option Expr)(t:TO):Prop where
 h:PO X e t
structure QI(X:Cx)(tg e:Expr)(t:TI):Prop where
 h:PI X tg e t
variable{X:Cx}
theorem qg{i j pos}:QE X (.Constant (.int i) j pos) (tC (.int i)):=⟨BN⟩
theorem QM{b j pos}:QE X (.Constant (.bool b) j pos) (tC (.bl b)):=⟨CT⟩
theorem qM{j pos}:QE X (.Constant .none j pos) (tC .non):=⟨Bd⟩
theorem qB{x j pos}:QE X (.Constant (.str x) j pos) (tC (.str x)):=⟨Bc⟩
theorem zd{x:Str}{v:V}{u:Value}{pos:Pos}(hg:Gl X x)(hm:X.mg x=some u)(r:Gn v u)(hd:(x==("__debug__":Str))=false:=by decide):QE X (.Name x pos) (tC v):=⟨yR (hg:=hg) (hm:=hm) (r:=r) (hd:=hd)⟩
theorem qF{x:Str}{v:V}{u:Value}{pos:Pos}(hg:Gl X x)(hm:X.mg x=none)(hv:bootBuiltins x=some u)(r:Gn v u)(hn:x≠"__name__":=by decide)(hd:(x==("__debug__":Str))=false:=by decide):QE X (.Name x pos) (tC v):=⟨AQ (hg:=hg) (hm:=hm) (hv:=hv) (r:=r) (hn:=hn) (hd:=hd)⟩
theorem qw{a b:Expr}{ta tb:TE}{pos:Pos}{op:Operator}{r:R2}(ho:zw X (binaryOp op) r)(ha:QE X a ta)(hb:QE X b tb):QE X (.BinOp a op b pos) (iJ r ta tb):=⟨CY (ho:=ho) (ha:=ha.h) (hb:=hb.h)⟩
theorem zj{a b:Expr}{ta tb:TE}{pos:Pos}{op:CmpOp}{r:R2}(ho:zw X (compareOp op) r)(ha:QE X a ta)(hb:QE X b tb)(hm:behindInMarks op b=false):QE X (.Compare a [op] [b] pos) (iJ r ta tb):=⟨AH (ho:=ho) (ha:=ha.h) (hb:=hb.h) (hm:=hm)⟩
theorem qx{a b:Expr}{ta tb:TE}{pos:Pos}{op:CmpOp}{r:R2}(ho:zw X (compareOp op) r)(ha:QE X a ta)(hb:QE X b tb)(hm:behindInMarks op b=false):QT X (.Compare a [op] [b] pos) (gD (iJ r ta tb)):=⟨yO (ho:=ho) (ha:=ha.h) (hb:=hb.h) (hm:=hm)⟩
theorem fN{a b c:Expr}{ta tb tc:TE}{pos:Pos}{op op':CmpOp}{r r':R2}(ho:zw X (compareOp op) r)(ho':zw X (compareOp op') r')(ha:QE X a ta)(hb:QE X b tb)(hc:QE X c tc)(hm:lastMarks [op,op'] [b,c]=false:=by with_unfolding_all rfl):QE X (.Compare a [op,op'] [b,c] pos) (gE r r' ta tb tc):=⟨vX (ho:=ho) (ho':=ho') (ha:=ha.h) (hb:=hb.h) (hc:=hc.h) (hm:=hm)⟩
theorem lZ{a b c:Expr}{ta tb tc:TE}{pos:Pos}{op op':CmpOp}{r r':R2}(ho:zw X (compareOp op) r)(ho':zw X (compareOp op') r')(ha:QE X a ta)(hb:QE X b tb)(hc:QE X c tc)(hm:lastMarks [op,op'] [b,c]=false:=by with_unfolding_all rfl):QT X (.Compare a [op,op'] [b,c] pos) (gD (gE r r' ta tb tc)):=⟨vW (ho:=ho) (ho':=ho') (ha:=ha.h) (hb:=hb.h) (hc:=hc.h) (hm:=hm)⟩
theorem zG{a b:Expr}{rest:List Expr}{ta tb:TE}{pos:Pos}(ha:QE X a ta)(hb:QE X (.BoolOp .And (b::rest) pos) tb):QE X (.BoolOp .And (a::b::rest) pos) (xt ta tb):=⟨BK (ha:=ha.h) (hb:=hb.h)⟩
theorem QB{a:Expr}{pos:Pos}{op}{t:TE}(h:QE X a t):QE X (.BoolOp op [a] pos) t:=⟨BX (h:=h.h)⟩
theorem av{a:Expr}{ta:TE}{pos:Pos}(ha:QE X a ta):QE X (.UnaryOp .Not a pos) (xm ta):=⟨BE (ha:=ha.h)⟩
theorem cV{a b:Expr}{rest:List Expr}{tA tB':TT}{pos:Pos}(ha:QT X a tA)(hb:QW X (.BoolOp .And (b::rest) pos) tB'):QW X (.BoolOp .And (a::b::rest) pos) (Cs tA tB'):=⟨BH (ha:=ha.h) (hb:=hb.h)⟩
theorem zF{a b:Expr}{rest:List Expr}{tA tB':TT}{pos:Pos}(ha:QT X a tA)(hb:QW X (.BoolOp .Or (b::rest) pos) tB'):QW X (.BoolOp .Or (a::b::rest) pos) (Dj tA tB'):=⟨C4 (ha:=ha.h) (hb:=hb.h)⟩
theorem eC{a:Expr}{tA:TT}{pos:Pos}(ha:QT X a tA):QW X (.BoolOp .And [a] pos) tA:=⟨yQ (ha:=ha.h)⟩
theorem zA{a:Expr}{tA:TT}{pos:Pos}(ha:QT X a tA):QW X (.BoolOp .Or [a] pos) tA:=⟨BA (ha:=ha.h)⟩
theorem Qh{a:Expr}{tA:TT}{pos:Pos}(ha:QT X a tA):QT X (.UnaryOp .Not a pos) (CF tA):=⟨Cz (ha:=ha.h)⟩
theorem zc{e:Expr}{t:TE}(h:QE X e t)(he:∀whole,isTrue e X.env whole=(do let v <- whole;standAt e.pos;holding [v] (truthy v)):=by intro _;rfl):QT X e (tB t):=⟨AZ (h:=h.h) (he:=he)⟩
theorem wg{a b:Expr}{ta tb:TE}{tA:TT}{pos:Pos}{c:Expr}(hc:QT X c tA)(ha:QE X a ta)(hb:QE X b tb):QE X (.IfExp c a b pos) (Dm tA ta tb):=⟨vI (hc:=hc.h) (ha:=ha.h) (hb:=hb.h)⟩
theorem qd{e:Expr}{es:List Expr}{te:TE}{t:TA}(ha:QE X e te)(hr:QA X es t)(h:zU e=true:=by rfl):QA X (e::es) (oR te t):=⟨DT (ha:=ha.h) (hr:=hr.h) (h:=h)⟩
theorem qb:QA X [] vV:=⟨BM⟩
theorem qz{es:List Expr}{t:TA}{pos:Pos}{x1}(h:QA X es t):QE X (.Tuple es x1 pos) (BG t):=⟨Cb (h:=h.h)⟩
theorem zz{es:List Expr}{t:TA}{pos:Pos}(h:QA X es t):QE X (.List es pos) (AY t):=⟨Bt (h:=h.h)⟩
theorem qE{a b:Expr}{ta tb:TE}{pos:Pos}{r:R2}(hr:IV X r)(ha:QE X a ta)(hb:QE X b tb)(hs:mX b:=by exact fun _ _=>rfl):QE X (.Subscript a b pos) (iJ r ta tb):=⟨C3 (hr:=hr) (ha:=ha.h) (hb:=hb.h) (hs:=hs)⟩
theorem ZB{e:Expr}{te:TE}{lo hi:Option Expr}{tl th:TO}{pos p2:Pos}{r:V->Option Int->Option Int->Hp->VK->Prop}(hr:tM X r)(he:QE X e te)(hl:QO X lo tl)(hu:QO X hi th):QE X (.Subscript e (.Slice lo hi none p2) pos) (Di r te tl th):=⟨wo (hr:=hr) (he:=he.h) (hl:=hl.h) (hu:=hu.h)⟩
theorem Z8:QO X none nF:=⟨AR⟩
theorem ae{e:Expr}{te:TE}(h:QE X e te):QO X (some e) (xr te):=⟨yn (h:=h.h)⟩
theorem qm{x:Str}{p pos:Pos}{e:Expr}{es:List Expr}{t:TA}{id:String}{r:List V->Hp->VK->Prop}(hc:qY X (.builtin id) r)(hm:X.mg x=none)(hv:bootBuiltins x=some (.builtin id))(ha:QA X (e::es) t)(hg:Gl X x:=by rfl)(hn:x≠"__name__":=by decide)(hdb:(x==("__debug__":Str))=false:=by decide)(he:starEach (e::es) X.env=(false,eval e X.env)::starEach es X.env:=by rfl)(hpl:(backTo pos (starEach es X.env)).any (·.1)=false:=by rfl):QE X (.Call (.Name x p) (e::es) [] pos) (wR r t):=⟨vL (hc:=hc) (hg:=hg) (hm:=hm) (hv:=hv) (ha:=ha.h) (hn:=hn) (hdb:=hdb) (he:=he) (hpl:=hpl)⟩
theorem qH{x:Str}{p pos:Pos}{e:Expr}{es:List Expr}{t:TA}{T:String}{r:List V->Hp->VK->Prop}(hc:qY X (.type T) r)(hm:X.mg x=none)(hv:bootBuiltins x=some (.type T))(ha:QA X (e::es) t)(hg:Gl X x:=by rfl)(hn:x≠"__name__":=by decide)(hdb:(x==("__debug__":Str))=false:=by decide)(he:starEach (e::es) X.env=(false,eval e X.env)::starEach es X.env:=by rfl)(hpl:(backTo pos (starEach es X.env)).any (·.1)=false:=by rfl):QE X (.Call (.Name x p) (e::es) [] pos) (wR r t):=⟨tE (hc:=hc) (hg:=hg) (hm:=hm) (hv:=hv) (ha:=ha.h) (hn:=hn) (hdb:=hdb) (he:=he) (hpl:=hpl)⟩
theorem qr{x:Str}{ps:List Str}{k:Nat}{sp:Sp}{e:Expr}{es:List Expr}{p pos:Pos}{t:TA}(D:Df X.prog X.w X.K X.mg X.base x ps k sp)(hr:GA k X.A)(ha:QA X (e::es) t)(hg:Gl X x:=by rfl)(hdb:(x==("__debug__":Str))=false:=by decide)(he:starEach (e::es) X.env=(false,eval e X.env)::starEach es X.env:=by rfl)(hpl:(backTo pos (starEach es X.env)).any (·.1)=false:=by rfl):QE X (.Call (.Name x p) (e::es) [] pos) (rc sp [] E0 t):=⟨Bo (D:=D) (hr:=hr) (ha:=ha.h) (hg:=hg) (hdb:=hdb) (he:=he) (hpl:=hpl)⟩
theorem qy:IT X [] xf:=⟨AS⟩
theorem qe{st:Stmt}{rest:List Stmt}{t u:TS}(h1:QS X st t)(h2:IT X rest u):IT X (st::rest) (fL t u):=⟨ve (h1:=h1.h) (h2:=h2.h)⟩
theorem qf{st:Stmt}{t:TS}(h1:QS X st t):IT X [st] t:=⟨Ad (h1:=h1.h)⟩
theorem qA{pos:Pos}{i:Nat}{x:Str}{e:Expr}{te:TE}{pos':Pos}(hN:X.N.Nodup)(hi:X.N[i]? =some x)(hx:iN X.env.scope x)(he:QE X e te)(hs:swapsWith e (some (.Name x pos')) pos.line X.env=pure false:=by rfl)(hf:X.fn x=true\/X.env.scope.names.lookup x=some .local:=by first|exact .inl rfl|exact .inr rfl|assumption):QS X (.Assign [.Name x pos'] e pos) (gO te (QN i)):=⟨Ct (hN:=hN) (hi:=hi) (hx:=hx) (he:=he.h) (hs:=hs) (hf:=hf)⟩
theorem zb{pos:Pos}{tg e:Expr}{te:TE}{g:TG}(he:QE X e te)(hg:QG X tg g)(hs:swapsWithSole [tg] e pos.line X.env=pure false:=by rfl)(hw:swappedStores [tg] e X.env=pure none:=by rfl)(h1:(assignEach [tg] X.env).map (·.2)=[assign tg X.env]:=by rfl):QS X (.Assign [tg] e pos) (gO te g):=⟨Cw (he:=he.h) (hg:=hg.h) (hs:=hs) (hw:=hw) (h1:=h1)⟩
theorem qp{e:Expr}{te:TE}{pos:Pos}(he:QE X e te):QS X (.Return (some e) pos) (BP te):=⟨B6 (he:=he.h)⟩
theorem qG{t u:TS}{pos:Pos}{c:Expr}{a b:List Stmt}{tc:TT}(hc:QT X c tc)(ha:IT X a t)(hb:IT X b u):QS X (.If c a b pos) (Cy tc t u):=⟨CS (hc:=hc.h) (ha:=ha.h) (hb:=hb.h)⟩
theorem zh{tg:Expr}{iter:Expr}{body:List Stmt}{wi:TI}{g:TG}{tb:TS}{pos:Pos}(hp:PassesOwn (model X.prog X.w) X.A X.env X.xe)(hc:X.calm=true)(hi:QI X tg iter wi)(hg:QG X tg g)(hb:IT X body tb)(hs:∀x,foldedSetIterable iter X.env x=pure x:=by intro _;rfl):QS X (.For tg iter body [] pos) (B4 wi g tb):=⟨BU (hp:=hp) (hc:=hc) (hi:=hi.h) (hg:=hg.h) (hb:=hb.h) (hs:=hs)⟩
theorem zJ{e:Expr}{te:TE}{pos:Pos}(he:QE X e te)(hs:swapsWith e none pos.line X.env=pure false:=by rfl):QS X (.Expr e pos) (xz te):=⟨yU (he:=he.h) (hs:=hs)⟩
theorem yt{pos:Pos}{o i e:Expr}{to ti te:TE}{tget:V->V->Hp->VK->Prop}{tip:sY}{tset:fK}{op:Operator}{tpos:Pos}(ho:QE X o to)(hi:QE X i ti)(hg:vx X tget)(he:QE X e te)(hp:Cj X op tip)(hs:jN X tset)(ha:∀ov iv new,augStore i ov iv new=(do holding [new,ov,iv] (setItem ov iv new);release [new,ov,iv] [];pure .next):=by intros;rfl):QS X (.AugAssign (.Subscript o i tpos) op e pos) (xk to ti te tget tip tset):=⟨yq (ho:=ho.h) (hi:=hi.h) (hg:=hg) (he:=he.h) (hp:=hp) (hs:=hs) (ha:=ha)⟩
theorem Qd{tg:Expr}{l:Expr}{tl:TE}(hl:QE X l tl):QI X tg l (wP X.K tl):=⟨Ak (hl:=hl.h)⟩
theorem ax{tg:Expr}{l:Expr}{tl:TE}(hl:QE X l tl):QI X tg l (B2 X.K tl):=⟨By (hl:=hl.h)⟩
theorem zN{tg:Expr}{a:Expr}{ta:TA}{p pos:Pos}(hg:Gl X "range")(hm:X.mg "range"=none)(ha:QA X [a] ta)(hs:starEach [a] X.env=[(false,eval a X.env)]:=by rfl):QI X tg (.Call (.Name "range" p) [a] [] pos) (xu ta):=⟨tL (hg:=hg) (hm:=hm) (ha:=ha.h) (hs:=hs)⟩
theorem iC{tg:Expr}{a b:Expr}{ta:TA}{p pos:Pos}(hg:Gl X "range")(hm:X.mg "range"=none)(ha:QA X [a,b] ta)(hs:starEach [a,b] X.env=[(false,eval a X.env),(false,eval b X.env)]:=by rfl)(hs2:starEach [b] X.env=[(false,eval b X.env)]:=by rfl):QI X tg (.Call (.Name "range" p) [a,b] [] pos) (xn ta):=⟨uH (hg:=hg) (hm:=hm) (ha:=ha.h) (hs:=hs) (hs2:=hs2)⟩
theorem yy{a:Expr}{ta:TA}{p pos:Pos}{elts:List Expr}{x1}{tpos:Pos}(hg:Gl X "enumerate")(hm:X.mg "enumerate"=none)(ha:QA X [a] ta)(hs:starEach [a] X.env=[(false,eval a X.env)]:=by rfl):QI X (.Tuple elts x1 tpos) (.Call (.Name "enumerate" p) [a] [] pos) (xh X.K ta):=⟨ym (hg:=hg) (hm:=hm) (ha:=ha.h) (hs:=hs)⟩
theorem qh{pos:Pos}{i:Nat}{x:Str}(hN:X.N.Nodup)(hi:X.N[i]? =some x)(hx:iN X.env.scope x)(hf:X.fn x=true\/X.env.scope.names.lookup x=some .local:=by first|exact .inl rfl|exact .inr rfl|assumption):QG X (.Name x pos) (QN i):=⟨Av (hN:=hN) (hi:=hi) (hx:=hx) (hf:=hf)⟩
theorem gq{pos:Pos}{es:List Expr}{k:Nat}{t:aP}{n:Nat}(hc:X.calm=true)(h:Lf X es t)(hn:(assignEach es X.env).length=n:=by rfl)(hst:(assignEach es X.env).findIdx? (·.1)=none:=by rfl):QG X (.Tuple es k pos) (kZ X.K n t):=⟨lE (hc:=hc) (h:=h.h) (hn:=hn) (hst:=hst)⟩
theorem cH{pos:Pos}{o i:Expr}{to ti:TE}{t:fK}(ho:QE X o to)(hi:QE X i ti)(hs:jN X t)(ha:∀v,assign (.Subscript o i pos) X.env v=(do
      let ov <- holding [v] (eval o X.env)
      let iv <- holding [v,ov] (eval i X.env)
      standAt pos
      holding [v,ov,iv] (setItem ov iv v)
      release [v,ov,iv] []):=by intro _;rfl):QG X (.Subscript o i pos) (Be to ti t):=⟨CA (ho:=ho.h) (hi:=hi.h) (hs:=hs) (ha:=ha)⟩
theorem qO:Lf X [] pH:=⟨AB⟩
theorem qq{e:Expr}{es:List Expr}{t:TG}{u:aP}(h1:QG X e t)(h2:Lf X es u)(hs:(assignEach (e::es) X.env).map (·.2)=assign e X.env::(assignEach es X.env).map (·.2):=by rfl):Lf X (e::es) (eP t u):=⟨wI (h1:=h1.h) (h2:=h2.h) (hs:=hs)⟩
theorem QW.pt{e:Expr}{t:TT}(h:QW X e t):QT X e t:=⟨PW.pt h.h⟩
theorem qv(i:Nat){x:Str}{pos:Pos}(hN:X.N[i]? =some x:=by rfl)(hv:Bi X.env.scope x:=by first|exact Or.inl rfl|exact Or.inr (Or.inl rfl)|exact Or.inr (Or.inr rfl))(hd:(x==("__debug__":Str))=false:=by decide)
  (hcd:(x==("__classdict__":Str))=false:=by decide):QE X (.Name x pos) (BL i):=⟨Bn hN hv hd hcd⟩
theorem zT{elt tg iter:Expr}{scope:Scope}{cl:List (Str×Addr)}{pos:Pos}{fr own:List Str}{js:List Nat}{wi:TI}{g:TG}{te:TE}
  (hc:X.calm=true)(hi:QI X tg iter wi)(hclos:closureFor scope X.env=pure cl)(hcl:∀y c,cl.lookup y=some c->X.env.cells.lookup y=some c)(hfr:cl.map (·.1)=fr)
  (S:Hu X scope fr js)
  (hg:∀C s H fp,QG (zK X (own++fr) scope cl C s H fp) tg g)(he:∀C s H fp,QE (zK X (own++fr) scope cl C s H fp) elt te)
  (hs:∀x,foldedSetIterable iter X.env x=pure x:=by intro _;rfl):
  QE X (.ListComp elt [⟨tg,iter,[],0⟩] scope pos) (gt own.length js wi g te):=⟨Ao hc hi.h hclos hcl hfr S (fun C s H fp=>(hg C s H fp).h) (fun C s H fp=>(he C s H fp).h) hs⟩
theorem hV{elt tg iter:Expr}{scope:Scope}{cl:List (Str×Addr)}{pos spos py:Pos}{fr own:List Str}{js:List Nat}{wi:TI}{g:TG}{te:TE}{i:Nat}{y:Str}
  (hN:X.N.Nodup)(hi':X.N[i]? =some y)(hx:iN X.env.scope y)
  (hc:X.calm=true)(hi:QI X tg iter wi)(hclos:closureFor scope X.env=pure cl)(hcl:∀y c,cl.lookup y=some c->X.env.cells.lookup y=some c)(hfr:cl.map (·.1)=fr)
  (S:Hu X scope fr js)
  (hg:∀C s H fp,QG (zK X (own++fr) scope cl C s H fp) tg g)(he:∀C s H fp,QE (zK X (own++fr) scope cl C s H fp) elt te)
  (hs:∀x,foldedSetIterable iter X.env x=pure x:=by intro _;rfl)(hsw:swapsWith (.ListComp elt [⟨tg,iter,[],0⟩] scope pos) (some (.Name y py)) spos.line X.env=pure true:=by rfl)
  (hf:X.fn y=true\/X.env.scope.names.lookup y=some .local:=by first|exact .inl rfl|exact .inr rfl|assumption):
  QS X (.Assign [.Name y py] (.ListComp elt [⟨tg,iter,[],0⟩] scope pos) spos) (gO (gt own.length js wi g te) (QN i)):=⟨yz hN hi' hx hc hi.h hclos hcl hfr S (fun C s H fp=>(hg C s H fp).h) (fun C s H fp=>(he C s H fp).h) hs hsw hf⟩
section
variable{P:Program}{w:World}{K:Frag}{mg:Gc}{base:Heap}
theorem At.dq{x:Str}{st:Stmt}{ps N:List Str}{k:Nat}{sp:Sp}(a:At K mg x st ps)(S:Gf N ps (ql st))
  (hbody:∀(f:Addr) (cdv:Value) (A:Around) (outer:List Env) (s:Shared) (H:Hp) (vs:List V) (Q:VK) (E:XK),GA k (A.deeper (PyProof.Rows.envOfC x (ql st) s.heap.objs.size f cdv))->sp vs H Q E->
   ∃t,IT (bh aJ P w K mg base N x (ql st) f cdv A outer s H E).nox (zH st) t/\t {nx:=fun _ H'=>Q .non H',rt:=Q} (Q1 N vs) H)(len:∀vs H Q E,sp vs H Q E->vs.length=ps.length:=by intro vs H Q E h;(repeat first|obtain⟨rfl,h⟩:=h|obtain⟨_,h⟩:=h);all_goals rfl):Df P w K mg base x ps (k+1) sp:=
 a.df S len fun f cdv A outer s H vs Q E hr h=>let⟨t,q1,q2⟩:=hbody f cdv A outer s H vs Q E hr h;⟨t,q1.h,q2⟩
theorem _root_.L2.IM.dq{x Lo:Str}{st:Stmt}{f:Addr}{fd:FuncData}{N ps:List Str}{k:Nat}{sp:Sp}(F:IM K x Lo st f fd)(S:Gf N ps (ql st))(len:∀vs H Q E,sp vs H Q E->vs.length=ps.length)
  (hbody:∀(cdv:Value) (A:Around) (outer:List Env) (s:Shared) (H:Hp) (vs:List V) (Q:VK) (E:XK),GA k (A.deeper (PyProof.Rows.envOfC Lo (ql st) s.heap.objs.size f cdv))->sp vs H Q E->
   ∃t,IT (bh aJ P w K mg base N Lo (ql st) f cdv A outer s H E).nox (zH st) t/\t {nx:=fun _ H'=>Q .non H',rt:=Q} (Q1 N vs) H):HS P w K mg base aJ (k+1) f fd ps sp:=
 F.ok S len fun cdv A outer s H vs Q E hr h=>let⟨t,q1,q2⟩:=hbody cdv A outer s H vs Q E hr h;⟨t,q1.h,q2⟩
theorem C6{x:Str}{st:Stmt}{ps:List Str}{f:Addr}{fd:FuncData}(F:IM K x x st f fd)(m:mg x=some (.ref f))(b:HH K fd ps []):At K mg x st ps:=⟨f,fd,F,m,F.kp,b⟩
end
end L3
namespace L3
open PySem PySem.Spec PyProof.Rows L2
def GM:List Int:=(List.range 16).map fun i=>((i:Nat):Int)
theorem km:GM.length=16:=by decide
theorem Co:((List.range 16).map fun i=>V.int ((i:Nat):Int))=GM.map V.int:=by decide +kernel
theorem yw{α:Type}{xs:List α}{z:Int}{j:Nat}{v:α}(e:z=(j:Int))(h:xs[j]? =some v):QY xs z=some v:=by rw[e];exact Zc h
theorem gZ{n j:Nat}{z:Int}(e:z=(j:Int))(h:j<n):cy n z=some j:=by rw[e];exact mW h
theorem kS{z:Int}(h:z∈GM):0<=z/\z<16:=by
 obtain⟨i,hi,e⟩:=JB.mp h
 have:=J5.mp hi
 lia
end L3
namespace L3
open PySem PySem.Spec PyProof.Rows L2
open Sem (wp)
section
variable{prog:Program}{w:World}{A:Around}{E:Gb}{s:Shared}
theorem oM{it t:Addr}{i:Nat}{its:Array Value}{x:Value}{Q:Gb}(hit:s.heap.IsTupleIter it t i)(ht:s.heap.IsTuple t its)(hx:its[i]? =some x)
  (hQ:∀h',h'.IsTupleIter it t (i+1)->Heap.SameBut it s.heap h'->Q x {s with heap:=h'}):wpAny (model prog w) A (Builtin.SmallTypes.nextOf (.ref it)) Q E s:=by
 obtain⟨o,ho,hc,hd⟩:=id hit;obtain⟨ol,hol,_,nl,hdl⟩:=ht;unfold Builtin.SmallTypes.nextOf;refine Ja (wpAny_callSpecial?_slot (name:=Str.ofString "__next__") hit.typeIs FL
  (JS FL hit.typeIs F.entry_tuple_iterator_next ?_ (F.args_tuple_iterator_next_1 _)))
 show wpAny _ _ (field (.ref it) 0 >>= _) _ _ s
 refine Ja (JR ho hd (x:= .ref t) rfl ?_)
 show wpAny _ _ (if(Value.ref t==Value.none)=true then _ else _) _ _ s
 rw[Jd (show¬((Value.ref t==Value.none)=true)from JP)]
 show wpAny _ _ (field (.ref it) 1 >>= _) _ _ s
 refine Ja (JR ho hd (x:= .int i 0) rfl ?_)
 show wpAny _ _ (seqItems? (.ref t) >>= _) _ _ s
 refine Ja (EI hol hdl ?_)
 simp only[Ee,hx];refine Ja (Er ho hd (by simp) (Jb ⟨x,rfl,Jb (hQ _ ?_ (DW ..))⟩))
 exact⟨_,EV _ ho (FM (E6 hd _)),(Obj.cls_mapFields ..).trans hc,by
  rw[E6 hd];simp [rawInt]⟩
theorem im{it t:Addr}{i:Nat}{its:Array Value}{Q:Gb}(hh:A.handled=none)(hit:s.heap.IsTupleIter it t i)(ht:s.heap.IsTuple t its)(hx:its[i]? =none)
  (hE:∀h' e,Heap.ExtBut it s.heap h'->(∃o,h'.get? e=some o/\o.cls= .type "StopIteration")->E (.ref e) {s with heap:=h'}):
  wpAny (model prog w) A (Builtin.SmallTypes.nextOf (.ref it)) Q E s:=by
 obtain⟨o,ho,hc,hd⟩:=id hit;obtain⟨ol,hol,_,nl,hdl⟩:=ht;unfold Builtin.SmallTypes.nextOf;refine Ja (wpAny_callSpecial?_slot (name:=Str.ofString "__next__") hit.typeIs FL
  (JS FL hit.typeIs F.entry_tuple_iterator_next ?_ (F.args_tuple_iterator_next_1 _)))
 show wpAny _ _ (field (.ref it) 0 >>= _) _ _ s
 refine Ja (JR ho hd (x:= .ref t) rfl ?_)
 show wpAny _ _ (if(Value.ref t==Value.none)=true then _ else _) _ _ s
 rw[Jd (show¬((Value.ref t==Value.none)=true)from JP)]
 show wpAny _ _ (field (.ref it) 1 >>= _) _ _ s
 refine Ja (JR ho hd (x:= .int i 0) rfl ?_)
 show wpAny _ _ (seqItems? (.ref t) >>= _) _ _ s
 refine Ja (EI hol hdl ?_)
 simp only[Ee,hx];refine Ja (Ec (Ja (Er ho hd (by simp) ?_)))
 show wpAny _ _ (newExc (.type "StopIteration") [] >>= _) _ _ _
 refine Ja ?_
 simp only[newExc,newTuple];refine Ja (D9 ?_ (by size_fits))
 refine Ja (m:=firstArgMember _ _) (Eg (a:=Value.none) (by first|rfl|(simp only[firstArgMember];rfl)) ?_)
 refine D9 ?_ (by size_fits)
 simp only[raiseNew];refine Ja (wpAny_handled ?_)
 first|rw[show A.in1.handled=none from hh]|rw[hh]
 refine Ja (Jb (wpAny_throw ?_))
 exact hE _ _ (((DW ..).extBut.push _).push _) ⟨_,Jp _ rfl,rfl⟩
end
theorem gu{prog:Program}{w:World}{A:Around}(hh:A.handled=none)(it t:Addr)(hne:t≠it)(its:Array Value):
  Draws prog w A it [it,t] its.size (fun i v=>its[i]? =some v) (fun i h=>h.IsTupleIter it t i/\h.IsTuple t its) where
 live:=fun _ _ st=>let⟨o,ho,_⟩:=st.1;⟨o,ho⟩
 frame:=fun _ _ _ st hk=>⟨st.1.at fun o e=>hk it (by simp) o e,let⟨o,e,r⟩:=st.2;⟨o,hk t (by simp) o e,r⟩⟩
 item:=fun i s Q E hi st hQ=>by
  refine oM st.1 st.2 (x:=its[i]) (by simp [hi]) fun h' hit' hs'=>?_
  exact hQ _ h' s.toks (by simp [hi]) ⟨hit',let⟨o,e,r⟩:=st.2;⟨o,hs'.extBut _ _ hne e,r⟩⟩ hs'
 done:=fun s Q E st hE=>im hh st.1 st.2 (by simp) hE
open AutoSeq1 (wpAny_loadPart')in
theorem mS(l:Addr)(items:Array Value)(n:Nat)(dct:Option Addr)(sl:Array (Option Value)):
  Meets (Builtin.«enumerate.__new__» ⟨[.type "enumerate",.ref l],[]⟩) (fun _ R s=>s.heap.get? l=some {cls:= .type "tuple",dict:=dct,data:= .seq items n,slots:=sl}/\
   R (.ok (.ret (.ref (s.heap.push {cls:= .type "tuple_iterator",data:= .fields #[.ref l,.int 0 0]}).objs.size)))
    {s with heap:=(s.heap.push {cls:= .type "tuple_iterator",data:= .fields #[.ref l,.int 0 0]}).push {cls:= .type "enumerate",data:= .fields #[.none,.bool false,.ref s.heap.objs.size,rawInt 0,.none,.none]}}):=
 .of_wp fun prog w A R s h=>by
  obtain⟨hp,g,d,tk,os⟩:=s;obtain⟨hl,h⟩:=h
  have hsub:=sub_enumerate;have hL:Heap.IsTuple (Shared.heap ⟨hp,g,d,tk,os⟩) l items:=⟨_,hl,rfl,n,rfl⟩
  wp_walk using Fj hl
  refine wpAny_stack_any fun st=>Jb ?_
  split
  ·rename_i c _ _ _ _ _
   cases(c==Value.type "enumerate")
   ·wp_walk using Fj hl,ET hL
    exact⟨_,rfl,h⟩
   ·wp_walk using Fj hl,ET hL
    exact⟨_,rfl,h⟩
  ·wp_walk using Fj hl,ET hL
   exact⟨_,rfl,h⟩
section
variable{prog:Program}{w:World}{A:Around}{E:Gb}{s:Shared}
theorem oS{l:Addr}{items:Array Value}{Q:Gb}(hL:s.heap.IsTuple l items)
  (h:∀h',IsEnum h' (s.heap.objs.size+1) s.heap.objs.size 0 .none->h'.IsTupleIter s.heap.objs.size l 0->(∀b o,s.heap.get? b=some o->h'.get? b=some o)->Q (.ref (s.heap.objs.size+1)) {s with heap:=h'}):
  wpAny (model prog w) A (call (.type "enumerate") [.ref l]) Q E s:=by
 obtain⟨⟨c,dct,dt,sl⟩,hl,hc,n,hd⟩:=hL
 replace hc:c= .type "tuple":=hc
 replace hd:dt= .seq items n:=hd
 subst hc hd;refine callType_new F.called_enumerate (by decide) (F.typeCall_enumerate_1 _) (F.newCall_enumerate_1 _) (fun obj=>F.args_object_init_2 obj _) F.entry_enumerate_new
  (mS l items n dct sl) ⟨hl,?_⟩
 have hz:(s.heap.push {cls:= .type "tuple_iterator",data:= .fields #[.ref l,.int 0 0]}).objs.size=s.heap.objs.size+1:=JV ..
 show _/\_
 rw[hz];have he:IsEnum ((s.heap.push {cls:= .type "tuple_iterator",data:= .fields #[.ref l,.int 0 0]}).push
   {cls:= .type "enumerate",data:= .fields #[.none,.bool false,.ref s.heap.objs.size,rawInt 0,.none,.none]}) (s.heap.objs.size+1) s.heap.objs.size 0 .none:=by
  have:=Jp (s.heap.push {cls:= .type "tuple_iterator",data:= .fields #[.ref l,.int 0 0]})
   (o:={cls:= .type "enumerate",data:= .fields #[.none,.bool false,.ref s.heap.objs.size,rawInt 0,.none,.none]}) rfl
  rw[hz]at this;exact this
 exact⟨⟨_,he,rfl⟩,h _ he ⟨_,Ji _ (Jp _ rfl),rfl,rfl⟩ fun b o x=>Ji _ (Ji _ x)⟩
end
def lV(K:Frag)(a:Addr):It:=
 ⟨fun i H=>∃xs x,Gu K H a xs/\xs[i]? =some x,fun i H x H'=>∃p v,H p=none/\x= .ref p/\(∀xs,Gu K H a xs->xs[i]? =some v)/\H'=Gh H p (.tup [.int i,v]),fun i H=>∃xs,Gu K H a xs/\xs.length<=i⟩
theorem pO{P:Program}{w:World}{K:Frag}{elts:List Expr}{x1}{pos:Pos}(a e it:Addr)(hei:e≠it):
  Ig P w K (.Tuple elts x1 pos) (lV K a) [e,it] e (fun i h=>(∃old,IsEnum h e it i old)/\h.IsTupleIter it a i) where
 mem:=by simp
 obj:=fun i h st b hb=>by
  obtain⟨⟨old,he⟩,⟨o,ho,hc,hd⟩⟩:=st;rcases Jk.mp hb with z|z
  ·subst z
   refine⟨_,he,fun v z=>?_⟩
   have z':Data.fields _=Data.cell v:=z
   cases z'
  ·rw[Jl.mp z]
   exact⟨o,ho,fun v z=>by rw[hd]at z;cases z⟩
 keep:=fun i h h' st k=>⟨let⟨old,he⟩:=st.1;⟨old,k e (by simp) _ he⟩,st.2.at fun o q=>k it (by simp) o q⟩
 item:=by
  intro X hP hw hK hc i tx s σ H E I hf st hg;subst hP hw hK;obtain⟨xs,x,hq,hx⟩:=hg;obtain⟨its,rv,p,hz⟩:=I.tuple hq;obtain⟨u,hu,ru⟩:=rv.get hx;obtain⟨⟨old,he⟩,hit⟩:=st;have nae:a≠e:=fun z=>by
   subst z;obtain⟨o,ho,hcl,_⟩:=p;rw[he]at ho;cases ho;exact absurd (show Value.type "enumerate"=Value.type "tuple" from hcl) (by decide)
  have nai:a≠it:=fun z=>by
   subst z;obtain⟨o,ho,hcl,_⟩:=p;obtain⟨o',ho',hc',_⟩:=hit;rw[ho]at ho';cases ho';rw[hcl]at hc';exact absurd hc' (by decide)
  have hil:i<its.toArray.size:=by
   have:=(Jv.mp hu).1
   simpa using this
  refine wpAny_pyNext_enum_itemD (gu (A:=X.A.in1) (I.ok.hd hc) it a nai its.toArray) he ⟨hit,p⟩ hil hei (by simp [hei,Ne.symm nae]) fun v h' tk hv ho ⟨hit',_⟩ ht hsz hk=>⟨_,rfl,?_⟩
  have ev:v=u:=by
   have hv':its[i]? =some v:=by simpa using hv
   rw[hu]at hv';exact(Jy hv').symm
  subst ev;refine wpAny_letOwnedTupleGo_enum ho fun h'' he'' hs''=>?_
  have helt:e<s.heap.objs.size:=Jh he
  have hilt:it<s.heap.objs.size:=by obtain⟨_,y,_⟩:=hit;exact Jh y
  refine⟨.ref s.heap.objs.size,Gh H s.heap.objs.size (.tup [.int i,x]),?_,rfl,⟨_,x,I.hok.fresh (Jf _),rfl,fun ys hy=>by rw[I.tuple_inj hy hq];exact hx,rfl⟩,⟨⟨_,by simpa using he''⟩,?_⟩,?_⟩
  ·show L2.Gi X tx σ _ {s with heap:=h'',toks:=tk+1}
   refine eO (s:=s) (its:=[.int i tk,v]) I (ch:=[e,it]) (fun b o hb q=>?_) hf (fun b hb=>?_) (Jf _) (by show 2<=sizeLine;decide) (.cons ⟨_,rfl⟩ (.cons ru .nil)) ?_
   ·have hb1:b≠e:=fun z=>hb (by simp [z])
    have hb2:b≠it:=fun z=>hb (by simp [z])
    exact(hs''.2 b hb1).trans (hk b o hb1 hb2 q)
   ·rcases Jk.mp hb with z|z
    ·subst z;exact⟨_,he''⟩
    ·rw[Jl.mp z]
     obtain⟨o,y,_⟩:=hit'
     exact⟨o,(hs''.2 it (Ne.symm hei)).trans y⟩
   ·exact⟨_,(hs''.2 _ (JX helt)).trans ht,rfl,_,rfl⟩
  ·exact hit'.extBut hs''.extBut (Ne.symm hei)
  ·intro b hb
   rw[qi]
   ·exact(hf b hb).1
   ·rcases Jk.mp hb with z|z
    ·subst z;exact Jm helt
    ·rw[Jl.mp z];exact Jm hilt
 done:=by
  intro X hP hw hK hc i tx s σ H E I hf st hg;subst hP hw hK;obtain⟨xs,hq,hx⟩:=hg;obtain⟨its,rv,p,hz⟩:=I.tuple hq;obtain⟨⟨old,he⟩,hit⟩:=st;obtain⟨f0,f1,f2,f3,f4,f5⟩:=hf it (by simp)
  have hl:=rv.length;have nai:a≠it:=fun z=>by
   subst z;obtain⟨o,ho,hcl,_⟩:=p;obtain⟨o',ho',hc',_⟩:=hit;rw[ho]at ho';cases ho';rw[hcl]at hc';exact absurd hc' (by decide)
  unfold pyNext;have hT:s.TypeIs (.ref e) "enumerate":=⟨_,he,rfl⟩
  refine Ja (Ez (wpAny_callSpecial?_slot (name:=Str.ofString "__next__") hT F.slot_enumerate_next
   (JS F.slot_enumerate_next hT F.entry_enumerate_next ?_ (F.args_enumerate_next_1 _))))
  show wpAny _ _ (field (.ref e) 2 >>= _) _ _ _
  refine Ja (JR he rfl (x:= .ref it) rfl ?_)
  refine Ja (im (I.ok.hd hc) hit p (by simp;lia) fun h' ex eb hx'=>?_)
  obtain⟨o,ho,hcl⟩:=hx';refine Ja (EJ (T:="StopIteration") (b:=true) ⟨o,ho,hcl⟩ Fx ?_)
  exact Jb ⟨rfl,I.turned (t':=s.toks) (fun b o hb e=>eb b o hb e) f0 f1 f3 f4 f5⟩
 self:=fun _ _ _ _ _ st h=>by
  obtain⟨⟨old,he⟩,_⟩:=st;exact Fv he h
section
variable{X:Cx}
def uC(K:Frag)(ta:TA):TI:=fun σ H R=>ta σ H fun vs H1=>∃a,vs=[.ref a]/\((∃xs,Gq K H1 a xs)/\R (oB K a) H1\/(∃xs,Gu K H1 a xs)/\R (lV K a) H1)
theorem vz{a:Expr}{ta:TA}{p pos:Pos}{elts:List Expr}{x1}{tpos:Pos}(hg:Gl X "enumerate")(hm:X.mg "enumerate"=none)(ha:PA X [a] ta)(hs:starEach [a] X.env=[(false,eval a X.env)]:=by rfl):
  PI X (.Tuple elts x1 tpos) (.Call (.Name "enumerate" p) [a] [] pos) (uC X.K ta):=by
 intro tx s σ H R I h;refine Call_ (QZ I hg hm boot_enumerate (EU (qC (ha pos tx s σ H _ I h) fun us s1 zq=>?_) hs rfl))
 obtain⟨vs,H1,I1,r1,q1⟩:=zq;obtain⟨l,e,q1⟩:=q1;subst e;obtain⟨u,rfl,ru⟩:=r1.one;cases ru;have fpk:∀b∈[s1.heap.objs.size+1,s1.heap.objs.size],Zt X tx H1 b:=fun b hb=>by
  have hb':s1.heap.objs.size<=b:=by
   rcases Jk.mp hb with z|z
   ·rw[z];exact Eo _
   ·rw[Jl.mp z];exact Jf _
  exact I1.fpOk hb' (I1.hok.fresh hb')
 rcases q1 with⟨⟨xs,hq⟩,q⟩|⟨⟨xs,hq⟩,q⟩
 ·obtain⟨its,rv,pl,hz⟩:=I1.list hq
  refine call_enumerate_list pl.isList fun h' he hit hsz hk=>Fv he ?_
  exact⟨s1.heap.objs.size+1,[s1.heap.objs.size+1,s1.heap.objs.size],_,_,H1,rfl,I1.kept (t':=s1.toks) hk,iR l _ _ (JX (Ek _)),⟨⟨_,he⟩,hit⟩,fpk,q⟩
 ·obtain⟨its,rv,pl,hz⟩:=I1.tuple hq
  refine oS (show s1.heap.IsTuple l its.toArray from pl) fun h' he hit hk=>Fv he ?_
  exact⟨s1.heap.objs.size+1,[s1.heap.objs.size+1,s1.heap.objs.size],_,_,H1,rfl,I1.kept (t':=s1.toks) hk,pO l _ _ (JX (Ek _)),⟨⟨_,he⟩,hit⟩,fpk,q⟩
theorem ul{K:Frag}{a:Addr}{xs:List V}{g:TG}{tb:TS}{D:Ht}{σ:L2.St}{H:Hp}(Pv:Nat->L2.St->Hp->Prop)(h0:Pv 0 σ H)(hl:∀i σ H,i<=xs.length->Pv i σ H->Gu K H a xs)
  (hs:∀i x σ H p,xs[i]? =some x->Pv i σ H->H p=none->g (.ref p) σ (Gh H p (.tup [.int i,x])) fun σ2 H2=>tb {D with nx:=Pv (i+1),ct:=Pv (i+1),bk:=D.nx} σ2 H2)(hd:∀σ H,Pv xs.length σ H->D.nx σ H):
  ∃W:Nat->Nat->L2.St->Hp->Prop,(∃m,W 0 m σ H)/\∀i m σ H,W i m σ H->
   ((lV K a).stop i H/\D.nx σ H)\/((lV K a).go i H/\∃N:L2.St->Hp->Prop,(∀σ' H',N σ' H'->∃m',m'<m/\W (i+1) m' σ' H')/\∀x H',(lV K a).yld i H x H'->g x σ H' fun σ2 H2=>tb {D with nx:=N,ct:=N,bk:=D.nx} σ2 H2):=by
 refine⟨fun i m σ H=>m=xs.length-i/\i<=xs.length/\Pv i σ H,⟨xs.length,by simp,JI _,h0⟩,?_⟩
 rintro i m σ H ⟨rfl,hi,p⟩
 have q:=hl i σ H hi p
 by_cases hlt:i<xs.length
 ·refine .inr ⟨⟨xs,xs[i],q,by simp [hlt]⟩,Pv (i+1),fun σ' H' p'=>⟨xs.length-(i+1),by lia,rfl,hlt,p'⟩,fun x H' y=>?_⟩
  obtain⟨pp,v,hp,rfl,hv,rfl⟩:=y;exact hs i v σ H pp (hv xs q) p hp
 ·have e:i=xs.length:=by lia
  subst e;exact .inl ⟨⟨xs,q,Jf _⟩,hd σ H p⟩
end
structure Ic(z TI TO i1 i2:Addr)(f1 f2:List Addr):Prop where
 TIz:TI≠z
 TOz:TO≠z
 i1z:i1≠z
 i2z:i2≠z
 TITO:TI≠TO
 TIi1:TI≠i1
 TIi2:TI≠i2
 TOi1:TO≠i1
 TOi2:TO≠i2
 i12:i1≠i2
 z1:z∉f1
 z2:z∉f2
 t1:TO∉f1
 t2:TO∉f2
 x1:i2∉f1
 x2:i1∉f2
section
variable{prog:Program}{w:World}{A:Around}{E:Gb}{s:Shared}{z TI TO i1 i2:Addr}{f1 f2:List Addr}{n1 n2 k:Nat}{P1 P2:Nat->Value->Prop}{S1 S2:Nat->Heap->Prop}{a b:Value}
theorem iM{Q:Gb}(D1:Draws prog w A i1 f1 n1 P1 S1)(D2:Draws prog w A i2 f2 n2 P2 S2)(Z:Ic z TI TO i1 i2 f1 f2)
  (hz:IsZip s.heap z TI TO .none)(hTI:IsPair s.heap TI (.ref i1) (.ref i2))(hTO:IsPair s.heap TO a b)(q1:S1 k s.heap)(q2:S2 k s.heap)(k1:k<n1)(k2:k<n2)
  (hQ:∀x y h' tk,P1 k x->P2 k y->IsZip h' z TI TO (rawInt s.heap.objs.size)->IsPair h' TO x y->S1 (k+1) h'->S2 (k+1) h'->IsPair h' s.heap.objs.size x y->
   (∀c o,c≠z->c≠TO->c≠i1->c≠i2->s.heap.get? c=some o->h'.get? c=some o)->Q (.ref s.heap.objs.size) {s with heap:=h',toks:=tk}):
  wpAny (model prog w) A (Builtin.«zip.__next__» ⟨[.ref z],[]⟩) (fun fin s'=>∃v,fin= .done (.ret v)/\Q v s') E s:=by
 obtain⟨hp,g,d,t0,os⟩:=s
 show wpAny _ _ (field (.ref z) 2 >>= _) _ _ _
 refine Ja (JR hz rfl (x:= .bool false) rfl ?_)
 show wpAny _ _ (field (.ref z) 3 >>= _) _ _ _
 refine Ja (JR hz rfl (x:= .ref TI) rfl ?_)
 refine Ja (EI hTI rfl ?_)
 show wpAny _ _ (Builtin.SmallTypes.ownedTupleIsFree (.ref z) >>= _) _ _ _
 refine Ja ?_
 unfold Builtin.SmallTypes.ownedTupleIsFree;refine Ja (JR hz rfl (x:= .none) rfl (Jb ?_))
 simp only[Ep];refine Ja (Ec ?_)
 refine Ja (JR hz rfl (x:= .ref TO) rfl ?_)
 refine Ja (Fy hz (by simp) fun h₁ hz₁ hs₁=>?_)
 replace hz₁:IsZip h₁ z TI TO .ellipsis:=hz₁
 replace hs₁:Heap.SameBut z hp h₁:=hs₁
 refine Ja ?_
 simp only[List.zipIdx_cons,List.zipIdx_nil,List.forIn_cons,List.forIn_nil];refine Ja (Ja (wpAny_onRaise ?_))
 show wpAny _ _ (Builtin.SmallTypes.nextOf (.ref i1) >>= _) _ _ _
 have q1a:S1 k h₁:=D1.frame _ _ _ q1 fun c hc o e=>hs₁.extBut c o (fun y=>Z.z1 (y▸hc)) e
 refine Ja (D1.item k ⟨h₁,g,d,t0,os⟩ _ _ k1 q1a fun x h₂ tk₂ p1 q1b hs₂=>Jb ?_)
 replace hs₂:Heap.SameBut i1 h₁ h₂:=hs₂
 have hTO₂:IsPair h₂ TO a b:=hs₂.extBut _ _ Z.TOi1 (hs₁.extBut _ _ Z.TOz hTO)
 refine Ja (EI hTO₂ rfl ?_)
 refine Ja (wpAny_updateSeq_pair hTO₂ fun h₃ hTO₃ hs₃=>?_)
 replace hTO₃:IsPair h₃ TO x b:=hTO₃
 replace hs₃:Heap.SameBut TO h₂ h₃:=hs₃
 refine Ja (wpAny_letGo (Jb ?_))
 refine Ja (Ja (wpAny_onRaise ?_))
 show wpAny _ _ (Builtin.SmallTypes.nextOf (.ref i2) >>= _) _ _ _
 have q2a:S2 k h₃:=D2.frame _ _ _ q2 fun c hc o e=>hs₃.extBut c o (fun y=>Z.t2 (y▸hc)) (hs₂.extBut c o (fun y=>Z.x2 (y▸hc)) (hs₁.extBut c o (fun y=>Z.z2 (y▸hc)) e))
 refine Ja (D2.item k ⟨h₃,g,d,tk₂,os⟩ _ _ k2 q2a fun y h₄ tk₄ p2 q2b hs₄=>Jb ?_)
 replace hs₄:Heap.SameBut i2 h₃ h₄:=hs₄
 have hTO₄:IsPair h₄ TO x b:=hs₄.extBut _ _ Z.TOi2 hTO₃
 refine Ja (EI hTO₄ rfl ?_)
 refine Ja (wpAny_updateSeq_pair hTO₄ fun h₅ hTO₅ hs₅=>?_)
 replace hTO₅:IsPair h₅ TO x y:=hTO₅
 replace hs₅:Heap.SameBut TO h₄ h₅:=hs₅
 refine Ja (wpAny_letGo (Jb (Jb ?_)))
 refine Ja (EI hTO₅ rfl ?_)
 refine Ja (wpAny_newTuple ?_)
 have hsz:h₅.objs.size=hp.objs.size:=by rw[hs₅.1,hs₄.1,hs₃.1,hs₂.1,hs₁.1]
 have hz₅:IsZip h₅ z TI TO .ellipsis:=hs₅.extBut _ _ Z.TOz.symm (hs₄.extBut _ _ Z.i2z.symm (hs₃.extBut _ _ Z.TOz.symm (hs₂.extBut _ _ Z.i1z.symm hz₁)))
 have hk₅:∀c o,c≠z->c≠TO->c≠i1->c≠i2->hp.get? c=some o->h₅.get? c=some o:=fun c o c1 c2 c3 c4 e=>
  hs₅.extBut _ _ c2 (hs₄.extBut _ _ c4 (hs₃.extBut _ _ c2 (hs₂.extBut _ _ c3 (hs₁.extBut _ _ c1 e))))
 have q1c:S1 (k+1) h₅:=D1.frame _ _ _ q1b fun c hc o e=>hs₅.extBut c o (fun y=>Z.t1 (y▸hc)) (hs₄.extBut c o (fun y=>Z.x1 (y▸hc)) (hs₃.extBut c o (fun y=>Z.t1 (y▸hc)) e))
 have q2c:S2 (k+1) h₅:=D2.frame _ _ _ q2b fun c hc o e=>hs₅.extBut c o (fun y=>Z.t2 (y▸hc)) e
 have hzlt:z<h₅.objs.size:=Jh hz₅
 show wpAny _ _ (Builtin.SmallTypes.ownedTupleHandOut (.ref z) (.ref h₅.objs.size) >>= _) _ _ _
 refine Ja ?_
 unfold Builtin.SmallTypes.ownedTupleHandOut;have hz₆:IsZip (h₅.push {cls:= .type "tuple",data:= .seq #[x,y]}) z TI TO .ellipsis:=Ji _ hz₅
 refine Ja (Fy hz₆ (by simp) fun h₇ hz₇ hs₇=>?_)
 replace hz₇:IsZip h₇ z TI TO (rawInt h₅.objs.size):=hz₇
 refine Fy hz₇ (by simp) fun h₈ hz₈ hs₈=>?_
 replace hz₈:IsZip h₈ z TI TO (rawInt h₅.objs.size):=hz₈
 have up:∀c o,c≠z->h₅.get? c=some o->h₈.get? c=some o:=fun c o c1 e=>hs₈.extBut _ _ c1 (hs₇.extBut _ _ c1 (Ji _ e))
 have hT₈:IsPair h₈ h₅.objs.size x y:=hs₈.extBut _ _ (JX hzlt) (hs₇.extBut _ _ (JX hzlt) (Jp _ rfl))
 rw[hsz]at hz₈ hT₈;refine Jb ⟨_,rfl,?_⟩
 show Q (.ref h₅.objs.size) _
 rw[hsz];exact hQ x y h₈ tk₄ p1 p2 hz₈ (up _ _ Z.TOz hTO₅) (D1.frame _ _ _ q1c fun c hc o e=>up c o (fun y=>Z.z1 (y▸hc)) e) (D2.frame _ _ _ q2c fun c hc o e=>up c o (fun y=>Z.z2 (y▸hc)) e) hT₈ fun c o c1 c2 c3 c4 e=>up c o c1 (hk₅ c o c1 c2 c3 c4 e)
theorem lC{Q:Fin->Shared->Prop}(D1:Draws prog w A i1 f1 n1 P1 S1)(Z:Ic z TI TO i1 i2 f1 f2)
  (hz:IsZip s.heap z TI TO .none)(hTI:IsPair s.heap TI (.ref i1) (.ref i2))(q1:S1 n1 s.heap)
  (hE:∀h' e,(∀c o,c≠z->c≠i1->s.heap.get? c=some o->h'.get? c=some o)->(∃o,h'.get? e=some o/\o.cls= .type "StopIteration")->E (.ref e) {s with heap:=h'}):
  wpAny (model prog w) A (Builtin.«zip.__next__» ⟨[.ref z],[]⟩) Q E s:=by
 obtain⟨hp,g,d,t0,os⟩:=s
 show wpAny _ _ (field (.ref z) 2 >>= _) _ _ _
 refine Ja (JR hz rfl (x:= .bool false) rfl ?_)
 show wpAny _ _ (field (.ref z) 3 >>= _) _ _ _
 refine Ja (JR hz rfl (x:= .ref TI) rfl ?_)
 refine Ja (EI hTI rfl ?_)
 show wpAny _ _ (Builtin.SmallTypes.ownedTupleIsFree (.ref z) >>= _) _ _ _
 refine Ja ?_
 unfold Builtin.SmallTypes.ownedTupleIsFree;refine Ja (JR hz rfl (x:= .none) rfl (Jb ?_))
 simp only[Ep];refine Ja (Ec ?_)
 refine Ja (JR hz rfl (x:= .ref TO) rfl ?_)
 refine Ja (Fy hz (by simp) fun h₁ hz₁ hs₁=>?_)
 replace hz₁:IsZip h₁ z TI TO .ellipsis:=hz₁
 replace hs₁:Heap.SameBut z hp h₁:=hs₁
 refine Ja ?_
 simp only[List.zipIdx_cons,List.zipIdx_nil,List.forIn_cons,List.forIn_nil];refine Ja (Ja (wpAny_onRaise ?_))
 show wpAny _ _ (Builtin.SmallTypes.nextOf (.ref i1) >>= _) _ _ _
 have q1a:S1 n1 h₁:=D1.frame _ _ _ q1 fun c hc o e=>hs₁.extBut c o (fun y=>Z.z1 (y▸hc)) e
 refine Ja (D1.done ⟨h₁,g,d,t0,os⟩ _ _ q1a fun h₂ e hs₂ he=>?_)
 obtain⟨oe,hoe,hce⟩:=he
 replace hs₂:Heap.ExtBut i1 h₁ h₂:=hs₂
 have hz₂:IsZip h₂ z TI TO .ellipsis:=hs₂ _ _ Z.i1z.symm hz₁
 have hez:e≠z:=fun x=>by subst x;rw[hz₂]at hoe;cases hoe;simp at hce
 refine Fy hz₂ (by simp) fun h₃ _ hs₃=>hE h₃ e (fun c o c1 c3 x=>hs₃.extBut _ _ c1 (hs₂ _ _ c3 (hs₁.extBut _ _ c1 x))) ⟨oe,hs₃.extBut _ _ hez hoe,hce⟩
end
abbrev wO(h:Heap)(l1:Addr):Heap:=h.push {cls:= .type "tuple_iterator",data:= .fields #[.ref l1,.int 0 0]}
abbrev wY(h:Heap)(l1 l2:Addr):Heap:=(wO h l1).push {cls:= .type "tuple_iterator",data:= .fields #[.ref l2,.int 0 0]}
abbrev xl(h:Heap)(l1 l2:Addr):Heap:=(wY h l1 l2).push {cls:= .type "tuple",data:= .seq #[.ref h.objs.size,.ref (wO h l1).objs.size]}
abbrev wQ(h:Heap)(l1 l2:Addr):Heap:=(xl h l1 l2).push {cls:= .type "tuple",data:= .seq #[.none,.none]}
abbrev oG(h:Heap)(l1 l2:Addr):Heap:=(wQ h l1 l2).push {cls:= .type "zip",data:= .fields #[.none,.bool false,.bool false,.ref (wY h l1 l2).objs.size,.ref (xl h l1 l2).objs.size]}
theorem oU(l1 l2:Addr)(xs ys:Array Value):
  Meets (Builtin.«zip.__new__» ⟨[.type "zip",.ref l1,.ref l2],[]⟩) (fun _ R s=>s.heap.IsTuple l1 xs/\s.heap.IsTuple l2 ys/\
   R (.ok (.ret (.ref (wQ s.heap l1 l2).objs.size))) {s with heap:=oG s.heap l1 l2}):=
 .of_wp fun prog w A R s h=>by
  obtain⟨hp,g,d,tk,os⟩:=s;obtain⟨hl1,hl2,h⟩:=h
  have hsub:=sub_zip;have hL1:Heap.IsTuple (Shared.heap ⟨hp,g,d,tk,os⟩) l1 xs:=hl1
  have hL2:Heap.IsTuple (Shared.heap ⟨hp.push {cls:= .type "tuple_iterator",data:= .fields #[.ref l1,.int 0 0]},g,d,tk,os⟩) l2 ys:=let⟨o,e,r⟩:=hl2;⟨o,Ji _ e,r⟩
  wp_walk using ET hL1,ET hL2
  exact⟨_,rfl,h⟩
section
variable{prog:Program}{w:World}{A:Around}{E:Gb}{s:Shared}
theorem uT{l1 l2:Addr}{xs ys:Array Value}{Q:Gb}(hl1:s.heap.IsTuple l1 xs)(hl2:s.heap.IsTuple l2 ys)
  (h:∀h',IsZip h' (s.heap.objs.size+4) (s.heap.objs.size+2) (s.heap.objs.size+3) .none->IsPair h' (s.heap.objs.size+2) (.ref s.heap.objs.size) (.ref (s.heap.objs.size+1))->
   IsPair h' (s.heap.objs.size+3) .none .none->h'.IsTupleIter s.heap.objs.size l1 0->h'.IsTupleIter (s.heap.objs.size+1) l2 0->
   (∀c o,s.heap.get? c=some o->h'.get? c=some o)->Q (.ref (s.heap.objs.size+4)) {s with heap:=h'}):
  wpAny (model prog w) A (call (.type "zip") [.ref l1,.ref l2]) Q E s:=by
 refine callType_new F.called_zip (by decide) (F.typeCall_zip_2 _ _) (F.newCall_zip_2 _ _) (fun obj=>F.args_object_init_3 obj _ _) F.entry_zip_new
  (oU l1 l2 xs ys) ⟨hl1,hl2,?_⟩
 have z1:(wO s.heap l1).objs.size=s.heap.objs.size+1:=JV ..
 have z2:(wY s.heap l1 l2).objs.size=s.heap.objs.size+2:=by rw[JV,z1]
 have z3:(xl s.heap l1 l2).objs.size=s.heap.objs.size+3:=by rw[JV,z2]
 have z4:(wQ s.heap l1 l2).objs.size=s.heap.objs.size+4:=by rw[JV,z3]
 have g5:(oG s.heap l1 l2).get? (wQ s.heap l1 l2).objs.size=some _:=Jp _ rfl
 have g4:(oG s.heap l1 l2).get? (xl s.heap l1 l2).objs.size=some _:=Ji _ (Jp _ rfl)
 have g3:(oG s.heap l1 l2).get? (wY s.heap l1 l2).objs.size=some _:=Ji _ (Ji _ (Jp _ rfl))
 have g2:(oG s.heap l1 l2).get? (wO s.heap l1).objs.size=some _:=Ji _ (Ji _ (Ji _ (Jp _ rfl)))
 have g1:(oG s.heap l1 l2).get? s.heap.objs.size=some _:=Ji _ (Ji _ (Ji _ (Ji _ (Jp _ rfl))))
 show _/\_
 rw[z2,z3,z4]at g5;rw[z1,z2]at g3;rw[z3]at g4;rw[z1]at g2;rw[z4]
 exact⟨⟨_,g5,rfl⟩,h _ g5 g3 g4 ⟨_,g1,rfl,rfl⟩ ⟨_,g2,rfl,rfl⟩ fun c o x=>
  Ji _ (Ji _ (Ji _ (Ji _ (Ji _ x))))⟩
end
section
variable{X:Cx}{tx:Gd}{σ:L2.St}{H:Hp}{s:Shared}
theorem nP{h':Heap}{t':Nat}{ch:List Addr}(I:L2.Gi X tx σ H s)(k:∀b o,b∉ch->s.heap.get? b=some o->h'.get? b=some o)(hch:∀b∈ch,Zt X tx H b):L2.Gi X tx σ H {s with heap:=h',toks:=t'}:=by
 have nch:∀b u,H b=some u->b∉ch:=fun b u e z=>by rw[(hch b z).1]at e;cases e
 refine I.step (g':=s.gens) (d':=s.drawn) (ch:=ch) (fun b hb=>⟨(hch b hb).2.2.2.1,(hch b hb).2.1,(hch b hb).2.2.2.2.1,(hch b hb).2.2.2.2.2⟩) (fun b o _ _ hc e _=>k b o hc e) (fun b o _ _ hc e _=>⟨o.slots,k b o hc e⟩)
  (fun _ _ _ _ n=>n) (fun b o hc e=>⟨o,k b o hc e⟩) (fun _ _ e=>e) (fun _ _ _ e=>e) (fun b ps e=>⟨#[],by rw[e];simp⟩) (fun m hm=>?_) (fun b u e=>?_) I.bare
 ·obtain⟨o,es,ep,ho,r⟩:=hm
  exact⟨o,es,ep,k _ o (fun z=>(hch _ z).2.1 rfl) ho,r⟩
 ·refine(I.hok b u e).stay (fun c v hc q=>k c v ?_ q) (fun _ q=>q) fun _ _ q=>q
  rcases hc with z|z
  ·rw[z];exact nch b u e
  ·exact nch c _ z
theorem eG{H:Hp}{a b:Addr}{u:HO}(h:Rd H a u)(h':H b=none):a≠b:=by
 rcases h with h|⟨o,h⟩
 ·exact qo h h'
 ·exact qo h h'
def Bq(a1 a2:Addr):It:=
  ⟨fun i H=>∃xs ys x y,Rd H a1 (.tup xs)/\Rd H a2 (.tup ys)/\xs[i]? =some x/\ys[i]? =some y,
   fun i H v H'=>∃p x y,H p=none/\v= .ref p/\(∀xs,Rd H a1 (.tup xs)->xs[i]? =some x)/\(∀ys,Rd H a2 (.tup ys)->ys[i]? =some y)/\H'=Gh H p (.tup [x,y]),
   fun i H=>∃xs,Rd H a1 (.tup xs)/\xs.length=i⟩
theorem vE{P:Program}{w:World}{K:Frag}{elts:List Expr}{x1}{pos:Pos}(a1 a2 z TI TO i1 i2:Addr)(d1:TI≠z)(d2:TO≠z)(d3:i1≠z)(d4:i2≠z)(d5:TI≠TO)(d6:TI≠i1)(d7:TI≠i2)(d8:TO≠i1)(d9:TO≠i2)(d10:i1≠i2):
  Ig P w K (.Tuple elts x1 pos) (Bq a1 a2) [z,TI,TO,i1,i2] z (fun i h=>IsZip h z TI TO .none/\IsPair h TI (.ref i1) (.ref i2)/\(∃a b,IsPair h TO a b)/\h.IsTupleIter i1 a1 i/\h.IsTupleIter i2 a2 i) where
 mem:=by simp
 obj:=fun i h st b hb=>by
  obtain⟨hz,hTI,⟨a,b',hTO⟩,⟨o1,ho1,_,hd1⟩,⟨o2,ho2,_,hd2⟩⟩:=st;simp only[Jk,Js,Jt]at hb;rcases hb with rfl|rfl|rfl|rfl|rfl
  ·exact⟨_,hz,fun v y=>by have y':Data.fields _=Data.cell v:=y;cases y'⟩
  ·exact⟨_,hTI,fun v y=>by have y':Data.seq _ _=Data.cell v:=y;cases y'⟩
  ·exact⟨_,hTO,fun v y=>by have y':Data.seq _ _=Data.cell v:=y;cases y'⟩
  ·exact⟨_,ho1,fun v y=>by rw[hd1]at y;cases y⟩
  ·exact⟨_,ho2,fun v y=>by rw[hd2]at y;cases y⟩
 keep:=fun i h h' st k=>by
  obtain⟨hz,hTI,⟨a,b',hTO⟩,h1,h2⟩:=st
  exact⟨k z (by simp) _ hz,k TI (by simp) _ hTI,⟨a,b',k TO (by simp) _ hTO⟩,h1.at fun o e=>k i1 (by simp) o e,h2.at fun o e=>k i2 (by simp) o e⟩
 item:=by
  intro X hP hw hK hc i tx s σ H E I hf st hg;subst hP hw hK;obtain⟨xs,ys,x,y,ha1,ha2,hx,hy⟩:=hg;obtain⟨its,rv,p,hz0⟩:=I.tuple (.inl ha1)
  obtain⟨its2,rv2,p2,hz2⟩:=I.tuple (.inl ha2)
  obtain⟨u,hu,ru⟩:=rv.get hx;obtain⟨u2,hu2,ru2⟩:=rv2.get hy;obtain⟨hz,hTI,⟨a,b',hTO⟩,h1,h2⟩:=st;have n1:∀c∈[z,TI,TO,i1,i2],a1≠c:=fun c hc=>eG ha1 (hf c hc).1
  have n2:∀c∈[z,TI,TO,i1,i2],a2≠c:=fun c hc=>eG ha2 (hf c hc).1
  have Z:Ic z TI TO i1 i2 [i1,a1] [i2,a2]:=⟨d1,d2,d3,d4,d5,d6,d7,d8,d9,d10,by simp [Ne.symm d3,Ne.symm (n1 z (by simp))],by simp [Ne.symm d4,Ne.symm (n2 z (by simp))],by simp [d8,Ne.symm (n1 TO (by simp))],by simp [d9,Ne.symm (n2 TO (by simp))],by simp [Ne.symm d10,Ne.symm (n1 i2 (by simp))],by simp [d10,Ne.symm (n2 i1 (by simp))]⟩
  have hil:i<its.toArray.size:=by have:=(Jv.mp hu).1;simpa using this
  have hil2:i<its2.toArray.size:=by have:=(Jv.mp hu2).1;simpa using this
  have hT:s.TypeIs (.ref z) "zip":=⟨_,hz,rfl⟩
  unfold pyNext;refine Ja (Ez (wpAny_callSpecial?_slot (name:=Str.ofString "__next__") hT EW
   (JS EW hT FN
    (iM (gu (A:=X.A.in1) (I.ok.hd hc) i1 a1 (n1 i1 (by simp)) its.toArray) (gu (A:=X.A.in1) (I.ok.hd hc) i2 a2 (n2 i2 (by simp)) its2.toArray) Z hz hTI hTO ⟨h1,p⟩ ⟨h2,p2⟩ hil hil2
     fun v v2 h' tk hv hv2 ho hTO' q1 q2 ht hk=>Jb ⟨_,rfl,?_⟩) (FO _))))
  have ev:v=u:=by
   have hv':its[i]? =some v:=by simpa using hv
   rw[hu]at hv';exact(Jy hv').symm
  have ev2:v2=u2:=by
   have hv':its2[i]? =some v2:=by simpa using hv2
   rw[hu2]at hv';exact(Jy hv').symm
  subst ev ev2;refine wpAny_letOwnedTupleGo_zip ho fun h'' hz'' hs''=>?_
  have lt:∀c∈[z,TI,TO,i1,i2],c<s.heap.objs.size:=fun c hc=>by
   simp only[Jk,Js,Jt]at hc;rcases hc with rfl|rfl|rfl|rfl|rfl
   ·exact Jh hz
   ·exact Jh hTI
   ·exact Jh hTO
   ·obtain⟨_,e,_⟩:=h1;exact Jh e
   ·obtain⟨_,e,_⟩:=h2;exact Jh e
  have hTI':IsPair h'' TI (.ref i1) (.ref i2):=hs''.extBut _ _ d1 (hk _ _ d1 d5 d6 d7 hTI)
  have hTO'':IsPair h'' TO v v2:=hs''.extBut _ _ d2 hTO'
  have h1':h''.IsTupleIter i1 a1 (i+1):=q1.1.extBut hs''.extBut d3
  have h2':h''.IsTupleIter i2 a2 (i+1):=q2.1.extBut hs''.extBut d4
  refine⟨.ref s.heap.objs.size,Gh H s.heap.objs.size (.tup [x,y]),?_,rfl,⟨_,x,y,I.hok.fresh (Jf _),rfl,fun zs hy'=>by rw[I.tuple_inj (.inl hy') (.inl ha1)];exact hx,fun zs hy'=>by rw[I.tuple_inj (.inl hy') (.inl ha2)];exact hy,rfl⟩,⟨hz'',hTI',⟨_,_,hTO''⟩,h1',h2'⟩,?_⟩
  ·show L2.Gi X tx σ _ {s with heap:=h'',toks:=tk}
   refine eO (s:=s) (its:=[v,v2]) I (ch:=[z,TI,TO,i1,i2]) (fun b o hb q=>?_) hf (fun b hb=>?_) (Jf _) (by show 2<=sizeLine;decide) (.cons ru (.cons ru2 .nil)) ?_
   ·simp only[Jk,Js,Jt,not_or]at hb
    exact hs''.extBut b o hb.1 (hk b o hb.1 hb.2.2.1 hb.2.2.2.1 hb.2.2.2.2 q)
   ·simp only[Jk,Js,Jt]at hb
    rcases hb with rfl|rfl|rfl|rfl|rfl
    ·exact⟨_,hz''⟩
    ·exact⟨_,hTI'⟩
    ·exact⟨_,hTO''⟩
    ·obtain⟨o,e,_⟩:=h1';exact⟨o,e⟩
    ·obtain⟨o,e,_⟩:=h2';exact⟨o,e⟩
   ·exact⟨_,hs''.extBut _ _ (JX (lt z (by simp))) ht,rfl,_,rfl⟩
  ·intro b hb
   rw[qi (Jm (lt b hb))]
   exact(hf b hb).1
 done:=by
  intro X hP hw hK hc i tx s σ H E I hf st hg;subst hP hw hK;obtain⟨xs,ha1,hx⟩:=hg;obtain⟨its,rv,p,hz0⟩:=I.tuple (.inl ha1)
  obtain⟨hz,hTI,⟨a,b',hTO⟩,h1,h2⟩:=st;have n1:∀c∈[z,TI,TO,i1,i2],a1≠c:=fun c hc=>eG ha1 (hf c hc).1
  have Z:Ic z TI TO i1 i2 [i1,a1] [i2]:=⟨d1,d2,d3,d4,d5,d6,d7,d8,d9,d10,by simp [Ne.symm d3,Ne.symm (n1 z (by simp))],by simp [Ne.symm d4],by simp [d8,Ne.symm (n1 TO (by simp))],by simp [d9],by simp [Ne.symm d10,Ne.symm (n1 i2 (by simp))],by simp [d10]⟩
  have hl:its.toArray.size=i:=by rw[Jr,<- rv.length];exact hx
  have hT:s.TypeIs (.ref z) "zip":=⟨_,hz,rfl⟩
  unfold pyNext;refine Ja (Ez (wpAny_callSpecial?_slot (name:=Str.ofString "__next__") hT EW
   (JS EW hT FN
    (lC (gu (A:=X.A.in1) (I.ok.hd hc) i1 a1 (n1 i1 (by simp)) its.toArray) Z hz hTI ⟨by rw[hl];exact h1,p⟩ fun h' e hk he=>?_) (FO _))))
  obtain⟨o,ho,hcl⟩:=he;refine Ja (EJ (T:="StopIteration") (b:=true) ⟨o,ho,hcl⟩ Fx ?_)
  refine Jb ⟨rfl,nP (t':=s.toks) I (ch:=[z,i1]) (fun b o hb e=>?_) (fun b hb=>hf b ?_)⟩
  ·simp only[Jk,Js,Jt,not_or]at hb
   exact hk b o hb.1 hb.2 e
  ·simp only[Jk,Js,Jt]at hb
   rcases hb with rfl|rfl<;>simp
 self:=fun _ _ _ _ _ st h=>FP st.1 h
def AU(ta:TA):TI:=fun σ H R=>ta σ H fun vs H1=>∃a1 a2 xs ys,vs=[.ref a1,.ref a2]/\Rd H1 a1 (.tup xs)/\Rd H1 a2 (.tup ys)/\R (Bq a1 a2) H1
theorem CB{a b:Expr}{ta:TA}{p pos:Pos}{elts:List Expr}{x1}{tpos:Pos}(hg:Gl X "zip")(hm:X.mg "zip"=none)(ha:PA X [a,b] ta)(h1:zU a=true:=by rfl)(h2:zU b=true:=by rfl):
  PI X (.Tuple elts x1 tpos) (.Call (.Name "zip" p) [a,b] [] pos) (AU ta):=by
 intro tx s σ H R I h;have hs2:starEach [b] X.env=[(false,eval b X.env)]:=Ze h2
 refine Call_ (QZ I hg hm boot_zip (EU (qC (ha pos tx s σ H _ I h) fun us s1 zq=>?_) (by rw[Ze h1,hs2]) (by rw[hs2];rfl)))
 obtain⟨vs,H1,I1,r1,q1⟩:=zq;obtain⟨a1,a2,xs,ys,e,e1,e2,q⟩:=q1;subst e;obtain⟨u,v,rfl,ru,rv⟩:=r1.two;cases ru;cases rv;obtain⟨its,r1',p1,hz⟩:=I1.tuple (.inl e1)
 obtain⟨its2,r2',p2,hz2⟩:=I1.tuple (.inl e2)
 have ad:∀(n i j:Nat),i≠j->n+i≠n+j:=fun n i j h=>by lia
 refine uT (show s1.heap.IsTuple a1 its.toArray from p1) (show s1.heap.IsTuple a2 its2.toArray from p2) fun h' hz hTI hTO h1 h2 hk=>FP hz ?_
 refine⟨s1.heap.objs.size+4,[s1.heap.objs.size+4,s1.heap.objs.size+2,s1.heap.objs.size+3,s1.heap.objs.size,s1.heap.objs.size+1],_,_,H1,rfl,I1.kept (t':=s1.toks) hk,
  vE a1 a2 (s1.heap.objs.size+4) (s1.heap.objs.size+2) (s1.heap.objs.size+3) s1.heap.objs.size (s1.heap.objs.size+1) (ad _ 2 4 (by decide)) (ad _ 3 4 (by decide)) (ad _ 0 4 (by decide)) (ad _ 1 4 (by decide)) (ad _ 2 3 (by decide)) (ad _ 2 0 (by decide)) (ad _ 2 1 (by decide)) (ad _ 3 0 (by decide)) (ad _ 3 1 (by decide)) (ad _ 0 1 (by decide)),⟨hz,hTI,⟨_,_,hTO⟩,h1,h2⟩,fun b hb=>?_,q⟩
 have hb':s1.heap.objs.size<=b:=by
  simp only[Jk,Js,Jt]at hb;rcases hb with rfl|rfl|rfl|rfl|rfl
  ·exact EK _ 4
  ·exact EK _ 2
  ·exact EK _ 3
  ·exact Jf _
  ·exact EK _ 1
 exact I1.fpOk hb' (I1.hok.fresh hb')
end
theorem wv{K:Frag}{js:List Nat}{te:TE}{σ:L2.St}{H:Hp}{Q:VK}{a1 a2:Addr}{xs ys:List V}(hl:xs.length=ys.length)(hn:xs.length<=sizeLine)(Pv:Nat->List V->Hp->Prop)(h0:Pv 0 [] H)
  (hk:∀i zs H,Pv i zs H->Rd H a1 (.tup xs)/\Rd H a2 (.tup ys))
  (hs:∀i zs H p x y,xs[i]? =some x->ys[i]? =some y->zs.length=i->Pv i zs H->H p=none->te (some x::some y::ZH js σ) (Gh H p (.tup [x,y])) fun v H3=>Pv (i+1) (zs++[v]) H3)
  (hd:∀zs H,zs.length=xs.length->Pv xs.length zs H->∀p,H p=none->Q (.ref p) (Gh H p (.lst zs))):
  jK 2 js (kZ K 2 (eP (QN 0) (eP (QN 1) pH))) te σ Q (Bq a1 a2) H:=by
 refine⟨fun i m zs τ H=>m=xs.length-i/\i<=xs.length/\zs.length=i/\Pv i zs H/\∃o o',τ=o::o'::ZH js σ,⟨xs.length,by simp,JI _,rfl,h0,none,none,rfl⟩,?_⟩
 rintro i m zs τ H ⟨rfl,hi,hzl,p,o,o',rfl⟩
 obtain⟨e1,e2⟩:=hk i zs H p
 by_cases hlt:i<xs.length
 ·have hlt2:i<ys.length:=by lia
  refine .inr ⟨⟨xs,ys,xs[i],ys[i],e1,e2,by simp [hlt],by simp [hlt2]⟩,by lia,fun v H' y=>?_⟩
  obtain⟨pp,x,y,hp,rfl,hx,hy,rfl⟩:=y;refine⟨pp,_,rfl,Gu.of qc,rfl,_,_,rfl,_,_,rfl,rfl,?_⟩
  exact⟨fun v H3=>Pv (i+1) (zs++[v]) H3,fun v H3 p3=>⟨xs.length-(i+1),by lia,rfl,hlt,by simp [hzl],p3,_,_,rfl⟩,hs i zs _ pp x y (hx xs e1) (hy ys e2) hzl p hp⟩
 ·have e:i=xs.length:=by lia
  subst e;exact .inl ⟨⟨xs,e1,rfl⟩,hd zs H hzl p⟩
end L3
namespace L3
open PySem PySem.Spec PyProof.Rows L2 PySem.SeqAt
open Sem (wp)
open AutoSeq1 (wpAny_loadPart')
section
variable{X:Cx}
theorem Rd.same{H H':Hp}{a:Addr}{u:HO}(s:Ge H H')(h:Rd H a u):Rd H' a u:=by
 rcases h with h|⟨o,h⟩
 ·exact .inl (s _ _ h)
 ·exact .inr ⟨o,s _ _ h⟩
inductive IW (H:Hp):V->String->Prop where
 |int (i:Int):IW H (.int i) "int"
 |bl (b:Bool):IW H (.bl b) "bool"
 |tup {a:Addr} {xs:List V} (h:Rd H a (.tup xs)):IW H (.ref a) "tuple"
 |str (x:Str):IW H (.str x) "str"
 |non:IW H .non "NoneType"
 |lst {a:Addr} {xs:List V} (h:H a=some (.lst xs)):IW H (.ref a) "list"
theorem ou{H:Hp}{x:V}{t:String}(h:IW H x t):t∈gT:=by cases h<;>simp
theorem nq(K:Frag){t:String}(ht:t∈gT):∀cs:List String,(∀c∈cs,c∈cZ)->W.kitAny K (.type t) (cs.map Value.type)=some (cs.any (zk t))
 | [],_=>rfl
 |c::r,h=>by
  have e:=fc K t ht c (h c Jw);have ih:=nq K ht r fun d hd=>h d (JC _ hd)
  simp only[JQ,W.kitAny,e,J4];cases zk t c with
  |true=>rfl
  |false=>simpa using ih
theorem qI:qY X (.builtin "isinstance") (fun xs H Q=>∃x c t,xs=[x,.ty c]/\IW H x t/\c∈cZ/\Q (.bl (zk t c)) H):=by
 intro tx s σ H xs us Q I r h;obtain⟨x,c,t,rfl,ty,hc,q⟩:=h;obtain⟨u,v,rfl,ru,rv⟩:=bS r
 cases(show v=Value.type c from rv)
 have e:=fc X.K t (ou ty) c hc;have fin:∀tk,EP X tx σ Q (.bool (zk t c)) {s with toks:=tk}:=fun tk=>⟨.bl _,H,I.tok tk,rfl,q⟩
 cases ty with
 |int i=>obtain⟨t,q⟩:=(show∃t,u=Value.int i t from ru);cases q;exact J0 W.kitx_int I.kIn True.intro e (fun z=>nomatch z) fin
 |bl b=>cases(show u=Value.bool b from ru);exact J0 W.kitx_bool I.kIn True.intro e (fun z=>nomatch z) fin
 | @tup a ys hr=>
  cases(show u=Value.ref a from ru)
  obtain⟨its,_,⟨o,h1,h2,_⟩,_⟩:=I.tuple (.inl hr)
  exact J0 W.kitx_tuple I.kIn ⟨o,h1,h2⟩ e (fun z=>nomatch z) fin
 |str x=>obtain⟨t,q⟩:=(show∃t,u=Value.str x t from ru);cases q;exact J0 W.kitx_str I.kIn True.intro e (fun z=>nomatch z) fin
 |non=>cases(show u=Value.none from ru);exact J0 W.kitx_none I.kIn True.intro e (fun z=>nomatch z) fin
 | @lst a ys ea=>
  cases(show u=Value.ref a from ru)
  obtain⟨_,_,n,_,h1⟩:=(show Gz X.prog X.w H s.heap a (.lst ys)from I.hok a _ ea)
  exact J0 W.kitx_list I.kIn ⟨_,h1,rfl⟩ e (fun z=>nomatch z) fin
theorem ma:∀{cs:List String} {us:List Value},Gk (cs.map V.ty) us->us=cs.map Value.type
 | [],_,.nil=>rfl
 |c::cs,_,.cons r t=>by
  cases(show _=Value.type c from r)
  rw[ma t];rfl
theorem Zb:qY X (.builtin "isinstance") (fun xs H Q=>∃(x:V) (p:Addr) (cs:List String) (t:String),xs=[x,.ref p]/\H p=some (.tup (cs.map V.ty))/\IW H x t/\(∀c∈cs,c∈cZ)/\Q (.bl (cs.any (zk t))) H):=by
 intro tx s σ H xs us Q I r h;obtain⟨x,p,cs,t,rfl,hp,ty,hc,q⟩:=h;obtain⟨u,v,rfl,ru,rv⟩:=bS r
 cases(show v=Value.ref p from rv)
 obtain⟨its,rvs,⟨⟨cl,dd,dt,sl⟩,ho,hcl,n,hdt⟩,_⟩:=I.tuple (Gu.of hp)
 replace hcl:cl= .type "tuple":=hcl
 replace hdt:dt= .seq its.toArray n:=hdt
 subst hcl hdt;have e:=nq X.K (ou ty) cs hc;rw[<- ma rvs]at e;have fin:∀tk,EP X tx σ Q (.bool (cs.any (zk t))) {s with toks:=tk}:=fun tk=>⟨.bl _,H,I.tok tk,rfl,q⟩
 cases ty with
 |int i=>obtain⟨t,q⟩:=(show∃t,u=Value.int i t from ru);cases q;exact Fk W.kitx_int I.kIn True.intro ho e (fun z=>nomatch z) fin
 |bl b=>cases(show u=Value.bool b from ru);exact Fk W.kitx_bool I.kIn True.intro ho e (fun z=>nomatch z) fin
 | @tup a ys hr=>
  cases(show u=Value.ref a from ru)
  obtain⟨its',_,⟨o,h1,h2,_⟩,_⟩:=I.tuple (.inl hr)
  exact Fk W.kitx_tuple I.kIn ⟨o,h1,h2⟩ ho e (fun z=>nomatch z) fin
 |str x=>obtain⟨t,q⟩:=(show∃t,u=Value.str x t from ru);cases q;exact Fk W.kitx_str I.kIn True.intro ho e (fun z=>nomatch z) fin
 |non=>cases(show u=Value.none from ru);exact Fk W.kitx_none I.kIn True.intro ho e (fun z=>nomatch z) fin
 | @lst a ys ea=>
  cases(show u=Value.ref a from ru)
  obtain⟨_,_,n,_,h1⟩:=(show Gz X.prog X.w H s.heap a (.lst ys)from I.hok a _ ea)
  exact Fk W.kitx_list I.kIn ⟨_,h1,rfl⟩ ho e (fun z=>nomatch z) fin
end
def zD(t:List Int):List Int:=(List.range 16).map fun d=>((t.idxOf ((d:Nat):Int):Nat):Int)
theorem aQ(t:List Int):(zD t).length=16:=by simp [zD]
section
variable{t:List Int}(p:t.Perm GM)
include p
theorem uk:t.Nodup:=p.nodup_iff.mpr (by decide)
theorem nU:t.length=16:=by rw[p.length_eq,km]
theorem Aw{d:Nat}(h:d<16):((d:Nat):Int)∈t:=p.mem_iff.mpr (JB.mpr ⟨d,J5.mpr h,rfl⟩)
theorem kE{i:Nat}(h:i<t.length):0<=t[i]/\t[i]<16:=kS (p.mem_iff.mp (Ey h))
theorem sw{i:Nat}(h:i<t.length):t.idxOf t[i]=i:=(uk p).idxOf_getElem i h
theorem yZ{d:Nat}(h:d<16):(zD t)[d]'(by rw[aQ];exact h)=((t.idxOf ((d:Nat):Int):Nat):Int):=by simp [zD]
end
end L3
namespace L3
open PySem PySem.Spec L2
variable{X:Cx}
theorem Qq{sts:List Stmt}:IT X sts sv:=⟨sS⟩
theorem vP{a:Expr}{ta:TA}{p pos:Pos}{elts:List Expr}{x1}{tpos:Pos}(hg:Gl X "enumerate")(hm:X.mg "enumerate"=none)(ha:QA X [a] ta)(hs:starEach [a] X.env=[(false,eval a X.env)]:=by rfl):QI X (.Tuple elts x1 tpos) (.Call (.Name "enumerate" p) [a] [] pos) (uC X.K ta):=⟨vz (hg:=hg) (hm:=hm) (ha:=ha.h) (hs:=hs)⟩
theorem B8{a b:Expr}{ta:TA}{p pos:Pos}{elts:List Expr}{x1}{tpos:Pos}(hg:Gl X "zip")(hm:X.mg "zip"=none)(ha:QA X [a,b] ta)(h1:zU a=true:=by rfl)(h2:zU b=true:=by rfl):QI X (.Tuple elts x1 tpos) (.Call (.Name "zip" p) [a,b] [] pos) (AU ta):=⟨CB (hg:=hg) (hm:=hm) (ha:=ha.h) (h1:=h1) (h2:=h2)⟩
def HJ(H:Hp)(b:Addr)(c:Nat):Prop:=∃n m k:Int,H b=some (ra n m k)/\0<=m/\m<4611686018427387904/\0<=k/\k<=c
structure Ij(b:Addr)(c:Nat)(H H':Hp):Prop where
 kp:∀a o,a≠b->H a=some o->H' a=some o
 bx:HJ H' b c
theorem HJ.mono{H:Hp}{b:Addr}{c d:Nat}(h:HJ H b c)(l:c<=d):HJ H b d:=by
 obtain⟨n,m,k,e,a1,a2,a3,a4⟩:=h
 exact⟨n,m,k,e,a1,a2,a3,by lia⟩
theorem Ij.mono{b:Addr}{c d:Nat}{H H':Hp}(h:Ij b c H H')(l:c<=d):Ij b d H H':=⟨h.kp,h.bx.mono l⟩
theorem Ij.trans{b:Addr}{c d:Nat}{H H1 H2:Hp}(x:Ij b c H H1)(y:Ij b d H1 H2):Ij b d H H2:=⟨fun c o n e=>y.kp c o n (x.kp c o n e),y.bx⟩
theorem _root_.L2.Ge.grc{b:Addr}{c:Nat}{H H':Hp}(x:Ge H H')(h:HJ H b c):Ij b c H H':=⟨fun c o _ e=>x c o e,let⟨n,m,k,e,r⟩:=h;⟨n,m,k,x _ _ e,r⟩⟩
theorem Ij.same{b:Addr}{c:Nat}{H H1 H2:Hp}(x:Ij b c H H1)(y:Ge H1 H2):Ij b c H H2:=x.trans (y.grc x.bx)
theorem zr{H:Hp}{b l:Addr}{c:Nat}(hb:HJ H b c)(h:H l=none):l≠b:=fun z=>by
 obtain⟨_,_,_,e,_⟩:=hb;subst z;rw[e]at h;cases h
def tO(K:Frag):Sp:=fun vs H Q _=>∃(a:Addr) (ns:List Int) (k:Nat),vs=[.ref a,.int k]/\Gq K H a (ns.map V.int)/\∀b H',H b=none->Ge H H'->HJ H' b 0->Q (.ref b) H'
def aa:Sp:=fun vs H Q _=>∃(b:Addr) (many:Int) (c:Nat),vs=[.ref b,.int many]/\HJ H b c/\c<1000000000/\0<many/\many<1073741824/\∀r H',0<=r->r<many->Ij b (c+1) H H'->Q (.int r) H'
theorem aL{H H':Hp}{p:Addr}(h:H' p=none)(s:Ge H H'):H p=none:=by
 cases e:H p with
 |none=>rfl
 |some o=>rw[s _ _ e]at h;cases h
def fP:V->Bool
 | .int _=>true
 |_=>false
theorem yV{H:Hp}{x:V}{t:String}(h:kd H x=some t):fP x=(zk t "int"&& !zk t "bool"):=by
 cases x with
 |non=>cases h;decide
 |bl b=>cases h;show false=_;decide
 |int i=>cases h;show true=_;decide
 |str x=>cases h;show false=_;decide
 |byt b=>cases h
 |flt b=>cases h
 |ty b=>cases h
 |ref a=>
  rcases f8 h with⟨xs,e,rfl⟩|⟨xs,e,rfl⟩
  ·show false=_;decide
  ·show false=_;decide
theorem v9{x:V}(h:fP x=true):∃i,x= .int i:=by
 cases x<;>first|exact⟨_,rfl⟩|cases h
theorem uG{x:V}(h:fP x=false):cm x=false:=by
 cases x<;>first|rfl|cases h
def fT:Sp:=fun vs H Q _=>∃x t,vs=[x]/\kd H x=some t/\Q (.bl (fP x)) H
inductive IP (H:Hp):Nat->V->V->Prop where
 |int (n:Nat) (i:Int):IP H n (.int i) (.int i)
 |str (n:Nat) (x:Str):IP H n (.str x) (.str x)
 |non (n:Nat):IP H n .non .non
 | tup {n:Nat} {a b:Addr} {xs ys:List V} (h1:Rd H a (.tup xs)) (h2:Rd H b (.tup ys)) (hl:xs.length=ys.length) (hz:xs.length<=sizeLine)
   (hi:∀(i:Nat) (x y:V),xs[i]? =some x->ys[i]? =some y->IP H n x y):IP H (n+1) (.ref a) (.ref b)
theorem IP.ints{H:Hp}{n:Nat}{a b:Addr}{ns:List Int}(h1:Rd H a (.tup (ns.map V.int)))(h2:Rd H b (.tup (ns.map V.int)))(hz:ns.length<=sizeLine):IP H (n+1) (.ref a) (.ref b):=
 .tup h1 h2 rfl (by rw[Je];exact hz) fun i x y e1 e2=>by
  rw[e1]at e2;cases e2;obtain⟨z,rfl,_⟩:=Qu e1;exact .int _ _
theorem Ge.sqt{K:Frag}{H H':Hp}{a:Addr}{xs:List V}(e:Ge H H')(h:Gu K H a xs):Gu K H' a xs:=by
 rcases h with h|h
 ·exact .inl (Rd.same e h)
 ·exact .inr h
def QP(t:List Int)(i:Nat):List Int:=(List.range 16).map fun d=>if((d:Nat):Int)∈t.take i then((t.idxOf ((d:Nat):Int):Nat):Int)else 0
theorem bD(t:List Int)(i:Nat):(QP t i).length=16:=by simp [QP]
theorem wu(t:List Int):QP t 0=List.replicate 16 0:=by simp only[QP,List.take_zero,Js,JE];rfl
theorem rO{t:List Int}{i d:Nat}(h:d<16):(QP t i)[d]'(by rw[bD];exact h)=if((d:Nat):Int)∈t.take i then((t.idxOf ((d:Nat):Int):Nat):Int)else 0:=by simp [QP]
theorem yY{t:List Int}(p:t.Perm GM):QP t t.length=zD t:=by
 unfold QP zD;refine FA fun d hd=>?_
 rw[EA,Jc (Aw p (J5.mp hd))]
theorem vA{t:List Int}(p:t.Perm GM){i:Nat}(hi:i<t.length):(QP t i).set t[i].toNat (i:Int)=QP t (i+1):=by
 have b:=kE p hi;refine List.ext_getElem (by rw[E3,bD,bD]) fun d h1 h2=>?_
 have hd:d<16:=by rw[bD]at h2;exact h2
 rw[List.getElem_set,rO hd,rO hd,Eh,Jj hi,Option.toList_some]
 by_cases e:t[i].toNat=d
 ·have e':((d:Nat):Int)=t[i]:=by lia
  rw[Jc e,Jc (by rw[e'];exact DX _ (Jl.mpr rfl)),e',sw p hi]
 ·have e':((d:Nat):Int)≠t[i]:=by lia
  rw[Jd e];simp only[JW,Jl,e',Jt]
def sW(K:Frag):Sp:=fun vs H Q _=>∃(a:Addr) (t:List Int),vs=[.ref a]/\(Gq K H a (t.map V.int)\/Gu K H a (t.map V.int))/\t.Perm GM/\∀p H',Ge H H'->H' p=some (.tup ((zD t).map V.int))->Q (.ref p) H'
theorem hJ{X:Cx}{K:Frag}(hK:X.K=K){pos:Pos}{es:List Expr}{k:Nat}{t:aP}(n:Nat)(hc:X.calm=true)(h:Lf X es t)(hn:(assignEach es X.env).length=n:=by rfl)(hst:(assignEach es X.env).findIdx? (·.1)=none:=by rfl):QG X (.Tuple es k pos) (kZ K n t):=by
 subst hK
 exact⟨lE (hc:=hc) (h:=h.h) (hn:=hn) (hst:=hst)⟩
end L3
namespace L3
open PySem PySem.Spec PyProof.Rows L2
open Sem (wp)
namespace RV
theorem uL:Slot "reversed" "__init__" "object.__init__":=
  .of (owner := "object") (n := "__init__") (by rw[Fl,Fn]
                                                kernel_rfl) (by decide +kernel) (by decide +kernel) (by decide +kernel)
    (by first | exact .inl (by decide +kernel) | exact .inr (by decide +kernel)) (by rw[EX]
                                                                                     kernel_rfl)
theorem called:TypeCalled "reversed" "reversed.__new__" "object.__init__":=
 ⟨by decide +kernel,by decide +kernel,⟨_,_,F.mro_reversed⟩,F.made_reversed,by decide +kernel,F.sub_reversed_self,uL⟩
theorem slot_next:Slot "reversed" "__next__" "reversed.__next__":=
  .of (owner := "reversed") (n := "__next__") (by rw[Fl,Fn]
                                                  kernel_rfl) (by decide +kernel) (by decide +kernel) (by decide +kernel)
    (by first | exact .inl (by decide +kernel) | exact .inr (by decide +kernel)) (by rw[EX]
                                                                                     kernel_rfl)
theorem entry_next:entryFor table "reversed.__next__"=some Builtin.«reversed.__next__»:=entryFor_of_tree (by kernel_rfl)
theorem iO:Manifest.owners.lookup (String.ofList ['d', 'e', 's', 'r', 'e', 'v', 'e', 'r'].reverse)=some Manifest.sig_reversed:=by kernel_rfl
theorem args_next(a:Value):argsOk "reversed.__next__" ⟨[a],[]⟩:=by
 unfold argsOk;rw[signature?_of (id:="reversed.__next__") (n:=['_', '_', 't', 'x', 'e', 'n', '_', '_']) (o:=['d', 'e', 's', 'r', 'e', 'v', 'e', 'r']) (by kernel_rfl) iO]
 kernel_rfl
theorem slot_iter:Slot "reversed" "__iter__" "reversed.__iter__":=
  .of (owner := "reversed") (n := "__iter__") (by rw[Fl,Fn]
                                                  kernel_rfl) (by decide +kernel) (by decide +kernel) (by decide +kernel)
    (by first | exact .inl (by decide +kernel) | exact .inr (by decide +kernel)) (by rw[EX]
                                                                                     kernel_rfl)
theorem args_iter(a:Value):argsOk "reversed.__iter__" ⟨[a],[]⟩:=by
 unfold argsOk;rw[signature?_of (id:="reversed.__iter__") (n:=['_', '_', 'r', 'e', 't', 'i', '_', '_']) (o:=['d', 'e', 's', 'r', 'e', 'v', 'e', 'r']) (by kernel_rfl) iO]
 kernel_rfl
theorem entry_iter:entryFor table "reversed.__iter__"=some Builtin.«dict_keyiterator.__iter__»:=
  entryFor_alias (id':="dict_keyiterator.__iter__") (by kernel_rfl)
    (by first | rfl | decide +kernel | (unfold String.splitOn
                                        simp +decide [String.splitOnAux])) (by decide +kernel) (by kernel_rfl)
theorem no_tuple:typeLookup (.type "tuple") "__reversed__"=pure none:=by
 rw[Fl,Fn]
 kernel_rfl
theorem tup_dict:isSubtype (.type "tuple") (.type "dict")=pure false:=by
 rw[EX]
 kernel_rfl
theorem ri_rev:isSubtype (.type "range_iterator") (.type "reversed")=pure false:=by
 rw[EX]
 kernel_rfl
theorem tc1(a:Value):checkTypeCall "reversed" ⟨[a],[]⟩=pure ():=by kernel_rfl
end RV
def HU(h:Heap)(it t:Addr)(i:Int):Prop:=∃o,h.get? it=some o/\o.cls= .type "reversed"/\o.data= .fields #[.ref t,rawInt i]
theorem pz(l:Addr)(items:Array Value)(hz:items.size<=sizeLine):
  Meets (Builtin.«reversed.__new__» ⟨[.type "reversed",.ref l],[]⟩) (fun A R s=>s.heap.IsTuple l items/\
   R (.ok (.ret (.ref s.heap.objs.size))) {s with heap:=s.heap.push {cls:= .type "reversed",data:= .fields #[.ref l,rawInt ((items.size:Int)-1)]},toks:=s.toks+2}):=
 .of_wp fun prog w A R s h=>by
  obtain⟨hp,g,d,tk,os⟩:=s;obtain⟨hl,h⟩:=h
  have hsub:=F.sub_reversed_self;have hT:Shared.TypeIs ⟨hp,g,d,tk,os⟩ (.ref l) "tuple":=let⟨o,e,c,_⟩:=hl;⟨o,e,c⟩
  have hL:Heap.IsTuple (Shared.heap ⟨hp,g,d,tk,os⟩) l items:=hl
  have hd:=RV.tup_dict;have hI:IsTup (Shared.heap ⟨hp,g,d,tk,os⟩) l items:=hl
  have hn:=ZR
  wp_walk using E7 hT RV.no_tuple,Eg hd,E7 hT F.slot_tuple_getitem.lookup,len_tuple hI (by omega)
  exact⟨_,rfl,h⟩
end L3
namespace L3
open PySem PySem.Spec PyProof.Rows L2
open Sem (wp)
abbrev xx(a b c:Int):Bool:=Builtin.Range.rangeFitsLong a&&Builtin.Range.rangeFitsLong b&&Builtin.Range.rangeFitsLong c&&Builtin.Range.rangeFitsLong (-c)&&Builtin.Range.rangeFitsLong (a-c)&&Builtin.Range.rangeFitsLong (Builtin.Range.rangeSize a b c)
theorem mH(r:Addr)(a b c:Int)(t u v:Tok)(hc0:¬(!xx a b c)=true):
  Meets (Builtin.«range.__reversed__» ⟨[.ref r],[]⟩) (fun _ R s=>s.heap.get? r=some {cls:= .type "range",dict:=none,data:= .fields #[.int a t,.int b u,.int c v],slots:= #[]}/\
   R (.ok (.ret (.ref s.heap.objs.size))) {s with heap:=s.heap.push {cls:= .type (if xx a b c then "range_iterator" else "longrange_iterator"),data:= .fields #[rawInt (a+(Builtin.Range.rangeSize a b c-1)*c),rawInt (Builtin.Range.rangeSize a b c),rawInt (-c)]}}):=
 .of_wp fun prog w A R s h=>by obtain⟨hp,g,d,tk,os⟩:=s;obtain⟨hl,h⟩:=h;wp_walk;exact⟨_,rfl,h⟩
theorem sL(n:Nat):Builtin.Range.rangeSize 0 n 1=n:=by
 unfold Builtin.Range.rangeSize;rw[Jc (by decide)]
 split<;>lia
theorem rU{n:Nat}(hn:(n:Int)<2 ^ 62):xx 0 n 1=true:=by
 unfold xx;rw[sL];simp only[Builtin.Range.rangeFitsLong,Jz,decide_eq_true_eq];lia
theorem pY(r:Addr)(n:Nat)(t u v:Tok)(hn:(n:Int)<2 ^ 62):
  Meets (Builtin.«range.__reversed__» ⟨[.ref r],[]⟩) (fun _ R s=>s.heap.get? r=some {cls:= .type "range",data:= .fields #[.int 0 t,.int n u,.int 1 v]}/\
   R (.ok (.ret (.ref s.heap.objs.size))) {s with heap:=s.heap.push {cls:= .type "range_iterator",data:= .fields #[rawInt ((n:Int)-1),rawInt n,rawInt (-1)]}}):=by
 have g:=mH r 0 n 1 t u v (by rw[rU hn];decide)
 rw[rU hn,sL,Jc rfl,Int.mul_one,Int.zero_add]at g;exact g
section
variable{prog:Program}{w:World}{A:Around}{E:Gb}{s:Shared}
theorem HU.typeIs{it t:Addr}{i:Int}(x:HU s.heap it t i):s.TypeIs (.ref it) "reversed":=by
 obtain⟨o,ho,hc,_⟩:=x
 exact⟨o,ho,hc⟩
theorem me{it t:Addr}{i:Nat}{items:Array Value}{x:Value}{Q:Option Value->Shared->Prop}(hit:HU s.heap it t (i:Int))(hl:IsTup s.heap t items)(hx:items[i]? =some x)(hz:items.size<=sizeLine)
  (hQ:∀h' tk,HU h' it t ((i:Int)-1)->Heap.SameBut it s.heap h'->Q (some x) {s with heap:=h',toks:=tk}):wpAny (model prog w) A (pyNext (.ref it)) Q E s:=by
 obtain⟨o,ho,hc,hd⟩:=id hit;have hT:s.TypeIs (.ref t) "tuple":=let⟨o,e,c,_⟩:=hl;⟨o,e,c⟩
 have hn:=ZR;have hlt:i<items.size:=(Array.getElem?_eq_some_iff.mp hx).1
 unfold pyNext;refine Ja (Ez (wpAny_callSpecial?_slot (name:=Str.ofString "__next__") (HU.typeIs hit) RV.slot_next
  (JS RV.slot_next (HU.typeIs hit) RV.entry_next ?_ (RV.args_next _))))
 unfold Builtin.«reversed.__next__»
 refine Ja (Eg (a:=(Value.ref it,[])) rfl ?_)
 try dsimp only
 refine Ja (JR ho hd (x:= .ref t) rfl ?_)
 refine Ja (JR ho hd (x:=rawInt (i:Int)) rfl ?_)
 show wpAny _ _ (if(i:Int)<0 then _ else _) _ _ s
 rw[Jd (by lia)]
 try dsimp only
 refine Ja (E7 hT F.slot_tuple_getitem.lookup ?_)
 rw[Jd (show¬((some (Value.builtin "tuple.__getitem__")).isNone=true)from JP)]
 refine Ja (wpAny_mkInt ?_)
 have hI:IsTup (Shared.heap {s with toks:=s.toks+1}) t items:=hl
 refine Ja (Ez (getItem_tuple hI (by lia) (by lia) (by unfold seqIndex?;rw[Jd (show¬((i:Int)<0) by lia)];simp [hlt]) hx ?_))
 try dsimp only
 refine Ja (JR (s:={s with toks:=s.toks+1}) ho hd (x:=rawInt (i:Int)) rfl ?_)
 show wpAny _ _ (setField (.ref it) 1 (rawInt ((i:Int)-1)) >>= _) _ _ _
 refine Ja (Er (s:={s with toks:=s.toks+1}) ho hd (by simp) ?_)
 refine Jb ⟨x,rfl,Jb (hQ _ _ ?_ (DW ..))⟩
 exact⟨_,EV _ ho (FM (E6 hd _)),(Obj.cls_mapFields ..).trans hc,by
  rw[E6 hd];simp⟩
theorem rj{it t:Addr}{Q:Option Value->Shared->Prop}(hh:A.handled=none)(hit:HU s.heap it t (-1))
  (hQ:∀h',Heap.ExtBut it s.heap h'->Q none {s with heap:=h'}):wpAny (model prog w) A (pyNext (.ref it)) Q E s:=by
 obtain⟨o,ho,hc,hd⟩:=id hit;unfold pyNext;refine Ja (Ez (wpAny_callSpecial?_slot (name:=Str.ofString "__next__") (HU.typeIs hit) RV.slot_next
  (JS RV.slot_next (HU.typeIs hit) RV.entry_next ?_ (RV.args_next _))))
 unfold Builtin.«reversed.__next__»
 refine Ja (Eg (a:=(Value.ref it,[])) rfl ?_)
 try dsimp only
 refine Ja (JR ho hd (x:= .ref t) rfl ?_)
 refine Ja (JR ho hd (x:=rawInt (-1)) rfl ?_)
 show wpAny _ _ (if(-1:Int)<0 then _ else _) _ _ s
 rw[Jc (by decide)]
 refine Ja (Ec ?_)
 refine Ja ?_
 show wpAny _ _ (setField (.ref it) 1 (rawInt (-1)) >>= _) _ _ _
 refine Ja (Er ho hd (by simp) ?_)
 have hg1:=EV (Obj.mapFields (·.setIfInBounds 1 (rawInt (-1)))) ho (FM (E6 hd _))
 refine Er hg1 (E6 hd _) (by simp) ?_
 refine Ja ?_
 show wpAny _ _ (newExc (.type "StopIteration") [] >>= _) _ _ _
 refine Ja ?_
 simp only[newExc,newTuple];refine Ja (D9 ?_ (by size_fits))
 refine Ja (m:=firstArgMember _ _) (Eg (a:=Value.none) (by first|rfl|(simp only[firstArgMember];rfl)) ?_)
 refine D9 ?_ (by size_fits)
 simp only[raiseNew];refine Ja (wpAny_handled ?_)
 first|rw[show A.in1.handled=none from hh]|rw[hh]
 refine Ja (Jb (wpAny_throw ?_))
 refine Ja (EJ (T:="StopIteration") (b:=true) ⟨_,Jp _ rfl,rfl⟩ Fx ?_)
 exact Jb (hQ _ (((((DW ..).trans (DW ..)).extBut).push _).push _))
theorem uP{it t:Addr}{i:Int}{Q:Gb}(hit:HU s.heap it t i)(h:Q (.ref it) s):wpAny (model prog w) A (pyIter (.ref it)) Q E s:=by
 refine wpAny_pyIter_slot (HU.typeIs hit) RV.slot_iter (JS RV.slot_iter (HU.typeIs hit) RV.entry_iter ?_ (RV.args_iter _))
 show wpAny _ _ (ret (.ref it)) _ _ s
 exact Jb ⟨_,rfl,"reversed",_,HU.typeIs hit,RV.slot_next.lookup,h⟩
theorem Bk{l:Addr}{items:Array Value}{Q:Gb}(hl:s.heap.IsTuple l items)(hz:items.size<=sizeLine)
  (h:∀h' tk,HU h' s.heap.objs.size l ((items.size:Int)-1)->(∀b o,s.heap.get? b=some o->h'.get? b=some o)->Q (.ref s.heap.objs.size) {s with heap:=h',toks:=tk}):
  wpAny (model prog w) A (call (.type "reversed") [.ref l]) Q E s:=by
 refine callType_new RV.called (by decide) (RV.tc1 _) (F.newCall_reversed_1 _) (fun obj=>F.args_object_init_2 obj _) F.entry_reversed_new (pz l items hz) ⟨hl,?_⟩
 exact⟨⟨_,Jp _ rfl,rfl⟩,h _ _ ⟨_,Jp _ rfl,rfl,rfl⟩ fun b o e=>Ji _ e⟩
theorem Cr{r:Addr}{n:Nat}{t u v:Tok}{Q:Gb}(hr:s.heap.get? r=some {cls:= .type "range",data:= .fields #[.int 0 t,.int n u,.int 1 v]})(hn:(n:Int)<2 ^ 62)
    (h:∀h',IsRangeIter h' s.heap.objs.size ((n:Int)-1) n (-1)->(∀b o,s.heap.get? b=some o->h'.get? b=some o)->Q (.ref s.heap.objs.size) {s with heap:=h'}):
    wpAny (model prog w) A (call (.type "reversed") [.ref r]) Q E s:=by
  have hT:s.TypeIs (.ref r) "range":=⟨_,hr,rfl⟩
  refine callType_other (U:="range_iterator") (Q₁:=fun obj s₁=>obj= .ref s.heap.objs.size/\∃h',s₁={s with heap:=h'}/\IsRangeIter h' s.heap.objs.size ((n:Int)-1) n (-1)/\∀b o,s.heap.get? b=some o->h'.get? b=some o) (by decide +kernel) F.create_reversed ⟨_,_,F.mro_reversed⟩ F.made_reversed RV.ri_rev (RV.tc1 _) ?_ ?_
  · refine codeAny_of_tree ?_
    show wpAny _ A.in1.in1 (do checkBuiltinCall "reversed.__new__" ⟨[.type "reversed",.ref r],[]⟩;again (.builtin "reversed.__new__" ⟨[.type "reversed",.ref r],[]⟩)) _ _ s
    refine Ja (Eg (F.newCall_reversed_1 _) (Jb ⟨plainId_quiet F.plain_reversed_new _,EL F.entry_reversed_new ?_⟩))
    rw[Around.under_plainId F.plain_reversed_new _];unfold Builtin.«reversed.__new__»
    refine Ja (Eg (newClass_reversed _) ?_)
    try dsimp only
    refine Ja (Eg (a:=()) (by first|rfl|kernel_rfl) ?_)
    refine Ja (Eg (a:=()) (by first|rfl|kernel_rfl) ?_)
    try dsimp only
    refine Ja (E7 hT F.slot_range_reversed.lookup ?_)
    try dsimp only
    refine Ja (Eg (F.slot_range_reversed.bind _) ?_)
    try dsimp only
    first
    |rw[Jd (show¬((Value.builtin "range.__reversed__"==Value.none)=true)from JP)]
    | (show wpAny _ _ (if(Value.builtin "range.__reversed__"==Value.none)=true then _ else _) _ _ _
       rw[Jd (show¬((Value.builtin "range.__reversed__"==Value.none)=true)from JP)])
    refine Ja (Ec ?_)
    refine Ja (m:=runValue (.call (.builtin "range.__reversed__") ⟨[.ref r],[]⟩)) (show wpAny _ _ (call (.builtin "range.__reversed__") [.ref r]) _ _ _ from
      E4 F.slot_range_reversed hT F.entry_range_reversed (F.args_range_reversed_1 _) (pY r n t u v hn) ⟨hr,?_⟩)
    first
    |exact Jb ⟨rfl,_,rfl,Jp _ rfl,fun b o e=>Ji _ e⟩
    |exact Ja (Jb (Jb ⟨rfl,_,rfl,Jp _ rfl,fun b o e=>Ji _ e⟩))
  · rintro obj s₁ ⟨rfl,h',rfl,hi,hk⟩
    exact⟨⟨_,hi,rfl⟩,h h' hi hk⟩
end
def rA(K:Frag)(a:Addr)(n:Nat):It:=
 ⟨fun i H=>i<n/\∃xs,Gq K H a xs/\xs.length=n,fun i H x H'=>H'=H/\∀xs,Gq K H a xs->xs[n-1-i]? =some x,fun i _=>n<=i⟩
def pN(K:Frag)(a:Addr)(n:Nat):It:=
 ⟨fun i H=>i<n/\∃xs,Gu K H a xs/\xs.length=n,fun i H x H'=>H'=H/\∀xs,Gu K H a xs->xs[n-1-i]? =some x,fun i _=>n<=i⟩
def rb(n:Nat):It:=⟨fun i _=>i<n,fun i H x H'=>H'=H/\x= .int ((n:Int)-1-i),fun i _=>n<=i⟩
theorem pP{P:Program}{w:World}{K:Frag}{tg:Expr}(a it:Addr)(n:Nat):Ig P w K tg (rA K a n) [it] it (fun i h=>i<=n/\h.IsRevIter it a ((n:Int)-1-i)) where
 mem:=by simp
 obj:=fun i h st b hb=>by
  have e:b=it:=by simpa using hb
  subst e;obtain⟨_,o,e,c,d⟩:=st
  exact⟨o,e,fun v z=>by rw[d]at z;cases z⟩
 keep:=fun i h h' st k=>⟨st.1,st.2.at fun o e=>k it (by simp) o e⟩
 item:=by
  intro X hP hw hK hc i tx s σ H E I hf st hg;subst hP hw hK;obtain⟨hi,xs,hq,hn⟩:=hg;obtain⟨its,rv,p,hz⟩:=I.list hq;have hlt:n-1-i<xs.length:=by lia
  obtain⟨u,hu,ru⟩:=rv.get (Jj hlt)
  obtain⟨f0,f1,f2,f3,f4,f5⟩:=hf it (by simp)
  have e1:(n:Int)-1-i=((n-1-i:Nat):Int):=by lia
  have st2:=st.2;rw[e1]at st2;refine wpAny_pyNext_rev_item st2 p.isList (x:=u) (by simpa using hu) fun h' st' sb=>?_
  have I1:L2.Gi X tx σ H {s with heap:=h'}:=I.turned (t':=s.toks) (fun b o hb e=>(sb.2 b hb).trans e) f0 f1 f3 f4 f5
  obtain⟨o,e,c,d⟩:=id st';refine⟨u,rfl,bX (s:={s with heap:=h'}) e c d (by decide) ⟨_,H,I1,ru,⟨rfl,fun ys hy=>by rw[I.list_inj hy hq];exact Jj hlt⟩,⟨by lia,?_⟩,fun b hb=>(hf b hb).1⟩⟩
  have e2:((n-1-i:Nat):Int)-1=(n:Int)-1-((i+1:Nat):Int):=by lia
  rw[<- e2];exact st'
 done:=by
  intro X hP hw hK hc i tx s σ H E I hf st hg;subst hP hw hK;obtain⟨f0,f1,f2,f3,f4,f5⟩:=hf it (by simp)
  have hi:i=n:=Nat.le_antisymm st.1 hg
  have st2:=st.2;rw[show(n:Int)-1-i= -1 by lia]at st2
  exact wpAny_pyNext_rev_end (I.ok.hd hc) st2 fun h' eb=>⟨rfl,I.turned (t':=s.toks) (fun b o hb e=>eb b o hb e) f0 f1 f3 f4 f5⟩
 self:=fun _ _ _ _ _ st h=>wpAny_pyIter_revIter st.2 h
theorem uR{P:Program}{w:World}{K:Frag}{tg:Expr}(a it:Addr)(n:Nat):Ig P w K tg (pN K a n) [it] it (fun i h=>i<=n/\HU h it a ((n:Int)-1-i)) where
 mem:=by simp
 obj:=fun i h st b hb=>by
  have e:b=it:=by simpa using hb
  subst e;obtain⟨_,o,e,c,d⟩:=st
  exact⟨o,e,fun v z=>by rw[d]at z;cases z⟩
 keep:=fun i h h' st k=>⟨st.1,let⟨o,e,r⟩:=st.2;⟨o,k it (by simp) o e,r⟩⟩
 item:=by
  intro X hP hw hK hc i tx s σ H E I hf st hg;subst hP hw hK;obtain⟨hi,xs,hq,hn⟩:=hg;obtain⟨its,rv,p,hz⟩:=I.tuple hq;have hlen:=rv.length;have hlt:n-1-i<xs.length:=by lia
  obtain⟨u,hu,ru⟩:=rv.get (Jj hlt)
  obtain⟨f0,f1,f2,f3,f4,f5⟩:=hf it (by simp)
  have e1:(n:Int)-1-i=((n-1-i:Nat):Int):=by lia
  have st2:=st.2;rw[e1]at st2;refine me st2 p (x:=u) (by simpa using hu) (by simp;lia) fun h' tk st' sb=>?_
  have I1:L2.Gi X tx σ H {s with heap:=h',toks:=tk}:=I.turned (t':=tk) (fun b o hb e=>(sb.2 b hb).trans e) f0 f1 f3 f4 f5
  obtain⟨o,e,c,d⟩:=id st';refine⟨u,rfl,bX (s:={s with heap:=h',toks:=tk}) e c d (by decide) ⟨_,H,I1,ru,⟨rfl,fun ys hy=>by rw[I.tuple_inj hy hq];exact Jj hlt⟩,⟨by lia,?_⟩,fun b hb=>(hf b hb).1⟩⟩
  have e2:((n-1-i:Nat):Int)-1=(n:Int)-1-((i+1:Nat):Int):=by lia
  rw[<- e2];exact st'
 done:=by
  intro X hP hw hK hc i tx s σ H E I hf st hg;subst hP hw hK;obtain⟨f0,f1,f2,f3,f4,f5⟩:=hf it (by simp)
  have hi:i=n:=Nat.le_antisymm st.1 hg
  have st2:=st.2;rw[show(n:Int)-1-i= -1 by lia]at st2
  exact rj (I.ok.hd hc) st2 fun h' eb=>⟨rfl,I.turned (t':=s.toks) (fun b o hb e=>eb b o hb e) f0 f1 f3 f4 f5⟩
 self:=fun _ _ _ _ _ st h=>uP st.2 h
theorem ui{P:Program}{w:World}{K:Frag}{tg:Expr}(it:Addr)(n:Nat):Ig P w K tg (rb n) [it] it (fun i h=>IsRangeIter h it ((n:Int)-1+(i:Nat)*(-1)) ((n:Int)-(i:Nat)) (-1)) where
 mem:=by simp
 obj:=fun i h st b hb=>by
  have e:b=it:=by simpa using hb
  subst e
  exact⟨_,st,fun v z=>by
   have z':Data.fields _=Data.cell v:=z
   cases z'⟩
 keep:=fun i h h' st k=>k it (by simp) _ st
 item:=by
  intro X hP hw hK hc i tx s σ H E I hf st hg;subst hP hw hK;obtain⟨f0,f1,f2,f3,f4,f5⟩:=hf it (by simp)
  have W:=Walks.range (prog:=X.prog) (w:=X.w) (I.ok.hd hc) it ((n:Int)-1) (-1) n
  refine W.item i s _ _ hg st fun v h' tk hv st' kk=>?_
  obtain⟨t,rfl⟩:=hv;have I1:L2.Gi X tx σ H {s with heap:=h',toks:=tk}:=I.turned (fun b o hb e=>kk b o (by simpa using hb) e) f0 f1 f3 f4 f5
  refine⟨_,rfl,bX (s:={s with heap:=h',toks:=tk}) (n:="range_iterator") st' rfl rfl (by decide) ⟨.int ((n:Int)-1-i),H,I1,⟨t,?_⟩,⟨rfl,rfl⟩,st',fun b hb=>(hf b hb).1⟩⟩
  rw[show(n:Int)-1+(i:Nat)*(-1)=(n:Int)-1-i by lia]
 done:=by
  intro X hP hw hK hc i tx s σ H E I hf st hg;subst hP hw hK;obtain⟨f0,f1,f2,f3,f4,f5⟩:=hf it (by simp)
  exact wpAny_pyNext_range_end (I.ok.hd hc) st (by have:n<=i:=hg;lia) fun h' eb=>⟨rfl,I.turned (t':=s.toks) (fun b o hb e=>eb b o hb e) f0 f1 f3 f4 f5⟩
 self:=fun _ _ _ _ _ st h=>FT st h
section
variable{X:Cx}{tg:Expr}
theorem vD:bootBuiltins "reversed"=some (.type "reversed"):=by kernel_rfl
def Ba(K:Frag)(ta:TA):TI:=fun σ H R=>ta σ H fun vs H1=>∃a,vs=[.ref a]/\((∃xs,Gq K H1 a xs/\R (rA K a xs.length) H1)\/(∃xs,Gu K H1 a xs/\R (pN K a xs.length) H1)\/∃n:Nat,H1 a=some (.rng 0 n)/\(n:Int)<2 ^ 62/\R (rb n) H1)
theorem BO{a:Expr}{ta:TA}{p pos:Pos}(hg:Gl X "reversed")(hm:X.mg "reversed"=none)(ha:PA X [a] ta)(hn:zU a=true:=by rfl):
  PI X tg (.Call (.Name "reversed" p) [a] [] pos) (Ba X.K ta):=by
 intro tx s σ H R I h;refine Call_ (QZ I hg hm vD (EU (qC (ha pos tx s σ H _ I h) fun us s1 zq=>?_) (Ze hn) rfl))
 obtain⟨vs,H1,I1,r1,q1⟩:=zq;obtain⟨l,e,q1⟩:=q1;subst e;obtain⟨u,rfl,ru⟩:=r1.one;cases ru;have fpk:∀b∈[s1.heap.objs.size],Zt X tx H1 b:=fun b hb=>by
  rw[Jl.mp hb];exact I1.fpOk (Jf _) (I1.hok.fresh (Jf _))
 rcases q1 with⟨xs,hq,q⟩|⟨xs,hq,q⟩|⟨n,hq,hn62,q⟩
 ·obtain⟨its,rv,pl,hz⟩:=I1.list hq
  have hlen:=rv.length;refine call_reversed_list pl.isList ?_
  have hi:(s1.heap.push (revObj l ((its.toArray.size:Int)-1))).IsRevIter s1.heap.objs.size l ((its.toArray.size:Int)-1):=⟨_,Jp _ rfl,rfl,rfl⟩
  refine wpAny_pyIter_revIter hi ?_
  refine⟨s1.heap.objs.size,[s1.heap.objs.size],_,_,H1,rfl,I1.kept (t':=s1.toks) fun b o e=>Ji _ e,pP l _ xs.length,⟨JI _,?_⟩,fpk,q⟩
  rw[show(xs.length:Int)-1-((0:Nat):Int)=(its.toArray.size:Int)-1 by simp [hlen]]
  exact hi
 ·obtain⟨its,rv,pl,hz⟩:=I1.tuple hq
  have hlen:=rv.length;refine Bk (show s1.heap.IsTuple l its.toArray from pl) (by simp;lia) fun h' tk hi hk=>uP hi ?_
  refine⟨s1.heap.objs.size,[s1.heap.objs.size],_,_,H1,rfl,I1.kept (t':=tk) hk,uR l _ xs.length,⟨JI _,?_⟩,fpk,q⟩
  rw[show(xs.length:Int)-1-((0:Nat):Int)=(its.toArray.size:Int)-1 by simp [hlen]]
  exact hi
 ·obtain⟨t,u,v,hr⟩:=I1.hok l _ hq
  refine Cr hr hn62 fun h' hi hk=>FT hi ?_
  refine⟨s1.heap.objs.size,[s1.heap.objs.size],_,_,H1,rfl,I1.kept (t':=s1.toks) hk,ui _ n,?_,fpk,q⟩
  show IsRangeIter _ _ _ _ _
  rw[show(n:Int)-1+((0:Nat):Int)*(-1)=(n:Int)-1 by lia,show(n:Int)-((0:Nat):Int)=n by lia]
  exact hi
def B3(K:Frag)(tl:TE):TI:=fun σ H R=>tl σ H fun x H1=>∃a,x= .ref a/\((∃xs,Gq K H1 a xs)/\R (i8 K a) H1\/(∃xs,Gu K H1 a xs)/\R (iP K a) H1)
theorem BC{l:Expr}{tl:TE}(hl:PE X l tl):PI X tg l (B3 X.K tl):=by
 intro tx s σ H R I h;refine qC (hl tx s σ H _ I h) fun v s1 zq=>?_
 obtain⟨x,H1,I1,r1,q1⟩:=zq;obtain⟨a,e,q1⟩:=q1;subst e;cases r1;have fpk:∀b∈[s1.heap.objs.size],Zt X tx H1 b:=fun b hb=>by
  rw[Jl.mp hb];exact I1.fpOk (Jf _) (I1.hok.fresh (Jf _))
 rcases q1 with⟨⟨xs,hq⟩,q⟩|⟨⟨xs,hq⟩,q⟩
 ·obtain⟨its,rv,p,hz⟩:=I1.list hq
  refine Ff p.isList ?_
  exact⟨s1.heap.objs.size,[s1.heap.objs.size],_,_,H1,rfl,I1.kept (t':=s1.toks) fun b o e=>Ji _ e,i5 a _,⟨_,Jp _ rfl,rfl,rfl⟩,fpk,q⟩
 ·obtain⟨its,rv,p,hz⟩:=I1.tuple hq
  refine ET (show s1.heap.IsTuple a its.toArray from p) ?_
  exact⟨s1.heap.objs.size,[s1.heap.objs.size],_,_,H1,rfl,I1.kept (t':=s1.toks) fun b o e=>Ji _ e,gF a _,⟨_,Jp _ rfl,rfl,rfl⟩,fpk,q⟩
end
section
variable{K:Frag}{a:Addr}{xs:List V}{g:TG}{tb:TS}{D:Ht}{σ:L2.St}{H:Hp}
abbrev ZK(J:It)(g:TG)(tb:TS)(D:Ht)(σ:L2.St)(H:Hp):Prop:=∃W:Nat->Nat->L2.St->Hp->Prop,(∃m,W 0 m σ H)/\∀i m σ H,W i m σ H->
      (J.stop i H/\D.nx σ H)\/(J.go i H/\∃N:L2.St->Hp->Prop,(∀σ' H',N σ' H'->∃m',m'<m/\W (i+1) m' σ' H')/\∀x H',J.yld i H x H'->g x σ H' fun σ2 H2=>tb {D with nx:=N,ct:=N,bk:=D.nx} σ2 H2)
theorem eR{J:It}{n:Nat}(Pv:Nat->L2.St->Hp->Prop)(h0:Pv 0 σ H)(hgo:∀i σ H,i<n->Pv i σ H->J.go i H)(hst:∀H,J.stop n H)
  (hs:∀i x σ H H',i<n->Pv i σ H->J.yld i H x H'->g x σ H' fun σ2 H2=>tb {D with nx:=Pv (i+1),ct:=Pv (i+1),bk:=D.nx} σ2 H2)(hd:∀σ H,Pv n σ H->D.nx σ H):ZK J g tb D σ H:=by
 refine⟨fun i m σ H=>m=n-i/\i<=n/\Pv i σ H,⟨n,by simp,JI _,h0⟩,?_⟩
 rintro i m σ H ⟨rfl,hi,p⟩
 by_cases hlt:i<n
 ·exact .inr ⟨hgo i σ H hlt p,Pv (i+1),fun σ' H' p'=>⟨n-(i+1),by lia,rfl,hlt,p'⟩,fun x H' y=>hs i x σ H H' hlt p y⟩
 ·have e:i=n:=by lia
  subst e;exact .inl ⟨hst H,hd σ H p⟩
theorem wb(Pv:Nat->L2.St->Hp->Prop)(h0:Pv 0 σ H)(hl:∀i σ H,Pv i σ H->Gq K H a xs)
  (hs:∀i x σ H,i<xs.length->xs[xs.length-1-i]? =some x->Pv i σ H->g x σ H fun σ2 H2=>tb {D with nx:=Pv (i+1),ct:=Pv (i+1),bk:=D.nx} σ2 H2)(hd:∀σ H,Pv xs.length σ H->D.nx σ H):ZK (rA K a xs.length) g tb D σ H:=
 eR Pv h0 (fun i σ H hi p=>⟨hi,xs,hl i σ H p,rfl⟩) (fun _=>Jf _) (fun i x σ H H' hi p y=>by
  obtain⟨rfl,y⟩:=y;exact hs i x σ H' hi (y xs (hl i σ H' p)) p) hd
theorem vg(Pv:Nat->L2.St->Hp->Prop)(h0:Pv 0 σ H)(hl:∀i σ H,Pv i σ H->Gu K H a xs)
  (hs:∀i x σ H,i<xs.length->xs[xs.length-1-i]? =some x->Pv i σ H->g x σ H fun σ2 H2=>tb {D with nx:=Pv (i+1),ct:=Pv (i+1),bk:=D.nx} σ2 H2)(hd:∀σ H,Pv xs.length σ H->D.nx σ H):ZK (pN K a xs.length) g tb D σ H:=
 eR Pv h0 (fun i σ H hi p=>⟨hi,xs,hl i σ H p,rfl⟩) (fun _=>Jf _) (fun i x σ H H' hi p y=>by
  obtain⟨rfl,y⟩:=y;exact hs i x σ H' hi (y xs (hl i σ H' p)) p) hd
theorem uY{n:Nat}(Pv:Nat->L2.St->Hp->Prop)(h0:Pv 0 σ H)
  (hs:∀i σ H,i<n->Pv i σ H->g (.int ((n:Int)-1-i)) σ H fun σ2 H2=>tb {D with nx:=Pv (i+1),ct:=Pv (i+1),bk:=D.nx} σ2 H2)(hd:∀σ H,Pv n σ H->D.nx σ H):ZK (rb n) g tb D σ H:=
 eR Pv h0 (fun i σ H hi p=>hi) (fun _=>Jf _) (fun i x σ H H' hi p y=>by
  obtain⟨rfl,rfl⟩:=y;exact hs i σ H' hi p) hd
end
end L3
namespace L3
open PySem PySem.Spec L2
variable{X:Cx}
theorem sO{tg:Expr}{a:Expr}{ta:TA}{p pos:Pos}(hg:Gl X "reversed")(hm:X.mg "reversed"=none)(ha:QA X [a] ta)(hn:zU a=true:=by rfl):QI X tg (.Call (.Name "reversed" p) [a] [] pos) (Ba X.K ta):=⟨BO (hg:=hg) (hm:=hm) (ha:=ha.h) (hn:=hn)⟩
theorem CG{tg:Expr}{l:Expr}{tl:TE}(hl:QE X l tl):QI X tg l (B3 X.K tl):=⟨BC (hl:=hl.h)⟩
def aW(x:Int):Prop:=0<=x/\x<16
def zC(r:List Int):Prop:=∀x∈r,aW x
def yf(n i:Nat):Nat:=if i=0 then n-1 else i-1
def ah(r:List Int)(i:Nat):Int:=r.getD (yf r.length i) 0
def hX(t:List Int)(s:Int)(r:List Int)(i:Nat):List Int:=r.set i (t.getD ((r.getD i 0+s+i+ah r i)%16).toNat 0)
def fX(b:List Int)(s:Int)(r:List Int)(i:Nat):List Int:=r.set i ((b.getD (r.getD i 0).toNat 0-s-i-ah r i)%16)
def ZX(t:List Int)(s:Int)(r:List Int):Nat->List Int
 |0=>r
 |n+1=>hX t s (ZX t s r n) n
def ao(b:List Int)(s:Int)(r:List Int):Nat->List Int
 |0=>r
 |n+1=>ao b s (fX b s r n) n
def QJ(t:List Int):List Int->List Int->List Int
 | [],r=>r
 |s::ks,r=>QJ t ks (ZX t s r r.length)
def Q8(b:List Int):List Int->List Int->List Int
 | [],r=>r
 |s::ks,r=>ao b s (Q8 b ks r) r.length
theorem vv{t:List Int}{s:Int}{r:List Int}{i:Nat}:(hX t s r i).length=r.length:=E3 ..
theorem jY{b:List Int}{s:Int}{r:List Int}{i:Nat}:(fX b s r i).length=r.length:=E3 ..
theorem QK{t:List Int}{s:Int}{r:List Int}:∀{n:Nat},(ZX t s r n).length=r.length
 |0=>rfl
 |n+1=>by rw[ZX,vv,QK]
theorem jU{b:List Int}{s:Int}:∀{n:Nat} {r:List Int},(ao b s r n).length=r.length
 |0,_=>rfl
 |n+1,r=>by rw[ao,jU,jY]
theorem ca{t:List Int}:∀{ks r:List Int},(QJ t ks r).length=r.length
 | [],_=>rfl
 |s::ks,r=>by rw[QJ,ca,QK]
theorem fW{b:List Int}:∀{ks r:List Int},(Q8 b ks r).length=r.length
 | [],_=>rfl
 |s::ks,r=>by rw[Q8,jU,fW]
theorem kg{r:List Int}{i:Nat}{x:Int}(h:zC r)(hx:aW x):zC (r.set i x):=fun y hy=>by
 rcases List.mem_or_eq_of_mem_set hy with z|z
 ·exact h y z
 ·rw[z];exact hx
theorem af(x:Int):aW (x%16):=⟨EM _ (by decide),EN _ (by decide)⟩
theorem gW{r:List Int}(h:zC r)(i:Nat):aW (r.getD i 0):=by
 rw[JF]
 by_cases hi:i<r.length
 ·rw[Jj hi];exact h _ (Ey hi)
 ·rw[F0 (by lia)];exact⟨by decide,by decide⟩
theorem vm{t:List Int}(p:t.Perm GM):zC t:=fun x hx=>kS (p.mem_iff.mp hx)
theorem uU{t:List Int}(p:t.Perm GM){s:Int}{r:List Int}{i:Nat}(h:zC r):zC (hX t s r i):=kg h (gW (vm p) _)
theorem j4{b:List Int}{s:Int}{r:List Int}{i:Nat}(h:zC r):zC (fX b s r i):=kg h (af _)
theorem bQ{t:List Int}(p:t.Perm GM){s:Int}{r:List Int}(h:zC r):∀{n:Nat},zC (ZX t s r n)
 |0=>h
 |n+1=>uU p (bQ p h)
theorem l6{b:List Int}{s:Int}:∀{n:Nat} {r:List Int},zC r->zC (ao b s r n)
 |0,_,h=>h
 |n+1,_,h=>l6 (n:=n) (j4 h)
theorem lH{t:List Int}(p:t.Perm GM):∀{ks r:List Int},zC r->zC (QJ t ks r)
 | [],_,h=>h
 |s::ks,_,h=>lH (ks:=ks) p (bQ p h)
theorem kQ{b:List Int}:∀{ks r:List Int},zC r->zC (Q8 b ks r)
 | [],_,h=>h
 |s::ks,_,h=>l6 (kQ (ks:=ks) h)
theorem jC{r:List Int}{i:Nat}{x:Int}(h:i<r.length):(r.set i x).getD i 0=x:=by
 rw[JF,FE h];rfl
theorem mw{r:List Int}{i j:Nat}{x:Int}(h:i≠j):(r.set i x).getD j 0=r.getD j 0:=by
 rw[JF,FF h,<- JF]
theorem C9{n i:Nat}(h2:2<=n)(hi:i<n):i≠yf n i:=by unfold yf;split<;>lia
theorem Bs{r:List Int}{i:Nat}{x:Int}(h2:2<=r.length)(hi:i<r.length):ah (r.set i x) i=ah r i:=by
 unfold ah;rw[E3,mw (C9 h2 hi)]
theorem vK{r:List Int}{i:Nat}(hi:i<r.length):r.set i (r.getD i 0)=r:=by
 rw[JF,Jj hi];exact List.set_getElem_self hi
theorem wf{t:List Int}(p:t.Perm GM){z:Int}(h:aW z):(zD t).getD (t.getD z.toNat 0).toNat 0=z:=by
 have hz:z.toNat<t.length:=by rw[nU p];have:=h.1;have:=h.2;lia
 have e:t.getD z.toNat 0=t[z.toNat]:=by rw[JF,Jj hz];rfl
 have bd:=kE p hz;have hb:t[z.toNat].toNat<(zD t).length:=by rw[aQ];lia
 rw[e,JF,Jj hb,EH,yZ p (by rw[aQ]at hb;exact hb)]
 have e2:((t[z.toNat].toNat:Nat):Int)=t[z.toNat]:=by lia
 rw[e2,sw p hz]
 have:=h.1
 lia
theorem vd{t:List Int}(p:t.Perm GM){s:Int}{r:List Int}{i:Nat}(hr:zC r)(h2:2<=r.length)(hi:i<r.length):fX (zD t) s (hX t s r i) i=r:=by
 unfold fX hX;rw[jC hi,Bs h2 hi,List.set_set,wf p (af _)];have hd:=gW hr i;have e:((r.getD i 0+s+i+ah r i)%16-s-i-ah r i)%16=r.getD i 0:=by
  have:=hd.1
  have:=hd.2
  lia
 rw[e,vK hi]
theorem lQ{t:List Int}(p:t.Perm GM){s:Int}{r:List Int}(hr:zC r)(h2:2<=r.length):∀{n:Nat},n<=r.length->ao (zD t) s (ZX t s r n) n=r
 |0,_=>rfl
 |n+1,hn=>by
  rw[ZX,ao,vd p (bQ p hr) (by rw[QK];exact h2) (by rw[QK];lia)]
  exact lQ p hr h2 (by lia)
theorem kI{t:List Int}(p:t.Perm GM):∀{ks r:List Int},zC r->2<=r.length->Q8 (zD t) ks (QJ t ks r)=r
 | [],_,_,_=>rfl
 |s::ks,r,hr,h2=>by
  rw[Q8,QJ,kI p (bQ p hr) (by rw[QK];exact h2),ca,QK,lQ p hr h2 (Jf _)]
theorem k9(t:List Int):∀(ks:List Int) (s:Int) (r:List Int),QJ t (ks++[s]) r=ZX t s (QJ t ks r) r.length
 | [],_,_=>rfl
 |a::ks,s,r=>by rw[List.cons_append,QJ,k9 t ks s,QJ,QK]
def Sq(K:Frag)(H:Hp)(a:Addr)(xs:List V):Prop:=Gq K H a xs\/Gu K H a xs
theorem Sq.same{K:Frag}{H H':Hp}{a:Addr}{xs:List V}(e:Ge H H')(h:Sq K H a xs):Sq K H' a xs:=h.elim (fun h=> .inl (e.seq h)) fun h=> .inr (Ge.sqt e h)
theorem Sq.lst{K:Frag}{H:Hp}{a:Addr}{xs:List V}(h:H a=some (.lst xs)):Sq K H a xs:= .inl (Gq.of h)
theorem Sq.tup{K:Frag}{H:Hp}{a:Addr}{xs:List V}(h:H a=some (.tup xs)):Sq K H a xs:= .inr (Gu.of h)
def gX(K:Frag):Sp:=fun vs H Q _=>∃(a b c:Addr) (t ks ds:List Int),vs=[.ref a,.ref b,.ref c]/\Sq K H a (t.map V.int)/\Sq K H b (ks.map V.int)/\Sq K H c (ds.map V.int)/\t.length=16/\1<=ds.length/\ds.length<64/\
 ∀p H',Ge H H'->H p=none->H' p=some (.tup ((QJ t ks ds).map V.int))->Q (.ref p) H'
def io(K:Frag):Sp:=fun vs H Q _=>∃(a b c:Addr) (t ks ds:List Int),vs=[.ref a,.ref b,.ref c]/\Sq K H a (t.map V.int)/\Sq K H b (ks.map V.int)/\Sq K H c (ds.map V.int)/\t.Perm GM/\zC ds/\1<=ds.length/\ds.length<64/\
 ∀p H',Ge H H'->H p=none->H' p=some (.tup ((Q8 (zD t) ks ds).map V.int))->Q (.ref p) H'
theorem aB{r:List Int}{i:Nat}{z:Int}(e:z=(i:Int))(h:i<r.length):QY (r.map V.int) z=some (.int (r.getD i 0)):=by
 rw[yw e (gJ h),JF,Jj h];rfl
theorem tU{r:List Int}{i:Nat}{z:Int}(e:z=(i:Int)-1)(h:i<r.length):QY (r.map V.int) z=some (.int (ah r i)):=by
 subst e;unfold ah yf
 by_cases h0:i=0
 ·subst h0
  rw[Jc rfl];have hl:r.length-1<r.length:=by lia
  unfold QY cy;rw[Je,Jd (by lia),Jc (by lia)]
  have e2:((((0:Nat):Int)-1)+(r.length:Int)).toNat=r.length-1:=by lia
  show(r.map V.int)[((((0:Nat):Int)-1)+(r.length:Int)).toNat]? =_
  rw[e2,gJ hl,JF,Jj hl];rfl
 ·rw[Jd h0]
  exact aB (by lia) (by lia)
theorem Sq.ix{K:Frag}{H:Hp}{a:Addr}{xs:List V}{i:Int}{v:V}{Q:VK}(h:Sq K H a xs)(e:QY xs i=some v)(q:Q v H):Cv K (.ref a) (.int i) H Q\/vN K (.ref a) (.int i) H Q:=
 h.elim (fun h=> .inl ⟨a,xs,i,v,rfl,rfl,h,e,q⟩) fun h=> .inr ⟨a,xs,i,v,rfl,rfl,h,e,q⟩
section
variable{K:Frag}{a:Addr}{xs:List V}{g:TG}{tb:TS}{D:Ht}{σ:L2.St}{H H0:Hp}
theorem yo(hq:Sq K H0 a xs)(Pv:Nat->L2.St->Hp->Prop)(h0:Pv 0 σ H)(hk:∀i σ' H',Pv i σ' H'->Ge H0 H')
  (hs:∀i x σ H,xs[i]? =some x->Pv i σ H->g x σ H fun σ2 H2=>tb {D with nx:=Pv (i+1),ct:=Pv (i+1),bk:=D.nx} σ2 H2)(hd:∀σ H,Pv xs.length σ H->D.nx σ H):
  ((∃xs,Gq K H a xs)/\ZK (i8 K a) g tb D σ H)\/((∃xs,Gu K H a xs)/\ZK (iP K a) g tb D σ H):=by
 rcases hq with hq|hq
 ·exact .inl ⟨⟨xs,(hk _ _ _ h0).seq hq⟩,Qj Pv h0 (fun i σ H _ p=>(hk i σ H p).seq hq) hs hd⟩
 ·exact .inr ⟨⟨xs,Ge.sqt (hk _ _ _ h0) hq⟩,nK Pv h0 (fun i σ H _ p=>Ge.sqt (hk i σ H p) hq) hs hd⟩
theorem vU(hq:Sq K H0 a xs)(Pv:Nat->L2.St->Hp->Prop)(h0:Pv 0 σ H)(hk:∀i σ' H',Pv i σ' H'->Ge H0 H')
  (hs:∀i x σ H,i<xs.length->xs[xs.length-1-i]? =some x->Pv i σ H->g x σ H fun σ2 H2=>tb {D with nx:=Pv (i+1),ct:=Pv (i+1),bk:=D.nx} σ2 H2)(hd:∀σ H,Pv xs.length σ H->D.nx σ H):
  (∃xs,Gq K H a xs/\ZK (rA K a xs.length) g tb D σ H)\/(∃xs,Gu K H a xs/\ZK (pN K a xs.length) g tb D σ H)\/(∃n:Nat,H a=some (.rng 0 n)/\(n:Int)<2 ^ 62/\ZK (rb n) g tb D σ H):=by
 rcases hq with hq|hq
 ·exact .inl ⟨xs,(hk _ _ _ h0).seq hq,wb Pv h0 (fun i σ H p=>(hk i σ H p).seq hq) hs hd⟩
 ·exact .inr (.inl ⟨xs,Ge.sqt (hk _ _ _ h0) hq,vg Pv h0 (fun i σ H p=>Ge.sqt (hk i σ H p) hq) hs hd⟩)
end
theorem Zs{H H2:Hp}{l:Addr}{o:HO}(s:Ge H H2)(h:H l=none):Ge H (Gh H2 l o):=fun d u e=>by
 rw[qi (qo e h)];exact s _ _ e
theorem ib{ks:List Int}{j:Nat}{s:Int}(h:ks[j]? =some s):ks.take (j+1)=ks.take j++[s]:=by rw[Eh,h];rfl
theorem tf{ks:List Int}{j:Nat}{s:Int}(h:ks[j]? =some s):ks.drop j=s::ks.drop (j+1):=by
 obtain⟨hj,e⟩:=Jv.mp h;rw[List.drop_eq_getElem_cons hj,e]
inductive IK (H:Hp):Nat->V->V->Prop where
 |int (n:Nat) (i:Int):IK H n (.int i) (.int i)
 |str (n:Nat) (x:Str):IK H n (.str x) (.str x)
 |non (n:Nat):IK H n .non .non
 |bl (n:Nat) (b:Bool):IK H n (.bl b) (.bl b)
 | tup {n:Nat} {a b:Addr} {xs ys:List V} (h1:Rd H a (.tup xs)) (h2:Rd H b (.tup ys)) (hl:xs.length=ys.length)
   (hi:∀(i:Nat) (x y:V),xs[i]? =some x->ys[i]? =some y->IK H n x y):IK H (n+1) (.ref a) (.ref b)
 | lst {n:Nat} {a b:Addr} {xs ys:List V} (h1:H a=some (.lst xs)) (h2:H b=some (.lst ys)) (hl:xs.length=ys.length)
   (hi:∀(i:Nat) (x y:V),xs[i]? =some x->ys[i]? =some y->IK H n x y):IK H (n+1) (.ref a) (.ref b)
theorem bJ(n:Nat):((List.range n).all fun _=>true)=true:=by simp
section
open SeqAt
variable{tx:Gd}{σ:L2.St}{H:Hp}{s:Shared}
theorem zI{xs:List V}{us:List Value}(r:Gk xs us){j:Nat}(h:j<us.length):∃x,xs[j]? =some x/\Gn x us[j]:=by
 have hl:=r.length;have hj:j<xs.length:=by lia
 obtain⟨u,hu,ru⟩:=r.get (Jj hj)
 rw[Jj h]at hu;cases hu
 exact⟨_,Jj hj,ru⟩
theorem uE(I:L2.Gi X tx σ H s){n:Nat}{x y:V}(h:IK H n x y):∀{v u:Value} {A:Around},Gn x v->Gn y u->A.units+n<cLine->EqAt A s v u true:=by
 induction h with
 |int n i=>rintro v u A ⟨t,rfl⟩ ⟨t',rfl⟩ _;have:=EqAt.int_int (A:=A) (s:=s) i t i t';rwa [Es]at this
 |str n z=>rintro v u A ⟨t,rfl⟩ ⟨t',rfl⟩ _;have:=EqAt.str_str (A:=A) (s:=s) z t z t';rwa [Es]at this
 |non n=>
  intro v u A r1 r2 _
  cases(show v=Value.none from r1)
  cases(show u=Value.none from r2)
  exact EqAt.same _
 |bl n b=>
  intro v u A r1 r2 _
  cases(show v=Value.bool b from r1)
  cases(show u=Value.bool b from r2)
  exact EqAt.same _
 | @tup n a b xs ys h1 h2 hl _ ih=>
  intro v u A r1 r2 hu
  cases(show v=Value.ref a from r1)
  cases(show u=Value.ref b from r2)
  by_cases hab:a=b
  ·rw[hab];exact EqAt.same _
  ·obtain⟨its,q1,p1,_⟩:=I.tuple (.inl h1)
   obtain⟨its2,q2,p2,_⟩:=I.tuple (.inl h2)
   have l1:=q1.length;have l2:=q2.length;have e:=RcAt.tuples (A:=A) (e:=fun _=>true) (show s.heap.IsTuple a its.toArray from p1) (show s.heap.IsTuple b its2.toArray from p2) (by lia) (fun j z1 z2=>by
    obtain⟨x,ex,rx⟩:=zI q1 (j:=j) (by simpa using z1)
    obtain⟨y,ey,ry⟩:=zI q2 (j:=j) (by simpa using z2)
    exact ih j x y ex ey rx ry (by rw[E8];lia))
   rw[bJ,show(its.toArray.size==its2.toArray.size)=true by simp;lia]at e
   exact EqAt.of_refs hab e
 | @lst n a b xs ys h1 h2 hl _ ih=>
  intro v u A r1 r2 hu
  cases(show v=Value.ref a from r1)
  cases(show u=Value.ref b from r2)
  by_cases hab:a=b
  ·rw[hab];exact EqAt.same _
  ·obtain⟨its,q1,p1,_⟩:=I.list (Gq.of h1)
   obtain⟨its2,q2,p2,_⟩:=I.list (Gq.of h2)
   have l1:=q1.length;have l2:=q2.length;have e:=RcAt.lists (A:=A) (e:=fun _=>true) p1.isList p2.isList (by simp;lia) (by lia) (fun j z1 z2=>by
    obtain⟨x,ex,rx⟩:=zI q1 (j:=j) (by simpa using z1)
    obtain⟨y,ey,ry⟩:=zI q2 (j:=j) (by simpa using z2)
    exact ih j x y ex ey rx ry (by rw[E8];lia))
   rw[bJ]at e;exact EqAt.of_refs hab e
theorem Bu(I:L2.Gi X tx σ H s){n:Nat}{x y:V}{v u:Value}{A:Around}(h:IK H n x y)(r1:Gn x v)(r2:Gn y u)(hu:A.units+n<cLine):RcAt A s v u true/\RcNeAt A s v u false:=by
 cases h with
 |int n i=>
  obtain⟨t,rfl⟩:=r1;obtain⟨t',rfl⟩:=r2;have e1:=RcAt.int_int (A:=A) (s:=s) i t i t'
  have e2:=RcNeAt.int_int (A:=A) (s:=s) i t i t'
  rw[Es]at e1 e2
  exact⟨e1,e2⟩
 |str n z=>
  obtain⟨t,rfl⟩:=r1;obtain⟨t',rfl⟩:=r2;have e1:=RcAt.str_str (A:=A) (s:=s) z t z t'
  have e2:=RcNeAt.str_str (A:=A) (s:=s) z t z t'
  rw[Es]at e1 e2
  exact⟨e1,e2⟩
 |non n=>
  cases(show v=Value.none from r1)
  cases(show u=Value.none from r2)
  exact⟨RcAt.none_none,RcNeAt.none_none⟩
 |bl n b=>
  cases(show v=Value.bool b from r1)
  cases(show u=Value.bool b from r2)
  have e1:=RcAt.bool_bool (A:=A) (s:=s) b b
  have e2:=RcNeAt.bool_bool (A:=A) (s:=s) b b
  rw[Es]at e1 e2
  exact⟨e1,e2⟩
 | @tup n a b xs ys h1 h2 hl ih=>
  cases(show v=Value.ref a from r1)
  cases(show u=Value.ref b from r2)
  obtain⟨its,q1,p1,_⟩:=I.tuple (.inl h1)
  obtain⟨its2,q2,p2,_⟩:=I.tuple (.inl h2)
  have l1:=q1.length;have l2:=q2.length;have he:∀j (z1:j<its.toArray.size) (z2:j<its2.toArray.size),EqAt A.in1 s its.toArray[j] its2.toArray[j] ((fun _=>true) j):=fun j z1 z2=>by
   obtain⟨x,ex,rx⟩:=zI q1 (j:=j) (by simpa using z1)
   obtain⟨y,ey,ry⟩:=zI q2 (j:=j) (by simpa using z2)
   exact uE I (ih j x y ex ey) rx ry (by rw[E8];lia)
  have e1:=RcAt.tuples (A:=A) (e:=fun _=>true) (show s.heap.IsTuple a its.toArray from p1) (show s.heap.IsTuple b its2.toArray from p2) (by lia) he
  have e2:=RcNeAt.tuples (A:=A) (e:=fun _=>true) (show s.heap.IsTuple a its.toArray from p1) (show s.heap.IsTuple b its2.toArray from p2) (by lia) he
  rw[bJ,show(its.toArray.size==its2.toArray.size)=true by simp;lia]at e1 e2
  exact⟨e1,e2⟩
 | @lst n a b xs ys h1 h2 hl ih=>
  cases(show v=Value.ref a from r1)
  cases(show u=Value.ref b from r2)
  obtain⟨its,q1,p1,_⟩:=I.list (Gq.of h1)
  obtain⟨its2,q2,p2,_⟩:=I.list (Gq.of h2)
  have l1:=q1.length;have l2:=q2.length;have he:∀j (z1:j<its.toArray.size) (z2:j<its2.toArray.size),EqAt A.in1 s its.toArray[j] its2.toArray[j] ((fun _=>true) j):=fun j z1 z2=>by
   obtain⟨x,ex,rx⟩:=zI q1 (j:=j) (by simpa using z1)
   obtain⟨y,ey,ry⟩:=zI q2 (j:=j) (by simpa using z2)
   exact uE I (ih j x y ex ey) rx ry (by rw[E8];lia)
  have e1:=RcAt.lists (A:=A) (e:=fun _=>true) p1.isList p2.isList (by simp;lia) (by lia) he
  have e2:=RcNeAt.lists (A:=A) (e:=fun _=>true) p1.isList p2.isList (by simp;lia) (by lia) he
  rw[bJ]at e1 e2
  exact⟨e1,e2⟩
def Dt(b:Bool):R2:=fun x y H Q=>∃n,n<=32/\IK H n x y/\Q (.bl b) H
theorem Bm{k:Nat}(hr:GA k X.A):zw X (compareOp .NotEq) (Dt false):=by
 intro tx s σ H x y v u Q I rx ry h;obtain⟨n,hn,e,q⟩:=h
 exact(Bu I e rx ry (by have:=hr.un;lia)).2 _ _ _ _ ⟨.bl _,H,I,rfl,q⟩
end
end L3
namespace L3
open PySem PySem.Spec PyProof.Rows L2
open Sem (wp)
def wU(x:Str):It:=⟨fun i _=>i<x.cps.size,fun i H v H'=>H'=H/\∃c,x.cps[i]? =some c/\v= .str ⟨#[c]⟩,fun i _=>x.cps.size<=i⟩
theorem vQ{P:Program}{w:World}{K:Frag}{tg:Expr}(it:Addr)(x:Str)(t:Tok):Ig P w K tg (wU x) [it] it (fun i h=>h.IsStrIter it "str_ascii_iterator" x t i) where
 mem:=by simp
 obj:=fun i h st b hb=>by
  have e:b=it:=by simpa using hb
  subst e;obtain⟨o,e,c,d⟩:=st
  exact⟨o,e,fun v z=>by rw[d]at z;cases z⟩
 keep:=fun i h h' st k=>let⟨o,e,r⟩:=st;⟨o,k it (by simp) o e,r⟩
 item:=by
  intro X hP hw hK hc i tx s σ H E I hf st hg;subst hP hw hK;obtain⟨f0,f1,f2,f3,f4,f5⟩:=hf it (by simp)
  have W:=Walks.strAscii (prog:=X.prog) (w:=X.w) (I.ok.hd hc) it x t
  refine W.item i s _ _ hg st fun v h' tk hv st' kk=>?_
  obtain⟨c,u,hc',rfl⟩:=hv;have I1:L2.Gi X tx σ H {s with heap:=h',toks:=tk}:=I.turned (fun b o hb e=>kk b o (by simpa using hb) e) f0 f1 f3 f4 f5
  obtain⟨o,e,cc,d⟩:=id st'
  exact⟨_,rfl,bX (s:={s with heap:=h',toks:=tk}) e cc d (by decide) ⟨.str ⟨#[c]⟩,H,I1,⟨u,rfl⟩,⟨rfl,c,hc',rfl⟩,st',fun b hb=>(hf b hb).1⟩⟩
 done:=by
  intro X hP hw hK hc i tx s σ H E I hf st hg;subst hP hw hK;obtain⟨f0,f1,f2,f3,f4,f5⟩:=hf it (by simp)
  have hg':x.cps.size<=i:=hg
  exact wpAny_pyNext_ascii_end (I.ok.hd hc) st (by simp [hg']) fun h' eb=>⟨rfl,I.turned (t':=s.toks) (fun b o hb e=>eb b o hb e) f0 f1 f3 f4 f5⟩
 self:=fun _ _ _ _ _ st h=>wpAny_pyIter_striter_ascii st h
section
variable{X:Cx}{tg:Expr}
def BJ(tl:TE):TI:=fun σ H R=>tl σ H fun v H1=>∃x,v= .str x/\x.cps.all (· <128)=true/\R (wU x) H1
theorem B1{l:Expr}{tl:TE}(hl:PE X l tl):PI X tg l (BJ tl):=by
 intro tx s σ H R I h;refine qC (hl tx s σ H _ I h) fun v s1 zq=>?_
 obtain⟨x,H1,I1,r1,q1⟩:=zq;obtain⟨z,rfl,ha,q⟩:=q1;obtain⟨t,rfl⟩:=r1;refine wpAny_pyIter_ascii ha ?_
 refine⟨s1.heap.objs.size,[s1.heap.objs.size],_,_,H1,rfl,I1.kept (t':=s1.toks) fun b o e=>Ji _ e,vQ _ z t,⟨_,Jp _ rfl,rfl,rfl⟩,fun b hb=>?_,q⟩
 rw[Jl.mp hb];exact I1.fpOk (Jf _) (I1.hok.fresh (Jf _))
theorem uu{l:Expr}{tl:TE}(hl:QE X l tl):QI X tg l (BJ tl):=⟨B1 hl.h⟩
end
theorem yh{x:Str}{g:TG}{tb:TS}{D:Ht}{σ:L2.St}{H:Hp}(Pv:Nat->L2.St->Hp->Prop)(h0:Pv 0 σ H)
  (hs:∀i c σ H,x.cps[i]? =some c->Pv i σ H->g (.str ⟨#[c]⟩) σ H fun σ2 H2=>tb {D with nx:=Pv (i+1),ct:=Pv (i+1),bk:=D.nx} σ2 H2)(hd:∀σ H,Pv x.cps.size σ H->D.nx σ H):ZK (wU x) g tb D σ H:=
 eR Pv h0 (fun i σ H hi p=>hi) (fun _=>Jf _) (fun i v σ H H' hi p y=>by
  obtain⟨rfl,c,hc,rfl⟩:=y;exact hs i c σ H' hc p) hd
section
variable{X:Cx}{o e:Expr}{es:List Expr}{to:TE}{t:TA}{name:Str}{apos cpos:Pos}{T id:String}{r:V->List V->Hp->VK->Prop}
theorem ZM(pa:PlainAttrs T)(slot:Slot T name id)(hty:typeOf (.builtin id)=pure (.type "method_descriptor"))(hm:gx X id r)(ho:QE X o to)(ha:QA X (e::es) t)
  (hbase:attributeBase o name X.env (eval o X.env)=eval o X.env:=by rfl)
  (hfew:((backTo cpos (starEach (e::es) X.env)).all (fun x=> !x.1)&&(backToKw cpos (keywordEach [] X.env)).all (fun x=>x.1.isSome)
   &&decide ((e::es).length+([]:List Keyword).length+(if([]:List Keyword).isEmpty then 0 else 1)<30))=true:=by rfl)
  (hline:(apos.endLine==cpos.line)=true:=by rfl)(hs:starEach (e::es) X.env=(false,eval e X.env)::starEach es X.env:=by rfl)(hplain:(backTo cpos (starEach es X.env)).any (·.1)=false:=by rfl):
  QE X (.Call (.Attribute o name apos) (e::es) [] cpos) (B9 X.K T r to t):=⟨C1 pa slot hty hm ho.h ha.h hbase hfew hline hs hplain⟩
theorem Qp:gx X "list.append" oE:=rM
theorem gI:∀{ys:List Str} {us:List Value},Gk (ys.map V.str) us->StrsAre us ys
 | [],_,.nil=> .nil
 |y::ys,_,.cons r t=>by
  obtain⟨u,rfl⟩:=(show∃u,_=Value.str y u from r)
  exact .cons _ _ (gI t)
end
theorem bB(ns:List Int):∀n,n<=ns.length->preSum (fun i=>ns.getD i 0) n=(ns.take n).sum
 |0,_=>by simp [preSum]
 |n+1,h=>by
  have hn:n<ns.length:=by lia
  rw[preSum,bB ns n (by lia),Eh,Jj hn,Option.toList_some,List.sum_append,JF,Jj hn]
  simp
theorem uf{B:Int}:∀{ns:List Int},(∀z∈ns,0<=z/\z<=B)->0<=ns.sum/\ns.sum<=ns.length*B
 | [],_=>⟨by simp,by simp⟩
 |n::r,h=>by
  have h1:=h n Jw;have h2:=uf (ns:=r) fun z hz=>h z (JC _ hz)
  rw[List.sum_cons,JU];refine⟨by lia,?_⟩
  have:(((r.length+1:Nat):Int))*B=r.length*B+B:=by rw[Int.natCast_add,Int.add_mul];simp
  lia
section
variable{X:Cx}
theorem sF(hc:X.calm=true):qY X (.builtin "sum") (fun xs H Q=>∃(p:Addr) (ns:List Int),xs=[.ref p]/\Sq X.K H p (ns.map V.int)/\ns.length<=1000/\(∀z∈ns,0<=z/\z<=1000000)/\Q (.int ns.sum) H):=by
 intro tx s σ H xs us Q I r h;obtain⟨p,ns,rfl,hq,hl,hb,q⟩:=h;obtain⟨u,rfl,ru⟩:=zL r;cases ru;have bd:∀n,n<=ns.length->0<=preSum (fun i=>ns.getD i 0) n/\preSum (fun i=>ns.getD i 0) n<=1000000000:=fun n hn=>by
  rw[bB ns n hn];have h1:=uf (B:=1000000) (ns:=ns.take n) fun z hz=>hb z (List.mem_of_mem_take hz)
  have h2:(ns.take n).length<=1000:=by rw[Eu];lia
  lia
 have fit:∀j,j<ns.length->InLong ((fun i=>ns.getD i 0) j)/\InLong (preSum (fun i=>ns.getD i 0) (j+1)):=fun j hj=>by
  have b1:=bd (j+1) (by lia)
  have b2:0<=ns.getD j 0/\ns.getD j 0<=1000000:=by
   rw[JF,Jj hj];exact hb _ (Ey hj)
  unfold InLong;simp only
  lia
 have eS:preSum (fun i=>ns.getD i 0) ns.length=ns.sum:=by rw[bB ns _ (Jf _),EA]
 have val:∀{its:List Value},Gk (ns.map V.int) its->∀(i:Nat) (v:Value),its.toArray[i]? =some v->∃t,v= .int ((fun i=>ns.getD i 0) i) t:=fun{its} rv i v hv=>by
  have hv':its[i]? =some v:=by simpa using hv
  have hi:i<its.length:=(Jv.mp hv').1
  obtain⟨x,ex,rx⟩:=zI rv hi;obtain⟨z,rfl,hz⟩:=Qu ex;obtain⟨t,ht⟩:=rx;refine⟨t,?_⟩
  rw[(Jv.mp hv').2]at ht;rw[ht]
  show Value.int z t=Value.int (ns.getD i 0) t
  rw[JF,hz];rfl
 rcases hq with hq|hq
 ·obtain⟨its,rv,pl,hz⟩:=I.list hq
  have hlen:ns.length=its.length:=by have:=rv.length;rwa [Je]at this
  have hlt:p<s.heap.objs.size:=by obtain⟨_,e,_⟩:=pl.isList;exact Jh e
  refine call_sum_walk (Ff pl.isList ?_)
  refine⟨s.heap.objs.size,[s.heap.objs.size,p],[s.heap.objs.size],its.toArray.size,_,_,fun i=>ns.getD i 0,rfl,Walks.list (A:=X.A.in1) (I.ok.hd hc) _ p (Jm hlt) its.toArray,
   ⟨⟨_,Jp _ rfl,rfl,rfl⟩,pl.isList.push _⟩,fun b hb'=>?_,val rv,fun j hj=>fit j (by simp at hj;lia),fun h' tk t' hk=>?_⟩
  ·have sz:(s.heap.push {cls:= .type "list_iterator",data:= .fields #[.ref p,.int 0 0]}).objs.size=s.heap.objs.size+1:=JV ..
   simp only[Jk,Js,Jt]at hb'
   show b<(Heap.push s.heap _).objs.size
   rw[JV];rcases hb' with rfl|rfl
   ·exact Ek _
   ·exact Ex hlt
  ·have e2:preSum (fun i=>ns.getD i 0) its.toArray.size=ns.sum:=by rw[Jr,<- hlen];exact eS
   rw[e2];refine⟨.int _,H,I.kept (h':=h') (t':=tk) fun b o q=>hk b o (fun hm=>?_) (Ji _ q),⟨_,rfl⟩,q⟩
   rw[Jl.mp hm]at q;exact JY _ (Jh q)
 ·obtain⟨its,rv,pl,hz⟩:=I.tuple hq
  have hlen:ns.length=its.length:=by have:=rv.length;rwa [Je]at this
  have hT:s.heap.IsTuple p its.toArray:=pl
  have hlt:p<s.heap.objs.size:=by obtain⟨_,e,_⟩:=hT;exact Jh e
  refine call_sum_walk (ET hT ?_)
  refine⟨s.heap.objs.size,[s.heap.objs.size,p],[s.heap.objs.size],its.toArray.size,_,_,fun i=>ns.getD i 0,rfl,Walks.tuple (A:=X.A.in1) (I.ok.hd hc) _ p (Jm hlt) its.toArray,
   ⟨⟨_,Jp _ rfl,rfl,rfl⟩,let⟨o,e,r⟩:=hT;⟨o,Ji _ e,r⟩⟩,fun b hb'=>?_,val rv,fun j hj=>fit j (by simp at hj;lia),fun h' tk t' hk=>?_⟩
  ·simp only[Jk,Js,Jt]at hb'
   show b<(Heap.push s.heap _).objs.size
   rw[JV];rcases hb' with rfl|rfl
   ·exact Ek _
   ·exact Ex hlt
  ·have e2:preSum (fun i=>ns.getD i 0) its.toArray.size=ns.sum:=by rw[Jr,<- hlen];exact eS
   rw[e2];refine⟨.int _,H,I.kept (h':=h') (t':=tk) fun b o q=>hk b o (fun hm=>?_) (Ji _ q),⟨_,rfl⟩,q⟩
   rw[Jl.mp hm]at q;exact JY _ (Jh q)
end
end L3
namespace L3
open PySem PySem.Spec PyProof.Rows L2
section
variable{X:Cx}
theorem wm:vx X (fun x y H Q=>∃(p:Addr) (xs:List V) (i:Nat) (v:V),x= .ref p/\y= .int (i:Int)/\H p=some (.lst xs)/\xs[i]? =some v/\Q v H):=by
 intro tx s σ H o i ov iv Q I r1 r2 h;obtain⟨p,xs,j,v,rfl,rfl,hH,hv,q⟩:=h;cases r1;obtain⟨t,rfl⟩:=r2;obtain⟨its,r,pl,hz⟩:=I.list (Gq.of hH)
 obtain⟨u,hu,ru⟩:=r.get hv;have hl:=r.length;have hn:=ZR;have hj:j<xs.length:=(Jv.mp hv).1
 exact wpAny_getItem_list pl.isList (by lia) (by lia) (by simpa using hu) ⟨v,H,I,ru,q⟩
end
def Qy(z:Str):Prop:=(∀c∈z.cps.toList,97<=c/\c<=122)/\1<=z.cps.toList.length/\z.cps.toList.length<=8
theorem kU{z:Str}(h:Qy z):z.cps.all (· <128)=true:=by
 rw[Array.all_eq_true'];intro c hc
 have:=h.1 c (by simpa using hc)
 simp;lia
def vJ(c:Nat):List Int:=[((c:Int)-97)%16,((c:Int)-97)/16]
def Q3(cs:List Nat):List Int:=cs.flatMap vJ
theorem sT(cs:List Nat)(c:Nat):Q3 (cs++[c])=Q3 cs++vJ c:=by simp [Q3]
theorem iI(cs:List Nat):(Q3 cs).length=2*cs.length:=by
 induction cs with
 |nil=>rfl
 |cons c r ih=>simp only[Q3,List.flatMap_cons,JD,JU]at ih⊢;rw[ih];simp [vJ];lia
def g0(ds:List Int)(j:Nat):Nat->Int
 |0=>0
 |n+1=>g0 ds j n+if n%4=j then ds.getD n 0 else 0
def ZL(ds:List Int)(n:Nat):List Int:=[g0 ds 0 n,g0 ds 1 n,g0 ds 2 n,g0 ds 3 n]
theorem uI(ds:List Int)(n:Nat):(ZL ds n).set (n%4) ((ZL ds n).getD (n%4) 0+ds.getD n 0)=ZL ds (n+1):=by
 have h:n%4=0\/n%4=1\/n%4=2\/n%4=3:=by lia
 rcases h with h|h|h|h<;>simp [ZL,g0,h]
def br(ds:List Int):List Int:=(ZL ds ds.length).map (· %16)
theorem ki(ds:List Int):(br ds).length=4:=rfl
def jd:Sp:=fun vs H Q _=>∃z,vs=[.str z]/\Qy z/\∀l H',Ge H H'->H l=none->H' l=some (.lst ((Q3 z.cps.toList).map V.int))->Q (.ref l) H'
def gK(K:Frag):Sp:=fun vs H Q _=>∃(a b:Addr) (z:Str) (t ks:List Int),vs=[.ref a,.ref b,.str z]/\Sq K H a (t.map V.int)/\Sq K H b (ks.map V.int)/\Qy z/\t.length=16/\
 ∀p H',Ge H H'->H p=none->H' p=some (.tup ((QJ t ks (br (Q3 z.cps.toList))).map V.int))->Q (.ref p) H'
theorem As{cs:List Nat}{i c:Nat}(h:cs[i]? =some c):cs.take (i+1)=cs.take i++[c]:=by rw[Eh,h];rfl
theorem oH{z:Str}{i c:Nat}(h:z.cps[i]? =some c):z.cps.toList[i]? =some c:=by simpa using h
theorem BW{X:Cx}{scope:Scope}{y z:Str}{j k:Nat}(kind:scope.kind= .function)(names:∀x∈scope.names,x.2= .local->scope.names.lookup x.1=some .local)(nocell:∀x∈scope.names,x.2≠ .cell)
  (free:∀x∈scope.names,x.2= .free->x.1∈([y,z]:List Str))(h1:X.N[j]? =some y)(h2:X.env.kindOf y=some .cell)(h3:(relabel scope X.env).names.lookup y=some .cell)
  (g1:X.N[k]? =some z)(g2:X.env.kindOf z=some .cell)(g3:(relabel scope X.env).names.lookup z=some .cell):Hu X scope [y,z] [j,k]:=
 ⟨kind,names,nocell,free,rfl,fun i j' y' e1 e2=>by
  match i with
  |0=>cases e1;cases e2;exact⟨h1,h2,h3⟩
  |1=>cases e1;cases e2;exact⟨g1,g2,g3⟩
  |i+2=>simp at e1⟩
theorem CL{X:Cx}{y z:Str}{c d:Addr}(h:X.env.cells.lookup y=some c)(g:X.env.cells.lookup z=some d):∀u e,([(y,c),(z,d)]:List (Str×Addr)).lookup u=some e->X.env.cells.lookup u=some e:=fun u e he=>by
 by_cases hu:u=y
 ·subst hu
  simp at he
  rw[<- he];exact h
 ·by_cases hv:u=z
  ·subst hv
   simp [Ed,show(u==y)=false from by simpa using hu]at he
   rw[<- he];exact g
  ·simp [Ed,show(u==y)=false from by simpa using hu,show(u==z)=false from by simpa using hv]at he
end L3
namespace L3
open PySem PySem.Spec PyProof.Rows L2
open Sem (wp)
section
variable{prog:Program}{w:World}{A:Around}{E:Gb}{s:Shared}
theorem gB{it t:Addr}{items:Array Value}(hne:t≠it):∀(n i:Nat) (s:Shared) (Q:List Value->Shared->Prop),s.heap.IsListIter it t i->s.heap.IsList t items->i+n<=items.size->
  (∀h',h'.IsListIter it t (i+n)->Heap.SameBut it s.heap h'->Q ((items.toList.drop i).take n) {s with heap:=h'})->wpAny (model prog w) A (draw (.ref it) n) Q E s
 |0,i,s,Q,hit,_,_,hQ=>by
  show wpAny _ _ (pure []) Q E s
  refine Jb ?_
  have:=hQ s.heap hit (Heap.SameBut.refl ..)
  simpa using this
 |n+1,i,s,Q,hit,ht,hle,hQ=>by
  have hlt:i<items.size:=by lia
  show wpAny _ _ (pyNext (.ref it) >>= _) Q E s
  refine Ja (wpAny_pyNext_list_item hit ht (x:=items[i]) (by simp [hlt]) fun h₁ hit₁ hs₁=>?_)
  have ht1:(Shared.heap {s with heap:=h₁}).IsList t items:=let⟨o,e,r⟩:=ht;⟨o,hs₁.extBut _ _ hne e,r⟩
  refine Ja (JL (gB hne n (i+1) _ _ hit₁ ht1 (by lia) fun h₂ hit₂ hs₂=>Jb ?_))
  have hd:items.toList.drop i=items[i]::items.toList.drop (i+1):=by simp [List.drop_eq_getElem_cons,hlt]
  have z:=hQ h₂ (by rw[show i+(n+1)=i+1+n by lia];exact hit₂) (hs₁.trans hs₂)
  rw[hd,List.take_succ_cons]at z;exact z
theorem jM{t:Addr}{items:Array Value}{targets:List (Bool×(Value->Sem Unit))}{Q:Unit->Shared->Prop}(hh:A.handled=none)(ht:s.heap.IsList t items)
  (hn:targets.length=items.size)(hstar:targets.findIdx? (·.1)=none)
  (h:∀h',Heap.ExtBut s.heap.objs.size s.heap h'->wpAny (model prog w) A (assignInOrder (targets.map (·.2)) items.toList) Q E {s with heap:=h'}):
  wpAny (model prog w) A (unpack (.ref t) targets) Q E s:=by
 have hlt:t≠s.heap.objs.size:=by obtain⟨o,ho,_⟩:=ht;exact Jm (Jh ho)
 unfold unpack;rw[hn,hstar];refine Ja (JL ?_)
 unfold unpackItems;refine Ja ?_
 unfold notIterableAtAll;refine Ja (E7 ht.typeIs F.slot_list_iter.lookup ?_)
 refine Jb ?_
 simp only[Bool.false_eq_true,JE];refine Ja (JL (Ff ht ?_))
 refine Ja (JL (gB hlt items.size 0 _ _ ⟨_,Jp _ rfl,rfl,rfl⟩ (ht.push _) (by lia) fun h₁ hit₁ hs₁=>?_))
 have hall:List.take items.size (List.drop 0 items.toList)=items.toList:=by
  rw[List.drop_zero];exact List.take_of_length_le (by simp)
 rw[hall];rw[Jd (by simp)]
 have ht₁:h₁.IsList t items:=let⟨o,e,r⟩:=ht.push _;⟨o,hs₁.extBut _ _ hlt e,r⟩
 refine Ja (JL (wpAny_pyNext_list_end hh hit₁ ht₁ (by simp) fun h₂ he₂=>?_))
 simp only[Option.isSome_none,Bool.false_eq_true,JE];exact Jb (h h₂ fun b o hb e=>he₂ b o hb (hs₁.extBut b o hb (Ji _ e)))
end
section
variable{X:Cx}{pos:Pos}
def Cn(K:Frag)(n:Nat)(t:aP):TG:=fun v σ H Q=>∃a xs,v= .ref a/\Sq K H a xs/\xs.length=n/\t xs σ H Q
theorem Ci{es:List Expr}{k:Nat}{t:aP}{n:Nat}(hc:X.calm=true)(h:n9 X es t)
  (hn:(assignEach es X.env).length=n:=by rfl)(hst:(assignEach es X.env).findIdx? (·.1)=none:=by rfl):PG X (.Tuple es k pos) (Cn X.K n t):=by
 intro tx s σ H v u Q I r hw;obtain⟨a,xs,e1,hq,hl,hw⟩:=hw;rcases hq with hq|hq
 ·subst e1
  cases r;obtain⟨its,rv,ht,hz⟩:=I.list hq;rw[assign_Tuple];refine Ja (EF (jM (I.ok.hd hc) ht.isList (by simp [hn,<- hl,rv.length]) hst fun h' hx=>?_))
  have I1:L2.Gi X tx σ H {s with heap:=h'}:=I.kept (t':=s.toks) fun b o e=>hx b o (Jm (Jh e)) e
  exact h tx _ σ H xs _ Q I1 (by simpa using rv) hw
 ·exact lE hc h hn hst tx s σ H v u Q I r ⟨a,xs,e1,hq,hl,hw⟩
theorem zi{es:List Expr}{k:Nat}{t:aP}{n:Nat}(hc:X.calm=true)(h:Lf X es t)
  (hn:(assignEach es X.env).length=n:=by rfl)(hst:(assignEach es X.env).findIdx? (·.1)=none:=by rfl):QG X (.Tuple es k pos) (Cn X.K n t):=⟨Ci hc h.h hn hst⟩
end
end L3
namespace L3
open PySem PySem.Spec PyProof.Rows L2
def Z0(c d:Int):List Int:=[c%16,c/16%16,c/256,d]
def Z1(c d:Int):List Int:=Z0 c d++[(Z0 c d).sum%16]
def il(t ks:List Int)(z:Str):List Int:=QJ t ks (br (Q3 z.cps.toList))
def cp(t ks:List Int)(z:Str)(c d:Int):List Int:=QJ t (il t ks z) (Z1 c d)
def jJ(r:List Int):Option (Int×Int):=if r.getD 4 0=(r.getD 0 0+r.getD 1 0+r.getD 2 0+r.getD 3 0)%16 then some (r.getD 0 0+r.getD 1 0*16+r.getD 2 0*256,r.getD 3 0)else none
def Zj(t ks:List Int)(z:Str)(ds:List Int):Option (Int×Int):=jJ (Q8 (zD t) (il t ks z) ds)
theorem ci(c d:Int):(Z1 c d).length=5:=rfl
theorem vw(c d:Int):(Z0 c d).sum=c%16+c/16%16+c/256+d:=by simp [Z0];lia
theorem fI{c d:Int}(h0:0<=c)(h1:c<4096)(hd:aW d):zC (Z1 c d):=fun x hx=>by
 simp only[Z1,Z0,List.cons_append,List.nil_append,Jk,Js,Jt]at hx;rcases hx with rfl|rfl|rfl|rfl|rfl
 ·exact af _
 ·exact af _
 ·exact⟨by lia,by lia⟩
 ·exact hd
 ·exact af _
theorem um{c d:Int}(h0:0<=c)(h1:c<4096):jJ (Z1 c d)=some (c,d):=by
 have e:(Z1 c d)=[c%16,c/16%16,c/256,d,(c%16+c/16%16+c/256+d)%16]:=by unfold Z1;rw[vw];rfl
 unfold jJ;rw[e]
 show(if(c%16+c/16%16+c/256+d)%16=(c%16+c/16%16+c/256+d)%16 then some (c%16+c/16%16*16+c/256*256,d)else none)=_
 rw[Jc rfl,show c%16+c/16%16*16+c/256*256=c by lia]
theorem Aq{r:List Int}(hl:r.length=5):∃a b c d e:Int,r=[a,b,c,d,e]:=by
 match r,hl with
 | [a,b,c,d,e],_=>exact⟨a,b,c,d,e,rfl⟩
theorem rV(t ks:List Int)(z:Str)(c d:Int):(cp t ks z c d).length=5:=by unfold cp;rw[ca,ci]
theorem vn{t ks:List Int}(p:t.Perm GM){z:Str}{c d:Int}(h0:0<=c)(h1:c<4096)(hd:aW d):zC (cp t ks z c d):=lH p (fI h0 h1 hd)
theorem iE{t ks:List Int}(p:t.Perm GM){z:Str}{c d:Int}(h0:0<=c)(h1:c<4096)(hd:aW d):Zj t ks z (cp t ks z c d)=some (c,d):=by
 unfold Zj cp;rw[kI p (fI h0 h1 hd) (by rw[ci];decide),um h0 h1]
def cX(H:Hp)(x:V):Option (Int×Int)->Prop
 |none=>x= .non
 |some (c,d)=>∃p,x= .ref p/\H p=some (.tup [.int c,.int d])
def Bz:Sp:=fun vs H Q _=>∃c:Int,vs=[.int c]/\∀p H',Ge H H'->H' p=some (.tup [.int (c%16),.int (c/16%16),.int (c/256)])->Q (.ref p) H'
def nV(K:Frag):Sp:=fun vs H Q _=>∃(a b:Addr) (z:Str) (age c d:Int) (t ks:List Int),vs=[.ref a,.ref b,.str z,.int age,.int c,.int d]/\Sq K H a (t.map V.int)/\Sq K H b (ks.map V.int)/\Qy z/\t.length=16/\0<=c/\c<4096/\aW d/\
 ∀p pc H',Ge H H'->H' p=some (.tup [.str z,.int age,.ref pc])->H' pc=some (.tup ((cp t ks z c d).map V.int))->Q (.ref p) H'
def j5(K:Frag):Sp:=fun vs H Q _=>∃(a b pr pc:Addr) (z:Str) (age:Int) (t ks ds:List Int),vs=[.ref a,.ref b,.ref pr]/\Sq K H a (t.map V.int)/\Sq K H b (ks.map V.int)/\Sq K H pr [.str z,.int age,.ref pc]/\Sq K H pc (ds.map V.int)/\Qy z/\t.Perm GM/\ds.length=5/\zC ds/\
 ∀x H',Ge H H'->cX H' x (Zj t ks z ds)->Q x H'
def bA(K:Frag)(H:Hp)(a:Addr)(f:Str)(v:V):Prop:=∃C dx fs,H a=some (.ins C dx fs)/\IL K C/\GD K C f/\fs.lookup f=some v
def fH(K:Frag)(H:Hp)(a:Addr)(f:Str)(v:V)(H':Hp):Prop:=∃C dx fs,H a=some (.ins C dx fs)/\IL K C/\GD K C f/\fs.length<1000/\H'=Gh H a (.ins C dx (Ql f v fs))
def Dn(C:Addr)(H:Hp)(a:Addr)(m:Str):Prop:=∃dx fs,H a=some (.ins C dx fs)/\fs.lookup m=none
def xy(K:Frag)(ta:TE)(f:Str):TE:=fun σ H Q=>ta σ H fun x H1=>∃a v,x= .ref a/\bA K H1 a f v/\Q v H1
def C7(K:Frag)(ta tv:TE)(f:Str):TS:=fun D σ H=>tv σ H fun y H1=>ta σ H1 fun x H2=>∃a H3,x= .ref a/\fH K H2 a f y H3/\D.nx σ H3
def tH(C:Addr)(m:Str)(sp:Sp)(ta:TE)(t:TA):TE:=fun σ H Q=>ta σ H fun x H1=>∃a,x= .ref a/\Dn C H1 a m/\t σ H1 fun vs H2=>sp (x::(vs++[])) H2 Q E0
section
variable{X:Cx}{o e value:Expr}{f:Str}{pos pos':Pos}{ta tv:TE}
theorem qN(he:QE X e ta)(hb:attributeBase e f X.env (eval e X.env)=eval e X.env:=by rfl):QE X (.Attribute e f pos) (xy X.K ta f):=⟨by
 intro tx s σ H Q I h;refine yj hb (qC (he.h tx s σ H _ I h) fun u s1 zq=>?_)
 obtain⟨x,H1,I1,rx,a,v,ex,⟨C,dx,fs,ea,c,n,l⟩,q⟩:=zq;subst ex
 obtain rfl:u=Value.ref a:=rx
 exact pL I1 ea c n l fun u' s2 I2 ru=>⟨v,H1,I2,ru,q⟩⟩
theorem zx(ha:QE X o ta)(hv:QE X value tv)(hs:swapsWith value (some (.Attribute o f pos')) pos.line X.env=pure false:=by rfl):QS X (.Assign [.Attribute o f pos'] value pos) (C7 X.K ta tv f):=⟨by
 intro tx s σ H D I h;refine plainObj_wpAny_Assign_Attribute (qC (hv.h tx s σ H _ I h) fun u s1 ⟨y,H1,I1,ry,q⟩=>qC (ha.h tx s1 σ H1 _ I1 q) fun ov s2 zq=>?_) hs
 obtain⟨x,H2,I2,rx,a,H3,ex,⟨C,dx,fs,ea,c,n,l,e3⟩,q2⟩:=zq;subst ex e3
 obtain rfl:ov=Value.ref a:=rx
 exact oY I2 ea c n l ry fun s3 I3=>⟨σ,_,I3,q2⟩⟩
end
structure Mf(P:Program)(w:World)(K:Frag)(mg:Gc)(base:Heap)(C:Addr)(m:Str)(ps:List Str)(k:Nat)(sp:Sp):Prop where
 ex:∃(f:Addr) (fd:FuncData),HS P w K mg base aJ k f fd ps sp/\IZ K C m f/\HH K fd ps []
structure Io(K:Frag)(C:Addr)(m Lo:Str)(st:Stmt)(ps:List Str):Prop where
 ex:∃(f:Addr) (fd:FuncData),IM K m Lo st f fd/\IZ K C m f/\HH K fd ps []
structure Mi(P:Program)(w:World)(K:Frag)(mg:Gc)(base:Heap)(C:Addr)(x:Str)(ps:List Str)(k:Nat)(sp:Sp):Prop where
 ex:∃(f:Addr) (fd:FuncData),HS P w K mg base aJ k f fd ps sp/\Mk K C f/\mg x=some (.ref C)/\HH K fd ps []
section
variable{P:Program}{w:World}{K:Frag}{mg:Gc}{base:Heap}{C:Addr}
theorem Io.mq{m Lo:Str}{st:Stmt}{ps N:List Str}{k:Nat}{sp:Sp}(a:Io K C m Lo st ps)(S:Gf N ps (ql st))
  (hbody:∀(f:Addr) (cdv:Value) (A:Around) (outer:List Env) (s:Shared) (H:Hp) (vs:List V) (Q:VK) (E:XK),GA k (A.deeper (envOfC Lo (ql st) s.heap.objs.size f cdv))->sp vs H Q E->
   ∃t,IT (bh aJ P w K mg base N Lo (ql st) f cdv A outer s H E).nox (zH st) t/\t {nx:=fun _ H'=>Q .non H',rt:=Q} (Q1 N vs) H)(len:∀vs H Q E,sp vs H Q E->vs.length=ps.length:=by intro vs H Q E h;(repeat first|obtain⟨rfl,h⟩:=h|obtain⟨_,h⟩:=h);all_goals rfl):Mf P w K mg base C m ps (k+1) sp:=by
 obtain⟨f,fd,F,m,bd⟩:=a.ex
 exact⟨f,fd,F.ok S len (fun cdv A outer s H vs Q E hr h=>let⟨t,q1,q2⟩:=hbody f cdv A outer s H vs Q E hr h;⟨t,q1.h,q2⟩),m,bd⟩
theorem Mf.mi{x:Str}{ps:List Str}{k:Nat}{sp:Sp}(a:Mf P w K mg base C "__init__" ps k sp)(mk:W.makesIn K C=true)(kc:W.keepIn K (.ref C)=true)(hx:mg x=some (.ref C)):Mi P w K mg base C x ps k sp:=
 let⟨f,fd,F,m,bd⟩:=a.ex;⟨f,fd,F,⟨mk,m.at_,m.fn,kc⟩,hx,bd⟩
end
section
variable{X:Cx}{C:Addr}{x m:Str}{ps:List Str}{k:Nat}{sp:Sp}{o e:Expr}{es:List Expr}{p pos apos:Pos}{ta:TE}{t:TA}
theorem zg{pl:Sem Bool}(M:Mf X.prog X.w X.K X.mg X.base C m ps k sp)(c:IL X.K C)(hr:GA k X.A)(he:QE X o ta)(ha:QA X (e::es) t)
  (hst:starEach (e::es) X.env=(false,eval e X.env)::starEach es X.env:=by rfl)(hpl:(backTo pos (starEach es X.env)).any (·.1)=false:=by rfl)
  (ht:eval (.Call (.Attribute o m apos) (e::es) [] pos) X.env=(do
   let ov <- eval o X.env
   standAt apos.atName
   let(f,first) <- holding [ov] (getMethod ov m pl)
   callWith pos f first (backTo pos (starEach (e::es) X.env)) (backToKw pos (keywordEach [] X.env))):=by rfl):
  QE X (.Call (.Attribute o m apos) (e::es) [] pos) (tH C m sp ta t):=⟨by
 obtain⟨f,fd,F,hm,hb⟩:=M.ex;intro tx s σ H Q I h;refine W.methodCall_KW (pl:=pl) (qC (he.h tx s σ H _ I h) fun u s1 zq=>?_) ht
 obtain⟨x,H1,I1,rx,a,ex,⟨dx,fs,ea,l⟩,q⟩:=zq;subst ex
 obtain rfl:u=Value.ref a:=rx
 refine gC I1 ea c hm l ?_
 refine W.callWith_K (first:=[.ref a]) (h₀:=X.base) I.ok.mod.kin hm.kp (qC (ha.h pos tx s1 σ H1 _ I1 q) fun us s2 ⟨vs,H2,I2,r,q2⟩=>⟨I2.kIn,?_⟩) hst hpl
 exact kC (us:= .ref a::us) (vs:= .ref a::vs) F hr hb .nil jL I2 (.cons rfl r) q2⟩
theorem zm{pl:Sem Bool}(M:Mf X.prog X.w X.K X.mg X.base C m ps k sp)(c:IL X.K C)(hr:GA k X.A)(he:QE X o ta)
  (ht:eval (.Call (.Attribute o m apos) [] [] pos) X.env=(do
   let ov <- eval o X.env
   standAt apos.atName
   let(f,first) <- holding [ov] (getMethod ov m pl)
   callWith pos f first (backTo pos (starEach [] X.env)) (backToKw pos (keywordEach [] X.env))):=by rfl):
  QE X (.Call (.Attribute o m apos) [] [] pos) (tH C m sp ta vV):=⟨by
 obtain⟨f,fd,F,hm,hb⟩:=M.ex;intro tx s σ H Q I h;refine W.methodCall_KW (pl:=pl) (qC (he.h tx s σ H _ I h) fun u s1 zq=>?_) ht
 obtain⟨x,H1,I1,rx,a,ex,⟨dx,fs,ea,l⟩,q⟩:=zq;subst ex
 obtain rfl:u=Value.ref a:=rx
 refine gC I1 ea c hm l ?_
 exact W.callWith_K0 (first:=[.ref a]) I1.kIn hm.kp (kC (us:=[.ref a]) (vs:=[.ref a]) F hr hb .nil jL I1 (.cons rfl .nil) q)⟩
theorem nH(M:Mi X.prog X.w X.K X.mg X.base C x ps k sp)(hr:GA (k+1) X.A)(ha:QA X (e::es) t)(hg:Gl X x:=by rfl)(hdb:(x==("__debug__":Str))=false:=by decide)
  (he:starEach (e::es) X.env=(false,eval e X.env)::starEach es X.env:=by rfl)(hpl:(backTo pos (starEach es X.env)).any (·.1)=false:=by rfl):
  QE X (.Call (.Name x p) (e::es) [] pos) (wL C sp [] E0 t):=⟨by
 obtain⟨f,fd,F,mk,hx,hb⟩:=M.ex;exact Au mk F hr hg hx hb .nil jL ha.h hdb he hpl⟩
end
section
variable{X:Cx}{o e:Expr}{es:List Expr}{to:TE}{t:TA}{name:Str}{apos cpos:Pos}{T id:String}{r:V->List V->Hp->VK->Prop}{K:Frag}
theorem uS(hK:X.K=K)(pa:PlainAttrs T)(slot:Slot T name id)(hty:typeOf (.builtin id)=pure (.type "method_descriptor"))(hm:gx X id r)(ho:QE X o to)(ha:QA X (e::es) t)
  (hbase:attributeBase o name X.env (eval o X.env)=eval o X.env:=by rfl)
  (hfew:((backTo cpos (starEach (e::es) X.env)).all (fun x=> !x.1)&&(backToKw cpos (keywordEach [] X.env)).all (fun x=>x.1.isSome)
   &&decide ((e::es).length+([]:List Keyword).length+(if([]:List Keyword).isEmpty then 0 else 1)<30))=true:=by rfl)
  (hline:(apos.endLine==cpos.line)=true:=by rfl)(hs:starEach (e::es) X.env=(false,eval e X.env)::starEach es X.env:=by rfl)(hplain:(backTo cpos (starEach es X.env)).any (·.1)=false:=by rfl):
  QE X (.Call (.Attribute o name apos) (e::es) [] cpos) (B9 K T r to t):=by
 subst hK;exact ZM pa slot hty hm ho ha hbase hfew hline hs hplain
theorem Cu(pa:PlainAttrs T)(slot:Slot T name id)(hty:typeOf (.builtin id)=pure (.type "method_descriptor"))(hm:gx X id r)(ho:QE X o to)
  (hbase:attributeBase o name X.env (eval o X.env)=eval o X.env:=by rfl)(hline:(apos.endLine==cpos.line)=true:=by rfl):QE X (.Call (.Attribute o name apos) [] [] cpos) (CM X.K T r to):=⟨Bl pa slot hty hm ho.h hbase hline⟩
theorem kH:gx X "list.pop" t9:=wK
theorem rp:gx X "list.reverse" lp:=pJ
end
theorem i9{f:Str}{v:V}:∀{fs:List (Str×V)} (i:Nat),fs[i]? =some (f,v)->(fs.map (·.1)).Nodup->fs.lookup f=some v
 | [],i,h,_=>by cases h
 |(g,x)::r,0,h,_=>by
  cases Jy h
  exact List.lookup_cons_self
 |(g,x)::r,i+1,h,nd=>by
  have h':r[i]? =some (f,v):=h
  have nd':g∉r.map (·.1)/\(r.map (·.1)).Nodup:=Et.mp nd
  have hm:f∈r.map (·.1):=JB.mpr ⟨(f,v),DV h',rfl⟩
  have ne:f≠g:=fun z=>nd'.1 (z▸hm)
  rw[Ed,Fo ne];exact i9 i h' nd'.2
theorem iF{f:Str}:∀{fs:List (Str×V)},f∉fs.map (·.1)->fs.lookup f=none
 | [],_=>rfl
 |(g,x)::r,h=>by
  have ne:f≠g:=fun z=>h (z▸Jw ..)
  rw[Ed,Fo ne];exact iF fun z=>h (JC _ z)
theorem oF{f:Str}{v u:V}:∀{fs:List (Str×V)} (i:Nat),fs[i]? =some (f,u)->(fs.map (·.1)).Nodup->Ql f v fs=fs.set i (f,v)
 | [],i,h,_=>by cases h
 |(g,x)::r,0,h,_=>by
  cases Jy h
  show(if f=f then _ else _)=_
  rw[Jc rfl];rfl
 |(g,x)::r,i+1,h,nd=>by
  have h':r[i]? =some (f,u):=h
  have nd':g∉r.map (·.1)/\(r.map (·.1)).Nodup:=Et.mp nd
  have hm:f∈r.map (·.1):=JB.mpr ⟨(f,u),DV h',rfl⟩
  have ne:¬g=f:=fun z=>nd'.1 (z▸hm)
  show(if g=f then _ else(g,x)::Ql f v r)=_
  rw[Jd ne,oF i h' nd'.2];rfl
theorem jR{f:Str}{v:V}:∀{fs:List (Str×V)},f∉fs.map (·.1)->Ql f v fs=fs++[(f,v)]
 | [],_=>rfl
 |(g,x)::r,h=>by
  have ne:¬g=f:=fun z=>h (z▸Jw ..)
  show(if g=f then _ else(g,x)::Ql f v r)=_
  rw[Jd ne,jR fun z=>h (JC _ z)];rfl
def Mv(S:List Addr)(H H':Hp):Prop:=∀c o,c∉S->H c=some o->H' c=some o
theorem Mv.trans{S:List Addr}{H H1 H2:Hp}(a:Mv S H H1)(b:Mv S H1 H2):Mv S H H2:=fun c o n e=>b c o n (a c o n e)
theorem Mv.mono{S S':List Addr}{H H':Hp}(a:Mv S H H')(h:∀c,c∉S'->c∉S):Mv S' H H':=fun c o n e=>a c o (h c n) e
theorem _root_.L2.Ge.mv{S:List Addr}{H H':Hp}(a:Ge H H'):Mv S H H':=fun c o _ e=>a c o e
theorem Mv.upd1{a:Addr}{H:Hp}{o:HO}:Mv [a] H (Gh H a o):=fun c u n e=>by
 rw[qi (fun z=>n (Jl.mpr z))];exact e
def wX:HO->Prop
 | .tup _=>False
 | .frz _ (.dK _)=>True
 | .frz _ _=>False
 |_=>True
def NT(S:List Addr)(H:Hp):Prop:=∀c,c∈S->∃o,H c=some o/\wX o
theorem Mv.rd{S:List Addr}{H H':Hp}{a:Addr}{xs:List V}(m:Mv S H H')(n:NT S H)(h:Rd H a (.tup xs)):Rd H' a (.tup xs):=by
 have hn:a∉S:=fun z=>by
  obtain⟨o,e,no⟩:=n a z;rcases h with h|⟨o',h⟩
  ·rw[e]at h;cases h;exact no
  ·rw[e]at h;cases h;exact no
 rcases h with h|⟨o',h⟩
 ·exact .inl (m _ _ hn h)
 ·exact .inr ⟨o',m _ _ hn h⟩
theorem Mv.sqt{K:Frag}{S:List Addr}{H H':Hp}{a:Addr}{xs:List V}(m:Mv S H H')(n:NT S H)(h:Gu K H a xs):Gu K H' a xs:=by
 rcases h with h|h
 ·exact .inl (m.rd n h)
 ·exact .inr h
def j7:Sp:=fun vs H Q _=>∃(b:Addr) (c:Nat),vs=[.ref b]/\HJ H b c/\c<100000000/\∀p (t:List Int) H',Ij b (c+16) H H'->H p=none->H' p=some (.tup (t.map V.int))->t.Perm GM->Q (.ref p) H'
def om:Sp:=fun vs H Q _=>∃(b:Addr) (c:Nat),vs=[.ref b]/\HJ H b c/\c<100000000/\∀p (ks:List Int) H',Ij b (c+9) H H'->H p=none->H' p=some (.tup (ks.map V.int))->zC ks->1<=ks.length->ks.length<=8->Q (.ref p) H'
theorem Ij.fresh{b c:Addr}{n:Nat}{H H':Hp}(g:Ij b n H H')(hb:HJ H b n)(h:H' c=Option.none):H c=Option.none:=by
 cases e:H c with
 |none=>rfl
 |some o=>
  by_cases z:c=b
  ·subst z
   obtain⟨_,_,_,e',_⟩:=g.bx;rw[e']at h;cases h
  ·rw[g.kp c o z e]at h;cases h
theorem uX{K:Frag}{H:Hp}{a:Addr}{xs:List V}{Q:VK}(h:Sq K H a xs)(q:∀l H',Ge H H'->Gu K H' l xs->Q (.ref l) H'):(Gq K H a xs/\∀l,H l=none->Q (.ref l) (Gh H l (.tup xs)))\/(Gu K H a xs/\Q (.ref a) H):=
 h.elim (fun h=> .inl ⟨h,fun l hl=>q l _ (Ge.upd hl) (Gu.of qc)⟩) fun h=> .inr ⟨h,q a H (Ge.refl _) h⟩
theorem eT{K:Frag}{C p dx a:Addr}{H:Hp}{fs:List (Str×V)}{xs:List V}{o:HO}(e:H p=some (.ins C dx fs))(h:Gu K H a xs):Gu K (Gh H p o) a xs:=by
 rcases h with(h|⟨u,h⟩)|h
 ·exact .inl (.inl (by rw[qi (zY h e (by intro z;cases z))];exact h))
 ·exact .inl (.inr ⟨u,by rw[qi (zY h e (by intro z;cases z))];exact h⟩)
 ·exact .inr h
theorem cx{X:Cx}{K:Frag}(hK:X.K=K):qY X (.builtin "len") (fun xs H Q=>∃p ys,xs=[.ref p]/\(Gq K H p ys\/Gu K H p ys)/\Q (.int (ys.length:Nat)) H):=by
 subst hK;exact qR
theorem c7{k n:Nat}(h:k<n):seqIndex? (k:Int) n=some k:=by
 unfold seqIndex?
 simp
 omega
theorem wj{ms zs:List Int}{k:Nat}(h:k<ms.length):(zs++[ms[k]]++ms.eraseIdx k).Perm (zs++ms):=by
 rw[Ew];refine List.Perm.append_left zs ?_
 rw[List.eraseIdx_eq_take_drop_succ];have e:ms=ms.take k++ms[k]::ms.drop (k+1):=by rw[<- List.drop_eq_getElem_cons h,List.take_append_drop]
 refine List.Perm.trans (List.perm_middle (a:=ms[k]) (l₁:=ms.take k) (l₂:=ms.drop (k+1))).symm ?_
 rw[<- e]
theorem oQ(ms:List Int)(k:Nat):(ms.map V.int).eraseIdx k=(ms.eraseIdx k).map V.int:=by
 rw[List.eraseIdx_eq_take_drop_succ,List.eraseIdx_eq_take_drop_succ,JN,List.map_take,List.map_drop]
theorem bb{X:Cx}:qY X (.type "tuple") (fun xs H Q=>∃p ys,xs=[.ref p]/\Sq X.K H p ys/\∀l H',Ge H H'->Gu X.K H' l ys->Q (.ref l) H'):=by
 intro tx s σ H xs us Q I r h;obtain⟨p,ys,e,hs,q⟩:=h;exact qZ tx s σ H xs us Q I r ⟨p,ys,e,uX hs q⟩
section
variable{H:Hp}{b:Addr}{n:Nat}
theorem qX{a x:Addr}(h:a≠x):a∉[x]:=fun z=>h (Jl.mp z)
theorem Qb(hb:HJ H b n):NT [b] H:=fun c hc=>by
 obtain⟨_,_,_,e,_⟩:=hb;rw[Jl.mp hc]
 exact⟨_,e,trivial⟩
end
theorem HJ.mv{H H':Hp}{S:List Addr}{b:Addr}{n:Nat}(h:HJ H b n)(m:Mv S H H')(ne:b∉S):HJ H' b n:=by
 obtain⟨a1,a2,a3,e,r⟩:=h
 exact⟨a1,a2,a3,m _ _ ne e,r⟩
theorem xg(n:Nat)(h:n<=100:=by omega):n<sizeLine:=Nat.lt_of_le_of_lt h (by decide)
theorem NT.one{H:Hp}{a:Addr}{o:HO}(e:H a=some o)(n:wX o):NT [a] H:=fun c hc=>⟨o,by rw[Jl.mp hc];exact e,n⟩
end L3
namespace L2
open PySem PySem.Spec PyProof.Rows
section
variable{κ:Type} [DecidableEq κ]
def Zo(kvs:List (κ×V))(k:κ):Option V:=(kvs.find? fun kv=>decide (kv.1=k)).map (·.2)
def Hw(kvs:List (κ×V))(k:κ)(v:V):List (κ×V):=
 if(kvs.any fun kv=>decide (kv.1=k))=true then kvs.map (fun kv=>if kv.1=k then(kv.1,v)else kv)else kvs++[(k,v)]
theorem aE{p:κ×V}{r:List (κ×V)}{k:κ}(e:p.1=k):Zo (p::r) k=some p.2:=by simp [Zo,E9,e]
theorem aj{p:κ×V}{r:List (κ×V)}{k:κ}(e:¬p.1=k):Zo (p::r) k=Zo r k:=by simp [Zo,E9,e]
theorem kK(k:κ):∀kvs:List (κ×V),(kvs.any fun kv=>decide (kv.1=k))=(Zo kvs k).isSome
 | []=>rfl
 |p::r=>by
  rw[J4]
  by_cases e:p.1=k
  ·simp only[aE e,Jg e,Bool.true_or,Option.isSome_some]
  ·rw[aj e,Jn e,Bool.false_or];exact kK k r
theorem bm(kvs:List (κ×V))(k:κ)(v:V):(Hw kvs k v).length<=kvs.length+1:=by
 unfold Hw;split
 ·rw[Je];lia
 ·rw[JD,JU,List.length_nil];lia
theorem HK.isSome_eq{o:Option V}{u:Option Value}(r:HK o u):o.isSome=u.isSome:=by
 cases o with
 |none=>cases u with
  |none=>rfl
  |some _=>exact(show False from r).elim
 |some _=>cases u with
  |none=>exact(show False from r).elim
  |some _=>rfl
theorem HK.getD{o:Option V}{u:Option Value}{d:V}{d':Value}(r:HK o u)(rd:Gn d d'):Gn (o.getD d) (u.getD d'):=by
 cases o with
 |none=>cases u with
  |none=>exact rd
  |some _=>exact(show False from r).elim
 |some _=>cases u with
  |none=>exact(show False from r).elim
  |some _=>exact r
theorem KV.val{kvs:List (κ×V)}{vs:List (κ×Value)}(r:KV kvs vs)(k:κ):HK (Zo kvs k) (valueAt vs k):=by
 unfold KV at r
 induction r with
 |nil=>exact True.intro
 | @cons p q ps qs h t ih=>
  obtain⟨h1,h2⟩:=h
  by_cases e:p.1=k
  ·have e':q.1=k:=h1.symm.trans e
   have b:valueAt (q::qs) k=some q.2:=by simp [valueAt,E9,e']
   rw[aE e,b];exact h2
  ·have e':¬q.1=k:=fun z=>e (h1.trans z)
   have b:valueAt (q::qs) k=valueAt qs k:=by simp [valueAt,E9,e']
   rw[aj e,b];exact ih
theorem KV.any{kvs:List (κ×V)}{vs:List (κ×Value)}(r:KV kvs vs)(k:κ):(kvs.any fun kv=>decide (kv.1=k))=vs.any fun kv=>decide (kv.1=k):=by
 unfold KV at r
 induction r with
 |nil=>rfl
 |cons h t ih=>rw[J4,J4,ih,h.1]
theorem KV.repl{kvs:List (κ×V)}{vs:List (κ×Value)}(r:KV kvs vs)(k:κ){y:V}{u:Value}(ry:Gn y u):
  KV (kvs.map fun kv=>if kv.1=k then(kv.1,y)else kv) (vs.map fun kv=>if kv.1=k then(kv.1,u)else kv):=by
 unfold KV at r⊢
 induction r with
 |nil=>exact .nil
 | @cons p q ps qs h t ih=>
  rw[JQ,JQ];refine .cons ?_ ih
  obtain⟨h1,h2⟩:=h
  by_cases e:p.1=k
  ·rw[Jc e,Jc (h1.symm.trans e)];exact⟨h1,ry⟩
  ·rw[Jd e,Jd (fun z=>e (h1.trans z))];exact⟨h1,h2⟩
theorem KV.put{kvs:List (κ×V)}{vs:List (κ×Value)}(r:KV kvs vs)(k:κ){y:V}{u:Value}(ry:Gn y u):KV (Hw kvs k y) (stored vs k u):=by
 unfold Hw stored;rw[r.any k]
 by_cases e:(vs.any fun kv=>decide (kv.1=k))=true
 ·rw[Jc e,Jc e];exact r.repl k ry
 ·rw[Jd e,Jd e];exact Paired.snoc r ⟨rfl,ry⟩
theorem KV.keys{kvs:List (κ×V)}{vs:List (κ×Value)}(r:KV kvs vs):kvs.map (·.1)=vs.map (·.1):=by
 unfold KV at r
 induction r with
 |nil=>rfl
 |cons h t ih=>rw[JQ,JQ,ih,h.1]
theorem KV.length{kvs:List (κ×V)}{vs:List (κ×Value)}(r:KV kvs vs):kvs.length=vs.length:=Paired.length r
end
theorem eM{P:Program}{w:World}{k:qL}{u:Value}(r:Gn (kV k) u):(za P w).is k u=true:=by
 cases k with
 |inl i=>obtain⟨t,e⟩:=(show∃t,u=Value.int i t from r);subst e;exact ml P w i t
 |inr x=>obtain⟨t,e⟩:=(show∃t,u=Value.str x t from r);subst e;exact mt P w x t
theorem jl{P:Program}{w:World}:∀{ks:List qL} {us:List Value},Gk (ks.map kV) us->ItemsAre (za P w) ks us
 | [],_,r=>by rw[Ft]at r;cases r;exact .nil
 |k::ks,_,r=>by
  rw[JQ]at r;cases r with
  |cons h t=>exact .cons (eM h) (jl t)
abbrev KT(H:Hp):List (List qL×V)->List (List qL×Addr×Value)->Prop:=Paired fun p q=>p.1=q.1/\H q.2.1=some (.tup (p.1.map kV))/\Gn p.2 q.2.2
theorem KT.val{H:Hp}{kvs:List (List qL×V)}{xs:List (List qL×Addr×Value)}(r:KT H kvs xs)(k:List qL):HK (Zo kvs k) ((atKey xs k).map (·.2)):=by
 induction r with
 |nil=>exact True.intro
 | @cons p q ps qs h t ih=>
  obtain⟨h1,_,h2⟩:=h
  by_cases e:p.1=k
  ·have e':q.1=k:=h1.symm.trans e
   have b:atKey (q::qs) k=some q.2:=by simp [atKey,E9,e']
   rw[aE e,b];exact h2
  ·have e':¬q.1=k:=fun z=>e (h1.trans z)
   have b:atKey (q::qs) k=atKey qs k:=by simp [atKey,E9,e']
   rw[aj e,b];exact ih
theorem KT.repl{H:Hp}{kvs:List (List qL×V)}{xs:List (List qL×Addr×Value)}(r:KT H kvs xs)(k:List qL){y:V}{u:Value}(ry:Gn y u):
  KT H (kvs.map fun kv=>if kv.1=k then(kv.1,y)else kv) (xs.map (putAt k u)):=by
 induction r with
 |nil=>exact .nil
 | @cons p q ps qs h t ih=>
  rw[JQ,JQ];refine .cons ?_ ih
  obtain⟨h1,h2,h3⟩:=h;unfold putAt
  by_cases e:p.1=k
  ·rw[Jc e,Jc (h1.symm.trans e)];exact⟨h1,h2,ry⟩
  ·rw[Jd e,Jd (fun z=>e (h1.trans z))];exact⟨h1,h2,h3⟩
theorem KT.put{H:Hp}{kvs:List (List qL×V)}{xs:List (List qL×Addr×Value)}(r:KT H kvs xs)(k:List qL){b:Addr}{y:V}{u:Value}(hb:H b=some (.tup (k.map kV)))(ry:Gn y u):
  KT H (Hw kvs k y) (storedH xs k b u):=by
 have e:(kvs.any fun kv=>decide (kv.1=k))=(atKey xs k).isSome:=by
  rw[kK,(r.val k).isSome_eq,Option.isSome_map]
 unfold Hw storedH;rw[e]
 by_cases q:(atKey xs k).isSome=true
 ·rw[Jc q,Jc q];exact r.repl k ry
 ·rw[Jd q,Jd q];exact Paired.snoc r ⟨rfl,hb,ry⟩
theorem KT.keeps{H H':Hp}{kvs:List (List qL×V)}{xs:List (List qL×Addr×Value)}(r:KT H kvs xs)(ht:∀b ys,H b=some (.tup ys)->H' b=some (.tup ys)):KT H' kvs xs:=
 Paired.mapP r fun _ _ z=>⟨z.1,ht _ _ z.2.1,z.2.2⟩
section
variable{P:Program}{w:World}{H:Hp}{h:Heap}{a:Addr}
theorem xj{u:HO}(ok:HW P w H h)(e:Rd H a u):Gz P w H h a u:=e.ok ok
theorem aS{kvs:List (qL×V)}(ok:HW P w H h)(e:Rd H a (.dK kvs)):kvs.length<=sizeLine/\(a==sysModules)=false/\∃vs,KV kvs vs/\h.DictOf (za P w) a vs:=
 show Gz P w H h a (.dK kvs)from xj ok e
theorem rD{kvs:List (qL×V)}(ok:HW P w H h)(e:H a=some (.dK kvs)):kvs.length<=sizeLine/\(a==sysModules)=false/\∃vs,KV kvs vs/\h.DictOf (za P w) a vs:=aS ok (.inl e)
theorem du{ks:List qL}(ok:HW P w H h)(e:H a=some (.tup (ks.map kV))):(tupleKind (za P w)).is h ks a:=by
 obtain⟨_,its,r,o,h1,h2,n,h3⟩:=(show Gz P w H h a (.tup (ks.map kV))from ok a _ e)
 exact⟨o,its.toArray,n,h1,h2,h3,by simpa using jl r⟩
theorem eV{kvs:List (List qL×V)}(ok:HW P w H h)(e:Rd H a (.dT kvs)):kvs.length<=sizeLine/\(a==sysModules)=false/\
  ∃xs,KT H kvs xs/\h.DictOfH (tupleKind (za P w)) a xs:=by
 obtain⟨z,y,xs,r,o,es,ep,h1,h2,h3,h4,h5⟩:=(show Gz P w H h a (.dT kvs)from xj ok e)
 refine⟨z,y,xs,r,o,es,ep,h1,h2,h3,h4,fun x hx=>?_,h5⟩
 have all:∀{l:List (List qL×V)} {m:List (List qL×Addr×Value)},KT H l m->∀x∈m,(tupleKind (za P w)).is h x.1 x.2.1:=by
  intro l m q
  induction q with
  |nil=>intro x hx;exact nomatch hx
  | @cons p q ps qs hq t ih=>
   intro x hx;rcases Jk.mp hx with e|hx
   ·subst e
    exact du ok (by rw[<- hq.1];exact hq.2.1)
   ·exact ih x hx
 exact all r x hx
theorem Dg{kvs:List (List qL×V)}(ok:HW P w H h)(e:H a=some (.dT kvs)):kvs.length<=sizeLine/\(a==sysModules)=false/\
  ∃xs,KT H kvs xs/\h.DictOfH (tupleKind (za P w)) a xs:=eV ok (.inl e)
end
def HI(H:Hp)(a:Addr)(y:V)(r:Option V):Prop:=
 (∃kvs k,Rd H a (.dK kvs)/\y=kV k/\r=Zo kvs k)\/∃kvs k b,Rd H a (.dT kvs)/\y= .ref b/\H b=some (.tup (k.map kV))/\r=Zo kvs k
def Iv(H:Hp)(a:Addr)(y v:V)(H':Hp):Prop:=
 (∃kvs k,H a=some (.dK kvs)/\y=kV k/\kvs.length<sizeLine/\H'=Gh H a (.dK (Hw kvs k v)))\/
 ∃kvs k b,H a=some (.dT kvs)/\y= .ref b/\H b=some (.tup (k.map kV))/\kvs.length<sizeLine/\H'=Gh H a (.dT (Hw kvs k v))
theorem HI.k{H:Hp}{a:Addr}{kvs:List (qL×V)}{k:qL}(e:H a=some (.dK kvs)):HI H a (kV k) (Zo kvs k):= .inl ⟨kvs,k,.inl e,rfl,rfl⟩
theorem Iv.k{H:Hp}{a:Addr}{kvs:List (qL×V)}{k:qL}{v:V}(e:H a=some (.dK kvs))(hl:kvs.length<sizeLine):Iv H a (kV k) v (Gh H a (.dK (Hw kvs k v))):= .inl ⟨kvs,k,e,rfl,hl,rfl⟩
section
variable{X:Cx}{tx:Gd}{σ:St}{H:Hp}{s:Shared}{a:Addr}{y v:V}{u r:Value}{o:Option V}{A:Around}{E:Gb}
theorem Gi.big(I:Gi X tx σ H s):sysModules<s.heap.objs.size:=by
 have h:mainGlobals<s.heap.objs.size:=(I.mod.glob.keeps I.bk).lt
 exact Nat.lt_trans (by decide) h
theorem tR{Q:Gb}(hu:A.units+1<cLine)(I:Gi X tx σ H s)(g:HI H a y (some v))(ry:Gn y u)(h:∀w' s',Gi X tx σ H s'->Gn v w'->Q w' s'):
  wpAny (model X.prog X.w) A (getItem (.ref a) u) Q E s:=by
 rcases g with⟨kvs,k,e,ey,l⟩|⟨kvs,k,b,e,ey,eb,l⟩
 ·subst ey
  obtain⟨z,hd,vs,rel,dd⟩:=aS I.hok e;obtain⟨w',hw,rw'⟩:=HK.some_of (v:=v) (o:=valueAt vs k) (by rw[l];exact rel.val k)
  exact wpAny_getItem_of (eM ry) dd.mapOf hw (h w' _ (I.tok _) rw')
 ·subst ey
  cases(show u=Value.ref b from ry)
  obtain⟨z,hd,xs,rel,dd⟩:=eV I.hok e;obtain⟨w',hw,rw'⟩:=HK.some_of (v:=v) (o:=(atKey xs k).map (·.2)) (by rw[l];exact rel.val k)
  obtain⟨p,hp,hp2⟩:=DZ.mp hw;refine wpAny_getItem_heap (FQ hu) (du I.hok eb) dd hp ?_
  rw[hp2];exact h w' _ (I.tok _) rw'
theorem DF{Q:Gb}(hu:A.units+1<cLine)(I:Gi X tx σ H s)(g:HI H a y o)(ry:Gn y u)(h:∀s',Gi X tx σ H s'->Q (.bool o.isSome) s'):
  wpAny (model X.prog X.w) A (compareOp .In u (.ref a)) Q E s:=by
 rcases g with⟨kvs,k,e,ey,l⟩|⟨kvs,k,b,e,ey,eb,l⟩
 ·subst ey
  obtain⟨z,hd,vs,rel,dd⟩:=aS I.hok e;refine wpAny_in_of (eM ry) hd dd.mapOf ?_
  rw[<- (rel.val k).isSome_eq,<- l];exact h _ (I.tok _)
 ·subst ey
  cases(show u=Value.ref b from ry)
  obtain⟨z,hd,xs,rel,dd⟩:=eV I.hok e;refine wpAny_in_heap (FQ hu) (du I.hok eb) hd dd ?_
  have q:=(rel.val k).isSome_eq;rw[Option.isSome_map]at q;rw[<- q,<- l];exact h _ (I.tok _)
theorem gR{h':Heap}{t':Nat}{ob:HO}(I:Gi X tx σ H s)(mu:uM (H a))(hs:Heap.SameBut a s.heap h')(he:∃q,h'.get? a=some q)(new:Gz X.prog X.w (Gh H a ob) h' a ob):
  Gi X tx σ (Gh H a ob) {s with heap:=h',toks:=t'}:=
 I.write (x:=a) (e:=a) mu (.inl rfl) (fun b q hb z=>(hs.2 b hb).trans z) he new
theorem lR{P:Program}{w:World}{H':Hp}{h':Heap}{kvs:List (qL×V)}{vs:List (qL×Value)}(z:kvs.length<=sizeLine)(hd:(a==sysModules)=false)(rel:KV kvs vs)(dd:h'.DictOf (za P w) a vs):
  Gz P w H' h' a (.dK kvs):=⟨z,hd,vs,rel,dd⟩
theorem sr{H':Hp}{Q:Unit->Shared->Prop}(hu:A.units+1<cLine)(I:Gi X tx σ H s)(g:Iv H a y v H')(ry:Gn y u)(rv:Gn v r)(h:∀s',Gi X tx σ H' s'->Q () s'):
  wpAny (model X.prog X.w) A (setItem (.ref a) u r) Q E s:=by
 rcases g with⟨kvs,k,e,ey,l,eH⟩|⟨kvs,k,b,e,ey,eb,l,eH⟩
 ·subst ey eH
  obtain⟨z,hd,vs,rel,dd⟩:=rD I.hok e;have hz:vs.length<=sizeLine:=by rw[<- rel.length];exact z
  have hl:(Hw kvs k v).length<=sizeLine:=by have:=bm kvs k v;lia
  refine wpAny_setItem_pairs (hsz:=hz) (eM ry) dd fun h' dd' hs=>h _ ?_
  have he:∃q,h'.get? a=some q:=let⟨q,_,_,hq,_⟩:=dd';⟨q,hq⟩
  exact gR I (by rw[e];exact True.intro) hs he (lR hl hd (rel.put k rv) dd')
 ·subst ey eH
  cases(show u=Value.ref b from ry)
  obtain⟨z,hd,xs,rel,dd⟩:=Dg I.hok e;have hz:xs.length<=sizeLine:=by rw[<- Paired.length rel];exact z
  have hl:(Hw kvs k v).length<=sizeLine:=by have:=bm kvs k v;lia
  refine wpAny_setItem_heap (hsz:=hz) (FQ hu) (du I.hok eb) dd fun h' dd' hs=>h _ ?_
  obtain⟨q,es,ep,hq,h2,h3,h4,_,h5⟩:=dd';refine gR I (by rw[e];exact True.intro) hs ⟨q,hq⟩ ⟨hl,hd,_,(rel.put k eb rv).keeps fun c ys ec=>?_,q,es,ep,hq,h2,h3,h4,h5⟩
  rw[qi (zY ec e (fun z=>nomatch z))]
  exact ec
end
section
variable{X:Cx}{tx:Gd}{σ:St}{H:Hp}{s:Shared}{a:Addr}{kvs:List (qL×V)}{A:Around}{E:Gb}
theorem CO{Q:Gb}(I:Gi X tx σ H s)(e:Rd H a (.dK kvs))(h:∀t s',Gi X tx σ H s'->Q (.int kvs.length t) s'):wpAny (model X.prog X.w) A (call (.builtin "len") [.ref a]) Q E s:=by
 obtain⟨z,hd,vs,rel,dd⟩:=aS I.hok e;refine call_len_dict hd dd (by rw[<- rel.length];rw[JA]at z;lia) ?_
 rw[<- rel.length];exact h _ _ (I.tok _)
end
def wC(i:Expr):Prop:=∀ov iv,subscripted i false ov iv=operate [ov,iv] (getItem ov iv)
theorem AK{prog:Program}{w:World}{A:Around}{E:Gb}{s:Shared}{env:Env}{value slice:Expr}{pos:Pos}{T id:String}{Q:Gb}
  (hl:typeLookup (.type T) "__getitem__"=pure (some (.builtin id)))(hs:wC slice)
  (h:wpAny (model prog w) A (eval value env) (fun o s₁=>wpAny (model prog w) A (eval slice env) (fun i s₂=>s₂.TypeIs o T/\wpAny (model prog w) A (getItem o i) Q E s₂) E s₁) E s):
  wpAny (model prog w) A (eval (.Subscript value slice pos) env) Q E s:=by
 refine Subscript_ (JH h (fun o s₁ h₁=>JH h₁ (fun i s₂ h₂=>?_) fun _ _ x=>x) fun _ _ x=>x)
 obtain⟨hT,h₂⟩:=h₂;unfold subscriptTail;refine Ja ?_
 rw[getitemInPython_of_ne hT.not_modules];refine Ja (E7 hT hl ?_)
 have fin:wpAny (model prog w) A (subscripted slice false o i) (fun r s₃=>wpAny (model prog w) A (letTemporaryGo value o r >>= fun _=>pure r) Q E s₃) E s₂:=by
  rw[hs o i];exact wpAny_operating (JH h₂ (fun r s₃ h₃=>Ja (wpAny_letTemporaryGo (Jb h₃))) fun _ _ x=>x)
 first
  |exact Jb (Ja fin)
  |exact Ja (Jb (Ja fin))
  |exact Ja fin
theorem mJ{X:Cx}{tx:Gd}{σ:St}{H:Hp}{s:Shared}{a:Addr}{y:V}{o:Option V}(I:Gi X tx σ H s)(g:HI H a y o):s.TypeIs (.ref a) "dict":=by
 rcases g with⟨kvs,k,e,_,_⟩|⟨kvs,k,b,e,_,_,_⟩
 ·obtain⟨_,_,vs,_,dd⟩:=aS I.hok e
  exact dd.typeIs
 ·obtain⟨_,_,xs,_,dd⟩:=eV I.hok e
  exact dd.typeIs
def w9(td ty:TE):TE:=fun σ H Q=>td σ H fun x H1=>ty σ H1 fun y H2=>∃a v,x= .ref a/\HI H2 a y (some v)/\Q v H2
def CK(ty td:TE):TE:=fun σ H Q=>ty σ H fun y H1=>td σ H1 fun x H2=>∃a o,x= .ref a/\HI H2 a y o/\Q (.bl o.isSome) H2
def yg(td ty tv:TE):TS:=fun D σ H=>tv σ H fun v H1=>td σ H1 fun x H2=>ty σ H2 fun y H3=>∃a H4,x= .ref a/\Iv H3 a y v H4/\D.nx σ H4
section
variable{X:Cx}{o i value:Expr}{pos pos':Pos}{td ty tv:TE}
theorem yP(hu:X.A.units+1<cLine)(ho:PE X o td)(hi:PE X i ty)(hs:wC i):PE X (.Subscript o i pos) (w9 td ty):=by
 intro tx s σ H Q I h;refine AK PySem.F.slot_dict_getitem.lookup hs (qC (ho tx s σ H _ I h) fun u s1 ⟨x,H1,I1,rx,q1⟩=>qC (hi tx s1 σ H1 _ I1 q1) fun iv s2 zq=>?_)
 obtain⟨y,H2,I2,ry,a,v,ex,g,q2⟩:=zq;subst ex
 obtain rfl:u=Value.ref a:=rx
 exact⟨mJ I2 g,tR hu I2 g ry fun w' s3 I3 rw'=>⟨v,H2,I3,rw',q2⟩⟩
theorem BQ(hu:X.A.units+1<cLine)(hi:PE X i ty)(ho:PE X o td):PC X .In i o (CK ty td):=by
 intro tx s σ H Q I h;refine qC (hi tx s σ H _ I h) fun iv s1 ⟨y,H1,I1,ry,q1⟩=>qC (ho tx s1 σ H1 _ I1 q1) fun u s2 zq=>?_
 obtain⟨x,H2,I2,rx,a,ov,ex,g,q2⟩:=zq;subst ex
 obtain rfl:u=Value.ref a:=rx
 exact DF hu I2 g ry fun s3 I3=>⟨.bl ov.isSome,H2,I3,rfl,q2⟩
theorem AE(hu:X.A.units+1<cLine)(ho:PE X o td)(hi:PE X i ty)(hv:PE X value tv)(hs:swapsWith value (some (.Subscript o i pos')) pos.line X.env=pure false):
  PS X (.Assign [.Subscript o i pos'] value pos) (yg td ty tv):=by
 intro tx s σ H D I h;refine wpAny_Assign_Subscript (qC (hv tx s σ H _ I h) fun r s1 ⟨v,H1,I1,rv,q1⟩=>qC (ho tx s1 σ H1 _ I1 q1) fun u s2 ⟨x,H2,I2,rx,q2⟩=>qC (hi tx s2 σ H2 _ I2 q2) fun iv s3 zq=>?_) hs
 obtain⟨y,H3,I3,ry,a,H4,ex,g,q3⟩:=zq;subst ex
 obtain rfl:u=Value.ref a:=rx
 exact sr hu I3 g ry rv fun s4 I4=>⟨σ,H4,I4,q3⟩
end
theorem j6{P:Program}{w:World}{H:Hp}(h:Heap)(hb:sysModules<h.objs.size):Gz P w H (h.push {cls:= .type "dict",data:= .dict #[]}) h.objs.size (.dK []):=
 ⟨JI _,ED.mpr (Ne.symm (Jm hb)),[],.nil,Heap.DictOf.new h⟩
def sX:TE:=fun _ H Q=>∀p,H p=none->Q (.ref p) (Gh H p (.dK []))
section
variable{X:Cx}{pos:Pos}
theorem uW:PE X (.Dict [] [] pos) sX:=fun tx s σ H Q I h=>
 wpAny_Dict_empty ⟨.ref s.heap.objs.size,_,I.laid (a:=s.heap.objs.size) (o:= .dK []) (t':=s.toks) (fun _ _ q=>Ji _ q) (Jf _) (j6 s.heap I.big),rfl,h _ (I.hok.fresh (Jf _))⟩
end
def j8:List (TE×TE)->St->Hp->(List (V×V)->Hp->Prop)->Prop
 | [],_,H,Q=>Q [] H
 |(tk,tv)::r,σ,H,Q=>tk σ H fun x H1=>tv σ H1 fun y H2=>j8 r σ H2 fun ps H3=>Q ((x,y)::ps) H3
abbrev VV:List (V×V)->List (Value×Value)->Prop:=Paired fun p q=>Gn p.1 q.1/\Gn p.2 q.2
def rX(X:Cx)(pos:Pos)(keys:List (Option Expr))(values:List Expr)(trs:List (TE×TE)):Prop:=
 ∀(tx:Gd) (s:Shared) (σ:St) (H:Hp) (Q:List (V×V)->Hp->Prop),Gi X tx σ H s->j8 trs σ H Q->
  wpAny (model X.prog X.w) X.A (evalPairs (pairTrees keys values X.env pos)) (fun vs s'=>∃ps H',Gi X tx σ H' s'/\VV ps vs/\Q ps H') X.xe s
theorem AF{X:Cx}{pos:Pos}:rX X pos [] [] []:=fun tx s σ H Q I h=>pairTrees_nil_walk ⟨[],H,I,.nil,h⟩
theorem wq{X:Cx}{pos:Pos}{k v:Expr}{ks:List (Option Expr)}{vs:List Expr}{tk tv:TE}{trs:List (TE×TE)}(hk:PE X k tk)(hv:PE X v tv)(hr:rX X pos ks vs trs):
  rX X pos (some k::ks) (v::vs) ((tk,tv)::trs):=fun tx s σ H Q I h=>
 pairTrees_cons_walk (qC (hk tx s σ H _ I h) fun u s1 ⟨x,H1,I1,rx,q1⟩=>qC (hv tx s1 σ H1 _ I1 q1) fun w2 s2 ⟨y,H2,I2,ry,q2⟩=>
  qC (hr tx s2 σ H2 _ I2 q2) fun ws s3 ⟨ps,H3,I3,rel,q3⟩=>⟨(x,y)::ps,H3,I3,.cons ⟨rx,ry⟩ rel,q3⟩)
def Zl(kvs more:List (qL×V)):List (qL×V):=more.foldl (fun acc kv=>Hw acc kv.1 kv.2) kvs
theorem KV.merge:∀{more:List (qL×V)} {rs:List (qL×Value)} {kvs:List (qL×V)} {vs:List (qL×Value)},KV more rs->KV kvs vs->KV (Zl kvs more) (merged vs rs):=by
 intro more rs kvs vs r;unfold KV at r
 induction r generalizing kvs vs with
 |nil=>intro q;exact q
 | @cons p q ps qs h t ih=>
  intro r0;have e:KV (Hw kvs p.1 p.2) (stored vs q.1 q.2):=by
   have:=r0.put p.1 h.2
   rw[<- h.1];exact this
  exact ih e
theorem cA:∀(more kvs:List (qL×V)),(Zl kvs more).length<=kvs.length+more.length
 | [],kvs=>by show kvs.length<=kvs.length+0;lia
 |p::r,kvs=>by
  have h1:=cA r (Hw kvs p.1 p.2);have h2:=bm kvs p.1 p.2
  show(Zl (Hw kvs p.1 p.2) r).length<=_
  rw[JU];lia
theorem gs{P:Program}{w:World}:∀{kvs:List (qL×V)} {ws:List (Value×Value)},VV (kvs.map fun kv=>(kV kv.1,kv.2)) ws->∃rs,Carries (za P w) ws rs/\KV kvs rs
 | [],_,r=>by rw[Ft]at r;cases r;exact⟨[],True.intro,.nil⟩
 |p::kvs,_,r=>by
  rw[JQ]at r;cases r with
  | @cons a b as bs h t=>
   obtain⟨rs,c,q⟩:=gs (P:=P) (w:=w) t
   obtain⟨b1,b2⟩:=b
   exact⟨(p.1,b2)::rs,⟨eM h.1,rfl,c⟩,.cons ⟨rfl,h.2⟩ q⟩
def wW(trs:List (TE×TE)):TE:=fun σ H Q=>∀p,H p=none->j8 trs σ (Gh H p (.dK [])) fun ps H2=>H2 p=some (.dK [])/\∃kvs:List (qL×V),ps=kvs.map (fun kv=>(kV kv.1,kv.2))/\kvs.length<=15/\Q (.ref p) (Gh H2 p (.dK (Zl [] kvs)))
theorem Al{X:Cx}{pos:Pos}{keys:List (Option Expr)}{values:List Expr}{trs:List (TE×TE)}(h:rX X pos keys values trs)(hall:keys.all (·.isSome)=true)(hl:keys.length=values.length)(h0:keys≠[])
  (h15:keys.length<=15):PE X (.Dict keys values pos) (wW trs):=by
 intro tx s σ H Q I q;have hn:=I.hok.fresh (Jf s.heap.objs.size);have I1:=I.laid (a:=s.heap.objs.size) (o:= .dK []) (h':=s.heap.push {cls:= .type "dict",data:= .dict #[]}) (t':=s.toks) (fun _ _ q=>Ji _ q) (Jf _) (j6 s.heap I.big)
 refine wpAny_Dict_walk (knd:=za X.prog X.w) hall hl h0 h15 (qC (h tx _ σ _ _ I1 (q _ hn)) fun ws s2 zq=>?_)
 obtain⟨ps,H2,I2,rel,e,kvs,ep,lk,q2⟩:=zq;subst ep;obtain⟨rs,c,rk⟩:=gs (P:=X.prog) (w:=X.w) rel
 obtain⟨z,hd,vs0,r0,dd⟩:=rD I2.hok e;cases r0;refine⟨rs,c,dd,fun h' dd' hs=>⟨.ref s.heap.objs.size,_,?_,rfl,q2⟩⟩
 have hz:(Zl [] kvs).length<=sizeLine:=by
  have h1:=cA kvs [];rw[List.length_nil]at h1;rw[JA];lia
 have he:∃q,h'.get? s.heap.objs.size=some q:=let⟨q,_,_,hq,_⟩:=dd';⟨q,hq⟩
 exact gR I2 (by rw[e];exact True.intro) hs he (lR hz hd (rk.merge .nil) dd')
structure M1(X:Cx)(o:Expr)(m:Str)(apos:Pos)(e:Expr)(cpos:Pos):Prop where
 base:attributeBase o m X.env (eval o X.env)=eval o X.env
 few:((backTo cpos (starEach [e] X.env)).all (fun x=> !x.1)&&(backToKw cpos (keywordEach [] X.env)).all (fun x=>x.1.isSome)
  &&decide (([e]:List Expr).length+([]:List Keyword).length+(if([]:List Keyword).isEmpty then 0 else 1)<30))=true
 line:(apos.endLine==cpos.line)=true
 trees:backTo cpos (starEach [e] X.env)=[(false,eval e X.env)]
def Dl(H:Hp)(a:Addr):Prop:=(∃kvs,Rd H a (.dK kvs))\/∃kvs,Rd H a (.dT kvs)
theorem Bj{X:Cx}{tx:Gd}{σ:St}{H:Hp}{s:Shared}{a:Addr}(I:Gi X tx σ H s)(d:Dl H a):
  s.TypeIs (.ref a) "dict"/\(∀b,Value.ref a= .ref b->∃ob,s.heap.get? b=some ob/\ob.dict=none)/\(a==sysModules)=false:=by
 rcases d with⟨kvs,e⟩|⟨kvs,e⟩
 ·obtain⟨_,hd,vs,_,dd⟩:=aS I.hok e
  refine⟨dd.typeIs,fun b q=>?_,hd⟩
  cases q;obtain⟨ob,_,_,h1,h2,_⟩:=dd
  exact⟨ob,h1,h2.2.1⟩
 ·obtain⟨_,hd,xs,_,dd⟩:=eV I.hok e
  refine⟨dd.typeIs,fun b q=>?_,hd⟩
  cases q;obtain⟨ob,_,_,h1,h2,_⟩:=dd
  exact⟨ob,h1,h2.2.1⟩
section
variable{X:Cx}{tx:Gd}{σ:St}{H:Hp}{s:Shared}{a:Addr}{y:V}{u:Value}{o:Option V}{A:Around}{E:Gb}
theorem Bx{Q:Gb}(hu:A.units+1<cLine)(I:Gi X tx σ H s)(g:HI H a y o)(ry:Gn y u)(h:∀w' s',Gi X tx σ H s'->Gn (o.getD .non) w'->Q w' s'):
  wpAny (model X.prog X.w) A (call (.builtin "dict.get") [.ref a,u]) Q E s:=by
 rcases g with⟨kvs,k,e,ey,l⟩|⟨kvs,k,b,e,ey,eb,l⟩
 ·subst ey
  obtain⟨z,hd,vs,rel,dd⟩:=aS I.hok e;refine call_meetsIn F1 dd.typeIs PySem.F.entry_dict_get (PySem.F.args_dict_get_2 _ _) (meets_dict_get (za X.prog X.w) a (eM ry) hd) ⟨_,dd.mapOf,h _ _ (I.tok _) ?_⟩
  rw[l]
  exact(rel.val k).getD rfl
 ·subst ey
  cases(show u=Value.ref b from ry)
  obtain⟨z,hd,xs,rel,dd⟩:=eV I.hok e;refine call_meetsIn F1 dd.typeIs PySem.F.entry_dict_get (PySem.F.args_dict_get_2 _ _) (meetsH_dict_get (tupleKind (za X.prog X.w)) a b hd) ⟨FQ hu,k,xs,du I.hok eb,dd,h _ _ (I.tok _) ?_⟩
  rw[l]
  exact(rel.val k).getD rfl
end
def tW(td ty:TE):TE:=fun σ H Q=>td σ H fun x H1=>∃a,x= .ref a/\Dl H1 a/\ty σ H1 fun y H2=>∃o,HI H2 a y o/\Q (o.getD .non) H2
section
variable{X:Cx}{o e:Expr}{apos cpos:Pos}{td ty:TE}
theorem wF(hu:X.A.units+1<cLine)(ho:PE X o td)(he:PE X e ty)(m:M1 X o "get" apos e cpos):PE X (.Call (.Attribute o "get" apos) [e] [] cpos) (tW td ty):=by
 intro tx s σ H Q I h;refine wpAny_Call_method m.base m.few m.line PySem.F.plainAttrs_dict F1 PySem.F.type_dict_get (qC (ho tx s σ H _ I h) fun u s1 zq=>?_)
 obtain⟨x,H1,I1,rx,a,ex,d,q1⟩:=zq;subst ex
 obtain rfl:u=Value.ref a:=rx
 obtain⟨t1,t2,_⟩:=Bj I1 d;refine⟨t1,t2,?_⟩
 rw[m.trees];refine FZ rfl (Calls.evalArgs_plain (Calls.spliced_cons (qC (he tx s1 σ H1 _ I1 q1) fun iv s2 ⟨y,H2,I2,ry,ov,g,q2⟩=>Calls.spliced_nil ?_)))
 exact Bx hu I2 g ry fun w' s3 I3 rw'=>⟨_,H2,I3,rw',q2⟩
end
section
variable{X:Cx}
theorem sU:qY X (.builtin "len") (fun xs H Q=>∃a kvs,xs=[V.ref a]/\H a=some (.dK kvs)/\Q (.int kvs.length) H):=by
 intro tx s σ H xs us Q I r h;obtain⟨a,kvs,rfl,ha,q⟩:=h;obtain⟨u,rfl,ru⟩:=zL r;cases ru;exact CO I (.inl ha) fun t s' I'=>⟨.int kvs.length,H,I',⟨t,rfl⟩,q⟩
end
end L2
namespace L3
open PySem PySem.Spec PyProof.Rows L2
open PySem.W (kdl_dict kdl_extend)
section
variable{prog:Program}{w:World}{A:Around}{E:Gb}{s:Shared}
theorem ko{d:Addr}{kvs:List (qL×Value)}{ep:Nat}{Q:List Value->Shared->Prop}(hh:A.handled=none)(hm:s.heap.DictAt (za prog w) d kvs ep)(lo:(d==sysModules)=false)(hn:kvs.length<=sizeLine)
  (h:∀(vs:List Value) (h':Heap) (tk:Nat),s.heap.objs.size<h'.objs.size->(∀b o,s.heap.get? b=some o->h'.get? b=some o)->vs.length=kvs.length->(∀(j:Nat) (v:Value),vs[j]? =some v->∃k x,kvs[j]? =some (k,x)/\(za prog w).is k v=true)->Q vs {s with heap:=h',toks:=tk}):
  wpAny (model prog w) A (collect (.ref d)) Q E s:=by
 unfold collect;refine Ja (wpAny_runValue (EL entry_proto_collect' ?_))
 show wpAny _ _ (do again (.builtin "list.__iadd__" ⟨[<- newList [],.ref d],[]⟩)) _ _ s
 refine Ja (wpAny_newList (Jb ⟨Code.quiet_builtin _ (by decide +kernel),EL entry_list_iadd' ?_⟩))
 rw[Around.under_plainId PySem.F.plain_list_iadd _];have hlt:d<s.heap.objs.size:=hm.lt_size
 refine kdl_extend (s:={s with heap:=s.heap.push (seqObj "list" #[] 0)}) (R:=fun r s'=>match r with
   | .ok (.ret v)=>wpAny (model prog w) A (match v with
    | .ref a=>(do
     let o <- load a
     match o.data with
     | .seq xs _=>pure xs.toList
     |_=>unsupported "internal:collect")
    |_=>unsupported "internal:collect") Q E s'
   | .ok _=>False
   | .error e=>E e s') (kdl_dict (knd:=za prog w) (ep:=ep) (kvs:=kvs) lo) hh (hm.push _) s.heap.objs.size (JX hlt) (JX hlt) _ 0 (Jp _ rfl) (fun h' tk acc' c' hk hS hI=>?_) hn
 show wpAny (model prog w) A (do
   let o <- load s.heap.objs.size
   match o.data with
   | .seq xs _=>pure xs.toList
   |_=>unsupported "internal:collect") Q E {s with heap:=h',toks:=tk}
 refine Ja (wpAny_load hS ?_)
 refine Jb (h acc'.toList h' tk (Jh hS) (fun b o e=>hk b o (Jm (Jh e)) (Ji _ e)) (by rw[Jq];exact hI.1) fun j v e=>hI.2 j v (by rw[<- Array.getElem?_toList];exact e))
theorem hW:∀{us:List Value} {ss:List Str},us.length=ss.length->(∀(j:Nat) (v:Value),us[j]? =some v->∃x t,ss[j]? =some x/\v= .str x t)->StrsAre us ss
 | [],[],_,_=> .nil
 |u::us,x::ss,hl,h=>by
  obtain⟨y,t,e1,e2⟩:=h 0 u rfl;cases e1;subst e2;exact .cons _ _ (hW (Nat.succ.inj hl) fun j v e=>h (j+1) v e)
 | [],_::_,hl,_=>by cases hl
 |_::_,[],hl,_=>by cases hl
theorem mz{d:Addr}{kvs:List (qL×Value)}{ep:Nat}{ss:List Str}{Q:Gb}(hh:A.handled=none)(hm:s.heap.DictAt (za prog w) d kvs ep)(lo:(d==sysModules)=false)(hks:kvs.map (·.1)=ss.map Sum.inr)(h64:ss.length<64)
  (h:∀(h':Heap) (tk:Nat) (l:Addr) (its:List Value) (n:Nat) (ss':List Str),s.heap.objs.size<=l->(∀b o,s.heap.get? b=some o->h'.get? b=some o)->h'.get? l=some (seqObj "list" its.toArray n)->StrsAre its ss'->ss'.Perm ss->sortedS ss'=true->Q (.ref l) {s with heap:=h',toks:=tk}):
  wpAny (model prog w) A (call (.builtin "sorted") [.ref d]) Q E s:=by
 have hlen:kvs.length=ss.length:=by have:=J3 List.length hks;rwa [Je,Je]at this
 refine Calls.call_function_entry kind_sorted plain_sorted entry_sorted (args_sorted1 _) ?_
 unfold Builtin.«sorted»
 refine Ja (m:=checkCount "sorted" 1 1 _) (Jb ?_)
 refine Ja (ko (ep:=ep) (kvs:=kvs) hh hm lo (by rw[JA];lia) fun us h' tk hlt hk hl hv=>?_)
 have hS:StrsAre us ss:=hW (hl.trans hlen) fun j v e=>by
  obtain⟨k,x,e1,e2⟩:=hv j v e;have e3:(kvs.map (·.1))[j]? =some k:=by rw[Jo,e1];rfl
  rw[hks,Jo]at e3;cases e4:ss[j]? with
  |none=>rw[e4]at e3;cases e3
  |some y=>
   rw[e4]at e3;have e5:Sum.inr y=k:=Jy e3
   subst e5;have e6:Value.isStrOf y v=true:=e2
   cases v<;>simp [Value.isStrOf]at e6
   subst e6
   exact⟨_,_,rfl,rfl⟩
 refine Ja (wpAny_newList ?_)
 have hoL:(h'.push (seqObj "list" us.toArray 0)).get? h'.objs.size=some (seqObj "list" us.toArray 0):=Jp _ rfl
 show wpAny _ _ _ _ _ {s with heap:=h'.push (seqObj "list" us.toArray 0),toks:=tk}
 refine Ja (JL (JS slot_list_sort ⟨_,hoL,rfl⟩ entry_list_sort (list_sort_treeK (κ:=PyProof.Rows.strKind) strKind_oneLt hoL hS.keysOf (fun v₁ v₂ rest e=>keyKind_strs (by rw[<- e];exact hS)) (by rw[hl,hlen];exact h64) fun st' a1 a2=>⟨_,rfl,?_⟩) (args_list_sort _)))
 obtain⟨ss',b1,b2,b3⟩:=sorted_out_str hS a1 a2;obtain⟨n',hn'⟩:∃n',(sortedHeap (h'.push (seqObj "list" us.toArray 0)) h'.objs.size us ((arrOf st').map (·.2))).get? h'.objs.size=some (seqObj "list" ((arrOf st').map (·.2)) n'):=sortedHeap_at hoL
 refine Jb ⟨_,rfl,h _ tk h'.objs.size ((arrOf st').map (·.2)).toList n' ss' (Fp hlt) (fun b o e=>?_) (by rw[hn']) b1 b2 b3⟩
 have e':=hk b o e;have hb:b<h'.objs.size:=Jh e'
 rw[sortedHeap_old (Jm hb) (by rw[JV];exact Ex hb)]
 exact Ji _ e'
end
theorem aV:∀{us:List Value} {ss:List Str},StrsAre us ss->Gk (ss.map V.str) us
 | [],[],.nil=> .nil
 |_,_::_,.cons _ _ t=> .cons ⟨_,rfl⟩ (aV t)
theorem jW{X:Cx}(hc:X.calm=true):qY X (.builtin "sorted") (fun xs H Q=>∃(d:Addr) (kvs:List (qL×V)) (ss:List Str),xs=[.ref d]/\H d=some (.dK kvs)/\kvs.map (·.1)=ss.map Sum.inr/\ss.length<64/\
  ∀l ss',H l=none->ss'.Perm ss->sortedS ss'=true->Q (.ref l) (Gh H l (.lst (ss'.map V.str)))):=by
 intro tx s σ H xs us Q I r h;obtain⟨d,kvs,ss,rfl,hH,hks,h64,q⟩:=h;obtain⟨u,rfl,ru⟩:=zL r;cases ru;obtain⟨z,lo,vs,rel,o,es,ep,d1,d2,d3,d4,d5,d6⟩:=rD I.hok hH;have hks':vs.map (·.1)=ss.map Sum.inr:=by rw[<- hks,rel.keys]
 refine mz (I.ok.hd hc) (⟨o,es,d1,d2,d3,d4,d5,d6⟩:s.heap.DictAt (za X.prog X.w) d vs ep) lo hks' h64 fun h' tk l its n ss' hl hk hL b1 b2 b3=>?_
 refine⟨.ref l,_,I.laid (a:=l) (o:= .lst (ss'.map V.str)) (t':=tk) hk hl ?_,rfl,q l ss' (I.hok.fresh hl) b2 b3⟩
 have vl:=aV b1;refine⟨?_,its,n,vl,hL⟩
 have:=b2.length_eq
 rw[Je,JA];lia
end L3
namespace L3
open PySem PySem.Spec PyProof.Rows L2
open Sem (wp)
variable{X:Cx}
section
variable{o i value:Expr}{pos pos':Pos}{td ty tv:TE}
theorem Qc{k:Nat}(hr:GA k X.A)(ho:QE X o td)(hi:QE X i ty)(hs:wC i:=by exact fun _ _=>rfl):QE X (.Subscript o i pos) (w9 td ty):=⟨yP (by have:=hr.un;lia) ho.h hi.h hs⟩
theorem ZC{k:Nat}(hr:GA k X.A)(ho:QE X o td)(hi:QE X i ty)(hv:QE X value tv)(hs:swapsWith value (some (.Subscript o i pos')) pos.line X.env=pure false:=by rfl):
  QS X (.Assign [.Subscript o i pos'] value pos) (yg td ty tv):=⟨AE (by have:=hr.un;lia) ho.h hi.h hv.h hs⟩
structure Lm(X:Cx)(pos:Pos)(keys:List (Option Expr))(values:List Expr)(trs:List (TE×TE)):Prop where
 h:rX X pos keys values trs
theorem Af:Lm X pos [] [] []:=⟨AF⟩
theorem aC{k v:Expr}{ks:List (Option Expr)}{vs:List Expr}{tk tv:TE}{trs:List (TE×TE)}(hk:QE X k tk)(hv:QE X v tv)(hr:Lm X pos ks vs trs):Lm X pos (some k::ks) (v::vs) ((tk,tv)::trs):=⟨wq hk.h hv.h hr.h⟩
theorem yW{keys:List (Option Expr)}{values:List Expr}{trs:List (TE×TE)}(h:Lm X pos keys values trs)(hall:keys.all (·.isSome)=true:=by rfl)(hl:keys.length=values.length:=by rfl)(h0:keys≠[]:=by(intro z;cases z))
  (h15:keys.length<=15:=by decide):QE X (.Dict keys values pos) (wW trs):=⟨Al h.h hall hl h0 h15⟩
end
theorem nA{k:qL}{v:V}:∀{kvs:List (qL×V)} (i:Nat),kvs[i]? =some (k,v)->(kvs.map (·.1)).Nodup->Zo kvs k=some v
 | [],i,h,_=>by cases h
 |p::r,0,h,_=>by
  cases Jy h
  exact aE rfl
 |p::r,i+1,h,nd=>by
  have h':r[i]? =some (k,v):=h
  have nd':p.1∉r.map (·.1)/\(r.map (·.1)).Nodup:=Et.mp nd
  have hm:k∈r.map (·.1):=JB.mpr ⟨(k,v),DV h',rfl⟩
  have ne:p.1≠k:=fun z=>nd'.1 (z▸hm)
  rw[aj ne];exact nA i h' nd'.2
theorem AO{k:qL}{v:V}{kvs:List (qL×V)}(h:k∉kvs.map (·.1)):Hw kvs k v=kvs++[(k,v)]:=by
 unfold Hw;rw[Jd];intro z;obtain⟨p,hp,e⟩:=List.any_eq_true.mp z;exact h (JB.mpr ⟨p,hp,Jx e⟩)
end L3
namespace L3
open PySem PySem.Spec PyProof.Rows L2
section
variable{X:Cx}{o e:Expr}{apos cpos pos:Pos}{td ty:TE}
theorem lO{k:Nat}(hr:GA k X.A)(ho:QE X o td)(ha:QE X e ty)(m:M1 X o "get" apos e cpos:=by exact⟨rfl,rfl,rfl,rfl⟩):QE X (.Call (.Attribute o "get" apos) [e] [] cpos) (tW td ty):=⟨wF (by have:=hr.un;lia) ho.h ha.h m⟩
theorem fJ:QE X (.Dict [] [] pos) sX:=⟨uW⟩
theorem CH{k:Nat}(hr:GA k X.A)(hi:QE X e ty)(ho:QE X o td)(h1:behindInMarks CmpOp.In o=false:=by rfl):QT X (.Compare e [.In] [o] pos) (gD (CK ty td)):=⟨CC (BQ (by have:=hr.un;lia) hi.h ho.h) (h1:=h1)⟩
end
structure Kb where
 age:Int
 last:Int
 wt:Option (Int×Int)
abbrev Kw:=List (Str×Kb)
def Wt(H:Hp)(v:V):Option (Int×Int)->Prop
 |none=>v= .non
 |some (x,c)=>∃w,v= .ref w/\H w=some (.tup [.int x,.int c])
def GY(H:Hp)(a:Addr)(e:Kb):Prop:=∃v,H a=some (.tup [.int e.age,.int e.last,v])/\Wt H v e.wt
def bG(kn:Kw)(f:Str->Addr):List (qL×V):=kn.map fun e=>(Sum.inr e.1,V.ref (f e.1))
def Ih(H:Hp)(d:Addr)(kn:Kw):Prop:=∃f:Kw×(Str->Addr),H d=some (.dK (bG f.1 f.2))/\(∀e∈kn,GY H (f.2 e.1) e.2)/\f.1.Perm kn/\(kn.map (·.1)).Nodup
def ze(kn:Kw)(nm:Str)(e:Kb):Kw:=if nm∈kn.map (·.1)then kn.map (fun p=>if p.1=nm then(nm,e)else p)else kn++[(nm,e)]
theorem Mv.tup{S:List Addr}{H H':Hp}{a:Addr}{xs:List V}(m:Mv S H H')(n:NT S H)(h:H a=some (.tup xs)):H' a=some (.tup xs):=m _ _ (fun z=>by
 obtain⟨o,e,no⟩:=n a z;rw[e]at h;cases h;exact no) h
theorem Wt.mv{S:List Addr}{H H':Hp}{v:V}{o:Option (Int×Int)}(m:Mv S H H')(n:NT S H)(h:Wt H v o):Wt H' v o:=by
 cases o with
 |none=>exact h
 |some p=>obtain⟨w,e,r⟩:=h;exact⟨w,e,m.tup n r⟩
theorem GY.mv{S:List Addr}{H H':Hp}{a:Addr}{e:Kb}(m:Mv S H H')(n:NT S H)(h:GY H a e):GY H' a e:=by
 obtain⟨v,r,w⟩:=h
 exact⟨v,m.tup n r,w.mv m n⟩
theorem GY.same{H H':Hp}{a:Addr}{e:Kb}(s:Ge H H')(h:GY H a e):GY H' a e:=h.mv (S:=[]) s.mv (fun c h=>nomatch h)
theorem Ih.mv{S:List Addr}{H H':Hp}{d:Addr}{kn:Kw}(m:Mv S H H')(n:NT S H)(hd:d∉S)(h:Ih H d kn):Ih H' d kn:=by
 obtain⟨f,r,w,p⟩:=h
 exact⟨f,m _ _ hd r,fun e he=>(w e he).mv m n,p⟩
theorem nw(f:Str->Addr)(nm:Str):∀kn:Kw,Zo (bG kn f) (Sum.inr nm:qL)=(kn.lookup nm).map fun _=>V.ref (f nm)
 | []=>rfl
 |(m,e)::r=>by
  show Zo ((Sum.inr m,V.ref (f m))::bG r f) (Sum.inr nm)=_
  by_cases q:m=nm
  ·subst q
   rw[aE rfl,List.lookup_cons_self];rfl
  ·rw[aj (by intro z;injection z with z;exact q z),Ed,Fo (fun z=>q z.symm)]
   exact nw f nm r
theorem zv{nm:Str}{e:Kb}:∀{kn:Kw},kn.lookup nm=some e->(nm,e)∈kn
 |(m,x)::r,h=>by
  rw[Ed]at h
  by_cases q:nm=m
  ·subst q
   rw[Es]at h;cases h;exact Jw ..
  ·rw[Fo q]at h
   exact JC _ (zv h)
theorem Gp{nm:Str}:∀{kn:Kw},(kn.lookup nm).isSome=true↔nm∈kn.map (·.1)
 | []=>by simp
 |(m,x)::r=>by
  rw[Ed,JQ,Jk]
  by_cases q:nm=m
  ·subst q;simp
  ·rw[Fo q]
   simp only[q,false_or];exact Gp
theorem aR(kn:Kw)(nm:Str)(e:Kb):(ze kn nm e).map (·.1)=if nm∈kn.map (·.1)then kn.map (·.1)else kn.map (·.1)++[nm]:=by
 unfold ze;split
 ·rw[EB]
  refine FA fun p hp=>?_
  simp only[Function.comp]
  by_cases y:p.1=nm
  ·rw[Jc y,y]
  ·rw[Jd y]
 ·rw[JN];rfl
theorem jQ(kn:Kw)(nm:Str)(e:Kb):(ze kn nm e).length<=kn.length+1:=by
 have:=J3 List.length (aR kn nm e)
 rw[Je]at this;rw[this];split
 ·rw[Je];lia
 ·rw[JD,Je];exact Jf _
theorem gL{kn:Kw}(nd:(kn.map (·.1)).Nodup)(nm:Str)(e:Kb):((ze kn nm e).map (·.1)).Nodup:=by
 rw[aR];split
 ·exact nd
 ·rename_i z
  exact Fb.mpr ⟨nd,by simp,fun a ha b hb=>by rw[Jl.mp hb];exact fun w=>z (w▸ha)⟩
theorem a9{nm:Str}{e:Kb}:∀{kn:Kw},(kn.map (·.1)).Nodup->kn.lookup nm=some e->∀p∈kn,p.1=nm->p=(nm,e)
 | [],_,h,_,hp,_=>by cases hp
 |(m,x)::r,nd,h,p,hp,hn=>by
  have nd':m∉r.map (·.1)/\(r.map (·.1)).Nodup:=Et.mp nd
  rw[Ed]at h
  by_cases q:nm=m
  ·subst q
   rw[Es]at h;cases h;rcases Jk.mp hp with rfl|hp
   ·rfl
   ·exact absurd (JB.mpr ⟨p,hp,hn⟩) nd'.1
  ·rw[Fo q]at h
   rcases Jk.mp hp with rfl|hp
   ·exact absurd hn.symm q
   ·exact a9 nd'.2 h p hp hn
theorem mL{k0 kn:Kw}(pm:k0.Perm kn)(nd:(kn.map (·.1)).Nodup)(nm:Str):k0.lookup nm=kn.lookup nm:=by
 cases e:k0.lookup nm with
 |none=>
  cases e':kn.lookup nm with
  |none=>rfl
  |some x=>
   have:(k0.lookup nm).isSome=true:=Gp.mpr ((pm.map (·.1)).mem_iff.mpr (Gp.mp (by rw[e'];rfl)))
   rw[e]at this;cases this
 |some x=>
  obtain⟨y,hy⟩:∃y,kn.lookup nm=some y:=FU.mp (Gp.mpr (JB.mpr ⟨_,pm.mem_iff.mp (zv e),rfl⟩))
  rw[hy]
  have:=a9 nd hy _ (pm.mem_iff.mp (zv e)) rfl
  cases this;rfl
theorem Ih.get{H:Hp}{d:Addr}{kn:Kw}(h:Ih H d kn)(nm:Str):(kn.lookup nm=none/\HI H d (.str nm) none)\/∃e a,kn.lookup nm=some e/\HI H d (.str nm) (some (.ref a))/\GY H a e:=by
 obtain⟨⟨k0,f⟩,hd,hb,pm,nd⟩:=h;have g:=HI.k (k:=Sum.inr nm) hd
 rw[nw,mL pm nd]at g;cases q:kn.lookup nm with
 |none=>rw[q]at g;exact .inl ⟨rfl,g⟩
 |some e=>rw[q]at g;exact .inr ⟨e,f nm,rfl,g,hb _ (zv q)⟩
theorem ip{k0 kn:Kw}(pm:k0.Perm kn)(nm:Str)(e:Kb):(ze k0 nm e).Perm (ze kn nm e):=by
 unfold ze
 by_cases z:nm∈kn.map (·.1)
 ·rw[Jc ((pm.map (·.1)).mem_iff.mpr z),Jc z];exact pm.map _
 ·rw[Jd (fun w=>z ((pm.map (·.1)).mem_iff.mp w)),Jd z];exact pm.append_right _
theorem Ih.put{H:Hp}{d a:Addr}{kn:Kw}{e:Kb}(h:Ih H d kn)(nm:Str)(hl:kn.length<=100)(hb:GY H a e):∃H',Iv H d (.str nm) (.ref a) H'/\Mv [d] H H'/\Ih H' d (ze kn nm e):=by
 obtain⟨⟨k0,f⟩,hd,hk0,pm,nd⟩:=h;have hlen:(bG k0 f).length=kn.length:=(Je _).trans pm.length_eq
 have hk:∀e∈k0,GY H (f e.1) e.2:=fun e he=>hk0 e (pm.mem_iff.mp he)
 refine⟨_,Iv.k (k:=Sum.inr nm) hd (by rw[hlen];exact xg _),Mv.upd1,(ze k0 nm e,fun n=>if n=nm then a else f n),?_,?_,ip pm nm e,gL nd nm e⟩
 ·rw[qc]
  congr 2
  unfold Hw ze bG;have ea:((k0.map fun e=>((Sum.inr e.1:qL),V.ref (f e.1))).any fun kv=>decide (kv.1=(Sum.inr nm:qL)))=true↔nm∈k0.map (·.1):=by
   rw[List.any_eq_true];constructor
   ·rintro⟨p,hp,z⟩
    obtain⟨q,hq,rfl⟩:=JB.mp hp;have z':(Sum.inr q.1:qL)=Sum.inr nm:=Jx z
    injection z' with z'
    exact JB.mpr ⟨q,hq,z'⟩
   ·intro z
    obtain⟨q,hq,e⟩:=JB.mp z
    exact⟨_,JB.mpr ⟨q,hq,rfl⟩,Jg (by rw[e])⟩
  by_cases z:nm∈k0.map (·.1)
  ·rw[Jc (ea.mpr z),Jc z,EB,EB]
   refine FA fun p hp=>?_
   simp only[Function.comp]
   by_cases y:p.1=nm
   ·rw[Jc (by rw[y]),Jc y]
    simp [y]
   ·rw[Jd (by intro w;injection w with w;exact y w),Jd y]
    simp [y]
  ·rw[Jd (fun w=>z (ea.mp w)),Jd z,JN]
   congr 1
   ·refine FA fun p hp=>?_
    have y:¬p.1=nm:=fun w=>z (JB.mpr ⟨p,hp,w⟩)
    simp [y]
   ·simp
 ·have nt:NT [d] H:=NT.one hd trivial
  intro p hp;have hp:=(ip pm nm e).mem_iff.mpr hp;have hb':=hb.mv (Mv.upd1 (o:= .dK (Hw (bG k0 f) (Sum.inr nm) (.ref a)))) nt
  unfold ze at hp;split at hp
  ·obtain⟨q,hq,rfl⟩:=JB.mp hp
   by_cases y:q.1=nm
   ·rw[Jc y];simp only[Ep];exact hb'
   ·rw[Jd y]
    show GY _ (if q.1=nm then a else f q.1) q.2
    rw[Jd y]
    exact(hk q hq).mv Mv.upd1 nt
  ·rename_i z
   rcases JW.mp hp with hq|hq
   ·have y:¬p.1=nm:=fun w=>z (JB.mpr ⟨p,hq,w⟩)
    show GY _ (if p.1=nm then a else f p.1) p.2
    rw[Jd y]
    exact(hk p hq).mv Mv.upd1 nt
   ·rw[Jl.mp hq];simp only[Ep];exact hb'
def GC(K:Frag)(H:Hp)(hk:Addr)(kss:List (List Int)):Prop:=∃as:List Addr,H hk=some (.lst (as.map V.ref))/\as.length=kss.length/\∀(i:Nat) (a:Addr) (ks:List Int),as[i]? =some a->kss[i]? =some ks->Gu K H a (ks.map V.int)
theorem GC.mv{K:Frag}{S:List Addr}{H H':Hp}{hk:Addr}{kss:List (List Int)}(m:Mv S H H')(n:NT S H)(hd:hk∉S)(h:GC K H hk kss):GC K H' hk kss:=by
 obtain⟨as,e,l,r⟩:=h
 exact⟨as,m _ _ hd e,l,fun i a ks e1 e2=>m.sqt n (r i a ks e1 e2)⟩
structure Dr where
 t:List Int
 kss:List (List Int)
 near:Int
 far:Int
 most:Int
 least:Int
 kn:Kw
def dF(D:Dr)(ta hk bd lg:Addr):List (Str×V):=
 [("table",.ref ta),("house_keys",.ref hk),("near",.int D.near),("far",.int D.far),("most",.int D.most),("least_age",.int D.least),("buttons",.ref bd),("log",.ref lg)]
def dN:List Str:=["table","house_keys","near","far","most","least_age","buttons","log"]
theorem C2:dN.Nodup:=by decide +kernel
theorem jI(D:Dr)(ta hk bd lg:Addr):((dF D ta hk bd lg).map (·.1)).Nodup:=C2
structure HG(K:Frag)(C:Addr):Prop where
 cl:IL K C
 n_table:GD K C "table"
 n_house_keys:GD K C "house_keys"
 n_near:GD K C "near"
 n_far:GD K C "far"
 n_most:GD K C "most"
 n_least_age:GD K C "least_age"
 n_buttons:GD K C "buttons"
 n_log:GD K C "log"
structure Gg(K:Frag)(C:Addr)(H:Hp)(p ta hk bd lg:Addr)(n:Nat)(D:Dr):Prop where
 ob:∃dx,H p=some (.ins C dx (dF D ta hk bd lg))
 tb:Gu K H ta (D.t.map V.int)
 ks:GC K H hk D.kss
 kb:Ih H bd D.kn
 lo:∃rs:List Addr,H lg=some (.lst (rs.map V.ref))/\rs.length<=n
 ne:lg≠hk
section
variable{K:Frag}{C:Addr}{H H':Hp}{p ta hk bd lg dx:Addr}{n:Nat}{D:Dr}
theorem Gg.has(b:Gg K C H p ta hk bd lg n D)(U:HG K C)(i:Nat){f:Str}{v:V}(h:(dF D ta hk bd lg)[i]? =some (f,v))(na:GD K C f):bA K H p f v:=by
 obtain⟨dx,e⟩:=b.ob
 exact⟨C,dx,_,e,U.cl,na,i9 i h (jI ..)⟩
theorem Gg.h_table(b:Gg K C H p ta hk bd lg n D)(U:HG K C):bA K H p "table" (.ref ta):=b.has U 0 rfl U.n_table
theorem Gg.h_house_keys(b:Gg K C H p ta hk bd lg n D)(U:HG K C):bA K H p "house_keys" (.ref hk):=b.has U 1 rfl U.n_house_keys
theorem Gg.h_near(b:Gg K C H p ta hk bd lg n D)(U:HG K C):bA K H p "near" (.int D.near):=b.has U 2 rfl U.n_near
theorem Gg.h_far(b:Gg K C H p ta hk bd lg n D)(U:HG K C):bA K H p "far" (.int D.far):=b.has U 3 rfl U.n_far
theorem Gg.h_most(b:Gg K C H p ta hk bd lg n D)(U:HG K C):bA K H p "most" (.int D.most):=b.has U 4 rfl U.n_most
theorem Gg.h_least_age(b:Gg K C H p ta hk bd lg n D)(U:HG K C):bA K H p "least_age" (.int D.least):=b.has U 5 rfl U.n_least_age
theorem Gg.h_buttons(b:Gg K C H p ta hk bd lg n D)(U:HG K C):bA K H p "buttons" (.ref bd):=b.has U 6 rfl U.n_buttons
theorem Gg.h_log(b:Gg K C H p ta hk bd lg n D)(U:HG K C):bA K H p "log" (.ref lg):=b.has U 7 rfl U.n_log
theorem Gg.no(b:Gg K C H p ta hk bd lg n D){m:Str}(h:m∉dN:=by decide +kernel):Dn C H p m:=by
 obtain⟨dx,e⟩:=b.ob
 exact⟨dx,_,e,iF h⟩
theorem Gg.mv{S:List Addr}(b:Gg K C H p ta hk bd lg n D)(m:Mv S H H')(nt:NT S H)(hp:p∉S)(hh:hk∉S)(hb:bd∉S)(hl:lg∉S):Gg K C H' p ta hk bd lg n D:=by
 obtain⟨dx,e⟩:=b.ob;obtain⟨rs,el,l⟩:=b.lo
 exact⟨⟨dx,m _ _ hp e⟩,m.sqt nt b.tb,b.ks.mv m nt hh,b.kb.mv m nt hb,⟨rs,m _ _ hl el,l⟩,b.ne⟩
theorem Gg.same(b:Gg K C H p ta hk bd lg n D)(s:Ge H H'):Gg K C H' p ta hk bd lg n D:=b.mv (S:=[]) s.mv (fun c h=>nomatch h) (fun h=>nomatch h) (fun h=>nomatch h) (fun h=>nomatch h) (fun h=>nomatch h)
end
def DI:R2:=fun x y H Q=>∃(o:Option (Int×Int)) (b:Addr) (a c:Int),Wt H x o/\y= .ref b/\Rd H b (.tup [.int a,.int c])/\Q (.bl (decide (o=some (a,c)))) H
theorem uv{X:Cx}{k:Nat}(hr:GA k X.A):zw X (compareOp .Eq) DI:=by
 intro tx s σ H x y v u Q I rx ry h;obtain⟨o,b,a,c,hw,rfl,hb,q⟩:=h;cases ry;obtain⟨its2,r2,p2,_⟩:=I.tuple (.inl hb)
 have hu:X.A.units<cLine:=by have:=hr.un;lia
 cases o with
 |none=>
  have hw':x= .non:=hw
  subst hw';cases rx;rw[Jn (by intro z;cases z)]at q
  exact SeqAt.RcAt.none_tuple p2 hu _ _ _ _ ⟨.bl false,H,I,rfl,q⟩
 |some pr=>
  obtain⟨x1,x2⟩:=pr;obtain⟨w,rfl,hw'⟩:=hw;cases rx;obtain⟨its,r1,p1,_⟩:=I.tuple (.inl (.inl hw'))
  have l1:=r1.length;have l2:=r2.length;have e1:=SeqAt.RcAt.tuples (A:=X.A) (e:=fun j=>[x1,x2].getD j 0==[a,c].getD j 0) (show s.heap.IsTuple w its.toArray from p1) (show s.heap.IsTuple b its2.toArray from p2) hu (fun j h1 h2=>by
   have h1':j<its.length:=by simpa using h1
   have h2':j<its2.length:=by simpa using h2
   obtain⟨t,e⟩:=eU (ns:=[x1,x2]) r1 j h1' (by rw[<- l1]at h1';exact h1')
   obtain⟨t',e'⟩:=eU (ns:=[a,c]) r2 j h2' (by rw[<- l2]at h2';exact h2')
   simp only[List.getElem_toArray,e,e',JF,Jj (show j<[x1,x2].length by rw[<- l1]at h1';exact h1'),Jj (show j<[a,c].length by rw[<- l2]at h2';exact h2'),EH]
   exact SeqAt.EqAt.int_int _ _ _ _)
  have z1:its.toArray.size=2:=by rw[Jr,<- l1];rfl
  have z2:its2.toArray.size=2:=by rw[Jr,<- l2];rfl
  refine e1 _ _ _ _ ⟨.bl _,H,I,?_,q⟩
  show Value.bool _=Value.bool _
  congr 1
  rw[z1,z2,show min 2 2=([x1,x2]:List Int).length from rfl,vM [x1,x2] [a,c] rfl]
  simp
def px(c l n f:Int):Str:=if c<=l then "old" else if c<=l+n then "near" else if c<=l+f then "far" else "beyond"
def nQ:Sp:=fun vs H Q _=>∃c l n f:Int,vs=[.int c,.int l,.int n,.int f]/\Q (.str (px c l n f)) H
def zu(near far:Int)(e:Kb)(age c:Int):Str×Kb:=
 if c<=e.last then("old",e)else if c<=e.last+near then("near",⟨age,c,none⟩)
 else if c<=e.last+far then(if e.wt=some (age,c-1)then("near",⟨age,c,none⟩)else("far",⟨e.age,e.last,some (age,c)⟩))else("beyond",e)
def ie:Sp:=fun vs H Q _=>∃(a:Addr) (e:Kb) (age c near far:Int),vs=[.ref a,.int age,.int c,.int near,.int far]/\GY H a e/\
 ∀q a' H',Ge H H'->H' q=some (.tup [.str (zu near far e age c).1,.ref a'])->GY H' a' (zu near far e age c).2->Q (.ref q) H'
def QX(D:Dr)(age:Int):Bool:=decide (D.least<=age)&&decide (age<D.kss.length)
def qT(D:Dr)(e:Kb)(age:Int):Bool:=QX D age&&decide (e.age<=age)
def zo(D:Dr)(nm:Str)(age:Int)(r:Option (Int×Int)):List V×Kw:=
 match D.kn.lookup nm with
 |none=>([.str "held",.str "unknown"],D.kn)
 |some e=>if qT D e age=true then(match r with
   |none=>([.str "held",.str "false"],D.kn)
   |some (c,d)=>if(zu D.near D.far e age c).1="near" then([.str "open",.str nm,.int d],ze D.kn nm (zu D.near D.far e age c).2)else([.str "held",.str (zu D.near D.far e age c).1],ze D.kn nm (zu D.near D.far e age c).2))
  else([.str "held",.str "age"],D.kn)
structure Ip(D:Dr):Prop where
 tp:D.t.Perm GM
 l0:0<=D.least
 kl:D.kss.length<=8
 nl:D.kn.length<=60
 nd:(D.kn.map (·.1)).Nodup
section
variable(K:Frag)(C:Addr)
def mT:Sp:=fun vs H Q _=>∃(p ta hk bd lg:Addr) (n:Nat) (D:Dr),vs=[.ref p]/\Gg K C H p ta hk bd lg n D/\Q (.bl (decide (D.most<=(D.kn.length:Int)))) H
def fS:Sp:=fun vs H Q _=>∃(p ta hk bd lg:Addr) (n:Nat) (D:Dr) (age:Int),vs=[.ref p,.int age]/\Gg K C H p ta hk bd lg n D/\Q (.bl (QX D age)) H
def bE:Sp:=fun vs H Q _=>∃(p ta hk bd lg a:Addr) (n:Nat) (D:Dr) (e:Kb) (age:Int),vs=[.ref p,.ref a,.int age]/\Gg K C H p ta hk bd lg n D/\GY H a e/\Q (.bl (qT D e age)) H
def jG:Sp:=fun vs H Q _=>∃(p ta hk bd lg:Addr) (n:Nat) (D:Dr) (nm:Str),vs=[.ref p,.str nm]/\Gg K C H p ta hk bd lg n D/\
 (D.kn.lookup nm=none->Q .non H)/\(∀e a,D.kn.lookup nm=some e->GY H a e->Q (.ref a) H)
def nD:Sp:=fun vs H Q _=>∃(p ta hk bd lg a:Addr) (n:Nat) (D:Dr) (e:Kb) (age c:Int),vs=[.ref p,.ref a,.int age,.int c]/\Gg K C H p ta hk bd lg n D/\GY H a e/\qT D e age=true/\
 ∀q a' H',Ge H H'->H' q=some (.tup [.str (zu D.near D.far e age c).1,.ref a'])->GY H' a' (zu D.near D.far e age c).2->Q (.ref q) H'
def GK(H:Hp)(pr:Addr)(nm:Str)(age:Int)(ds:List Int):Prop:=∃pc,H pr=some (.tup [.str nm,.int age,.ref pc])/\H pc=some (.tup (ds.map V.int))
def Qx(D:Dr)(age:Int):List Int:=D.kss.getD age.toNat []
def iA:Sp:=fun vs H Q _=>∃(p ta hk bd lg pr:Addr) (n:Nat) (D:Dr) (nm:Str) (age:Int) (ds:List Int),vs=[.ref p,.ref pr]/\Gg K C H p ta hk bd lg n D/\Ip D/\GK H pr nm age ds/\Qy nm/\ds.length=5/\zC ds/\
 ∀q H',Mv [bd] H H'->H' q=some (.tup (zo D nm age (Zj D.t (Qx D age) nm ds)).1)->Gg K C H' p ta hk bd lg n {D with kn:=(zo D nm age (Zj D.t (Qx D age) nm ds)).2}->Q (.ref q) H'
end
theorem GK.mv{S:List Addr}{H H':Hp}{pr:Addr}{nm:Str}{age:Int}{ds:List Int}(m:Mv S H H')(n:NT S H)(h:GK H pr nm age ds):GK H' pr nm age ds:=by
 obtain⟨pc,e1,e2⟩:=h
 exact⟨pc,m.tup n e1,m.tup n e2⟩
theorem GK.same{H H':Hp}{pr:Addr}{nm:Str}{age:Int}{ds:List Int}(s:Ge H H')(h:GK H pr nm age ds):GK H' pr nm age ds:=by
 obtain⟨pc,e1,e2⟩:=h
 exact⟨pc,s _ _ e1,s _ _ e2⟩
theorem iu{X:Cx}:zw X (compareOp .LtE) (fun x y H Q=>∃i j,x= .str i/\y= .str j/\Q (.bl (!decide (j.cps.toList<i.cps.toList))) H):=by
 intro tx s σ H x y v u Q I rx ry h;obtain⟨i,j,rfl,rfl,q⟩:=h;obtain⟨t,rfl⟩:=rx;obtain⟨t',rfl⟩:=ry;exact PySem.P.le_str (qQ I q rfl)
theorem vf{js:List Nat}{te:TE}{σ:L2.St}{H:Hp}{Q:VK}{x:Str}(hn:x.cps.size<=sizeLine)(Pv:Nat->List V->Hp->Prop)(h0:Pv 0 [] H)
  (hs:∀i ys H c,x.cps[i]? =some c->ys.length=i->Pv i ys H->te (some (.str ⟨#[c]⟩)::ZH js σ) H fun v H3=>Pv (i+1) (ys++[v]) H3)
  (hd:∀ys H,ys.length=x.cps.size->Pv x.cps.size ys H->∀p,H p=none->Q (.ref p) (Gh H p (.lst ys))):gz (wU x) js te σ H Q:=
 cn hn (fun i v=>∃c,x.cps[i]? =some c/\v= .str ⟨#[c]⟩) Pv h0 (fun i ys H hi p=>hi) (fun ys H p=>Jf _) (fun i ys H v H' _ p y=>y) (fun i ys H v hi hl p hx=>by
  obtain⟨c,hc,rfl⟩:=hx;exact hs i ys H c hc hl p) hd
theorem vk{ds:List Int}(h:zC ds):(ds.map V.int).all cm=true:=by
 rw[E5];intro x hx;obtain⟨i,hi,rfl⟩:=JB.mp hx
 have:=h i hi
 show(decide (0<=i)&&decide (i<16))=true
 rw[Jg this.1,Jg this.2];rfl
theorem zR{c:Bool}{a b:Prop}(h:c=true)(x:a):if c=true then a else b:=by rw[Jc h];exact x
theorem zW{c:Bool}{a b:Prop}(h:c=false)(x:b):if c=true then a else b:=by rw[Jd (by rw[h];intro z;cases z)];exact x
theorem zn{K:Frag}{C p dx:Addr}{H:Hp}{fs:List (Str×V)}{f:Str}{v:V}(c:IL K C)(e:H p=some (.ins C dx fs))(n:GD K C f)(i:Nat)(hns:fs.map (·.1)=dN.take i:=by rfl)(hn:f∉dN.take i:=by decide +kernel):
  fH K H p f v (Gh H p (.ins C dx (fs++[(f,v)]))):=⟨C,dx,fs,e,c,n,by
  have h1:fs.length=(dN.take i).length:=by rw[<- hns,Je]
  have h2:(dN.take i).length<=8:=by rw[Eu];exact Nat.min_le_right _ _
  lia,by rw[jR (by rw[hns];exact hn)]⟩
theorem GC.upd{K:Frag}{C p dx b:Addr}{H:Hp}{fs:List (Str×V)}{kss:List (List Int)}{o:HO}(e:H p=some (.ins C dx fs))(h:GC K H b kss):GC K (Gh H p o) b kss:=by
 obtain⟨as,e1,l,r⟩:=id h;exact h.mv Mv.upd1 (NT.one e trivial) (qX (zY e1 e (by intro z;cases z)))
theorem GC.same{K:Frag}{H H':Hp}{b:Addr}{kss:List (List Int)}(s:Ge H H')(h:GC K H b kss):GC K H' b kss:=h.mv (S:=[]) s.mv (fun c h=>nomatch h) (fun h=>nomatch h)
theorem Mv.nfree{S:List Addr}{H H':Hp}{x:Addr}(m:Mv S H H')(hn:x∉S)(h:H' x=none):H x=none:=by
 cases e:H x with
 |none=>rfl
 |some o=>rw[m x o hn e]at h;cases h
theorem GC.at{K:Frag}{H:Hp}{hk:Addr}{D:Dr}{age:Int}(h:GC K H hk D.kss)(h0:0<=age)(h1:age<D.kss.length):∃(xs:List V) (ak:Addr),H hk=some (.lst xs)/\QY xs age=some (.ref ak)/\Gu K H ak ((Qx D age).map V.int):=by
 obtain⟨as,e,l,r⟩:=h;obtain⟨i,rfl⟩:∃i:Nat,age=(i:Int):=⟨age.toNat,by lia⟩
 have hi:i<D.kss.length:=by lia
 have hi':i<as.length:=by lia
 refine⟨_,as[i],e,Zc (by rw[Jo,Jj hi'];rfl),?_⟩
 have:=r i as[i] D.kss[i] (Jj hi') (Jj hi)
 unfold Qx;rw[Ee,JF,Jj hi];exact this
theorem ZO{D:Dr}{e:Kb}{age:Int}(h:qT D e age=true)(h0:0<=D.least):0<=age/\age<D.kss.length:=by
 unfold qT QX at h;rw[Jz,Jz]at h;have h1:=Jx h.1.1;have h2:=Jx h.1.2;lia
theorem Gg.putK{K:Frag}{C:Addr}{H H':Hp}{p ta hk bd lg:Addr}{n:Nat}{D:Dr}{kn':Kw}(b:Gg K C H p ta hk bd lg n D)(m:Mv [bd] H H')(kb:Ih H' bd kn'):Gg K C H' p ta hk bd lg n {D with kn:=kn'}:=by
 obtain⟨dx,e⟩:=b.ob;obtain⟨f,hd,_⟩:=b.kb;obtain⟨rs,el,l⟩:=b.lo;obtain⟨as,eh,_⟩:=id b.ks;have nt:NT [bd] H:=NT.one hd trivial
 exact⟨⟨dx,m _ _ (qX (zY e hd (by intro z;cases z))) e⟩,m.sqt nt b.tb,b.ks.mv m nt (qX (zY eh hd (by intro z;cases z))),kb,⟨rs,m _ _ (qX (zY el hd (by intro z;cases z))) el,l⟩,b.ne⟩
theorem Gg.putL{K:Frag}{C:Addr}{H:Hp}{p ta hk bd lg r:Addr}{n:Nat}{D:Dr}{rs:List Addr}(b:Gg K C H p ta hk bd lg n D)(el:H lg=some (.lst (rs.map V.ref)))(hl:rs.length<=n):Gg K C (Gh H lg (.lst (rs.map V.ref++[.ref r]))) p ta hk bd lg (n+1) D:=by
 obtain⟨dx,e⟩:=b.ob;obtain⟨f,hd,_⟩:=id b.kb;have nt:NT [lg] H:=NT.one el trivial
 have m:Mv [lg] H (Gh H lg (.lst (rs.map V.ref++[.ref r]))):=Mv.upd1
 exact⟨⟨dx,m _ _ (qX (zY e el (by intro z;cases z))) e⟩,m.sqt nt b.tb,b.ks.mv m nt (qX b.ne.symm),b.kb.mv m nt (qX (zY hd el (by intro z;cases z))),⟨rs++[r],by rw[qc,JN];rfl,by rw[JD];exact Nat.succ_le_succ hl⟩,b.ne⟩
theorem IK.pair{H:Hp}{a b:Addr}{z:Str}{i:Int}(h1:H a=some (.tup [.str z,.int i]))(h2:H b=some (.tup [.str z,.int i])):IK H 1 (.ref a) (.ref b):=
 .tup (n:=0) (.inl h1) (.inl h2) rfl fun j x y ex ey=>by
  match j,ex,ey with
  |0,ex,ey=>cases ex;cases ey;exact .str _ _
  |1,ex,ey=>cases ex;cases ey;exact .int _ _
  |j+2,ex,ey=>cases ex
abbrev sR(a b:Str):Prop:=a.cps.toList<=b.cps.toList
theorem Bv{a b:Str}(h:ltCps b.cps.toList a.cps.toList=false):sR a b:=by
 rw[ltCps_eq]at h;exact List.not_lt.mp (of_decide_eq_false h)
theorem iT:∀{l:List Str} {p:Str},risingS p l=true->(p::l).Pairwise sR
 | [],p,_=>by simp
 |x::r,p,h=>by
  have h':(!ltCps x.cps.toList p.cps.toList&&risingS x r)=true:=h
  rw[Jz,Bool.not_eq_true']at h';have ih:=iT h'.2;have hpx:=Bv h'.1;refine List.pairwise_cons.mpr ⟨fun y hy=>?_,ih⟩
  rcases Jk.mp hy with rfl|hy
  ·exact hpx
  ·exact List.le_trans hpx ((List.pairwise_cons.mp ih).1 y hy)
theorem Z4{l:List Str}(h:sortedS l=true):l.Pairwise sR:=by
 cases l with
 |nil=>exact .nil
 |cons x r=>exact iT h
theorem bu{l a b:List Str}(pa:a.Perm l)(sa:sortedS a=true)(pb:b.Perm l)(sb:sortedS b=true):a=b:=by
 refine List.Perm.eq_of_pairwise (le:=sR) (fun x y _ _ h1 h2=>?_) (Z4 sa) (Z4 sb) (pa.trans pb.symm)
 have e:x.cps.toList=y.cps.toList:=List.le_antisymm h1 h2
 cases x with
 |mk u=>cases y with
  |mk v=>
   have:u=v:=Array.toList_inj.mp e
   rw[this]
def IQ(H:Hp)(q:Addr)(ss:List Str)(kn:Kw):Prop:=∃as:List Addr,H q=some (.tup (as.map V.ref))/\as.length=ss.length/\∀(i:Nat) (a:Addr) (nm:Str) (e:Kb),as[i]? =some a->ss[i]? =some nm->kn.lookup nm=some e->∃v,H a=some (.tup [.str nm,.int e.age,.int e.last,v])/\Wt H v e.wt
def fF(K:Frag)(C:Addr):Sp:=fun vs H Q _=>∃(p ta hk bd lg:Addr) (n:Nat) (D:Dr),vs=[.ref p]/\Gg K C H p ta hk bd lg n D/\Ip D/\
 ∀q ss H',Ge H H'->ss.Perm (D.kn.map (·.1))->sortedS ss=true->IQ H' q ss D.kn->Q (.ref q) H'
theorem AJ{X:Cx}{K:Frag}{e:Expr}{f:Str}{pos:Pos}{ta:TE}(hK:X.K=K)(he:QE X e ta)(hb:attributeBase e f X.env (eval e X.env)=eval e X.env:=by rfl):QE X (.Attribute e f pos) (xy K ta f):=by
 subst hK;exact qN he hb
theorem Az(kn:Kw)(f:Str->Addr):(bG kn f).map (·.1)=(kn.map (·.1)).map Sum.inr:=by
 unfold bG;rw[EB,EB];rfl
theorem ZV{kn:Kw}{nm:Str}(h:nm∈kn.map (·.1)):∃e,kn.lookup nm=some e:=FU.mp (Gp.mpr h)
theorem lL:∀(more kvs:List (qL×V)),((kvs++more).map (·.1)).Nodup->Zl kvs more=kvs++more
 | [],kvs,_=>by simp [Zl]
 |p::r,kvs,nd=>by
  have hn:p.1∉kvs.map (·.1):=fun z=>by
   rw[JN,JQ]at nd
   exact(Fb.mp nd).2.2 _ z _ (Jw ..) rfl
  show Zl (Hw kvs p.1 p.2) r=_
  rw[AO hn,lL r (kvs++[(p.1,p.2)]) (by rw[Ew];exact nd),Ew]
  rfl
theorem pG(ms:List Str)(k:Nat):(ms.map V.str).eraseIdx k=(ms.eraseIdx k).map V.str:=by
 rw[List.eraseIdx_eq_take_drop_succ,List.eraseIdx_eq_take_drop_succ,JN,List.map_take,List.map_drop]
theorem sM{ms zs:List Str}{k:Nat}(h:k<ms.length):(zs++[ms[k]]++ms.eraseIdx k).Perm (zs++ms):=by
 rw[Ew];refine List.Perm.append_left zs ?_
 rw[List.eraseIdx_eq_take_drop_succ];have e:ms=ms.take k++ms[k]::ms.drop (k+1):=by rw[<- List.drop_eq_getElem_cons h,List.take_append_drop]
 refine List.Perm.trans (List.perm_middle (a:=ms[k]) (l₁:=ms.take k) (l₂:=ms.drop (k+1))).symm ?_
 rw[<- e]
theorem cu{kn:Kw}{nm:Str}{x:Kb}{e:Str×Kb}(h:e∈ze kn nm x):e∈kn\/e=(nm,x):=by
 unfold ze at h;split at h
 ·obtain⟨p,hp,rfl⟩:=JB.mp h
  by_cases y:p.1=nm
  ·rw[Jc y];exact .inr rfl
  ·rw[Jd y];exact .inl hp
 ·rcases JW.mp h with h|h
  ·exact .inl h
  ·exact .inr (Jl.mp h)
theorem lY{kn:Kw}{nm:Str}{e:Kb}:∀{l:Kw},(∀p∈l,p.1=nm->p=(nm,e))->l.map (fun p=>if p.1=nm then(nm,e)else p)=l
 | [],_=>rfl
 |p::r,h=>by
  rw[JQ,lY (kn:=kn) fun q hq=>h q (JC _ hq)]
  by_cases y:p.1=nm
  ·rw[Jc y,h p (Jw ..) y]
  ·rw[Jd y]
theorem tV{kn:Kw}{nm:Str}{e:Kb}(nd:(kn.map (·.1)).Nodup)(h:kn.lookup nm=some e):ze kn nm e=kn:=by
 unfold ze;rw[Jc (Gp.mp (by rw[h];rfl))]
 exact lY (kn:=kn) (a9 nd h)
theorem pC{kn:Kw}{nm:Str}{e x:Kb}(h:kn.lookup nm=some e):(ze kn nm x).map (·.1)=kn.map (·.1):=by
 rw[aR,Jc (Gp.mp (by rw[h];rfl))]
theorem yX{X:Cx}:∀u e,([]:List (Str×Addr)).lookup u=some e->X.env.cells.lookup u=some e:=fun u e h=>by cases h
theorem fQ{X:Cx}{y:Str}{c:Addr}{l:List (Str×Addr)}(h:X.env.cells.lookup y=some c)(r:∀u e,l.lookup u=some e->X.env.cells.lookup u=some e):∀u e,((y,c)::l).lookup u=some e->X.env.cells.lookup u=some e:=fun u e he=>by
 by_cases hu:u=y
 ·subst hu
  simp at he
  rw[<- he];exact h
 ·rw[Ed,show(u==y)=false from by simpa using hu]at he
  exact r u e he
end L3
namespace L2
open PySem PySem.Spec PyProof.Rows
section
variable{X:Cx}{tx:Gd}{σ:St}{H:Hp}{s:Shared}{a:Addr}{kvs:List (qL×V)}{A:Around}{E:Gb}
theorem vH{Q:Gb}(I:Gi X tx σ H s)(e:Rd H a (.dK kvs))(h:∀p s',H p=none->Gi X tx σ (Gh H p (.dK kvs)) s'->Q (.ref p) s'):wpAny (model X.prog X.w) A (call (.type "dict") [.ref a]) Q E s:=by
 obtain⟨z,hd,vs,rel,dd⟩:=aS I.hok e;refine kt_call_dict hd dd (by rw[<- rel.length];exact z) fun h' dd' hs=>?_
 refine h _ _ (I.hok.fresh (Jf _)) (I.laid (a:=s.heap.objs.size) (o:= .dK kvs) (t':=s.toks) (fun b q hq=>?_) (Jf _) (lR z (ED.mpr (Ne.symm (Jm I.big))) rel dd'))
 exact(hs.2 b (Jm (Jh hq))).trans (Ji _ hq)
end
end L2
namespace L3
open PySem PySem.Spec PyProof.Rows L2
theorem pB{X:Cx}:qY X (.type "dict") (fun xs H Q=>∃(d:Addr) (kvs:List (qL×V)),xs=[.ref d]/\H d=some (.dK kvs)/\∀p,H p=none->Q (.ref p) (Gh H p (.dK kvs))):=by
 intro tx s σ H xs us Q I r h;obtain⟨d,kvs,rfl,hd,q⟩:=h;obtain⟨u,rfl,ru⟩:=zL r;cases ru;exact vH I (.inl hd) fun p s' hp I'=>⟨.ref p,_,I',rfl,q p hp⟩
theorem Gg.setF{K:Frag}{C:Addr}{H:Hp}{p dx:Addr}{fs:List (Str×V)}{f:Str}{u v:V}(i:Nat)(c:IL K C)(na:GD K C f)(e:H p=some (.ins C dx fs))(hf:fs[i]? =some (f,u))(nd:(fs.map (·.1)).Nodup)(hl:fs.length<1000):
  fH K H p f v (Gh H p (.ins C dx (fs.set i (f,v)))):=⟨C,dx,fs,e,c,na,hl,by rw[oF i hf nd]⟩
theorem _root_.L2.Ge.put{H H1:Hp}{x:Addr}{o:HO}(s:Ge H H1)(h:H x=none):Ge H (Gh H1 x o):=fun c u e=>by
 rw[qi (qo e h)];exact s c u e
section
variable{K:Frag}{C:Addr}{H:Hp}{p ta hk bd lg dx:Addr}{D:Dr}
theorem iq(U:HG K C)(e:H p=some (.ins C dx (dF D ta hk bd lg)))(z:Int):fH K H p "least_age" (.int z) (Gh H p (.ins C dx (dF {D with least:=z} ta hk bd lg))):=Gg.setF 5 U.cl U.n_least_age e rfl (jI ..) (by show 8<1000;decide)
theorem mG(U:HG K C)(e:H p=some (.ins C dx (dF D ta hk bd lg)))(x:Addr):fH K H p "buttons" (.ref x) (Gh H p (.ins C dx (dF D ta hk x lg))):=Gg.setF 6 U.cl U.n_buttons e rfl (jI ..) (by show 8<1000;decide)
theorem y8(U:HG K C)(e:H p=some (.ins C dx (dF D ta hk bd lg)))(x:Addr):fH K H p "log" (.ref x) (Gh H p (.ins C dx (dF D ta hk bd x))):=Gg.setF 7 U.cl U.n_log e rfl (jI ..) (by show 8<1000;decide)
end
theorem IQ.same{H H':Hp}{q:Addr}{ss:List Str}{kn:Kw}(h:IQ H q ss kn)(s:Ge H H'):IQ H' q ss kn:=by
 obtain⟨as,e,l,r⟩:=h
 exact⟨as,s _ _ e,l,fun i a nm x e1 e2 e3=>let⟨v,a1,a2⟩:=r i a nm x e1 e2 e3;⟨v,s _ _ a1,a2.mv (S:=[]) s.mv (fun c h=>nomatch h)⟩⟩
theorem Gg.putLeast{K:Frag}{C:Addr}{H:Hp}{p ta hk bd lg:Addr}{n:Nat}{D:Dr}(b:Gg K C H p ta hk bd lg n D)(U:HG K C)(z:Int):∃dx,fH K H p "least_age" (.int z) (Gh H p (.ins C dx (dF {D with least:=z} ta hk bd lg)))/\Mv [p] H (Gh H p (.ins C dx (dF {D with least:=z} ta hk bd lg)))/\Gg K C (Gh H p (.ins C dx (dF {D with least:=z} ta hk bd lg))) p ta hk bd lg n {D with least:=z}:=by
 obtain⟨dx,e⟩:=b.ob;obtain⟨f,hd,_⟩:=id b.kb;obtain⟨rs,el,l⟩:=b.lo;obtain⟨as,eh,_⟩:=id b.ks;have nt:NT [p] H:=NT.one e trivial
 have m:Mv [p] H (Gh H p (.ins C dx (dF {D with least:=z} ta hk bd lg))):=Mv.upd1
 exact⟨dx,iq U e z,m,⟨dx,qc⟩,m.sqt nt b.tb,b.ks.mv m nt (qX (zY eh e (by intro z;cases z))),b.kb.mv m nt (qX (zY hd e (by intro z;cases z))),⟨rs,m _ _ (qX (zY el e (by intro z;cases z))) el,l⟩,b.ne⟩
def Qs(D:Dr)(e:Kb)(age c:Int):Str×Kb:=if qT D e age=true then zu D.near D.far e age c else("age",e)
def kN(K:Frag)(C:Addr):Sp:=fun vs H Q _=>∃(p ta hk bd lg a:Addr) (n:Nat) (D:Dr) (e:Kb) (age c:Int),vs=[.ref p,.ref a,.int age,.int c]/\Gg K C H p ta hk bd lg n D/\GY H a e/\
 ∀q a' H',Ge H H'->H' q=some (.tup [.str (Qs D e age c).1,.ref a'])->GY H' a' (Qs D e age c).2->Q (.ref q) H'
inductive IJ (K:Frag) (H:Hp):Nat->V->V->Prop where
 |int (n:Nat) (i:Int):IJ K H n (.int i) (.int i)
 |str (n:Nat) (x:Str):IJ K H n (.str x) (.str x)
 |non (n:Nat):IJ K H n .non .non
 | tup {n:Nat} {a b:Addr} {xs ys:List V} (h1:Gu K H a xs) (h2:Gu K H b ys) (hl:xs.length=ys.length)
   (hi:∀(i:Nat) (x y:V),xs[i]? =some x->ys[i]? =some y->IJ K H n x y):IJ K H (n+1) (.ref a) (.ref b)
section
open SeqAt
variable{X:Cx}{tx:Gd}{σ:L2.St}{H:Hp}{s:Shared}
theorem B7(I:L2.Gi X tx σ H s){n:Nat}{x y:V}(h:IJ X.K H n x y):∀{v u:Value} {A:Around},Gn x v->Gn y u->A.units+n<cLine->EqAt A s v u true:=by
 induction h with
 |int n i=>rintro v u A ⟨t,rfl⟩ ⟨t',rfl⟩ _;have:=EqAt.int_int (A:=A) (s:=s) i t i t';rwa [Es]at this
 |str n z=>rintro v u A ⟨t,rfl⟩ ⟨t',rfl⟩ _;have:=EqAt.str_str (A:=A) (s:=s) z t z t';rwa [Es]at this
 |non n=>
  intro v u A r1 r2 _
  cases(show v=Value.none from r1)
  cases(show u=Value.none from r2)
  exact EqAt.same _
 | @tup n a b xs ys h1 h2 hl _ ih=>
  intro v u A r1 r2 hu
  cases(show v=Value.ref a from r1)
  cases(show u=Value.ref b from r2)
  by_cases hab:a=b
  ·rw[hab];exact EqAt.same _
  ·obtain⟨its,q1,p1,_⟩:=I.tuple h1
   obtain⟨its2,q2,p2,_⟩:=I.tuple h2;have l1:=q1.length;have l2:=q2.length;have e:=RcAt.tuples (A:=A) (e:=fun _=>true) (show s.heap.IsTuple a its.toArray from p1) (show s.heap.IsTuple b its2.toArray from p2) (by lia) (fun j z1 z2=>by
    obtain⟨x,ex,rx⟩:=zI q1 (j:=j) (by simpa using z1)
    obtain⟨y,ey,ry⟩:=zI q2 (j:=j) (by simpa using z2)
    exact ih j x y ex ey rx ry (by rw[E8];lia))
   rw[bJ,show(its.toArray.size==its2.toArray.size)=true by simp;lia]at e
   exact EqAt.of_refs hab e
theorem Bw(I:L2.Gi X tx σ H s){n:Nat}{x y:V}{v u:Value}{A:Around}(h:IJ X.K H n x y)(r1:Gn x v)(r2:Gn y u)(hu:A.units+n<cLine):RcAt A s v u true/\RcNeAt A s v u false:=by
 cases h with
 |int n i=>
  obtain⟨t,rfl⟩:=r1;obtain⟨t',rfl⟩:=r2;have e1:=RcAt.int_int (A:=A) (s:=s) i t i t'
  have e2:=RcNeAt.int_int (A:=A) (s:=s) i t i t'
  rw[Es]at e1 e2
  exact⟨e1,e2⟩
 |str n z=>
  obtain⟨t,rfl⟩:=r1;obtain⟨t',rfl⟩:=r2;have e1:=RcAt.str_str (A:=A) (s:=s) z t z t'
  have e2:=RcNeAt.str_str (A:=A) (s:=s) z t z t'
  rw[Es]at e1 e2
  exact⟨e1,e2⟩
 |non n=>
  cases(show v=Value.none from r1)
  cases(show u=Value.none from r2)
  exact⟨RcAt.none_none,RcNeAt.none_none⟩
 | @tup n a b xs ys h1 h2 hl ih=>
  cases(show v=Value.ref a from r1)
  cases(show u=Value.ref b from r2)
  obtain⟨its,q1,p1,_⟩:=I.tuple h1;obtain⟨its2,q2,p2,_⟩:=I.tuple h2;have l1:=q1.length;have l2:=q2.length;have he:∀j (z1:j<its.toArray.size) (z2:j<its2.toArray.size),EqAt A.in1 s its.toArray[j] its2.toArray[j] ((fun _=>true) j):=fun j z1 z2=>by
   obtain⟨x,ex,rx⟩:=zI q1 (j:=j) (by simpa using z1)
   obtain⟨y,ey,ry⟩:=zI q2 (j:=j) (by simpa using z2)
   exact B7 I (ih j x y ex ey) rx ry (by rw[E8];lia)
  have e1:=RcAt.tuples (A:=A) (e:=fun _=>true) (show s.heap.IsTuple a its.toArray from p1) (show s.heap.IsTuple b its2.toArray from p2) (by lia) he
  have e2:=RcNeAt.tuples (A:=A) (e:=fun _=>true) (show s.heap.IsTuple a its.toArray from p1) (show s.heap.IsTuple b its2.toArray from p2) (by lia) he
  rw[bJ,show(its.toArray.size==its2.toArray.size)=true by simp;lia]at e1 e2
  exact⟨e1,e2⟩
def Dz(K:Frag)(b:Bool):R2:=fun x y H Q=>∃n,n<=32/\IJ K H n x y/\Q (.bl b) H
theorem lB{k:Nat}(hr:GA k X.A):zw X (compareOp .NotEq) (Dz X.K false):=by
 intro tx s σ H x y v u Q I rx ry h;obtain⟨n,hn,e,q⟩:=h
 exact(Bw I e rx ry (by have:=hr.un;lia)).2 _ _ _ _ ⟨.bl _,H,I,rfl,q⟩
end
section
variable(K:Frag)(C:Addr)
def oq:Sp:=fun vs H Q _=>∃(p ta hk bd lg:Addr) (n:Nat) (D:Dr),vs=[.ref p]/\Gg K C H p ta hk bd lg n D/\
 ∀t (as:List Addr) H',Ge H H'->Gu K H' t (as.map V.ref)->as.length=D.kss.length->(∀(i:Nat) (a:Addr) (ks:List Int),as[i]? =some a->D.kss[i]? =some ks->Gu K H' a (ks.map V.int))->Q (.ref t) H'
def i4:Sp:=fun vs H Q _=>∃(p ta hk bd lg:Addr) (n:Nat) (D:Dr),vs=[.ref p]/\Gg K C H p ta hk bd lg n D/\Q (.int D.least) H
def cP:Sp:=fun vs H Q _=>∃(p ta hk bd lg:Addr) (n:Nat) (D:Dr),vs=[.ref p]/\Gg K C H p ta hk bd lg n D/\∀t H',Ge H H'->H' t=some (.tup [.int D.near,.int D.far,.int D.most])->Q (.ref t) H'
end
structure Ac(K:Frag)(mg:Gc)(x:Str)(st:Stmt):Prop where
 ex:∃(f:Addr) (fd:FuncData),IM K x x st f fd/\mg x=some (.ref f)
structure Iu(K:Frag)(C:Addr)(m Lo:Str)(st:Stmt):Prop where
 ex:∃(f:Addr) (fd:FuncData),IM K m Lo st f fd/\IZ K C m f
section
variable{K:Frag}{mg:Gc}{h:Heap}{x m Lo:Str}{st:Stmt}{C f:Addr}{oc:Value}{od an:Option Addr}{osl:Array (Option Value)}{kV doc pm cdv ct:Value}{ps:List Str}
theorem yd(X:K.In h)(G:h.Ns mainGlobals mg)(a:W.nsIn K mainGlobals x=some (some (.ref f)))(l:K.lookup f=some ⟨oc,od,.func (W.fnOf x x (Qw st) (zH st) (ql st) .none kV doc pm an cdv ct),osl⟩)(c:W.codeIn K cdv x=true)(k:W.keepIn K (.ref f)=true):Ac K mg x st:=⟨f,_,lh l c k,EO X G a⟩
theorem AW(a:W.findIn K (.ref C) m=some (some (.ref f)))(i:W.isFn K (.ref f)=true)(l:K.lookup f=some ⟨oc,od,.func (W.fnOf m Lo (Qw st) (zH st) (ql st) .none kV doc pm an cdv ct),osl⟩)(c:W.codeIn K cdv Lo=true)(k:W.keepIn K (.ref f)=true):Iu K C m Lo st:=⟨f,_,lh l c k,a,i,k⟩
theorem DQ{p:List Value->Prop}(h:p []):∀us:List Value,us.length=0->p us:=by
 intro us hl;rw[List.eq_nil_of_length_eq_zero hl];exact h
theorem oz{n:Nat}{p:List Value->Prop}(h:∀a us,us.length=n->p (a::us)):∀us:List Value,us.length=n+1->p us:=by
 intro us hl;cases us with
 |nil=>cases hl
 |cons a r=>exact h a r (Nat.succ.inj hl)
theorem Qz{p:List Value->Prop}(h:∀a0,p [a0]):∀us:List Value,us.length=1->p us:=oz fun a=>DQ (p:=fun r=>p (a::r)) (h a)
theorem ZP{p:List Value->Prop}(h:∀a0 a1,p [a0,a1]):∀us:List Value,us.length=2->p us:=oz fun a=>Qz (p:=fun r=>p (a::r)) (h a)
theorem fx{p:List Value->Prop}(h:∀a0 a1 a2,p [a0,a1,a2]):∀us:List Value,us.length=3->p us:=oz fun a=>ZP (p:=fun r=>p (a::r)) (h a)
theorem iL{p:List Value->Prop}(h:∀a0 a1 a2 a3,p [a0,a1,a2,a3]):∀us:List Value,us.length=4->p us:=oz fun a=>fx (p:=fun r=>p (a::r)) (h a)
theorem Dk{p:List Value->Prop}(h:∀a0 a1 a2 a3 a4,p [a0,a1,a2,a3,a4]):∀us:List Value,us.length=5->p us:=oz fun a=>iL (p:=fun r=>p (a::r)) (h a)
theorem Do{p:List Value->Prop}(h:∀a0 a1 a2 a3 a4 a5,p [a0,a1,a2,a3,a4,a5]):∀us:List Value,us.length=6->p us:=oz fun a=>Dk (p:=fun r=>p (a::r)) (h a)
theorem Ac.at(a:Ac K mg x st)(b:∀(kV doc pm:Value) (an:Option Addr) (cdv ct:Value) (us:List Value),us.length=ps.length->bindArgs (W.fnOf x x (Qw st) (zH st) (ql st) .none kV doc pm an cdv ct) ⟨us,[]⟩=pure (ps.zip us)):At K mg x st ps:=by
 obtain⟨_,_,F,m⟩:=a.ex;exact C6 F m (F.binds b)
theorem Iu.at(a:Iu K C m Lo st)(b:∀(kV doc pm:Value) (an:Option Addr) (cdv ct:Value) (us:List Value),us.length=ps.length->bindArgs (W.fnOf m Lo (Qw st) (zH st) (ql st) .none kV doc pm an cdv ct) ⟨us,[]⟩=pure (ps.zip us)):Io K C m Lo st ps:=by
 obtain⟨_,_,F,m⟩:=a.ex
 exact⟨_,_,F,m,F.binds b⟩
end
structure Ps where
 nm:Str
 age:Int
 ds:List Int
def HV(H:Hp)(p:Addr)(P:Ps):Prop:=GK H p P.nm P.age P.ds
structure Iw(P:Ps):Prop where
 nm:Qy P.nm
 l:P.ds.length=5
 dg:zC P.ds
def dw(D:Dr)(P:Ps):Option (Int×Int):=if QX D P.age=true then Zj D.t (Qx D P.age) P.nm P.ds else none
def rZ(D:Dr)(P R:Ps):Str×Int×Kw:=match dw D P with
 |none=>("press",0,D.kn)
 |some (c,_)=>match dw D R with
  |none=>("press",1,D.kn)
  |some (c',_)=>if R.nm=P.nm/\R.age=P.age/\c'=c+1 then(match D.kn.lookup P.nm with
    |some _=>("known",0,D.kn)
    |none=>if(D.kn.length:Int)<D.most then("",0,ze D.kn P.nm ⟨P.age,c',none⟩)else("full",0,D.kn))
   else("press",1,D.kn)
def ly(c:Nat):Bool:=decide (97<=c)&&decide (c<=122)
def Cg(z:Str):Bool:=z.cps.toList.all ly
def xi(z:Str):Bool:=decide (1<=z.length)&&decide (z.length<=8)&&Cg z
theorem I0{z:Str}:xi z=true↔Qy z:=by
 unfold xi Cg Qy;rw[Jz,Jz,Fw,Fw,E5];have zl:z.length=z.cps.toList.length:=rfl
 rw[zl];constructor
 ·rintro⟨⟨h1,h2⟩,h3⟩
  refine⟨fun c hc=>?_,h1,h2⟩
  have:=h3 c hc
  unfold ly at this;rw[Jz,Fw,Fw]at this;exact this
 ·rintro⟨h3,h1,h2⟩
  refine⟨⟨h1,h2⟩,fun c hc=>?_⟩
  unfold ly;rw[Jg (h3 c hc).1,Jg (h3 c hc).2];rfl
theorem gm{a b:Nat}:([a]:List Nat)<[b]↔a<b:=by
 rw[List.cons_lt_cons_iff];constructor
 ·rintro(h|⟨_,h⟩)
  ·exact h
  ·exact absurd h (List.not_lt_nil _)
 ·exact .inl
theorem p8(c:Nat):(!decide ((⟨#[c]⟩:Str).cps.toList<("a":Str).cps.toList))=decide (97<=c)/\(!decide (("z":Str).cps.toList<(⟨#[c]⟩:Str).cps.toList))=decide (c<=122):=by
 have e1:("a":Str).cps.toList=[97]:=by decide +kernel
 have e2:("z":Str).cps.toList=[122]:=by decide +kernel
 rw[e1,e2]
 show(!decide ([c]<[97]))=_/\(!decide ([122]<[c]))=_
 constructor
 ·by_cases h:97<=c
  ·rw[Jg h,Jn (by rw[gm];lia)];rfl
  ·rw[Jn h,Jg (by rw[gm];lia)];rfl
 ·by_cases h:c<=122
  ·rw[Jg h,Jn (by rw[gm];lia)];rfl
  ·rw[Jn h,Jg (by rw[gm];lia)];rfl
theorem li{H:Hp}{x:V}{t:String}(h:kd H x=some t):IW H x t:=by
 cases x with
 |non=>cases h;exact .non
 |bl b=>cases h;exact .bl b
 |int i=>cases h;exact .int i
 |str x=>cases h;exact .str x
 |byt b=>cases h
 |flt b=>cases h
 |ty b=>cases h
 |ref a=>
  rcases f8 h with⟨xs,e,rfl⟩|⟨xs,e,rfl⟩
  ·exact .lst e
  ·exact .tup (.inl e)
def Dp(H:Hp)(x:V)(b:Bool):Prop:=(∃z,x= .str z/\z.cps.all (· <128)=true/\z.length<=100/\b=xi z)\/(∃t,kd H x=some t/\zk t "str"=false/\b=false)
def Li(H:Hp)(x:V)(b:Bool):Prop:=(∃(p:Addr) (ds:List V),x= .ref p/\H p=some (.tup ds)/\ds.length<=100/\(∀v∈ds,∃t,kd H v=some t)/\b=(decide (ds.length=5)&&ds.all cm))\/(∃t,kd H x=some t/\zk t "tuple"=false/\b=false)
inductive Le (H:Hp) (x:V):Bool->Prop where
 |kd {t:String} (h:kd H x=some t) (n:zk t "tuple"=false):Le H x false
 |len {a:Addr} {xs:List V} (e:x= .ref a) (h:H a=some (.tup xs)) (l:xs.length<=100) (n:xs.length≠3):Le H x false
 |tup {a:Addr} {n y c:V} {bn bc:Bool} {ty:String} (e:x= .ref a) (h:H a=some (.tup [n,y,c])) (hn:Dp H n bn) (hy:L3.kd H y=some ty) (hc:Li H c bc):Le H x (bn&&fP y&&bc)
theorem Li.same{H H':Hp}{x:V}{b:Bool}(s:Ge H H')(h:Li H x b):Li H' x b:=h.elim (fun⟨p,ds,e,h1,h2,h3,h4⟩=> .inl ⟨p,ds,e,s _ _ h1,h2,(fun v hv=>let⟨t,ht⟩:=h3 v hv;⟨t,eY s ht⟩),h4⟩) (fun⟨t,h1,h2⟩=> .inr ⟨t,eY s h1,h2⟩)
def Tg(H:Hp)(x:V)(o:Option Ps):Prop:=match o with
 |none=>Le H x false
 |some P=>∃pr,x= .ref pr/\HV H pr P/\Iw P
theorem Tg.b{H:Hp}{x:V}{o:Option Ps}(h:Tg H x o):Le H x o.isSome:=by
 cases o with
 |none=>exact h
 |some P=>
  obtain⟨pr,e,⟨pc,h1,h2⟩,ok⟩:=h;have t:=Le.tup (bn:=true) (bc:=true) e h1 (.inl ⟨P.nm,rfl,kU ok.nm,by have:=ok.nm.2.2;show P.nm.cps.toList.length<=100;lia,(I0.mpr ok.nm).symm⟩) (ty:="int") rfl (.inl ⟨pc,_,rfl,h2,by rw[Je,ok.l];decide,(fun v hv=>by obtain⟨i,_,rfl⟩:=JB.mp hv;exact⟨_,rfl⟩),by rw[Je,ok.l,vk ok.dg];rfl⟩)
  exact t
def iw:Sp:=fun vs H Q _=>∃x b,vs=[x]/\Dp H x b/\∀H',Ge H H'->Q (.bl b) H'
def ja:Sp:=fun vs H Q _=>∃x b,vs=[x]/\Li H x b/\∀H',Ge H H'->Q (.bl b) H'
def cj:Sp:=fun vs H Q _=>∃x b,vs=[x]/\Le H x b/\∀H',Ge H H'->Q (.bl b) H'
section
variable(K:Frag)(C:Addr)
def ir:Sp:=fun vs H Q _=>∃(p ta hk bd lg:Addr) (n:Nat) (D:Dr) (x:V) (o:Option Ps),vs=[.ref p,x]/\Gg K C H p ta hk bd lg n D/\Ip D/\Tg H x o/\∀y H',Ge H H'->cX H' y (o.bind (dw D))->Q y H'
end
theorem Mf.weak{P:Program}{w:World}{K:Frag}{mg:Gc}{base:Heap}{C:Addr}{m:Str}{ps:List Str}{k:Nat}{sp sp':Sp}(M:Mf P w K mg base C m ps k sp)(h:∀vs H Q E,sp' vs H Q E->sp vs H Q E):Mf P w K mg base C m ps k sp':=by
 obtain⟨f,fd,F,hm,hb⟩:=M.ex
 exact⟨f,fd,⟨fun vs H Q E q=>F.len vs H Q E (h vs H Q E q),fun A outer s H args us vs Q E hr e0 hb hv hs=>F.run A outer s H args us vs Q E hr e0 hb hv (h _ _ _ _ hs)⟩,hm,hb⟩
end L3
namespace L3
open PySem PySem.Spec PyProof.Rows L2
open Sem (wp)
section
variable{X:Cx}{tx:Gd}{σ:L2.St}{H:Hp}{s:Shared}
def vc(a1 a2:Addr):It:=
  ⟨fun i H=>∃xs ys x y,Rd H a1 (.lst xs)/\Rd H a2 (.lst ys)/\xs[i]? =some x/\ys[i]? =some y,
   fun i H v H'=>∃p x y,H p=none/\v= .ref p/\(∀xs,Rd H a1 (.lst xs)->xs[i]? =some x)/\(∀ys,Rd H a2 (.lst ys)->ys[i]? =some y)/\H'=Gh H p (.tup [x,y]),
   fun i H=>∃xs,Rd H a1 (.lst xs)/\xs.length=i⟩
theorem ua{P:Program}{w:World}{K:Frag}{elts:List Expr}{x1}{pos:Pos}(a1 a2 z TI TO i1 i2:Addr)(d1:TI≠z)(d2:TO≠z)(d3:i1≠z)(d4:i2≠z)(d5:TI≠TO)(d6:TI≠i1)(d7:TI≠i2)(d8:TO≠i1)(d9:TO≠i2)(d10:i1≠i2):
  Ig P w K (.Tuple elts x1 pos) (vc a1 a2) [z,TI,TO,i1,i2] z (fun i h=>IsZip h z TI TO .none/\IsPair h TI (.ref i1) (.ref i2)/\(∃a b,IsPair h TO a b)/\h.IsListIter i1 a1 i/\h.IsListIter i2 a2 i) where
 mem:=by simp
 obj:=fun i h st b hb=>by
  obtain⟨hz,hTI,⟨a,b',hTO⟩,⟨o1,ho1,_,hd1⟩,⟨o2,ho2,_,hd2⟩⟩:=st;simp only[Jk,Js,Jt]at hb;rcases hb with rfl|rfl|rfl|rfl|rfl
  ·exact⟨_,hz,fun v y=>by have y':Data.fields _=Data.cell v:=y;cases y'⟩
  ·exact⟨_,hTI,fun v y=>by have y':Data.seq _ _=Data.cell v:=y;cases y'⟩
  ·exact⟨_,hTO,fun v y=>by have y':Data.seq _ _=Data.cell v:=y;cases y'⟩
  ·exact⟨_,ho1,fun v y=>by rw[hd1]at y;cases y⟩
  ·exact⟨_,ho2,fun v y=>by rw[hd2]at y;cases y⟩
 keep:=fun i h h' st k=>by
  obtain⟨hz,hTI,⟨a,b',hTO⟩,h1,h2⟩:=st
  exact⟨k z (by simp) _ hz,k TI (by simp) _ hTI,⟨a,b',k TO (by simp) _ hTO⟩,h1.at fun o e=>k i1 (by simp) o e,h2.at fun o e=>k i2 (by simp) o e⟩
 item:=by
  intro X hP hw hK hc i tx s σ H E I hf st hg;subst hP hw hK;obtain⟨xs,ys,x,y,ha1,ha2,hx,hy⟩:=hg;obtain⟨its,rv,p,hz0⟩:=I.list (.inl ha1)
  obtain⟨its2,rv2,p2,hz2⟩:=I.list (.inl ha2)
  obtain⟨u,hu,ru⟩:=rv.get hx;obtain⟨u2,hu2,ru2⟩:=rv2.get hy;obtain⟨hz,hTI,⟨a,b',hTO⟩,h1,h2⟩:=st;have n1:∀c∈[z,TI,TO,i1,i2],a1≠c:=fun c hc=>eG ha1 (hf c hc).1
  have n2:∀c∈[z,TI,TO,i1,i2],a2≠c:=fun c hc=>eG ha2 (hf c hc).1
  have Z:Ic z TI TO i1 i2 [i1,a1] [i2,a2]:=⟨d1,d2,d3,d4,d5,d6,d7,d8,d9,d10,by simp [Ne.symm d3,Ne.symm (n1 z (by simp))],by simp [Ne.symm d4,Ne.symm (n2 z (by simp))],by simp [d8,Ne.symm (n1 TO (by simp))],by simp [d9,Ne.symm (n2 TO (by simp))],by simp [Ne.symm d10,Ne.symm (n1 i2 (by simp))],by simp [d10,Ne.symm (n2 i1 (by simp))]⟩
  have hil:i<its.toArray.size:=by have:=(Jv.mp hu).1;simpa using this
  have hil2:i<its2.toArray.size:=by have:=(Jv.mp hu2).1;simpa using this
  have hT:s.TypeIs (.ref z) "zip":=⟨_,hz,rfl⟩
  unfold pyNext;refine Ja (Ez (wpAny_callSpecial?_slot (name:=Str.ofString "__next__") hT EW
   (JS EW hT FN
    (iM (Draws.list (A:=X.A.in1) (I.ok.hd hc) i1 a1 (n1 i1 (by simp)) its.toArray) (Draws.list (A:=X.A.in1) (I.ok.hd hc) i2 a2 (n2 i2 (by simp)) its2.toArray) Z hz hTI hTO ⟨h1,p.isList⟩ ⟨h2,p2.isList⟩ hil hil2
     fun v v2 h' tk hv hv2 ho hTO' q1 q2 ht hk=>Jb ⟨_,rfl,?_⟩) (FO _))))
  have ev:v=u:=by
   have hv':its[i]? =some v:=by simpa using hv
   rw[hu]at hv';exact(Jy hv').symm
  have ev2:v2=u2:=by
   have hv':its2[i]? =some v2:=by simpa using hv2
   rw[hu2]at hv';exact(Jy hv').symm
  subst ev ev2;refine wpAny_letOwnedTupleGo_zip ho fun h'' hz'' hs''=>?_
  have lt:∀c∈[z,TI,TO,i1,i2],c<s.heap.objs.size:=fun c hc=>by
   simp only[Jk,Js,Jt]at hc;rcases hc with rfl|rfl|rfl|rfl|rfl
   ·exact Jh hz
   ·exact Jh hTI
   ·exact Jh hTO
   ·obtain⟨_,e,_⟩:=h1;exact Jh e
   ·obtain⟨_,e,_⟩:=h2;exact Jh e
  have hTI':IsPair h'' TI (.ref i1) (.ref i2):=hs''.extBut _ _ d1 (hk _ _ d1 d5 d6 d7 hTI)
  have hTO'':IsPair h'' TO v v2:=hs''.extBut _ _ d2 hTO'
  have h1':h''.IsListIter i1 a1 (i+1):=q1.1.extBut hs''.extBut d3
  have h2':h''.IsListIter i2 a2 (i+1):=q2.1.extBut hs''.extBut d4
  refine⟨.ref s.heap.objs.size,Gh H s.heap.objs.size (.tup [x,y]),?_,rfl,⟨_,x,y,I.hok.fresh (Jf _),rfl,fun zs hy'=>by rw[I.list_inj (.inl hy') (.inl ha1)];exact hx,fun zs hy'=>by rw[I.list_inj (.inl hy') (.inl ha2)];exact hy,rfl⟩,⟨hz'',hTI',⟨_,_,hTO''⟩,h1',h2'⟩,?_⟩
  ·show L2.Gi X tx σ _ {s with heap:=h'',toks:=tk}
   refine eO (s:=s) (its:=[v,v2]) I (ch:=[z,TI,TO,i1,i2]) (fun b o hb q=>?_) hf (fun b hb=>?_) (Jf _) (by show 2<=sizeLine;decide) (.cons ru (.cons ru2 .nil)) ?_
   ·simp only[Jk,Js,Jt,not_or]at hb
    exact hs''.extBut b o hb.1 (hk b o hb.1 hb.2.2.1 hb.2.2.2.1 hb.2.2.2.2 q)
   ·simp only[Jk,Js,Jt]at hb
    rcases hb with rfl|rfl|rfl|rfl|rfl
    ·exact⟨_,hz''⟩
    ·exact⟨_,hTI'⟩
    ·exact⟨_,hTO''⟩
    ·obtain⟨o,e,_⟩:=h1';exact⟨o,e⟩
    ·obtain⟨o,e,_⟩:=h2';exact⟨o,e⟩
   ·exact⟨_,hs''.extBut _ _ (JX (lt z (by simp))) ht,rfl,_,rfl⟩
  ·intro b hb
   rw[qi (Jm (lt b hb))]
   exact(hf b hb).1
 done:=by
  intro X hP hw hK hc i tx s σ H E I hf st hg;subst hP hw hK;obtain⟨xs,ha1,hx⟩:=hg;obtain⟨its,rv,p,hz0⟩:=I.list (.inl ha1)
  obtain⟨hz,hTI,⟨a,b',hTO⟩,h1,h2⟩:=st;have n1:∀c∈[z,TI,TO,i1,i2],a1≠c:=fun c hc=>eG ha1 (hf c hc).1
  have Z:Ic z TI TO i1 i2 [i1,a1] [i2]:=⟨d1,d2,d3,d4,d5,d6,d7,d8,d9,d10,by simp [Ne.symm d3,Ne.symm (n1 z (by simp))],by simp [Ne.symm d4],by simp [d8,Ne.symm (n1 TO (by simp))],by simp [d9],by simp [Ne.symm d10,Ne.symm (n1 i2 (by simp))],by simp [d10]⟩
  have hl:its.toArray.size=i:=by rw[Jr,<- rv.length];exact hx
  have hT:s.TypeIs (.ref z) "zip":=⟨_,hz,rfl⟩
  unfold pyNext;refine Ja (Ez (wpAny_callSpecial?_slot (name:=Str.ofString "__next__") hT EW
   (JS EW hT FN
    (lC (Draws.list (A:=X.A.in1) (I.ok.hd hc) i1 a1 (n1 i1 (by simp)) its.toArray) Z hz hTI ⟨by rw[hl];exact h1,p.isList⟩ fun h' e hk he=>?_) (FO _))))
  obtain⟨o,ho,hcl⟩:=he;refine Ja (EJ (T:="StopIteration") (b:=true) ⟨o,ho,hcl⟩ Fx ?_)
  refine Jb ⟨rfl,nP (t':=s.toks) I (ch:=[z,i1]) (fun b o hb e=>?_) (fun b hb=>hf b ?_)⟩
  ·simp only[Jk,Js,Jt,not_or]at hb
   exact hk b o hb.1 hb.2 e
  ·simp only[Jk,Js,Jt]at hb
   rcases hb with rfl|rfl<;>simp
 self:=fun _ _ _ _ _ st h=>FP st.1 h
def wT(ta:TA):TI:=fun σ H R=>ta σ H fun vs H1=>∃a1 a2 xs ys,vs=[.ref a1,.ref a2]/\Rd H1 a1 (.lst xs)/\Rd H1 a2 (.lst ys)/\R (vc a1 a2) H1
theorem Ae{a b:Expr}{ta:TA}{p pos:Pos}{elts:List Expr}{x1}{tpos:Pos}(hg:Gl X "zip")(hm:X.mg "zip"=none)(ha:PA X [a,b] ta)(h1:zU a=true:=by rfl)(h2:zU b=true:=by rfl):
  PI X (.Tuple elts x1 tpos) (.Call (.Name "zip" p) [a,b] [] pos) (wT ta):=by
 intro tx s σ H R I h;have hs2:starEach [b] X.env=[(false,eval b X.env)]:=Ze h2
 refine Call_ (QZ I hg hm PyProof.Rows.boot_zip (EU (qC (ha pos tx s σ H _ I h) fun us s1 zq=>?_) (by rw[Ze h1,hs2]) (by rw[hs2];rfl)))
 obtain⟨vs,H1,I1,r1,q1⟩:=zq;obtain⟨a1,a2,xs,ys,e,e1,e2,q⟩:=q1;subst e;obtain⟨u,v,rfl,ru,rv⟩:=r1.two;cases ru;cases rv;obtain⟨its,r1',p1,hz⟩:=I1.list (.inl e1)
 obtain⟨its2,r2',p2,hz2⟩:=I1.list (.inl e2)
 have ad:∀(n i j:Nat),i≠j->n+i≠n+j:=fun n i j h=>by lia
 refine call_zip_2 p1.isList p2.isList fun h' hz hTI hTO h1 h2 _ hk=>FP hz ?_
 refine⟨s1.heap.objs.size+4,[s1.heap.objs.size+4,s1.heap.objs.size+2,s1.heap.objs.size+3,s1.heap.objs.size,s1.heap.objs.size+1],_,_,H1,rfl,I1.kept (t':=s1.toks) hk,
  ua a1 a2 (s1.heap.objs.size+4) (s1.heap.objs.size+2) (s1.heap.objs.size+3) s1.heap.objs.size (s1.heap.objs.size+1) (ad _ 2 4 (by decide)) (ad _ 3 4 (by decide)) (ad _ 0 4 (by decide)) (ad _ 1 4 (by decide)) (ad _ 2 3 (by decide)) (ad _ 2 0 (by decide)) (ad _ 2 1 (by decide)) (ad _ 3 0 (by decide)) (ad _ 3 1 (by decide)) (ad _ 0 1 (by decide)),⟨hz,hTI,⟨_,_,hTO⟩,h1,h2⟩,fun b hb=>?_,q⟩
 have hb':s1.heap.objs.size<=b:=by
  simp only[Jk,Js,Jt]at hb;rcases hb with rfl|rfl|rfl|rfl|rfl
  ·exact EK _ 4
  ·exact EK _ 2
  ·exact EK _ 3
  ·exact Jf _
  ·exact EK _ 1
 exact I1.fpOk hb' (I1.hok.fresh hb')
end
theorem rN{K:Frag}{js:List Nat}{te:TE}{σ:L2.St}{H:Hp}{Q:VK}{a1 a2:Addr}{xs ys:List V}(hl:xs.length=ys.length)(hn:xs.length<=sizeLine)(Pv:Nat->List V->Hp->Prop)(h0:Pv 0 [] H)
  (hk:∀i zs H,Pv i zs H->Rd H a1 (.lst xs)/\Rd H a2 (.lst ys))
  (hs:∀i zs H p x y,xs[i]? =some x->ys[i]? =some y->zs.length=i->Pv i zs H->H p=none->te (some x::some y::ZH js σ) (Gh H p (.tup [x,y])) fun v H3=>Pv (i+1) (zs++[v]) H3)
  (hd:∀zs H,zs.length=xs.length->Pv xs.length zs H->∀p,H p=none->Q (.ref p) (Gh H p (.lst zs))):
  jK 2 js (kZ K 2 (eP (QN 0) (eP (QN 1) pH))) te σ Q (vc a1 a2) H:=by
 refine⟨fun i m zs τ H=>m=xs.length-i/\i<=xs.length/\zs.length=i/\Pv i zs H/\∃o o',τ=o::o'::ZH js σ,⟨xs.length,by simp,JI _,rfl,h0,none,none,rfl⟩,?_⟩
 rintro i m zs τ H ⟨rfl,hi,hzl,p,o,o',rfl⟩
 obtain⟨e1,e2⟩:=hk i zs H p
 by_cases hlt:i<xs.length
 ·have hlt2:i<ys.length:=by lia
  refine .inr ⟨⟨xs,ys,xs[i],ys[i],e1,e2,by simp [hlt],by simp [hlt2]⟩,by lia,fun v H' y=>?_⟩
  obtain⟨pp,x,y,hp,rfl,hx,hy,rfl⟩:=y;refine⟨pp,_,rfl,Gu.of qc,rfl,_,_,rfl,_,_,rfl,rfl,?_⟩
  exact⟨fun v H3=>Pv (i+1) (zs++[v]) H3,fun v H3 p3=>⟨xs.length-(i+1),by lia,rfl,hlt,by simp [hzl],p3,_,_,rfl⟩,hs i zs _ pp x y (hx xs e1) (hy ys e2) hzl p hp⟩
 ·have e:i=xs.length:=by lia
  subst e;exact .inl ⟨⟨xs,e1,rfl⟩,hd zs H hzl p⟩
theorem Ay{X:Cx}{a b:Expr}{ta:TA}{p pos:Pos}{elts:List Expr}{x1}{tpos:Pos}(hg:Gl X "zip")(hm:X.mg "zip"=none)(ha:QA X [a,b] ta)(h1:zU a=true:=by rfl)(h2:zU b=true:=by rfl):
  QI X (.Tuple elts x1 tpos) (.Call (.Name "zip" p) [a,b] [] pos) (wT ta):=⟨Ae hg hm ha.h h1 h2⟩
inductive IS (H:Hp):Nat->V->V->Prop where
 |int (n:Nat) (i:Int):IS H n (.int i) (.int i)
 |str (n:Nat) (x:Str):IS H n (.str x) (.str x)
 |non (n:Nat):IS H n .non .non
 | tup {n:Nat} {a b:Addr} {xs ys:List V} (h1:Rd H a (.tup xs)) (h2:Rd H b (.tup ys)) (hl:xs.length=ys.length) (hz:xs.length<=sizeLine)
   (hi:∀(i:Nat) (x y:V),xs[i]? =some x->ys[i]? =some y->IS H n x y):IS H (n+1) (.ref a) (.ref b)
 | lst {n:Nat} {a b:Addr} {xs ys:List V} (h1:H a=some (.lst xs)) (h2:H b=some (.lst ys)) (hl:xs.length=ys.length) (hz:xs.length<=sizeLine)
   (hi:∀(i:Nat) (x y:V),xs[i]? =some x->ys[i]? =some y->IS H n x y):IS H (n+1) (.ref a) (.ref b)
theorem IS.same{H H':Hp}(s:Ge H H'):∀{n:Nat} {x y:V},IS H n x y->IS H' n x y:=fun h=>by
 induction h with
 |int n i=>exact .int n i
 |str n x=>exact .str n x
 |non n=>exact .non n
 |tup h1 h2 hl hz _ ih=>exact .tup (Rd.same s h1) (Rd.same s h2) hl hz ih
 |lst h1 h2 hl hz _ ih=>exact .lst (s _ _ h1) (s _ _ h2) hl hz ih
def Ce(n:Nat):Sp:=fun vs H Q _=>∃x y,vs=[x,y]/\IS H n x y/\∀H',Ge H H'->Q (.bl true) H'
end L3
namespace L3
open PySem PySem.Spec PyProof.Rows L2
def IU(K:Frag)(H:Hp)(b:Addr)(kss:List (List Int)):Prop:=∃as:List Addr,Gu K H b (as.map V.ref)/\as.length=kss.length/\∀(i:Nat) (a:Addr) (ks:List Int),as[i]? =some a->kss[i]? =some ks->Gu K H a (ks.map V.int)
theorem IU.same{K:Frag}{H H':Hp}{b:Addr}{kss:List (List Int)}(h:IU K H b kss)(s:Ge H H'):IU K H' b kss:=by
 obtain⟨as,e,l,r⟩:=h
 exact⟨as,Ge.sqt s e,l,fun i a ks e1 e2=>Ge.sqt s (r i a ks e1 e2)⟩
theorem IU.upd{K:Frag}{C p dx:Addr}{H:Hp}{b:Addr}{kss:List (List Int)}{fs:List (Str×V)}{o:HO}(h:IU K H b kss)(e:H p=some (.ins C dx fs)):IU K (Gh H p o) b kss:=by
 obtain⟨as,eb,l,r⟩:=h
 exact⟨as,eT e eb,l,fun i a ks e1 e2=>eT e (r i a ks e1 e2)⟩
theorem DG{X:Cx}{y1 y2 y3:Str}{c1 c2 c3:Addr}(h1:X.env.cells.lookup y1=some c1)(h2:X.env.cells.lookup y2=some c2)(h3:X.env.cells.lookup y3=some c3):
  ∀u e,([(y1,c1),(y2,c2),(y3,c3)]:List (Str×Addr)).lookup u=some e->X.env.cells.lookup u=some e:=fQ h1 (fQ h2 (fQ h3 yX))
theorem DA{X:Cx}{scope:Scope}{y1 y2 y3:Str}{j1 j2 j3:Nat}(kind:scope.kind= .function)(names:∀x∈scope.names,x.2= .local->scope.names.lookup x.1=some .local)(nocell:∀x∈scope.names,x.2≠ .cell)
  (free:∀x∈scope.names,x.2= .free->x.1∈([y1,y2,y3]:List Str))(a1:X.N[j1]? =some y1)(a2:X.env.kindOf y1=some .cell)(a3:(relabel scope X.env).names.lookup y1=some .cell)
  (b1:X.N[j2]? =some y2)(b2:X.env.kindOf y2=some .cell)(b3:(relabel scope X.env).names.lookup y2=some .cell)(c1:X.N[j3]? =some y3)(c2:X.env.kindOf y3=some .cell)(c3:(relabel scope X.env).names.lookup y3=some .cell):Hu X scope [y1,y2,y3] [j1,j2,j3]:=
 ⟨kind,names,nocell,free,rfl,fun i j' y' e1 e2=>by
  match i with
  |0=>cases e1;cases e2;exact⟨a1,a2,a3⟩
  |1=>cases e1;cases e2;exact⟨b1,b2,b3⟩
  |2=>cases e1;cases e2;exact⟨c1,c2,c3⟩
  |i+3=>simp at e1⟩
inductive Rw where
 |learn (P R:Ps)
 |forget (nm:Str)
 |turn (ks:List Int)
 |close (age:Int)
 |hear (P:Ps) (ans:List V)
def mZ:V->Prop
 | .int _=>True
 | .str _=>True
 |_=>False
def Iq(H:Hp)(a:Addr):Rw->Prop
 | .learn P R=>∃p1 p2,Rd H a (.tup [.str "learn",.ref p1,.ref p2])/\HV H p1 P/\HV H p2 R/\Iw P/\Iw R
 | .forget nm=>Rd H a (.tup [.str "forget",.str nm])
 | .turn ks=>∃k,Rd H a (.tup [.str "turn",.ref k])/\Rd H k (.tup (ks.map V.int))/\ks.length<=8
 | .close age=>Rd H a (.tup [.str "close",.int age])
 | .hear P ans=>∃p q,Rd H a (.tup [.str "hear",.ref p,.ref q])/\HV H p P/\Iw P/\H q=some (.tup ans)/\ans.length<=3/\∀v∈ans,mZ v
def G1(H:Hp)(rs:List Addr)(L:List Rw):Prop:=rs.length=L.length/\∀(i:Nat) (a:Addr) (r:Rw),rs[i]? =some a->L[i]? =some r->Iq H a r
def Ik(H:Hp)(lg:Addr)(L:List Rw):Prop:=∃rs:List Addr,H lg=some (.lst (rs.map V.ref))/\G1 H rs L
def Ir(H:Hp)(t:Addr)(L:List Rw):Prop:=∃rs:List Addr,Rd H t (.tup (rs.map V.ref))/\G1 H rs L
section
variable{S:List Addr}{H H':Hp}{a lg t:Addr}{r:Rw}{rs:List Addr}{L:List Rw}
theorem Iq.mv(m:Mv S H H')(n:NT S H)(h:Iq H a r):Iq H' a r:=by
 cases r with
 |learn P R=>obtain⟨p1,p2,h1,h2,h3,h4⟩:=h;exact⟨p1,p2,m.rd n h1,GK.mv m n h2,GK.mv m n h3,h4⟩
 |forget nm=>exact m.rd n h
 |turn ks=>obtain⟨k,h1,h2,h3⟩:=h;exact⟨k,m.rd n h1,m.rd n h2,h3⟩
 |close age=>exact m.rd n h
 |hear P ans=>obtain⟨p,q,h1,h2,h3,h4,h5⟩:=h;exact⟨p,q,m.rd n h1,GK.mv m n h2,h3,m.tup n h4,h5⟩
theorem G1.mv(m:Mv S H H')(n:NT S H)(h:G1 H rs L):G1 H' rs L:=⟨h.1,fun i a r e1 e2=>(h.2 i a r e1 e2).mv m n⟩
theorem Ik.mv(m:Mv S H H')(n:NT S H)(hl:lg∉S)(h:Ik H lg L):Ik H' lg L:=by
 obtain⟨rs,e,r⟩:=h
 exact⟨rs,m _ _ hl e,r.mv m n⟩
theorem Ir.mv(m:Mv S H H')(n:NT S H)(h:Ir H t L):Ir H' t L:=by
 obtain⟨rs,e,r⟩:=h
 exact⟨rs,m.rd n e,r.mv m n⟩
theorem dh:NT [] H:=fun c h=>nomatch h
theorem G1.same(s:Ge H H')(h:G1 H rs L):G1 H' rs L:=h.mv (S:=[]) s.mv dh
theorem Ik.same(s:Ge H H')(h:Ik H lg L):Ik H' lg L:=h.mv (S:=[]) s.mv dh (fun z=>nomatch z)
theorem Ir.same(s:Ge H H')(h:Ir H t L):Ir H' t L:=h.mv (S:=[]) s.mv dh
theorem G1.add(h:G1 H rs L)(hr:Iq H a r):G1 H (rs++[a]) (L++[r]):=by
 refine⟨by simp [h.1],fun i b q e1 e2=>?_⟩
 by_cases hi:i<rs.length
 ·rw[D8 hi]at e1
  rw[D8 (by rw[<- h.1];exact hi)]at e2
  exact h.2 i b q e1 e2
 ·rw[DY (by lia)]at e1
  rw[DY (by rw[<- h.1];lia),<- h.1]at e2
  cases e:i-rs.length with
  |zero=>rw[e]at e1 e2;cases e1;cases e2;exact hr
  |succ k=>rw[e]at e1;cases e1
theorem vG{n:Nat}{v:V}(h:mZ v):IP H n v v:=by
 cases v with
 |int i=>exact .int _ _
 |str i=>exact .str _ _
 |_=>exact h.elim
theorem HV.eqv{p q:Addr}{P:Ps}(h1:HV H p P)(h2:HV H q P)(o:Iw P):IP H 2 (.ref p) (.ref q):=by
 obtain⟨c1,a1,b1⟩:=h1;obtain⟨c2,a2,b2⟩:=h2;refine .tup (.inl a1) (.inl a2) rfl (by show 3<=sizeLine;decide) fun i x y ex ey=>?_
 match i,ex,ey with
 |0,ex,ey=>cases ex;cases ey;exact .str _ _
 |1,ex,ey=>cases ex;cases ey;exact .int _ _
 |2,ex,ey=>cases ex;cases ey;exact .ints (.inl b1) (.inl b2) (by rw[o.l];decide)
 |i+3,ex,ey=>cases ex
theorem Iq.eqv{b:Addr}(h1:Iq H a r)(h2:Iq H b r):IP H 3 (.ref a) (.ref b):=by
 cases r with
 |learn P R=>
  obtain⟨p1,p2,e1,e2,e3,o1,o2⟩:=h1;obtain⟨q1,q2,f1,f2,f3,_⟩:=h2;refine .tup e1 f1 rfl (by show 3<=sizeLine;decide) fun i x y ex ey=>?_
  match i,ex,ey with
  |0,ex,ey=>cases ex;cases ey;exact .str _ _
  |1,ex,ey=>cases ex;cases ey;exact HV.eqv e2 f2 o1
  |2,ex,ey=>cases ex;cases ey;exact HV.eqv e3 f3 o2
  |i+3,ex,ey=>cases ex
 |forget nm=>
  refine .tup (n:=2) h1 h2 rfl (by show 2<=sizeLine;decide) fun i x y ex ey=>?_
  match i,ex,ey with
  |0,ex,ey=>cases ex;cases ey;exact .str _ _
  |1,ex,ey=>cases ex;cases ey;exact .str _ _
  |i+2,ex,ey=>cases ex
 |turn ks=>
  obtain⟨k1,e1,e2,e3⟩:=h1;obtain⟨k2,f1,f2,_⟩:=h2;refine .tup (n:=2) e1 f1 rfl (by show 2<=sizeLine;decide) fun i x y ex ey=>?_
  match i,ex,ey with
  |0,ex,ey=>cases ex;cases ey;exact .str _ _
  |1,ex,ey=>cases ex;cases ey;exact .ints e2 f2 (by rw[JA];lia)
  |i+2,ex,ey=>cases ex
 |close age=>
  refine .tup (n:=2) h1 h2 rfl (by show 2<=sizeLine;decide) fun i x y ex ey=>?_
  match i,ex,ey with
  |0,ex,ey=>cases ex;cases ey;exact .str _ _
  |1,ex,ey=>cases ex;cases ey;exact .int _ _
  |i+2,ex,ey=>cases ex
 |hear P ans=>
  obtain⟨p1,p2,e1,e2,o1,e3,e4,e5⟩:=h1;obtain⟨q1,q2,f1,f2,_,f3,_⟩:=h2;refine .tup e1 f1 rfl (by show 3<=sizeLine;decide) fun i x y ex ey=>?_
  match i,ex,ey with
  |0,ex,ey=>cases ex;cases ey;exact .str _ _
  |1,ex,ey=>cases ex;cases ey;exact HV.eqv e2 f2 o1
  |2,ex,ey=>
   cases ex;cases ey
   refine .tup (n:=1) (.inl e3) (.inl f3) rfl (by rw[JA];lia) fun i x y ex ey=>?_
   rw[ex]at ey;cases ey
   exact vG (e5 _ (DV ex))
  |i+3,ex,ey=>cases ex
theorem Ir.eqv{t':Addr}(h1:Ir H t L)(h2:Ir H t' L)(hl:L.length<=2000):IP H 4 (.ref t) (.ref t'):=by
 obtain⟨rs,e1,l1,r1⟩:=h1;obtain⟨qs,e2,l2,r2⟩:=h2;refine .tup e1 e2 (by simp [l1,l2]) (by rw[Je,l1,JA];lia) fun i x y ex ey=>?_
 rw[Jo]at ex ey;cases q1:rs[i]? with
 |none=>rw[q1]at ex;cases ex
 |some a=>
  cases q2:qs[i]? with
  |none=>rw[q2]at ey;cases ey
  |some b=>
   rw[q1]at ex;rw[q2]at ey;cases ex;cases ey
   have hi:i<L.length:=by rw[<- l1];exact(Jv.mp q1).1
   exact(r1 i a _ q1 (Jj hi)).eqv (r2 i b _ q2 (Jj hi))
end
theorem _root_.L2.Gu.up{K:Frag}{H:Hp}{a:Addr}{xs:List V}(h:Gu [] H a xs):Gu K H a xs:=h.elim .inl fun⟨_,_,_,z,_⟩=>nomatch z
theorem _root_.L2.Gu.rd{H:Hp}{a:Addr}{xs:List V}(h:Gu [] H a xs):Rd H a (.tup xs):=h.elim id fun⟨_,_,_,z,_⟩=>nomatch z
theorem GC.up{K:Frag}{H:Hp}{a:Addr}{kss:List (List Int)}(h:GC [] H a kss):GC K H a kss:=by
 obtain⟨as,e,l,r⟩:=h
 exact⟨as,e,l,fun i a ks e1 e2=>(r i a ks e1 e2).up⟩
def n5(K:Frag)(C:Addr):Sp:=fun vs H Q _=>∃(p a b dx:Addr) (near far most:Int) (t:List Int) (kss:List (List Int)),vs=[.ref p,.ref a,.ref b,.int near,.int far,.int most]/\H p=some (.ins C dx [])/\Sq K H a (t.map V.int)/\GC [] H b kss/\kss.length<=8/\
 ∀ta hk bd lg H',H hk=none->H bd=none->H lg=none->Mv [p] H H'->Gg K C H' p ta hk bd lg 0 ⟨t,kss,near,far,most,0,[]⟩->GC [] H' hk kss->Q .non H'
def kJ(K:Frag)(C:Addr):Sp:=fun vs H Q _=>∃(p a b dx:Addr) (near far most:Int) (t:List Int) (kss:List (List Int)),vs=[.ref p,.ref a,.ref b,.int near,.int far,.int most]/\H p=some (.ins C dx [])/\Sq K H a (t.map V.int)/\IU [] H b kss/\kss.length<=8/\
 ∀ta hk bd lg H',H hk=none->H bd=none->H lg=none->Mv [p] H H'->Gg K C H' p ta hk bd lg 0 ⟨t,kss,near,far,most,0,[]⟩->GC [] H' hk kss->Q .non H'
structure Da where
 p:Addr
 ta:Addr
 hk:Addr
 bd:Addr
 lg:Addr
structure GN(K:Frag)(C:Addr)(H:Hp)(a:Da)(D:Dr)(L:List Rw):Prop where
 dr:Gg K C H a.p a.ta a.hk a.bd a.lg L.length D
 lo:Ik H a.lg L
 kr:GC [] H a.hk D.kss
section
variable{K:Frag}{C:Addr}{S:List Addr}{H H':Hp}{a:Da}{D:Dr}{L:List Rw}{r:Addr}{rw:Rw}{rs:List Addr}
theorem GN.mv(b:GN K C H a D L)(m:Mv S H H')(nt:NT S H)(hp:a.p∉S)(hh:a.hk∉S)(hb:a.bd∉S)(hl:a.lg∉S):GN K C H' a D L:=⟨b.dr.mv m nt hp hh hb hl,b.lo.mv m nt hl,GC.mv m nt hh b.kr⟩
theorem GN.same(b:GN K C H a D L)(s:Ge H H'):GN K C H' a D L:=⟨b.dr.same s,b.lo.same s,GC.same s b.kr⟩
theorem GN.push(b:Gg K C H a.p a.ta a.hk a.bd a.lg L.length D)(el:H a.lg=some (.lst (rs.map V.ref)))(ro:G1 H rs L)(kr:GC [] H a.hk D.kss)(hr:Iq H r rw):GN K C (Gh H a.lg (.lst (rs.map V.ref++[.ref r]))) a D (L++[rw]):=by
 have nt:NT [a.lg] H:=NT.one el trivial
 have e:=b.putL (r:=r) el (FG ro.1)
 rw[show L.length+1=(L++[rw]).length by simp]at e
 exact⟨e,⟨rs++[r],by rw[qc,JN];rfl,(ro.add hr).mv Mv.upd1 nt⟩,GC.mv Mv.upd1 nt (qX b.ne.symm) kr⟩
theorem wS{p ta hk bd lg:Addr}{n:Nat}{f0:List (qL×V)}(e:H bd=some (.dK f0))(b:Gg K C H p ta hk bd lg n D):hk≠bd:=by
 obtain⟨as,eh,_⟩:=b.ks;exact zY eh e (by intro z;cases z)
theorem Bf{p ta hk bd lg dx:Addr}{n:Nat}{f0:List (Str×V)}(e:H p=some (.ins C dx f0))(b:Gg K C H p ta hk bd lg n D):hk≠p:=by
 obtain⟨as,eh,_⟩:=b.ks;exact zY eh e (by intro z;cases z)
theorem Gg.dl{p ta hk bd lg:Addr}(b:Gg K C H p ta hk bd lg 0 D)(kr:GC [] H hk D.kss):GN K C H ⟨p,ta,hk,bd,lg⟩ D []:=by
 obtain⟨rs,e,l⟩:=id b.lo
 obtain rfl:rs=[]:=List.length_eq_zero_iff.mp (Nat.le_zero.mp l)
 exact⟨b,⟨[],e,rfl,fun i a r h=>by cases h⟩,kr⟩
end
inductive Dd where
 |learn (o1 o2:Option Ps)
 |forget (nm:Str)
 |turn (ks:List Int)
 |close (age:Int)
 |hear (o:Option Ps)
def Z7(D:Dr)(P:Ps):List V×Kw:=zo D P.nm P.age (Zj D.t (Qx D P.age) P.nm P.ds)
def DS(D:Dr):Dd->Option (Dr×Rw)
 | .learn (some P) (some R)=>if(rZ D P R).1="" then some ({D with kn:=(rZ D P R).2.2},.learn P R)else none
 | .learn _ _=>none
 | .forget nm=>if D.kn.lookup nm=none then none else some ({D with kn:=D.kn.filter fun p=>decide (p.1≠nm)},.forget nm)
 | .turn ks=>if D.kss.length<8 then some ({D with kss:=D.kss++[ks]},.turn ks)else none
 | .close age=>some ({D with least:=if age>D.least then age else D.least},.close age)
 | .hear (some P)=>some ({D with kn:=(Z7 D P).2},.hear P (Z7 D P).1)
 | .hear none=>none
section
variable(K:Frag)(C:Addr)(x:Xa)
def ox:Sp:=fun vs H Q _=>∃(a:Da) (D:Dr) (L:List Rw) (x:V) (o:Option Ps),vs=[.ref a.p,x]/\GN K C H a D L/\L.length<=1000/\Ip D/\Tg H x o/\
 (o=none->∀q H',Ge H H'->H' q=some (.tup [.str "held",.str "bad"])->Q (.ref q) H')/\
 ∀P,o=some P->∀pr q H',x= .ref pr->Mv [a.bd,a.lg] H H'->HV H' pr P->H' q=some (.tup (Z7 D P).1)->GN K C H' a {D with kn:=(Z7 D P).2} (L++[.hear P (Z7 D P).1])->Q (.ref q) H'
def DN(H:Hp)(k:Addr)(ks:List Int):Prop:=H k=some (.lst (ks.map V.int))\/Rd H k (.tup (ks.map V.int))
def jV:Sp:=fun vs H Q _=>∃(a:Da) (D:Dr) (L:List Rw) (age:Int),vs=[.ref a.p,.int age]/\GN K C H a D L/\L.length<=1000/\
 ∀D' r,DS D (.close age)=some (D',r)->∀H',Mv [a.p,a.lg] H H'->GN K C H' a D' (L++[r])->Q .non H'
def t7:Sp:=fun vs H Q _=>∃(a:Da) (D:Dr) (L:List Rw),vs=[.ref a.p]/\GN K C H a D L/\∀t H',Ge H H'->Ir H' t L->Q (.ref t) H'
def nR:Sp:=fun vs H Q _=>∃(a:Da) (D:Dr) (L:List Rw),vs=[.ref a.p]/\GN K C H a D L/\D.kss.length<=8/\
 ∀a' H',Ge H H'->H a'.p=none->H a'.hk=none->H a'.bd=none->H a'.lg=none->GN K C H' a' D L->Q (.ref a'.p) H'
end
theorem fw{X:Cx}:qY X (.type "tuple") (fun xs H Q=>∃kt ks,xs=[.ref kt]/\DN H kt ks/\∀t H2,Ge H H2->Rd H2 t (.tup (ks.map V.int))->Q (.ref t) H2):=by
 intro tx s σ H xs us Q I r h;obtain⟨kt,ks,e,h,q⟩:=h;refine qZ tx s σ H xs us Q I r ⟨kt,ks.map V.int,e,?_⟩
 rcases h with h|h
 ·exact .inl ⟨Gq.of h,fun t ht=>q t _ (Ge.upd ht) (.inl qc)⟩
 ·exact .inr ⟨.inl h,q kt _ (Ge.refl _) h⟩
section
variable{D:Dr}{P:Ps}
theorem jf(D:Dr)(nm:Str)(age:Int)(r:Option (Int×Int)):(zo D nm age r).1.length<=3/\∀v∈(zo D nm age r).1,mZ v:=by
 have two:∀a b:Str,([V.str a,.str b]:List V).length<=3/\∀v∈([V.str a,.str b]:List V),mZ v:=fun a b=>⟨by show 2<=3;decide,fun v hv=>by simp at hv;rcases hv with rfl|rfl<;>trivial⟩
 have three:∀(a b:Str) (i:Int),([V.str a,.str b,.int i]:List V).length<=3/\∀v∈([V.str a,.str b,.int i]:List V),mZ v:=fun a b i=>⟨by show 3<=3;decide,fun v hv=>by simp at hv;rcases hv with rfl|rfl|rfl<;>trivial⟩
 unfold zo;split
 ·exact two _ _
 ·split
  ·split
   ·exact two _ _
   ·split
    ·exact three _ _ _
    ·exact two _ _
  ·exact two _ _
theorem uy(D:Dr)(P:Ps):(Z7 D P).1.length<=3:=(jf ..).1
theorem vF(D:Dr)(P:Ps):∀v∈(Z7 D P).1,mZ v:=(jf ..).2
end
theorem ZD{t u:TS}{D:Ht}{σ:L2.St}{H:Hp}(G:L2.St->Hp->Prop)(h:∀D':Ht,D'.rt=D.rt->(∀σ' H',G σ' H'->D'.nx σ' H')->t D' σ H)(hG:∀σ' H',G σ' H'->u D σ' H'):fL t u D σ H:=h {D with nx:=u D} rfl hG
section
variable{K:Frag}{S:List Addr}{H H':Hp}
theorem IU.mv{b:Addr}{kss:List (List Int)}(h:IU K H b kss)(m:Mv S H H')(n:NT S H):IU K H' b kss:=by
 obtain⟨as,e,l,r⟩:=h
 exact⟨as,m.sqt n e,l,fun i a ks e1 e2=>m.sqt n (r i a ks e1 e2)⟩
end
structure HL(D:Dr)(e:Kb):Prop where
 a0:0<=e.age
 a1:e.age<D.kss.length
 l0:1<=e.last
 l1:e.last<4096
 w:∀x c,e.wt=some (x,c)->e.age<=x/\x<D.kss.length/\e.last+D.near<c/\c<=e.last+D.far/\0<=c/\c<4096
section
variable{K:Frag}{C:Addr}{H:Hp}{a:Da}{D:Dr}{L:List Rw}
def dS(a:Da):List Addr:=[a.p,a.hk,a.bd,a.lg]
theorem GN.nt(d:GN K C H a D L):NT (dS a) H:=fun c hc=>by
 obtain⟨dx,ep⟩:=id d.dr.ob;obtain⟨f0,hd,_⟩:=id d.dr.kb;obtain⟨as,eh,_⟩:=id d.dr.ks;obtain⟨rs,el,_⟩:=id d.lo;simp only[dS,Jk,Js,Jt]at hc;rcases hc with rfl|rfl|rfl|rfl
 ·exact⟨_,ep,trivial⟩
 ·exact⟨_,eh,trivial⟩
 ·exact⟨_,hd,trivial⟩
 ·exact⟨_,el,trivial⟩
theorem GN.outD{x:Addr}{xs:List (qL×V)}(d:GN K C H a D L)(hx:H x=some (.dK xs))(n1:x≠a.bd):x∉dS a:=fun hc=>by
 obtain⟨dx,ep⟩:=id d.dr.ob;obtain⟨as,eh,_⟩:=id d.dr.ks;obtain⟨rs,el,_⟩:=id d.lo;simp only[dS,Jk,Js,Jt]at hc;rcases hc with z|z|z|z
 ·rw[z,ep]at hx;cases hx
 ·rw[z,eh]at hx;cases hx
 ·exact n1 z
 ·rw[z,el]at hx;cases hx
end
theorem HL.mono{D D':Dr}{e:Kb}(k:HL D e)(h:D.kss.length<=D'.kss.length)(hn:D'.near=D.near:=by rfl)(hf:D'.far=D.far:=by rfl):HL D' e:=⟨k.a0,by have:=k.a1;lia,k.l0,k.l1,fun x c z=>by have:=k.w x c z;rw[hn,hf];lia⟩
theorem lz{D:Dr}{e:Kb}{age c:Int}(k:HL D e)(a0:e.age<=age)(a1:age<D.kss.length)(c0:0<=c)(c1:c<4096):HL D (zu D.near D.far e age c).2:=by
 have e0:=k.a0;have l0:=k.l0;have new:e.last<c->HL D ⟨age,c,none⟩:=fun h=>⟨by show 0<=age;lia,a1,by show 1<=c;lia,c1,fun x y z=>by cases z⟩
 unfold zu;split
 ·exact k
 ·split
  ·exact new (by lia)
  ·split
   ·split
    ·exact new (by lia)
    ·exact⟨k.a0,k.a1,k.l0,k.l1,fun x y z=>by cases z;exact⟨a0,a1,by show e.last+D.near<c;lia,by show c<=e.last+D.far;lia,c0,c1⟩⟩
   ·exact k
theorem mC{kn:Kw}{nm:Str}{e:Kb}(h:nm∈kn.map (·.1)):(ze kn nm e).length=kn.length:=by
 unfold ze;rw[Jc h,Je]
theorem bY{D:Dr}{e:Kb}{age:Int}(h:qT D e age=true):e.age<=age:=by
 unfold qT at h;rw[Jz]at h;exact Jx h.2
theorem fU{i:Nat}{v:V}{σ:L2.St}{H:Hp}{t u:TS}{D:Ht}{rt:VK}{bk ct:L2.St->Hp->Prop}(G:L2.St->Hp->Prop)(h:∀D':Ht,D'.rt=D.rt->(∀σ' H',G σ' H'->D'.nx σ' H')->t D' (σ.set i (some v)) H)(hG:∀σ' H',G σ' H'->u D σ' H'):QN i v σ H (Ht.nx {nx:=fL t u D,rt:=rt,bk:=bk,ct:=ct}):=h {D with nx:=u D} rfl hG
theorem Bh{K:Frag}{H:Hp}{D:Dr}{age:Int}{as:List Addr}(la:as.length=D.kss.length)(hks:∀(i:Nat) (a:Addr) (ks:List Int),as[i]? =some a->D.kss[i]? =some ks->Gu K H a (ks.map V.int))(h0:0<=age)(h1:age<D.kss.length):∃ak,QY (as.map V.ref) age=some (.ref ak)/\Gu K H ak ((Qx D age).map V.int):=by
 obtain⟨i,rfl⟩:∃i:Nat,age=(i:Int):=⟨age.toNat,by lia⟩
 have hi:i<D.kss.length:=by lia
 have hi':i<as.length:=by lia
 refine⟨as[i],Zc (by rw[Jo,Jj hi'];rfl),?_⟩
 have:=hks i as[i] D.kss[i] (Jj hi') (Jj hi)
 unfold Qx;rw[Ee,JF,Jj hi];exact this
theorem yv{nms:List Str}{r:Int}(h0:0<=r)(h1:r<((nms.map V.str).length:Int))(ok:∀z∈nms,Qy z):∃z:Str,QY (nms.map V.str) r=some (.str z)/\Qy z:=by
 obtain⟨x,hx,hm⟩:=Zf (xs:=nms.map V.str) h0 h1
 obtain⟨z,hz,rfl⟩:=JB.mp hm
 exact⟨z,hx,ok z hz⟩
theorem DP{a:Da}{H H':Hp}(m:Mv [a.p,a.lg] H H'):Mv (dS a) H H':=m.mono fun c h z=>h (by simp only[dS,Jk,Js,Jt]at z⊢;rcases z with z|z<;>simp [z])
theorem Wt.same{H H':Hp}{v:V}{o:Option (Int×Int)}(s:Ge H H')(h:Wt H v o):Wt H' v o:=h.mv (S:=[]) s.mv dh
theorem rq{kn:Kw}{nm:Str}(h:nm∉kn.map (·.1)):kn.lookup nm=none:=by
 cases e:kn.lookup nm with
 |none=>rfl
 |some x=>exact absurd (Gp.mp (by rw[e];rfl)) h
theorem tJ{X:Cx}:qY X (.builtin "isinstance") (fun xs H Q=>∃a c ys,xs=[.ref a,.ty c]/\Gu X.K H a ys/\c∈cZ/\Q (.bl (zk "tuple" c)) H):=by
 intro tx s σ H xs us Q I r h;obtain⟨a,c,ys,rfl,hy,hc,q⟩:=h;obtain⟨u,v,rfl,ru,rv⟩:=bS r
 cases(show v=Value.type c from rv)
 cases(show u=Value.ref a from ru)
 have e:=fc X.K "tuple" (by simp) c hc
 obtain⟨its,_,⟨o,h1,h2,_⟩,_⟩:=I.tuple hy;exact J0 W.kitx_tuple I.kIn ⟨o,h1,h2⟩ e (fun z=>nomatch z) fun tk=>⟨.bl _,H,I.tok tk,rfl,q⟩
section
variable{K:Frag}{H:Hp}
theorem IP.eqk{n:Nat}{x y:V}(h:IP H n x y):IJ K H n x y:=by
 induction h with
 |int n i=>exact .int n i
 |str n z=>exact .str n z
 |non n=>exact .non n
 |tup h1 h2 hl _ _ ih=>exact .tup (.inl h1) (.inl h2) hl ih
theorem uZ{a b:Addr}{ns:List Int}{n:Nat}(h1:Gu K H a (ns.map V.int))(h2:Gu K H b (ns.map V.int)):IJ K H (n+1) (.ref a) (.ref b):=by
 refine .tup h1 h2 rfl fun i x y e1 e2=>?_
 rw[e1]at e2;cases e2
 rw[Jo]at e1;cases h:ns[i]? with
 |none=>rw[h]at e1;cases e1
 |some v=>rw[h]at e1;cases e1;exact .int _ _
theorem iX{p q:Addr}{ss:List Str}{k1 k2:Kw}(h1:IQ H p ss k1)(h2:IQ H q ss k2)(hs:∀nm∈ss,nm∈k1.map (·.1))(he:∀nm,k2.lookup nm=k1.lookup nm):IJ K H 3 (.ref p) (.ref q):=by
 obtain⟨as,e1,l1,r1⟩:=h1;obtain⟨bs,e2,l2,r2⟩:=h2;refine .tup (Gu.of e1) (Gu.of e2) (by simp [l1,l2]) fun i x y ex ey=>?_
 rw[Jo]at ex ey;cases q1:as[i]? with
 |none=>rw[q1]at ex;cases ex
 |some a=>
  cases q2:bs[i]? with
  |none=>rw[q2]at ey;cases ey
  |some b=>
   rw[q1]at ex;rw[q2]at ey;cases ex;cases ey
   have hi:i<ss.length:=by rw[<- l1];exact(Jv.mp q1).1
   have hn:=Jj hi;obtain⟨e,hee⟩:=ZV (hs _ (Ey hi))
   obtain⟨v1,t1,w1⟩:=r1 i a _ e q1 hn hee;obtain⟨v2,t2,w2⟩:=r2 i b _ e q2 hn (by rw[he];exact hee)
   refine .tup (Gu.of t1) (Gu.of t2) rfl fun j x y ex ey=>?_
   match j,ex,ey with
   |0,ex,ey=>cases ex;cases ey;exact .str _ _
   |1,ex,ey=>cases ex;cases ey;exact .int _ _
   |2,ex,ey=>cases ex;cases ey;exact .int _ _
   |3,ex,ey=>
    cases ex;cases ey
    cases hw:e.wt with
    |none=>
     rw[hw]at w1 w2;have w1:v1= .non:=w1
     have w2:v2= .non:=w2
     rw[w1,w2];exact .non _
    |some xc=>
     rw[hw]at w1 w2;obtain⟨z1,rfl,u1⟩:=w1;obtain⟨z2,rfl,u2⟩:=w2;exact uZ (ns:=[xc.1,xc.2]) (Gu.of u1) (Gu.of u2)
   |j+4,ex,ey=>cases ex
theorem IJ.up{n:Nat}{x y:V}(h:IJ K H n x y):IJ K H (n+1) x y:=by
 induction h with
 |int n i=>exact .int _ i
 |str n z=>exact .str _ z
 |non n=>exact .non _
 |tup h1 h2 hl _ ih=>exact .tup h1 h2 hl ih
end
theorem Cp{a:Da}{x:Addr}(h:x∈dS a):x=a.p\/x=a.hk\/x=a.bd\/x=a.lg:=by
 simpa only[dS,Jk,Js,Jt]using h
theorem CI(a:Da):a.p∈dS a:=by simp [dS]
theorem ye(a:Da):a.hk∈dS a:=by simp [dS]
theorem wV(a:Da):a.bd∈dS a:=by simp [dS]
theorem wZ(a:Da):a.lg∈dS a:=by simp [dS]
theorem sV{a:Da}{H H':Hp}(m:Mv [a.bd,a.lg] H H'):Mv (dS a) H H':=m.mono (fun c h z=>h (by simp [dS]at z⊢;rcases z with z|z<;>simp [z]))
def cI(D:Dr)(kd:Addr):List (qL×V):=[(.inr "near",.int D.near),(.inr "far",.int D.far),(.inr "keys",.int (D.kss.length:Int)),(.inr "closed",.int D.least),(.inr "known",.ref kd)]
theorem uD(D:Dr)(kd:Addr):((cI D kd).map (·.1)).Nodup:=by
 have:([.inr "near",.inr "far",.inr "keys",.inr "closed",.inr "known"]:List qL).Nodup:=by decide +kernel
 exact this
theorem va(D:Dr)(kd:Addr):Zl [] (cI D kd)=cI D kd:=by
 have:=lL (cI D kd) [] (uD D kd)
 rwa [List.nil_append]at this
structure GG(H:Hp)(m kd:Addr)(D:Dr):Prop where
 di:H m=some (.dK (cI D kd))
 kn:Ih H kd D.kn
 ne:m≠kd
section
variable{S:List Addr}{H H':Hp}{m kd:Addr}{D:Dr}
theorem GG.get(a:GG H m kd D)(i:Nat){k:qL}{x:V}(h:(cI D kd)[i]? =some (k,x)):HI H m (kV k) (some x):=by
 have:=HI.k (k:=k) a.di
 rw[nA i h (uD ..)]at this;exact this
theorem GG.g_near(a:GG H m kd D):HI H m (.str "near") (some (.int D.near)):=a.get (k:= .inr "near") 0 rfl
theorem GG.g_far(a:GG H m kd D):HI H m (.str "far") (some (.int D.far)):=a.get (k:= .inr "far") 1 rfl
theorem GG.g_keys(a:GG H m kd D):HI H m (.str "keys") (some (.int (D.kss.length:Int))):=a.get (k:= .inr "keys") 2 rfl
theorem GG.g_closed(a:GG H m kd D):HI H m (.str "closed") (some (.int D.least)):=a.get (k:= .inr "closed") 3 rfl
theorem GG.g_known(a:GG H m kd D):HI H m (.str "known") (some (.ref kd)):=a.get (k:= .inr "known") 4 rfl
theorem GG.mv(a:GG H m kd D)(v:Mv S H H')(n:NT S H)(h1:m∉S)(h2:kd∉S):GG H' m kd D:=⟨v _ _ h1 a.di,a.kn.mv v n h2,a.ne⟩
theorem GG.same(a:GG H m kd D)(s:Ge H H'):GG H' m kd D:=a.mv (S:=[]) s.mv dh (fun h=>nomatch h) (fun h=>nomatch h)
theorem GG.putK{kn':Kw}(a:GG H m kd D)(v:Mv [kd] H H')(kb:Ih H' kd kn'):GG H' m kd {D with kn:=kn'}:=⟨v _ _ (qX a.ne) a.di,kb,a.ne⟩
theorem rl(D:Dr)(kd:Addr)(z:Int):L2.Hw (cI D kd) (Sum.inr "closed":qL) (.int z)=cI {D with least:=z} kd:=by
 unfold L2.Hw cI;rw[Jc (by simp [J4])]
 have h1:¬((Sum.inr ("near":Str):Sum Int Str)=Sum.inr ("closed":Str)):=by decide +kernel
 have h2:¬((Sum.inr ("far":Str):Sum Int Str)=Sum.inr ("closed":Str)):=by decide +kernel
 have h3:¬((Sum.inr ("keys":Str):Sum Int Str)=Sum.inr ("closed":Str)):=by decide +kernel
 have h5:¬((Sum.inr ("known":Str):Sum Int Str)=Sum.inr ("closed":Str)):=by decide +kernel
 simp only[JQ,Ft,Jd h1,Jd h2,Jd h3,Jd h5,Ep]
theorem GG.close(a:GG H m kd D)(z:Int):∃H',Iv H m (.str "closed") (.int z) H'/\Mv [m] H H'/\GG H' m kd {D with least:=z}:=by
 refine⟨_,Iv.k (k:=Sum.inr "closed") a.di (xg _ (by show 5<=100;decide)),Mv.upd1,by rw[qc,rl],a.kn.mv Mv.upd1 (NT.one a.di trivial) (qX a.ne.symm),a.ne⟩
end
structure Em where
 e:Addr
 a:Da
 m:Addr
 kd:Addr
def eS(x:Em):List Addr:=dS x.a++[x.m,x.kd]
structure Ii(K:Frag)(C:Addr)(H:Hp)(x:Em)(D:Dr)(L:List Rw)(E:Dr):Prop where
 tu:H x.e=some (.tup [.ref x.a.p,.ref x.m])
 dl:GN K C H x.a D L
 md:GG H x.m x.kd E
 n1:x.m≠x.a.bd
 n2:x.kd≠x.a.bd
section
variable{K:Frag}{C:Addr}{S:List Addr}{H H':Hp}{x:Em}{D D' E E':Dr}{L L':List Rw}{z:Addr}
theorem rK(h:z∈eS x):z∈dS x.a\/z=x.m\/z=x.kd:=by
 rcases JW.mp h with h|h
 ·exact .inl h
 ·simp only[Jk,Js,Jt]at h;exact .inr h
theorem kG(h:z∈dS x.a):z∈eS x:=JW.mpr (.inl h)
theorem DE:x.m∈eS x:=JW.mpr (.inr (by simp))
theorem Dw:x.kd∈eS x:=JW.mpr (.inr (by simp))
theorem Ii.nt(b:Ii K C H x D L E):NT (eS x) H:=fun z hz=>by
 rcases rK hz with h|rfl|rfl
 ·exact b.dl.nt z h
 ·exact⟨_,b.md.di,trivial⟩
 ·obtain⟨f,e,_⟩:=b.md.kn;exact⟨_,e,trivial⟩
theorem Ii.some(b:Ii K C H x D L E)(h:z∈eS x):H z≠none:=fun w=>by
 obtain⟨o,e,_⟩:=b.nt z h;rw[w]at e;cases e
theorem Ii.mv(b:Ii K C H x D L E)(m:Mv S H H')(nt:NT S H)(h:∀z∈eS x,z∉S):Ii K C H' x D L E:=⟨m.tup nt b.tu,b.dl.mv m nt (h _ (kG (CI _))) (h _ (kG (ye _))) (h _ (kG (wV _))) (h _ (kG (wZ _))),b.md.mv m nt (h _ DE) (h _ Dw),b.n1,b.n2⟩
theorem Ii.same(b:Ii K C H x D L E)(s:Ge H H'):Ii K C H' x D L E:=b.mv (S:=[]) s.mv dh (fun z _ h=>nomatch h)
theorem Ii.m_out(b:Ii K C H x D L E):x.m∉dS x.a:=b.dl.outD b.md.di b.n1
theorem Ii.k_out(b:Ii K C H x D L E):x.kd∉dS x.a:=by
 obtain⟨f,e,_⟩:=b.md.kn;exact b.dl.outD e b.n2
theorem Ii.door(b:Ii K C H x D L E)(m:Mv (dS x.a) H H')(d:GN K C H' x.a D' L'):Ii K C H' x D' L' E:=⟨m.tup b.dl.nt b.tu,d,b.md.mv m b.dl.nt b.m_out b.k_out,b.n1,b.n2⟩
theorem Ii.model(b:Ii K C H x D L E)(m:Mv [x.m,x.kd] H H')(md:GG H' x.m x.kd E'):Ii K C H' x D L E':=by
 have nt:NT [x.m,x.kd] H:=fun z hz=>b.nt z (JW.mpr (.inr hz))
 have o:∀z∈dS x.a,z∉[x.m,x.kd]:=fun z hz w=>by
  simp only[Jk,Js,Jt]at w;rcases w with rfl|rfl
  ·exact b.m_out hz
  ·exact b.k_out hz
 exact⟨m.tup nt b.tu,b.dl.mv m nt (o _ (CI _)) (o _ (ye _)) (o _ (wV _)) (o _ (wZ _)),md,b.n1,b.n2⟩
theorem ii(m:Mv (dS x.a) H H'):Mv (eS x) H H':=m.mono fun c h z=>h (kG z)
theorem gS(m:Mv [x.m,x.kd] H H'):Mv (eS x) H H':=m.mono fun c h z=>h (JW.mpr (.inr z))
end
abbrev En:=Em×Dr×List Rw
structure Pw(K:Frag)(C:Addr)(H0 H:Hp)(b:Addr)(c:Nat)(pl:Addr)(xs:List En):Prop where
 s:Mv [b] H0 H
 bx:HJ H b c
 b0:H0 b≠none
 en:∀(i:Nat) (x:En),xs[i]? =some x->Ii K C H x.1 x.2.1 x.2.2 x.2.1
 dj:∀(i j:Nat) (x y:En),i≠j->xs[i]? =some x->xs[j]? =some y->∀z∈eS x.1,z∉eS y.1
 fr:∀(i:Nat) (x:En),xs[i]? =some x->∀z∈eS x.1,H0 z=none
 pe:H pl=some (.lst (xs.map fun x=> .ref x.1.e))
 np:∀(i:Nat) (x:En),xs[i]? =some x->pl∉eS x.1
 fp:H0 pl=none
section
variable{K:Frag}{C:Addr}{H0 H H':Hp}{b:Addr}{c c':Nat}{pl:Addr}{xs:List En}{i:Nat}{x:En}{D':Dr}{L':List Rw}
theorem Pw.nb(p:Pw K C H0 H b c pl xs)(hi:xs[i]? =some x):b∉eS x.1:=fun z=>p.b0 (p.fr i x hi b z)
theorem Pw.npb(p:Pw K C H0 H b c pl xs):pl≠b:=fun z=>p.b0 (z▸p.fp)
theorem Pw.grc(p:Pw K C H0 H b c pl xs)(g:Ij b c' H H'):Pw K C H0 H' b c' pl xs:=by
 have m:Mv [b] H H':=fun c o h e=>g.kp c o (fun z=>h (Jl.mpr z)) e
 exact⟨p.s.trans m,g.bx,p.b0,fun i x hi=>(p.en i x hi).mv m (Qb p.bx) (fun z hz w=>p.nb hi (Jl.mp w▸hz)),p.dj,p.fr,g.kp _ _ p.npb p.pe,p.np,p.fp⟩
theorem Pw.same(p:Pw K C H0 H b c pl xs)(s:Ge H H'):Pw K C H0 H' b c pl xs:=p.grc (s.grc p.bx)
theorem Pw.mono(p:Pw K C H0 H b c pl xs)(h:c<=c'):Pw K C H0 H b c' pl xs:=⟨p.s,p.bx.mono h,p.b0,p.en,p.dj,p.fr,p.pe,p.np,p.fp⟩
theorem Pw.step(p:Pw K C H0 H b c pl xs)(hi:xs[i]? =some x)(m:Mv (eS x.1) H H')(e:Ii K C H' x.1 D' L' D'):Pw K C H0 H' b c pl (xs.set i (x.1,D',L')):=by
 have hl:i<xs.length:=(Jv.mp hi).1
 have nt:=(p.en i x hi).nt;have key:∀{j:Nat} {y:En},(xs.set i (x.1,D',L'))[j]? =some y->(j=i/\y=(x.1,D',L'))\/(j≠i/\xs[j]? =some y):=fun{j y} h=>by
  rw[List.getElem?_set]at h;split at h
  ·rename_i z
   subst z;injection h with h
   exact .inl ⟨rfl,h.symm⟩
  ·rename_i z
   exact .inr ⟨fun w=>z w.symm,h⟩
 have same:∀{j:Nat} {y:En},(xs.set i (x.1,D',L'))[j]? =some y->∃y',xs[j]? =some y'/\y'.1=y.1:=fun h=>by
  rcases key h with⟨rfl,rfl⟩|⟨_,h⟩
  ·exact⟨x,hi,rfl⟩
  ·exact⟨_,h,rfl⟩
 refine⟨fun c o hc e=>m c o (fun z=>?_) (p.s c o hc e),p.bx.mv m (p.nb hi),p.b0,fun j y hj=>?_,fun j k y z hjk hj hk=>?_,fun j y hj=>?_,?_,fun j y hj=>?_,p.fp⟩
 ·rw[p.fr i x hi c z]at e;cases e
 ·rcases key hj with⟨rfl,rfl⟩|⟨n,hj⟩
  ·exact e
  ·exact(p.en j y hj).mv m nt (fun z hz w=>p.dj j i y x n hj hi z hz w)
 ·obtain⟨y',hy,ey⟩:=same hj
  obtain⟨z',hz,ez⟩:=same hk;rw[<- ey,<- ez];exact p.dj j k y' z' hjk hy hz
 ·obtain⟨y',hy,ey⟩:=same hj
  rw[<- ey];exact p.fr j y' hy
 ·have:(xs.set i (x.1,D',L')).map (fun x=>V.ref x.1.e)=xs.map fun x=>V.ref x.1.e:=by
   refine List.ext_getElem? fun j=>?_
   rw[Jo,Jo,List.getElem?_set];split
   ·rename_i z
    subst z;rw[hi];rfl
   ·rfl
  rw[this];exact m _ _ (p.np i x hi) p.pe
 ·obtain⟨y',hy,ey⟩:=same hj
  rw[<- ey];exact p.np j y' hy
theorem Pw.at(p:Pw K C H0 H b c pl xs)(hi:xs[i]? =some x):QY (xs.map fun x=>V.ref x.1.e) (i:Int)=some (.ref x.1.e):=Zc (by rw[Jo,hi];rfl)
theorem Pw.add{Ha:Hp}{y:Em}{D:Dr}(p:Pw K C H0 H b c pl xs)(s:Ge H Ha)(e:Ii K C Ha y D [] D)(f:∀z∈eS y,H z=none):Pw K C H0 (Gh Ha pl (.lst ((xs.map fun x=>V.ref x.1.e)++[.ref y.e]))) b c pl (xs++[(y,D,[])]):=by
 have pa:=p.same s;have m:Mv [pl] Ha (Gh Ha pl (.lst ((xs.map fun x=>V.ref x.1.e)++[.ref y.e]))):=Mv.upd1
 have nt:NT [pl] Ha:=NT.one pa.pe trivial
 have npy:pl∉eS y:=fun z=>by have:=p.pe;rw[f pl z]at this;cases this
 have key:∀{j:Nat} {w:En},(xs++[(y,D,[])])[j]? =some w->xs[j]? =some w\/(j=xs.length/\w=(y,D,[])):=fun{j w} h=>by
  by_cases hj:j<xs.length
  ·rw[D8 hj]at h;exact .inl h
  ·rw[DY (by lia)]at h
   cases q:j-xs.length with
   |zero=>rw[q]at h;cases h;exact .inr ⟨by lia,rfl⟩
   |succ k=>rw[q]at h;cases h
 have fz:∀z∈eS y,H0 z=none:=fun z hz=>by
  cases q:H0 z with
  |none=>rfl
  |some o=>
   by_cases w:z=b
   ·subst w;obtain⟨_,_,_,e1,_⟩:=p.bx;rw[f z hz]at e1;cases e1
   ·have:=p.s z o (qX w) q;rw[f z hz]at this;cases this
 refine⟨fun c o hc e1=>?_,pa.bx.mv m (qX p.npb.symm),p.b0,fun j w hj=>?_,fun j k w u hjk hj hk=>?_,fun j w hj=>?_,?_,fun j w hj=>?_,p.fp⟩
 ·rw[qi (fun z=>by rw[z,p.fp]at e1;cases e1)]
  exact s _ _ (p.s c o hc e1)
 ·rcases key hj with hj|⟨_,rfl⟩
  ·exact(pa.en j w hj).mv m nt (fun z hz u=>p.np j w hj (Jl.mp u▸hz))
  ·exact e.mv m nt (fun z hz u=>npy (Jl.mp u▸hz))
 ·rcases key hj with hj'|⟨ej,rfl⟩
  ·rcases key hk with hk'|⟨_,rfl⟩
   ·exact p.dj j k w u hjk hj' hk'
   ·exact fun z hz v=>(p.en j w hj').some hz (f z v)
  ·rcases key hk with hk'|⟨ek,rfl⟩
   ·exact fun z hz v=>(p.en k u hk').some v (f z hz)
   ·lia
 ·rcases key hj with hj'|⟨_,rfl⟩
  ·exact p.fr j w hj'
  ·exact fz
 ·rw[qc,JN];rfl
 ·rcases key hj with hj'|⟨_,rfl⟩
  ·exact p.np j w hj'
  ·exact npy
end
def qS(D:Dr)(nm:Str)(age c:Int):Str:=match D.kn.lookup nm with
 |none=>""
 |some e=>if qT D e age=true then(if c-e.last<1\/c-e.last>D.far then "" else if c-e.last<=D.near\/e.wt=some (age,c-1)then "open" else "wait")else ""
def zX(D:Dr)(nm:Str)(age c:Int):Kw:=(zo D nm age (some (c,0))).2
theorem uA(D:Dr)(nm:Str)(age c d:Int):(zo D nm age (some (c,d))).2=zX D nm age c:=by
 unfold zX zo;split
 ·rfl
 ·split
  ·simp only
   split
   ·rfl
   ·rfl
  ·rfl
theorem oW{D:Dr}{nm:Str}{age c:Int}(nd:(D.kn.map (·.1)).Nodup)(nf:D.near<=D.far):zX D nm age c=match D.kn.lookup nm with
  |none=>D.kn
  |some e=>if qS D nm age c="open" then ze D.kn nm ⟨age,c,none⟩else if qS D nm age c="wait" then ze D.kn nm ⟨e.age,e.last,some (age,c)⟩else D.kn:=by
 unfold zX;cases e1:D.kn.lookup nm with
 |none=>unfold zo;rw[e1]
 |some e=>
  simp only
  have no1:¬(("":Str)="open"):=by decide
  have no2:¬(("":Str)="wait"):=by decide
  have no3:¬(("wait":Str)="open"):=by decide
  have self:=tV nd e1
  by_cases ht:qT D e age=true
  ·have eh:(zo D nm age (some (c,0))).2=ze D.kn nm (zu D.near D.far e age c).2:=by
    unfold zo;rw[e1];simp only
    rw[Jc ht];split<;>rfl
   have ew:qS D nm age c=(if c-e.last<1\/c-e.last>D.far then("":Str)else if c-e.last<=D.near\/e.wt=some (age,c-1)then("open":Str)else("wait":Str)):=by
    unfold qS;rw[e1];simp only
    rw[Jc ht]
   rw[eh];unfold zu
   by_cases h1:c<=e.last
   ·rw[Jc (show c-e.last<1\/c-e.last>D.far from .inl (by lia))]at ew
    rw[Jc h1,ew,Jd no1,Jd no2];exact self
   ·rw[Jd h1]
    by_cases h2:c<=e.last+D.near
    ·rw[Jd (show¬(c-e.last<1\/c-e.last>D.far) by lia),Jc (show c-e.last<=D.near\/_ from .inl (by lia))]at ew
     rw[Jc h2,ew,Jc rfl]
    ·rw[Jd h2]
     by_cases h3:c<=e.last+D.far
     ·rw[Jd (show¬(c-e.last<1\/c-e.last>D.far) by lia)]at ew
      rw[Jc h3]
      by_cases h4:e.wt=some (age,c-1)
      ·rw[Jc (show c-e.last<=D.near\/_ from .inr h4)]at ew
       rw[Jc h4,ew,Jc rfl]
      ·rw[Jd (show¬(c-e.last<=D.near\/e.wt=some (age,c-1))from fun z=>z.elim (fun z=>by lia) h4)]at ew
       rw[Jd h4,ew,Jd no3,Jc rfl]
     ·rw[Jc (show c-e.last<1\/c-e.last>D.far from .inr (by lia))]at ew
      rw[Jd h3,ew,Jd no1,Jd no2];exact self
  ·have eh:(zo D nm age (some (c,0))).2=D.kn:=by
    unfold zo;rw[e1];simp only
    rw[Jd ht]
   have ew:qS D nm age c="":=by
    unfold qS;rw[e1];simp only
    rw[Jd ht]
   rw[eh,ew,Jd no1,Jd no2]
section
variable(K:Frag)(C:Addr)
def iK:Sp:=fun vs H Q _=>∃(a:Da) (D:Dr) (L:List Rw) (p1 p2:Addr) (P R:Ps) (c d d':Int),vs=[.ref a.p,.ref p1,.ref p2]/\GN K C H a D L/\L.length<=1000/\Ip D/\HV H p1 P/\HV H p2 R/\Iw P/\Iw R/\dw D P=some (c,d)/\dw D R=some (c+1,d')/\R.nm=P.nm/\R.age=P.age/\D.kn.lookup R.nm=none/\(D.kn.length:Int)<D.most/\
 ∀H',Mv [a.bd,a.lg] H H'->GN K C H' a {D with kn:=ze D.kn R.nm ⟨R.age,c+1,none⟩} (L++[.learn P R])->Q .non H'
end
def QC(D:Dr)(e:Kb)(age:Int):List (Int×Int):=if qT D e age=true then
  (if e.last+1<4096 then [(e.last+1,if 4095<e.last+D.near then 4095 else e.last+D.near)]else [])++
  (match e.wt with
   |none=>[]
   |some (x,w)=>if x=age/\w+1<=(if 4095<e.last+D.far then 4095 else e.last+D.far)then [(w+1,w+1)]else [])
 else []
def zZ(D:Dr)(nm:Str)(age:Int):List (Int×Int):=match D.kn.lookup nm with
 |none=>[]
 |some e=>QC D e age
def Iy(H:Hp)(t:Addr)(zs:List (Int×Int)):Prop:=∃as:List Addr,H t=some (.tup (as.map V.ref))/\as.length=zs.length/\∀(i:Nat) (a:Addr) (z:Int×Int),as[i]? =some a->zs[i]? =some z->H a=some (.tup [.int z.1,.int z.2])
def Lg(H:Hp)(t:Addr)(zs:List (Int×Int)):Prop:=∃as:List Addr,H t=some (.lst (as.map V.ref))/\as.length=zs.length/\∀(i:Nat) (a:Addr) (z:Int×Int),as[i]? =some a->zs[i]? =some z->H a=some (.tup [.int z.1,.int z.2])
section
variable{S:List Addr}{H H':Hp}{t x:Addr}{zs:List (Int×Int)}{z:Int×Int}
theorem Iy.mv(m:Mv S H H')(n:NT S H)(h:Iy H t zs):Iy H' t zs:=by
 obtain⟨as,e,l,r⟩:=h
 exact⟨as,m.tup n e,l,fun i a z e1 e2=>m.tup n (r i a z e1 e2)⟩
theorem Iy.same(s:Ge H H')(h:Iy H t zs):Iy H' t zs:=h.mv (S:=[]) s.mv dh
theorem Lg.add{as:List Addr}(e:H t=some (.lst (as.map V.ref)))(l:as.length=zs.length)(r:∀(i:Nat) (a:Addr) (z:Int×Int),as[i]? =some a->zs[i]? =some z->H a=some (.tup [.int z.1,.int z.2]))(hx:H x=some (.tup [.int z.1,.int z.2])):Lg (Gh H t (.lst (as.map V.ref++[.ref x]))) t (zs++[z]):=by
 have nt:NT [t] H:=NT.one e trivial
 refine⟨as++[x],by rw[qc,JN];rfl,by simp [l],fun i a y e1 e2=>(Mv.upd1 (a:=t)).tup nt ?_⟩
 by_cases hi:i<as.length
 ·rw[D8 hi]at e1
  rw[D8 (by rw[<- l];exact hi)]at e2
  exact r i a y e1 e2
 ·rw[DY (by lia)]at e1
  rw[DY (by rw[<- l];lia),<- l]at e2
  cases q:i-as.length with
  |zero=>rw[q]at e1 e2;cases e1;cases e2;exact hx
  |succ k=>rw[q]at e1;cases e1
end
section
variable(K:Frag)(C:Addr)
def IX(H:Hp)(v:V):Option Kb->Prop
 |none=>v= .non
 |some e=>∃a,v= .ref a/\GY H a e
def wN:Sp:=fun vs H Q _=>∃(p ta hk bd lg:Addr) (n:Nat) (D:Dr) (v:V) (o:Option Kb) (age:Int),vs=[.ref p,v,.int age]/\Gg K C H p ta hk bd lg n D/\IX H v o/\∀t H',Ge H H'->Iy H' t (match o with
 |none=>[]
 |some e=>QC D e age)->Q (.ref t) H'
def nB:Sp:=fun vs H Q _=>∃(D:Dr),vs=[.int D.near,.int D.far,.int (D.kss.length:Int)]/\D.least=0/\D.kn=[]/\∀m kd H',Ge H H'->H m=none->H kd=none->GG H' m kd D->Q (.ref m) H'
def gH:Sp:=fun vs H Q _=>∃(m kd p:Addr) (D:Dr) (nm:Str) (age c:Int),vs=[.ref m,.ref p]/\GG H m kd D/\H p=some (.tup [.str nm,.int age,.int c])/\∀H',Ge H H'->Q (.str (qS D nm age c)) H'
def oo:Sp:=fun vs H Q _=>∃(m kd p:Addr) (D:Dr) (nm:Str) (age c:Int),vs=[.ref m,.ref p]/\GG H m kd D/\H p=some (.tup [.str nm,.int age,.int c])/\Ip D/\D.near<=D.far/\∀H',Mv [m,kd] H H'->GG H' m kd {D with kn:=zX D nm age c}->Q (.bl (decide (qS D nm age c="open"))) H'
structure G8(H:Hp)(cd tb kt:Addr)(t:List Int)(kss:List (List Int)):Prop where
 e:H cd=some (.tup [.ref tb,.ref kt])
 tb:Rd H tb (.tup (t.map V.int))
 ks:IU [] H kt kss
def Qv(t:List Int)(kss:List (List Int))(nm:Str)(age c d:Int):Ps:=⟨nm,age,cp t (kss.getD age.toNat []) nm c d⟩
def fG:Sp:=fun vs H Q _=>∃(cd tb kt p:Addr) (t:List Int) (kss:List (List Int)) (nm:Str) (age c d:Int),vs=[.ref cd,.ref p,.int d]/\G8 H cd tb kt t kss/\H p=some (.tup [.str nm,.int age,.int c])/\t.Perm GM/\Qy nm/\0<=age/\age<kss.length/\0<=c/\c<4096/\aW d/\∀pr H',Ge H H'->HV H' pr (Qv t kss nm age c d)->Q (.ref pr) H'
end
section
variable{S:List Addr}{H H':Hp}{cd tb kt:Addr}{t:List Int}{kss:List (List Int)}
theorem G8.mv(h:G8 H cd tb kt t kss)(m:Mv S H H')(n:NT S H):G8 H' cd tb kt t kss:=⟨m.tup n h.e,m.rd n h.tb,h.ks.mv m n⟩
theorem G8.same(h:G8 H cd tb kt t kss)(s:Ge H H'):G8 H' cd tb kt t kss:=h.mv (S:=[]) s.mv dh
end
end L3
namespace S0
open PySem PyProof.Rows
def Rs(xs:Array Nat):Prop:=xs.toList.Pairwise (· < ·)
theorem Rs.at{xs:Array Nat}(h:Rs xs){i j:Nat}(hi:i<xs.size)(hj:j<xs.size)(hij:i<j):xs[i]<xs[j]:=by
 have:=List.pairwise_iff_getElem.mp h i j (by simpa using hi) (by simpa using hj) hij
 simpa using this
theorem ig{xs:Array Nat}(h:Rs xs)(j:Nat):∀(f lo hi:Nat),lo<=hi->hi<=xs.size->hi-lo<=f->(∀i (hx:i<xs.size),i<lo->xs[i]<j)->(∀i (hx:i<xs.size),hi<=i->j<=xs[i])->
  SetTable.below.go xs j f lo hi<=xs.size/\(∀i (hx:i<xs.size),i<SetTable.below.go xs j f lo hi->xs[i]<j)/\(∀i (hx:i<xs.size),SetTable.below.go xs j f lo hi<=i->j<=xs[i])
 |0,lo,hi,h1,h2,h3,h4,h5=>by
  have e:lo=hi:=by lia
  subst e
  exact⟨h2,h4,h5⟩
 |f+1,lo,hi,h1,h2,h3,h4,h5=>by
  unfold SetTable.below.go
  by_cases hlt:lo<hi
  ·rw[Jc hlt]
   have hm:(lo+hi)/2<xs.size:=by lia
   dsimp only
   have eg:xs.getD ((lo+hi)/2) j=xs[(lo+hi)/2]:=by simp [Array.getD,hm]
   rw[eg]
   by_cases hc:xs[(lo+hi)/2]<j
   ·rw[Jc hc]
    refine ig h j f _ _ (by lia) h2 (by lia) (fun i hi' hi2=>?_) h5
    by_cases e:i=(lo+hi)/2
    ·subst e;exact hc
    ·exact Nat.lt_trans (h.at hi' hm (by lia)) hc
   ·rw[Jd hc]
    refine ig h j f _ _ (by lia) (by lia) (by lia) h4 fun i hi' hi2=>?_
    by_cases e:i=(lo+hi)/2
    ·subst e;lia
    ·have:=h.at hm hi' (by lia)
     lia
  ·rw[Jd hlt]
   exact⟨by lia,h4,fun i hx hi2=>h5 i hx (by lia)⟩
theorem bR{xs:Array Nat}(h:Rs xs)(j:Nat):SetTable.below xs j<=xs.size/\(∀i (hi:i<xs.size),i<SetTable.below xs j->xs[i]<j)/\(∀i (hx:i<xs.size),SetTable.below xs j<=i->j<=xs[i]):=
 ig h j xs.size 0 xs.size (JI _) (Jf _) (by lia) (fun i _ h=>absurd h (Nat.not_lt_zero _)) fun i hx hi=>absurd hx (by lia)
theorem Rs.put{xs:Array Nat}(h:Rs xs){j:Nat}(hj:(xs[SetTable.below xs j]? ==some j)=false):Rs (SetTable.insertAt xs (SetTable.below xs j) j):=by
 obtain⟨h1,h2,h3⟩:=bR h j;generalize SetTable.below xs j=p at *
 unfold Rs;rw[SetTable.toList_insertAt,List.pairwise_append];have hs:(xs.toList.take p++xs.toList.drop p).Pairwise (· < ·):=by rw[List.take_append_drop];exact h
 obtain⟨a1,a2,a3⟩:=List.pairwise_append.mp hs;have lo:∀x∈xs.toList.take p,x<j:=by
  intro x hx;obtain⟨m,hm,rfl⟩:=List.mem_iff_getElem.mp hx;simp at hm
  simpa using h2 m (by lia) (by lia)
 have hi:∀x∈xs.toList.drop p,j<x:=by
  intro x hx;obtain⟨m,hm,rfl⟩:=List.mem_iff_getElem.mp hx;simp at hm
  have hpm:p+m<xs.size:=by lia
  have hp:p<xs.size:=by lia
  have e0:j<=xs[p]:=h3 p hp (Jf _)
  have e1:xs[p]≠j:=by
   intro e;rw[getElem?_pos xs p hp,e]at hj;simp at hj
  simp only[List.getElem_drop,Array.getElem_toList]
  by_cases em:m=0
  ·subst em;simp only[Nat.add_zero];lia
  ·have:=h.at hp hpm (by lia)
   lia
 refine⟨a1,List.pairwise_cons.mpr ⟨hi,a2⟩,fun x hx y hy=>?_⟩
 rcases Jk.mp hy with rfl|hy
 ·exact lo x hx
 ·exact a3 x hx y hy
theorem bW{t:SetTable}{h:Int}:∀(f:Nat) (p:SetTable.Probe) {j:Nat} {d:Option Nat},(∀j',p.dummy=some j'->t.slot j'= .dummy)->
  SetTable.probe.go t (fun _=>h+1) h f p=some (.empty j d)->t.slot j= .empty/\∀j',d=some j'->t.slot j'= .dummy
 |0,p,j,d,hp,e=>nomatch e
 |f+1,p,j,d,hp,e=>by
  unfold SetTable.probe.go at e;have ha:∀q:SetTable.Probe,(t.advance q).dummy=q.dummy:=fun q=>by
   unfold SetTable.advance;split
   ·rfl
   ·rfl
  cases hs:t.slot p.j with
  |empty=>
   rw[hs]at e;simp only[Option.some.injEq,SetTable.Met.empty.injEq]at e;obtain⟨rfl,rfl⟩:=e
   exact⟨hs,hp⟩
  |dummy=>
   rw[hs]at e;refine bW f _ (fun j' h'=>?_) e
   rw[ha]at h';have h':some p.j=some j':=h'
   injection h' with h'
   rw[<- h'];exact hs
  |live i=>
   rw[hs]at e;have hne:((h+1:Int)==h)=false:=by simp;lia
   simp only[hne,Bool.false_eq_true,JE]at e;exact bW f _ (fun j' h'=>hp j' (by rw[<- ha p];exact h')) e
theorem tj{t:SetTable}{h:Int}{j:Nat}{b:Bool}(e:t.freeSlot h=some (j,b)):∀i,t.slot j≠ .live i:=by
 unfold SetTable.freeSlot at e;split at e
 ·rename_i j' d he
  obtain⟨a1,a2⟩:=bW _ _ (fun j' h'=>by cases h') he
  simp only[Option.some.injEq,Prod.mk.injEq]at e;obtain⟨e1,_⟩:=e;intro i z;cases d with
  |none=>
   have e1:j'=j:=e1
   rw[<- e1,a1]at z;cases z
  |some k=>
   have e1:k=j:=e1
   rw[<- e1,a2 k rfl]at z;cases z
 ·cases e
def TOk(t:SetTable):Prop:=t.plain=true->Rs t.place
theorem TOk.standIn(t:SetTable)(n:Nat):TOk (t.standIn n):=fun h=>nomatch h
theorem BF{t:SetTable}{j:Nat}(h:TOk t)(h3:∀i,t.slot j≠ .live i):TOk (t.put j).1:=by
 intro hp;have h1:=h hp;unfold SetTable.put
 dsimp only
 refine h1.put ?_
 cases e:(t.place[SetTable.below t.place j]? ==some j)with
 |false=>rfl
 |true=>
  refine absurd ?_ (h3 (SetTable.below t.place j))
  unfold SetTable.slot
  dsimp only
  rw[e];rfl
theorem rQ{t:SetTable}(h:TOk t)(es:Array (Int×Value))(hh:Int)(x:Value):TOk (layNew t es hh x).2.1/\(layNew t es hh x).2.1.led=t.led:=by
 unfold layNew;split
 ·rename_i slot wd he
  dsimp only
  have hk:=BF (j:=slot) h (tj he)
  unfold SetTable.orStandIn;split
  ·exact⟨hk,rfl⟩
  ·exact⟨TOk.standIn _ _,rfl⟩
 ·exact⟨TOk.standIn _ _,rfl⟩
theorem fM(f:Nat->Option Nat):∀l:List Nat,(l.filterMap fun j=>(f j).map (j,·)).map (·.1)=l.filter fun j=>(f j).isSome
 | []=>rfl
 |j::l=>by
  rw[JO,List.filter_cons];cases e:f j with
  |none=>simpa using fM f l
  |some k=>simpa using fM f l
theorem nW{mask fg mv:Nat}{led plain:Bool}{hs:Array Int}{t:SetTable}{o:Array Nat}(e:SetTable.laid mask fg mv led plain hs=some (t,o)):Rs t.place/\t.dummies= #[]/\t.led=led:=by
 unfold SetTable.laid at e;cases hl:SetTable.layClean mask hs with
 |none=>rw[hl]at e;exact nomatch e
 |some ow=>
  rw[hl]at e;have e':some (({mask,place:=(((List.range (mask+1)).filterMap fun j=>(ow.getD j none).map (j,·)).map (·.1)).toArray,dummies:= #[],finger:=fg,led,moves:=mv,plain}:SetTable),(((List.range (mask+1)).filterMap fun j=>(ow.getD j none).map (j,·)).map (·.2)).toArray)=some (t,o):=e
  injection e' with e'
  injection e' with e1 e2
  subst e1;refine⟨?_,rfl,rfl⟩
  unfold Rs
  dsimp only
  rw[fM];exact List.Pairwise.filter _ List.pairwise_lt_range
theorem vh(t:SetTable)(es:Array (Int×Value))(wn:Nat):TOk (relayAll t es wn).2.1/\(relayAll t es wn).2.1.led=t.led:=by
 unfold relayAll;split
 ·rename_i t' order he
  dsimp only
  obtain⟨a1,a2,a3⟩:=nW he;split
  ·exact⟨fun _=>a1,a3⟩
  ·exact⟨TOk.standIn _ _,rfl⟩
 ·exact⟨TOk.standIn _ _,rfl⟩
end S0
namespace S0
open PySem PySem.Spec PyProof.Rows
def zp(w:World):Bool:=w.params.followText "set-order"
def TW(w:World)(t:SetTable):Prop:=zp w=true\/(t.led=true/\TOk t)
section
variable{prog:Program}{w:World}{K:Type} [DecidableEq K](knd:PySem.KeyKind prog w K)(kf:Value->K)
def SetK(h:Heap)(a:Addr)(ks:List K):Prop:=∃o es ep t,h.get? a=some o/\o.ExactSet/\o.data= .set es ep t/\t.fits es.size=true/\es.size<scanBound/\
 ElemsOf knd es.toList/\(es.toList.map fun e=>kf e.2).Perm ks/\TW w t
variable{knd kf}
theorem SetK.at{h h':Heap}{a:Addr}{ks:List K}(x:SetK knd kf h a ks)(e:∀o,h.get? a=some o->h'.get? a=some o):SetK knd kf h' a ks:=by
 obtain⟨o,es,ep,t,h1,r⟩:=x
 exact⟨o,es,ep,t,e _ h1,r⟩
theorem SetK.lt{h:Heap}{a:Addr}{ks:List K}(x:SetK knd kf h a ks):a<h.objs.size:=by
 obtain⟨o,es,ep,t,h1,r⟩:=x;exact Jh h1
theorem SetK.len{h:Heap}{a:Addr}{ks:List K}(x:SetK knd kf h a ks):ks.length<scanBound:=by
 obtain⟨o,es,ep,t,h1,h2,h3,h4,h5,h6,h7,h8⟩:=x;rw[<- h7.length_eq,Je,Jq];exact h5
theorem lJ(hkf:∀k v,knd.is k v=true->kf v=k){es:Array (Int×Value)}(hel:ElemsOf knd es.toList)(k:K):
  k∈(es.toList.map fun e=>kf e.2)↔∃e∈es.toList,knd.is k e.2=true:=by
 rw[JB];constructor
 ·rintro⟨e,he,rfl⟩
  obtain⟨⟨k',hk',_⟩,_⟩:=hel e he
  exact⟨e,he,by rw[hkf k' _ hk'];exact hk'⟩
 ·rintro⟨e,he,hk⟩
  exact⟨e,he,hkf k _ hk⟩
theorem Zd{h:Heap}{a:Addr}{o:Obj}{es:Array (Int×Value)}{ep:Nat}{t:SetTable}(ho:h.get? a=some o)(hd:o.data= .set es ep t)(es':Array (Int×Value))(t':SetTable):
  (h.update a (Obj.putSet es' t')).get? a=some {o with data:= .set es' (ep+1) t'}:=by
 have:=EV (Obj.putSet es' t') ho (by rw[putSet_of es' t' hd];rfl)
 rw[putSet_of es' t' hd]at this;exact this
variable{A:Around}{E:Gb}{s:Shared}
theorem pK(hkf:∀k v,knd.is k v=true->kf v=k){a:Addr}{ks:List K}{k:K}{x:Value}{Q:Bool->Shared->Prop}(hkey:knd.is k x=true)(hsc:x.scannable=true)
  (hS:SetK knd kf s.heap a ks)(hroom:ks.length+1<scanBound)
  (h:∀h',Heap.SameBut a s.heap h'->SetK knd kf h' a (if k∈ks then ks else ks++[k])->Q (decide (k∉ks)) {s with heap:=h'}):
  wpAny (model prog w) A (setAddHashed a x (knd.hash k)) Q E s:=by
 obtain⟨o,es,ep,t,ho,hex,hd,hf,hb,hel,hpm,htw⟩:=hS;have hmem:k∈ks↔∃e∈es.toList,knd.is k e.2=true:=by rw[<- hpm.mem_iff];exact lJ hkf hel k
 have hsz:es.size=ks.length:=by rw[<- hpm.length_eq,Je,Jq]
 unfold setAddHashed setAddHashedIn;refine JL (Ja (wpAny_setState_of ho hd hf ?_))
 dsimp only
 rw[byScan_of hsc hb hel];simp only[↓reduceIte];unfold setAddByScan;refine Ja (Ja (Ec (Ja (wpAny_setScan_of hkey ho hd hf hel ?_))))
 cases hr:List.findIdx? (fun e=>knd.is k e.2) es.toList with
 |some j=>
  obtain⟨hj,hpj,_⟩:=List.findIdx?_eq_some_iff_getElem.mp hr
  have hk:k∈ks:=hmem.mpr ⟨es.toList[j],Ey hj,hpj⟩
  refine Jb (Jb ?_)
  have:=h s.heap (Heap.SameBut.refl a s.heap) (by rw[Jc hk];exact⟨o,es,ep,t,ho,hex,hd,hf,hb,hel,hpm,htw⟩)
  rw[Jn (by simpa using hk)]at this
  exact this
 |none=>
  have hk:k∉ks:=fun z=>by
   obtain⟨e,he,hp⟩:=hmem.mp z
   have:=List.findIdx?_eq_none_iff.mp hr e he
   rw[hp]at this;cases this
  have hgw:∀(b:Bool) {s₁:Shared} {Q':Unit->Shared->Prop},Q' () s₁->wpAny (model prog w) A (match b with|true=>rule "set.scan.the-table-gave-way"|false=>pure ()) Q' E s₁:=
   fun b s₁ Q' hq=>by cases b<;>first|exact Jb hq|exact Ec hq
  have hperm:=layNew_perm t es (knd.hash k) x;have hfits:=layNew_fits t es (knd.hash k) x;have htk:TW w (layNew t es (knd.hash k) x).2.1:=by
   rcases htw with z|⟨z1,z2⟩
   ·exact .inl z
   ·obtain⟨b1,b2⟩:=rQ z2 es (knd.hash k) x
    exact .inr ⟨b2.trans z1,b1⟩
  dsimp only
  generalize hL:layNew t es (knd.hash k) x=L at hperm hfits htk⊢
  obtain⟨es1,t1,wd,gave⟩:=L
  dsimp only at hperm hfits htk⊢
  rw[Array.toList_push]at hperm;have hel1:ElemsOf knd es1.toList:=(hel.push hkey hsc).perm hperm
  have hpm1:(es1.toList.map fun e=>kf e.2).Perm (ks++[k]):=by
   refine(hperm.map _).trans ?_
   rw[JN];refine hpm.append ?_
   show [kf x].Perm [k]
   rw[hkf k x hkey]
  have hsz1:es1.size=ks.length+1:=by rw[<- Jq,hperm.length_eq,JD,Jq,hsz];rfl
  have hb1:es1.size<scanBound:=by rw[hsz1];exact hroom
  have key:∀t2:SetTable,t2.fits es1.size=true->TW w t2->∀(Z:Option Bool->Shared->Prop),(∀h',Heap.SameBut a s.heap h'->SetK knd kf h' a (ks++[k])->Z (some true) {s with heap:=h'})->
    wpAny (model prog w) A (do
     storeSet a es1 t2
     if(!wd&&t2.tooFull)=true then do
       (match(relayAll t2 es1 (SetTable.grown es1.size)).2.2 with|true=>rule "set.scan.the-table-gave-way"|false=>pure ())
       storeSet a (relayAll t2 es1 (SetTable.grown es1.size)).1 (relayAll t2 es1 (SetTable.grown es1.size)).2.1
       pure (some true)
      else pure (some true)) Z E s:=by
   intro t2 f2 w2 Z hZ;refine Ja (wpAny_storeSet_of ho hd ?_ (fits_of_scanBound hb1))
   have ho1:=Zd ho hd es1 t2;have sb1:=DW s.heap a (Obj.putSet es1 t2);split
   ·have hp:=relayAll_perm t2 es1 (SetTable.grown es1.size)
    have hfr:=relayAll_fits t2 es1 (SetTable.grown es1.size);obtain⟨k1,k2⟩:=vh t2 es1 (SetTable.grown es1.size)
    have wr:TW w (relayAll t2 es1 (SetTable.grown es1.size)).2.1:=by
     rcases w2 with z|⟨z1,z2⟩
     ·exact .inl z
     ·exact .inr ⟨k2.trans z1,k1⟩
    generalize relayAll t2 es1 (SetTable.grown es1.size)=Rl at hp hfr wr⊢
    obtain⟨es2,t3,g2⟩:=Rl
    dsimp only at hp hfr wr⊢
    have hb2:es2.size<scanBound:=by rw[<- Jq,hp.length_eq,Jq];exact hb1
    refine Ja (hgw _ (Ja (wpAny_storeSet_of ho1 rfl ?_ (fits_of_scanBound hb2))))
    exact Jb (hZ _ (sb1.trans (DW _ a _)) ⟨_,es2,_,t3,Zd ho1 rfl es2 t3,hex,rfl,hfr,hb2,hel1.perm hp,(hp.map _).trans hpm1,wr⟩)
   ·exact Jb (hZ _ sb1 ⟨_,es1,_,t2,ho1,hex,rfl,f2,hb1,hel1,hpm1,w2⟩)
  have fin:∀h',Heap.SameBut a s.heap h'->SetK knd kf h' a (ks++[k])->Q true {s with heap:=h'}:=fun h' b1 b2=>by
   have:=h h' b1 (by rw[Jd hk];exact b2)
   rw[Jg (by simpa using hk)]at this
   exact this
  refine Ja (hgw _ ?_)
  split
  ·refine Ja ?_
   rw[hashByValue_scannable 8 hsc];refine Jb ?_
   refine key _ ?_ ?_ _ fun h' b1 b2=>Jb (fin h' b1 b2)
   ·split
    ·exact hfits
    ·exact SetTable.fits_plain_off hfits
   ·split
    ·exact htk
    ·rcases htk with z|⟨z1,z2⟩
     ·exact .inl z
     ·exact .inr ⟨z1,fun z=>nomatch z⟩
  ·refine Ja (Jb ?_)
   simp only[↓reduceIte];exact key _ hfits htk _ fun h' b1 b2=>Jb (fin h' b1 b2)
end
def Q2{K:Type} [DecidableEq K](acc:List K)(k:K):List K:=if k∈acc then acc else acc++[k]
def bI{K:Type} [DecidableEq K](val:Nat->K)(i:Nat):List K:=((List.range i).map val).foldl Q2 []
theorem kF{K:Type} [DecidableEq K](val:Nat->K)(i:Nat):bI val (i+1)=Q2 (bI val i) (val i):=by
 unfold bI;rw[List.range_succ,JN,List.foldl_append];rfl
theorem nZ{K:Type} [DecidableEq K](val:Nat->K):∀i,(bI val i).length<=i
 |0=>Jf _
 |i+1=>by
  rw[kF];unfold Q2
  have:=nZ val i
  split
  ·lia
  ·rw[JD,EG];lia
def ddL{K:Type} [DecidableEq K](l:List K):List K:=l.foldl Q2 []
theorem uc{K:Type} [DecidableEq K] [Inhabited K](l:List K):bI (fun i=>l.getD i default) l.length=ddL l:=by
 unfold bI ddL;congr 1
 apply List.ext_getElem
 ·simp
 ·intro i h1 h2
  simp [JF,h2]
abbrev Qg(led:Bool):Obj:={cls:= .type "set",dict:=none,data:= .set #[] 0 (.fresh 0 0 led)}
section
variable{prog:Program}{w:World}{K:Type} [DecidableEq K]{knd:PySem.KeyKind prog w K}{kf:Value->K}
theorem Ap{h:Heap}{a:Addr}(hg:h.get? a=some (Qg (!zp w))):SetK knd kf h a []:=by
 refine⟨_,#[],0,_,hg,⟨rfl,rfl,rfl⟩,rfl,rfl,by unfold scanBound;simp,(fun e he=>nomatch he),List.Perm.nil,?_⟩
 cases e:zp w with
 |true=>exact .inl e
 |false=>exact .inr ⟨rfl,fun _=>List.Pairwise.nil⟩
section
variable{A:Around}{R:Result->Shared->Prop}{I:Addr}{fp wr:List Addr}{G:Array GenState->Array GenState->Prop}{n:Nat}{P:Nat->Value->Prop}{St:Nat->Shared->Prop}
theorem Cq(hkf:∀k v,knd.is k v=true->kf v=k)(W:WalksS prog w A.in1 I fp wr G n P St)(S:Addr)(hSf:S∉fp)
  (val:Nat->K)(hval:∀i v,P i v->knd.is (val i) v=true/\v.scannable=true)(hb:n+1<scanBound):
  ∀(k i:Nat) (s:Shared),n-i=k->i<=n->St i s->SetK knd kf s.heap S (bI val i)->
   (∀s',Moved (S::wr) G s s'->SetK knd kf s'.heap S (bI val n)->R (.ok (.ret .none)) s')->
   codeAny (model prog w) A (.builtin "set.update.loop" ⟨[.ref S,.ref I],[]⟩) R s:=by
 have hSw:S∉wr:=fun h=>hSf (W.sub _ h)
 have hsub:∀b∈wr,b∈S::wr:=fun b hb=>JC _ hb
 intro k
 induction k with
 |zero=>
  intro i s hk hi hst hS hR;have hin:i=n:=by lia
  subst hin;refine EL PyProof.Rows.F.entry_set_update_loop ?_
  rw[Around.under_plainId PyProof.Rows.F.plain_set_update_loop _]
  show wpAny _ A.in1 (pyNext (.ref I) >>= _) _ _ s
  refine Ja (W.done s _ _ hst fun s' hm=>?_)
  show wpAny _ A.in1 (ret Value.none) _ _ s'
  exact Jb (hR s' (hm.mono hsub) (hS.at fun o e=>hm.heap S _ hSw e))
 |succ k ih=>
  intro i s hk hi hst hS hR;have hlt:i<n:=by lia
  refine EL PyProof.Rows.F.entry_set_update_loop ?_
  rw[Around.under_plainId PyProof.Rows.F.plain_set_update_loop _]
  show wpAny _ A.in1 (pyNext (.ref I) >>= _) _ _ s
  refine Ja (W.item i s _ _ hlt hst fun v s' hP hst' hm=>?_)
  obtain⟨hv1,hv2⟩:=hval i v hP;have hS':SetK knd kf s'.heap S (bI val i):=hS.at fun o e=>hm.heap S _ hSw e
  show wpAny _ A.in1 (holding [v] (setAdd S v) >>= _) _ _ s'
  refine Ja (JL ?_)
  unfold setAdd;refine JL (Ja (knd.pyHash (k:=val i) hv1 ?_))
  have:=nZ val i
  refine pK (s:={s' with toks:=s'.toks+1}) hkf hv1 hv2 hS' (by lia) fun h' hsb hS2=>?_
  have hSi:SetK knd kf h' S (bI val (i+1)):=by rw[kF];exact hS2
  refine Jb ⟨plainId_quiet PyProof.Rows.F.plain_set_update_loop _,ih (i+1) _ (by lia) hlt (W.frame _ s' _ _ hst' (Eo _) fun b hb o e=>?_) hSi fun s'' hm'' hS''=>?_⟩
  ·rw[hsb.2 b (fun h:b=S=>hSf (by rw[<- h];exact hb))];exact e
  ·refine hR s'' (Moved.trans W.gtrans ((hm.mono hsub).then_heap (Eo _) fun b o hb e=>?_) hm'') hS''
   rw[hsb.2 b (fun h:b=S=>hb (by rw[h];exact Jw))];exact e
end
variable{A:Around}{E:Gb}{s:Shared}
theorem CV(a:Value){Q₁:Gb}(h:Q₁ (.ref s.heap.objs.size) {s with heap:=s.heap.push (Qg (!zp w))}):
  codeAny (model prog w) A (.call (.builtin "set.__new__") ⟨[.type "set",a],[]⟩) (wants Q₁ E) s:=by
 refine codeAny_of_tree ?_
 show wpAny _ A.in1 (do checkBuiltinCall "set.__new__" ⟨[.type "set",a],[]⟩;again (.builtin "set.__new__" ⟨[.type "set",a],[]⟩)) _ _ s
 refine Ja (Eg (PySem.F.newCall_set_1 a) (Jb ⟨plainId_quiet PySem.F.plain_set_new _,EL PySem.F.entry_set_new ?_⟩))
 rw[Around.under_plainId PySem.F.plain_set_new _];unfold Builtin.«set.__new__» Builtin.Frozenset.newClass
 have hsub:=sub_set_self;obtain⟨hp,g,d,tk,os⟩:=s
 dsimp only
 wp_walk
 refine wpAny_askSetting (Jb ?_)
 dsimp only
 simp only[newObj];refine Ja (wpAny_alloc (Jb ?_))
 exact Jb h
def xp(knd:PySem.KeyKind prog w K)(kf:Value->K)(s:Shared)(ks:List K)(r:Value)(s₂:Shared):Prop:=
 r= .none/\∃h' tk,s₂={s with heap:=h',toks:=tk}/\SetK knd kf h' s.heap.objs.size ks/\∀b o,b<s.heap.objs.size->s.heap.get? b=some o->h'.get? b=some o
theorem BY(hkf:∀k v,knd.is k v=true->kf v=k){t:Addr}{items:Array Value}{val:Nat->K}(hh:A.handled=none)(ht:s.heap.IsList t items)
  (hv:∀i v,items[i]? =some v->knd.is (val i) v=true/\v.scannable=true)(hb:items.size+1<scanBound):
  wpAny (model prog w) A.in1.in1 (Builtin.«set.__init__» ⟨[.ref s.heap.objs.size,.ref t],[]⟩) (fun fin s'=>∃v,fin= .done (.ret v)/\xp knd kf s (bI val items.size) v s') E {s with heap:=s.heap.push (Qg (!zp w))}:=by
 obtain⟨⟨oc,od,ot,os⟩,e1,e2,n,e3⟩:=ht;simp only at e2 e3
 subst e2 e3;have e1':(s.heap.push (Qg (!zp w))).get? t=some ⟨.type "list",od,.seq items n,os⟩:=Ji _ e1
 have f1:=PySem.F.sub_list_set;have f2:=PySem.F.sub_list_frozenset;have f3:(Value.type "list"==Value.type "dict")=false:=by decide
 have t1:(s.heap.push (Qg (!zp w))).IsList t items:=⟨_,e1',rfl,n,rfl⟩
 have hS:(s.heap.push (Qg (!zp w))).get? s.heap.objs.size=some (Qg (!zp w)):=Jp _ rfl
 unfold Builtin.«set.__init__» noKeywords Builtin.Frozenset.updateFrom
 generalize hPI:pyIter=PI
 wp_walk
 subst hPI;refine Ff t1 (Ja (wpAny_runValue ?_))
 have lt:t<s.heap.objs.size:=Jh e1
 have sz:(s.heap.push (Qg (!zp w))).objs.size=s.heap.objs.size+1:=JV ..
 have h3:A.in1.in1.in1.handled=none:=by simp [hh]
 have ni:t≠(s.heap.push (Qg (!zp w))).objs.size:=by rw[sz];exact Jm (Ex lt)
 have nS:s.heap.objs.size∉[(s.heap.push (Qg (!zp w))).objs.size,t]:=by
  rw[sz];simp only[Jk,Js,Jt,not_or]
  exact⟨Jm (Ek _),JX lt⟩
 refine Cq hkf ((Walks.list h3 _ t ni items).toS) s.heap.objs.size nS val hv hb items.size 0 _ (by lia) (JI _) ⟨⟨_,Jp _ rfl,rfl,rfl⟩,t1.push _⟩ (Ap (Ji _ hS)) fun s' mv hS'=>?_
 obtain⟨h',g',d',tk',os'⟩:=s'
 obtain rfl:g'=s.gens:=mv.gens
 obtain rfl:d'=s.drawn:=mv.drawn
 obtain rfl:os'=s.os:=mv.os
 show wpAny _ _ _ _ _ _
 refine Jb ?_
 show wpAny _ _ (ret Value.none) _ _ _
 refine Jb ⟨_,rfl,rfl,h',tk',rfl,hS',fun b o hb' e=>mv.heap b o ?_ (Ji _ (Ji _ e))⟩
 rw[sz];simp only[Jk,Js,Jt,not_or]
 exact⟨Jm hb',Jm (Ex hb')⟩
theorem uQ(hkf:∀k v,knd.is k v=true->kf v=k){t:Addr}{items:Array Value}{val:Nat->K}{Q:Gb}(hh:A.handled=none)(ht:s.heap.IsList t items)
  (hv:∀i v,items[i]? =some v->knd.is (val i) v=true/\v.scannable=true)(hb:items.size+1<scanBound)
  (h:∀(h':Heap) (tk:Nat),SetK knd kf h' s.heap.objs.size (bI val items.size)->(∀b o,s.heap.get? b=some o->h'.get? b=some o)->Q (.ref s.heap.objs.size) {s with heap:=h',toks:=tk}):
  wpAny (model prog w) A (call (.type "set") [.ref t]) Q E s:=by
 obtain⟨c,tl,hmro⟩:=PySem.F.called_set.mro;have m1:=PySem.F.called_set.made;have m2:=PySem.F.called_set.sub;have m3:=PySem.F.called_set.notType;have m4:=PySem.F.called_set.canCreate;have m5:=PySem.F.typeCall_set_1 (.ref t);refine wpAny_call (codeAny_of_tree ?_)
 show wpAny _ _ (callAny (.type "set") _) _ _ _
 refine Jb ⟨Code.quiet_builtin _ (by decide +kernel),EL PySem.F.entry_type_call ?_⟩
 rw[Around.under_plain (weight_type_call_type "set" [.ref t] []) rfl]
 repeat (any_goals (first|assumption|wp_step))
 refine E1 (CV (.ref t) (E:=E) (Q₁:=fun obj s₁=>obj= .ref s.heap.objs.size/\s₁={s with heap:=s.heap.push (Qg (!zp w))}) ⟨rfl,rfl⟩) fun r s₁ hr=>?_
 cases r with
 |error e=>exact hr
 |ok fl=>
  cases fl with
  |ret obj=>
   obtain⟨rfl,rfl⟩:=hr;have hT:Shared.TypeIs {s with heap:=s.heap.push (Qg (!zp w))} (.ref s.heap.objs.size) "set":=⟨_,Jp _ rfl,rfl⟩
   have n1:=PySem.F.called_set.init.lookup;have n2:=PySem.F.called_set.init.bind (.ref s.heap.objs.size)
   repeat (any_goals (first|assumption|wp_step))
   refine E1 (codeAny_call_builtin (R:=wants (xp knd kf s (bI val items.size)) E) PySem.F.called_set.init.plain PySem.F.entry_set_init (check_set_init_1 hT (JH (BY hkf hh ht hv hb) (fun fin s' ⟨v,e,d⟩=>by subst e;exact d) fun _ _ z=>z))) fun r₂ s₂ hr₂=>?_
   cases r₂ with
   |error e=>exact hr₂
   |ok fl₂=>
    cases fl₂ with
    |ret r=>
     obtain⟨rfl,h',tk,rfl,hS',hk'⟩:=hr₂
     repeat (any_goals (first|assumption|wp_step))
     exact h _ _ hS' fun b o e=>hk' b o (Jh e) e
    |_=>exact hr₂.elim
  |_=>exact hr.elim
end
theorem bN{α:Type}:∀(l:List α) (i:Nat) (x:α),l[i]? =some x->(x::l.eraseIdx i).Perm l
 | [],i,x,h=>by simp at h
 |y::l,0,x,h=>by simp at h;subst h;exact List.Perm.refl _
 |y::l,i+1,x,h=>by
  have ih:=bN l i x (by simpa using h)
  rw[List.eraseIdx_cons_succ]
  exact(List.Perm.swap y x _).trans (ih.cons y)
theorem oy{α:Type}(next:Nat->Nat):∀(f k:Nat) (l:List α) (out:Array α),l.length=f->(pickOrder.go next f k l out).toList.Perm (out.toList++l)
 |0,k,l,out,h=>by
  have e:l=[]:=List.length_eq_zero_iff.mp h
  subst e;unfold pickOrder.go;simp
 |f+1,k,l,out,h=>by
  unfold pickOrder.go;have hm:next k%l.length<l.length:=Nat.mod_lt _ (by lia)
  have hg:=Jj hm;rw[hg]
  dsimp only
  have hp:=bN l _ _ hg;refine(oy next f (k+1) _ _ (by rw[List.length_eraseIdx,Jc hm];lia)).trans ?_
  rw[Array.toList_push,Ew];exact List.Perm.append_left _ hp
theorem iB{α:Type}(next:Nat->Nat)(xs:Array α):(pickOrder next xs).toList.Perm xs.toList:=by
 have:=oy next xs.size 0 xs.toList #[] (by simp)
 simpa [pickOrder]using this
section
variable{M:Model}{A:Around}{E:Gb}
theorem lq{s:Shared}{src:Source}{n:Nat}{Q:Nat->Shared->Prop}(hn:n≠0)(h:∀i,i<n->Q i {s with drawn:=s.drawn.bump src}):wpAny M A (choose src n) Q E s:=
 fun _ _ _=>⟨hn,h _ (Nat.mod_lt _ (Nat.pos_of_ne_zero hn))⟩
theorem gb{α:Type}:∀(n:Nat) (xs:List α) {s:Shared} {Q:List α->Shared->Prop},xs.length<=n->(∀ys d,ys.Perm xs->Q ys {s with drawn:=d})->wpAny M A (drawOrder n xs) Q E s
 |0,xs,s,Q,hl,h=>by
  have e:xs=[]:=List.length_eq_zero_iff.mp (by lia)
  subst e;exact Jb (h [] s.drawn (List.Perm.refl _))
 |n+1,[],s,Q,hl,h=>Jb (h [] s.drawn (List.Perm.refl _))
 |n+1,x::xs,s,Q,hl,h=>by
  show wpAny M A (do
   let i <- choose .order (x::xs).length
   match(x::xs)[i]? with
   |some y=>return y::(<- drawOrder n ((x::xs).eraseIdx i))
   |none=>unsupported "internal:drawOrder") Q E s
  refine Ja (lq (by simp) fun i hi=>?_)
  have hg:=Jj hi;rw[hg]
  dsimp only
  refine Ja (gb n _ (by rw[List.length_eraseIdx,Jc hi];simp at hl⊢;lia) fun ys d hp=>Jb (h _ d ?_))
  exact(hp.cons _).trans (bN _ _ _ hg)
end
abbrev lj(f:Value)(i:Nat)(a:Addr)(n ep:Nat):Obj:={cls:= .type "set_iterator",data:= .fields #[f,.int i 0,.ref a,.int n 0,.int ep 0]}
def Way(w:World)(a T:Addr)(es:Array (Int×Value))(ep:Nat)(t:SetTable)(vs:List Value)(i:Nat)(f:Value)(h:Heap):Prop:=
 (zp w=true/\(∃z:Nat,f= .int z 0)/\vs=(pickOrder (w.params.setOrder a ep) es).toList.map (·.2))\/
 (zp w=false/\(!t.plain&&decide (es.size>1))=false/\t.led=true/\Rs t.place/\(∃z:Nat,f= .int z 0/\SetTable.below t.place z=i)/\vs=es.toList.map (·.2))\/
 (∃ps:List Nat,f= .ref T/\h.IsTuple T (ps.map fun p:Nat=>Value.int (p:Int) 0).toArray/\vs.map some=ps.map fun p=>es[p]?.map (·.2))
theorem Way.keep{w:World}{a T:Addr}{es:Array (Int×Value)}{ep:Nat}{t:SetTable}{vs:List Value}{i:Nat}{f:Value}{h h':Heap}(x:Way w a T es ep t vs i f h)
  (e:∀o,h.get? T=some o->h'.get? T=some o):Way w a T es ep t vs i f h':=by
 rcases x with x|x|⟨ps,x1,⟨o,x2,x3⟩,x4⟩
 ·exact .inl x
 ·exact .inr (.inl x)
 ·exact .inr (.inr ⟨ps,x1,⟨o,e _ x2,x3⟩,x4⟩)
theorem rg(a:Addr)(sl gv ep:Nat):setNext a sl gv ep=(do
 let(es,ec,t) <- setState a
 if <- setsByText then
  if ec != ep then unsupported "set_iterator.__next__:elements-changed"
  return ((<- setWalk a)[gv]?).map fun e=>(e.2,sl)
 if !t.plain&&es.size>1 then unsupported "set_iterator.__next__:the-table-is-plain-no-more"
 (do if !t.led&& !es.isEmpty then unsupported "set:maker-not-led":Sem Unit)
 let i:=SetTable.below t.place sl
 return match es[i]?,t.place[i]? with
  |some (_,x),some j=>some (x,j+1)
  |_,_=>none):=rfl
section
variable{prog:Program}{w:World}{A:Around}{E:Gb}{s:Shared}
theorem QF{Q:Bool->Shared->Prop}(h:Q (zp w) s):wpAny (model prog w) A setsByText Q E s:=
 Ja (wpAny_askSetting (Jb h))
variable{a T:Addr}{o:Obj}{es:Array (Int×Value)}{ep:Nat}{t:SetTable}{vs:List Value}{i:Nat}
theorem nX{Q:Option (Value×Nat)->Shared->Prop}(ho:s.heap.get? a=some o)(hd:o.data= .set es ep t)(hf:t.fits es.size=true){z:Nat}(W:Way w a T es ep t vs i (.int z 0) s.heap)
  (h:∀r,r.map (·.1)=vs[i]? ->(∀z':Nat,r.map (·.2)=some z'->Way w a T es ep t vs (i+1) (.int z' 0) s.heap)->Q r s):wpAny (model prog w) A (setNext a z i ep) Q E s:=by
 rw[rg];refine Ja (wpAny_setState_of ho hd hf ?_)
 dsimp only
 refine Ja (QF ?_)
 rcases W with⟨w1,⟨z1,w2⟩,w3⟩|⟨w1,w2,w3,w4,⟨z1,w5,w6⟩,w7⟩|⟨ps,w1,_⟩
 ·rw[w1,Jc rfl]
  simp only[bne_self_eq_false,Bool.false_eq_true,JE];refine Ja ?_
  unfold setWalk;refine Ja (wpAny_setState_of ho hd hf ?_)
  dsimp only
  refine Ja (QF ?_)
  rw[w1,Jc rfl];refine Ja (wpAny_askSetting (Jb (Jb (h _ ?_ fun z' _=> .inl ⟨w1,⟨z',rfl⟩,w3⟩))))
  rw[w3,Jo,Option.map_map,Array.getElem?_toList];rfl
 ·rw[w1,Jd (by decide),w2]
  simp only[Bool.false_eq_true,JE,w3,Bool.not_true,Eb];refine Ja (Jb ?_)
  have ez:z=z1:=by injection w5 with w5;lia
  subst ez;rw[w6];have hps:t.place.size=es.size:=by
   simp only[SetTable.fits,Jz,JZ]at hf;exact hf.1
  refine Jb (h _ ?_ fun z' hz=> .inr (.inl ⟨w1,w2,w3,w4,⟨z',rfl,?_⟩,w7⟩))
  ·rw[w7,Jo,Array.getElem?_toList]
   by_cases hi:i<es.size
   ·rw[getElem?_pos es i hi,getElem?_pos t.place i (by lia)];rfl
   ·rw[Array.getElem?_eq_none (by lia)];rfl
  ·by_cases hi:i<es.size
   ·have hi':i<t.place.size:=by lia
    rw[getElem?_pos es i hi,getElem?_pos t.place i hi']at hz;simp only[Option.map_some,Option.some.injEq]at hz;subst hz;obtain⟨b1,b2,b3⟩:=bR w4 (t.place[i]+1)
    generalize SetTable.below t.place (t.place[i]+1)=p at *
    have c1:¬p<=i:=fun c=>by have:=b3 i hi' c;lia
    have c2:¬i+2<=p:=fun c=>by
     have hj:i+1<t.place.size:=by lia
     have d1:=b2 (i+1) hj (by lia)
     have d2:=w4.at hi' hj (by lia)
     lia
    lia
   ·rw[Array.getElem?_eq_none (by lia)]at hz;simp at hz
 ·cases w1
end
theorem slot_si_next:Slot "set_iterator" "__next__" "set_iterator.__next__":=
 .of (owner:="set_iterator") (n:="__next__") (by rw[Fl,Fn];kernel_rfl) (by decide +kernel) (by decide +kernel) (by decide +kernel)
  (by first|exact .inl (by decide +kernel)|exact .inr (by decide +kernel)) (by rw[EX];kernel_rfl)
theorem cz:entryFor table "set_iterator.__next__"=some Builtin.«set_iterator.__next__»:=entryFor_of_tree (by kernel_rfl)
theorem c9(a:Value):argsOk "set_iterator.__next__" ⟨[a],[]⟩:=by unfold argsOk;kernel_rfl
theorem cO:Slot "set_iterator" "__iter__" "set_iterator.__iter__":=
 .of (owner:="set_iterator") (n:="__iter__") (by rw[Fl,Fn];kernel_rfl) (by decide +kernel) (by decide +kernel) (by decide +kernel)
  (by first|exact .inl (by decide +kernel)|exact .inr (by decide +kernel)) (by rw[EX];kernel_rfl)
theorem jD:entryFor table "set_iterator.__iter__"=some Builtin.«dict_keyiterator.__iter__»:=
 entryFor_alias (id':="dict_keyiterator.__iter__") (by kernel_rfl) rfl (by decide +kernel) (by kernel_rfl)
theorem jS(a:Value):argsOk "set_iterator.__iter__" ⟨[a],[]⟩:=by unfold argsOk;kernel_rfl
theorem gG:entryFor table "set.__iter__"=some Builtin.«frozenset.__iter__»:=
 entryFor_alias (id':="frozenset.__iter__") (by kernel_rfl) rfl (by decide +kernel) (by kernel_rfl)
section
variable{prog:Program}{w:World}{A:Around}{E:Gb}{s:Shared}
variable{a T:Addr}{o:Obj}{es:Array (Int×Value)}{ep:Nat}{t:SetTable}{vs:List Value}{i:Nat}{f:Value}
theorem eD{h:Heap}{I:Addr}{o:Obj}{xs:Array Value}(ho:h.get? I=some o)(hd:o.data= .fields xs)(k:Nat)(x:Value):
  (h.update I (Obj.mapFields (·.setIfInBounds k x))).get? I=some {o with data:= .fields (xs.setIfInBounds k x)}:=by
 rw[EV _ ho (FM (E6 hd _))];obtain⟨c,d,dt,sl⟩:=o
 dsimp only at hd
 subst hd;rfl
theorem AI{I:Addr}{v:Value}{Q:Option Value->Shared->Prop}(hI:s.heap.get? I=some (lj f i a es.size ep))(ho:s.heap.get? a=some o)(hd:o.data= .set es ep t)(hf:t.fits es.size=true)
  (W:Way w a T es ep t vs i f s.heap)(nT:T≠I)(hv:vs[i]? =some v)
  (hQ:∀f' h',Heap.SameBut I s.heap h'->h'.get? I=some (lj f' (i+1) a es.size ep)->Way w a T es ep t vs (i+1) f' h'->Q (some v) {s with heap:=h'}):
  wpAny (model prog w) A (pyNext (.ref I)) Q E s:=by
 have hT:s.TypeIs (.ref I) "set_iterator":=⟨_,hI,rfl⟩
 unfold pyNext;refine Ja (Ez (wpAny_callSpecial?_slot (name:=Str.ofString "__next__") hT slot_si_next (JS slot_si_next hT cz ?_ (c9 _))))
 unfold Builtin.«set_iterator.__next__»
 refine Ja (Jb (Ja (wpAny_fieldsOf hI rfl ?_)))
 dsimp only
 refine Ja ?_
 unfold setEntries;refine Ja (wpAny_setState_of ho hd hf (Jb ?_))
 dsimp only
 simp only[bne_self_eq_false,Bool.false_eq_true,JE];have keep:∀(k:Nat) (x:Value),∀(h:Heap),∀o,h.get? T=some o->(h.update I (Obj.mapFields (·.setIfInBounds k x))).get? T=some o:=fun k x h o e=>by
  rw[Fh _ _ (Ne.symm nT)];exact e
 have fin:∀(E':Gb) (z:Nat),f= .int z 0->wpAny (model prog w) A.in1 (do
   match <- setNext a z i ep with
   |some (x,next)=>
    setField (.ref I) 0 (rawInt next)
    setField (.ref I) 1 (rawInt ((i:Int)+1))
    ret x
   |none=>setField (.ref I) 2 .none;raiseNew (<- newExc (.type "StopIteration") [])) (fun fin s'=>∃v,fin= .done (.ret v)/\(wpAny (model prog w) A (pure (some v)) Q E s')) E' s:=by
  intro E' z hz;subst hz;refine Ja (nX ho hd hf W fun r h1 h2=>?_)
  rw[hv]at h1;cases r with
  |none=>cases h1
  |some p=>
   obtain⟨x,j⟩:=p;simp only[Option.map_some,Option.some.injEq]at h1;subst h1
   dsimp only
   refine Ja (Er hI rfl (by simp) ?_)
   have g1:=eD hI rfl 0 (rawInt (j:Int))
   refine Ja (Er g1 rfl (by simp) ?_)
   have g2:=eD g1 rfl 1 (rawInt ((i:Int)+1))
   refine Jb ⟨_,rfl,Jb (hQ (.int j 0) _ ((DW ..).trans (DW ..)) ?_ ((h2 j rfl).keep fun o e=>keep _ _ _ _ (keep _ _ _ _ e)))⟩
   rw[g2];simp [rawInt]
 rcases id W with⟨_,⟨z,rfl⟩,_⟩|⟨_,_,_,_,⟨z,rfl,_⟩,_⟩|⟨ps,rfl,⟨oT,k1,k2,n,k3⟩,k4⟩
 ·exact fin _ z rfl
 ·exact fin _ z rfl
 ·dsimp only
  refine Ja (EI k1 k3 ?_)
  dsimp only
  have h1:(vs.map some)[i]? =some (some v):=by rw[Jo,hv];rfl
  rw[k4,Jo]at h1;obtain⟨p,hp,h2⟩:=DZ.mp h1;obtain⟨e,he,h3⟩:=DZ.mp h2;have h4:((ps.map fun p:Nat=>Value.int (p:Int) 0).toArray)[((i:Nat):Int).toNat]? =some (.int (p:Int) 0):=by
   rw[Ee,List.getElem?_toArray,Jo,hp];rfl
  rw[h4]
  dsimp only
  refine Ja ?_
  unfold setNextDrawn;refine Ja (wpAny_setState_of ho hd hf ?_)
  dsimp only
  rw[Ee,Ee,he];simp only[bne_self_eq_false,Bool.false_eq_true,JE];refine Jb (Ja (Er hI rfl (by simp) ?_))
  have g1:=eD hI rfl 1 (rawInt ((i:Int)+1))
  refine Jb ⟨_,rfl,Jb ?_⟩
  rw[h3];refine hQ (.ref T) _ (DW ..) ?_ (.inr (.inr ⟨ps,rfl,⟨oT,keep _ _ _ _ k1,k2,n,k3⟩,k4⟩))
  rw[g1];simp [rawInt]
theorem ud{B:Around}{s:Shared}{Q:Option Value->Shared->Prop}(hh:B.handled=none)(h:∀h',(∀b o,s.heap.get? b=some o->h'.get? b=some o)->Q none {s with heap:=h'}):
  wpAny (model prog w) B.in1 (newExc (.type "StopIteration") [] >>= raiseNew) (fun(fin:Fin) s'=>∃v,fin= .done (.ret v)/\wpAny (model prog w) B (pure (some v)) Q E s')
   (fun e s'=>wpAny (model prog w) B (do
     let __do_lift <- isInstance e (Value.type "StopIteration")
     if __do_lift=true then pure none else throw e) Q E s') s:=by
 refine Ja ?_
 simp only[newExc,newTuple];refine Ja (D9 ?_ (by size_fits))
 refine Ja (m:=firstArgMember _ _) (Eg (a:=Value.none) (by first|rfl|(simp only[firstArgMember];rfl)) ?_)
 refine D9 ?_ (by size_fits)
 simp only[raiseNew];refine Ja (wpAny_handled ?_)
 rw[show B.in1.handled=none from hh]
 refine Ja (Jb (wpAny_throw ?_))
 refine Ja (EJ (T:="StopIteration") (b:=true) ⟨_,Jp _ rfl,rfl⟩ Fx ?_)
 exact Jb (h _ fun b o e=>Ji _ (Ji _ e))
theorem B5{I:Addr}{Q:Option Value->Shared->Prop}(hh:A.handled=none)(hI:s.heap.get? I=some (lj f i a es.size ep))(ho:s.heap.get? a=some o)(hd:o.data= .set es ep t)(hf:t.fits es.size=true)
  (W:Way w a T es ep t vs i f s.heap)(hv:vs[i]? =none)
  (hQ:∀h',(∀b o,b≠I->s.heap.get? b=some o->h'.get? b=some o)->Q none {s with heap:=h'}):
  wpAny (model prog w) A (pyNext (.ref I)) Q E s:=by
 have hT:s.TypeIs (.ref I) "set_iterator":=⟨_,hI,rfl⟩
 unfold pyNext;refine Ja (Ez (wpAny_callSpecial?_slot (name:=Str.ofString "__next__") hT slot_si_next (JS slot_si_next hT cz ?_ (c9 _))))
 unfold Builtin.«set_iterator.__next__»
 refine Ja (Jb (Ja (wpAny_fieldsOf hI rfl ?_)))
 dsimp only
 refine Ja ?_
 unfold setEntries;refine Ja (wpAny_setState_of ho hd hf (Jb ?_))
 dsimp only
 simp only[bne_self_eq_false,Bool.false_eq_true,JE];have oth:∀(k:Nat) (x:Value) (h:Heap) (b:Addr) (o:Obj),b≠I->h.get? b=some o->(h.update I (Obj.mapFields (·.setIfInBounds k x))).get? b=some o:=fun k x h b o n e=>by
  rw[Fh _ _ (Ne.symm n)];exact e
 have fin:∀(z:Nat),f= .int z 0->wpAny (model prog w) A.in1 (do
   match <- setNext a z i ep with
   |some (x,next)=>
    setField (.ref I) 0 (rawInt next)
    setField (.ref I) 1 (rawInt ((i:Int)+1))
    ret x
   | none=>setField (.ref I) 2 .none;raiseNew (<- newExc (.type "StopIteration") [])) (fun fin s'=>∃v,fin= .done (.ret v)/\(wpAny (model prog w) A (pure (some v)) Q E s')) (fun e s'=>wpAny (model prog w) A (do
     let __do_lift <- isInstance e (Value.type "StopIteration")
     if __do_lift=true then pure none else throw e) Q E s') s:=by
  intro z hz;subst hz;refine Ja (nX ho hd hf W fun r h1 h2=>?_)
  rw[hv]at h1;cases r with
  |some p=>cases h1
  |none=>
   dsimp only
   refine Ja (Er hI rfl (by simp) ?_)
   exact ud hh fun h' hk=>hQ h' fun b o n e=>hk b o (oth _ _ _ _ _ n e)
 rcases id W with⟨_,⟨z,rfl⟩,_⟩|⟨_,_,_,_,⟨z,rfl,_⟩,_⟩|⟨ps,rfl,⟨oT,k1,k2,n,k3⟩,k4⟩
 ·exact fin z rfl
 ·exact fin z rfl
 ·dsimp only
  refine Ja (EI k1 k3 ?_)
  dsimp only
  have h1:(vs.map some)[i]? =none:=by rw[Jo,hv];rfl
  rw[k4,Jo]at h1;have h4:((ps.map fun p:Nat=>Value.int (p:Int) 0).toArray)[((i:Nat):Int).toNat]? =none:=by
   rw[Ee,List.getElem?_toArray,Jo];cases hp:ps[i]? with
   |none=>rfl
   |some p=>rw[hp]at h1;cases h1
  rw[h4]
  dsimp only
  refine Ja (Er hI rfl (by simp) ?_)
  have g1:=eD hI rfl 0 (rawInt 0);refine Ja (Er g1 rfl (by simp) ?_)
  exact ud hh fun h' hk=>hQ h' fun b o n e=>hk b o (oth _ _ _ _ _ n (oth _ _ _ _ _ n e))
theorem vb{I:Addr}(hh:A.handled=none)(nT:T≠I)(na:a≠I)(hl:vs.length=es.size):Walks prog w A I [I,a,T] [I] es.size (fun i v=>vs[i]? =some v)
  (fun i h=>(∃o,h.get? a=some o/\o.data= .set es ep t/\t.fits es.size=true)/\∃f,h.get? I=some (lj f i a es.size ep)/\Way w a T es ep t vs i f h) where
 sub:=fun b hb=>by simp at hb;simp [hb]
 frame:=fun i h h' ⟨⟨o,x1,x2⟩,f,x3,x4⟩ hk=>⟨⟨o,hk a (by simp) o x1,x2⟩,f,hk I (by simp) _ x3,x4.keep fun o e=>hk T (by simp) o e⟩
 item:=fun i s Q E hi ⟨⟨o,x1,x2,x2'⟩,f,x3,x4⟩ hQ=>by
  have hv:vs[i]? =some vs[i]:=Jj (by omega)
  refine AI x3 x1 x2 x2' x4 nT hv fun f' h' hs h1 h2=>hQ _ h' s.toks hv ⟨⟨o,by rw[hs.2 a na];exact x1,x2,x2'⟩,f',h1,h2⟩ fun b o hb e=>?_
  rw[hs.2 b (fun h=>hb (by simp [h]))];exact e
 done:=fun s Q E ⟨⟨o,x1,x2,x2'⟩,f,x3,x4⟩ hQ=>B5 hh x3 x1 x2 x2' x4 (F0 (by omega)) fun h' hk=>hQ h' s.toks fun b o hb e=>hk b o (fun h=>hb (by simp [h])) e
 self:=fun i s Q E ⟨_,f,x3,_⟩ hQ=>by
  have hT:s.TypeIs (.ref I) "set_iterator":=⟨_,x3,rfl⟩
  refine wpAny_pyIter_slot hT cO (JS cO hT jD ?_ (jS _))
  show wpAny _ _ (ret (.ref I)) _ _ s
  exact Jb ⟨_,rfl,"set_iterator",_,hT,slot_si_next.lookup,hQ⟩
end
section
variable{prog:Program}{w:World}{A:Around}{E:Gb}{s:Shared}
variable{a:Addr}{o:Obj}{es:Array (Int×Value)}{ep:Nat}{t:SetTable}
theorem rG{xs:Array Nat}(h:Rs xs):SetTable.below xs 0=0:=by
 obtain⟨h1,h2,h3⟩:=bR h 0;generalize SetTable.below xs 0=p at *
 cases p with
 |zero=>rfl
 |succ p=>exact absurd (h2 0 (by lia) (by lia)) (Nat.not_lt_zero _)
theorem Rs.few{xs:Array Nat}(h:xs.size<=1):Rs xs:=by
 unfold Rs;rw[List.pairwise_iff_getElem];intro i j hi hj hij;simp at hi hj
 lia
theorem pv{ps:List Nat}(hp:ps.Perm (List.range es.size)):∃vs:List Value,vs.map some=(ps.map fun p=>es[p]?.map (·.2))/\vs.Perm (es.toList.map (·.2)):=by
 refine⟨ps.map fun p=>(es[p]?.map (·.2)).getD .none,?_,?_⟩
 ·rw[EB]
  refine FA fun p h=>?_
  have hlt:p<es.size:=J5.mp (hp.mem_iff.mp h)
  show some ((es[p]?.map (·.2)).getD .none)=_
  rw[getElem?_pos es p hlt];rfl
 ·refine(hp.map _).trans (List.Perm.of_eq ?_)
  apply List.ext_getElem
  ·simp
  ·intro i h1 h2
   simp at h1
   simp [h1]
theorem BV{Q:Gb}(ho:s.heap.get? a=some o)(hex:o.ExactSet)(hd:o.data= .set es ep t)(hf:t.fits es.size=true)(hb:es.size<scanBound)(tw:TW w t)
  (hQ:∀(h':Heap) (d:Drawn) (I T:Addr) (vs:List Value) (f:Value),s.heap.objs.size<=I->T≠I->a≠I->(T=a\/s.heap.objs.size<=T)->(∀b o,s.heap.get? b=some o->h'.get? b=some o)->vs.Perm (es.toList.map (·.2))->
   h'.get? I=some (lj f 0 a es.size ep)->Way w a T es ep t vs 0 f h'->Q (.ref I) {s with heap:=h',drawn:=d}):
  wpAny (model prog w) A (pyIter (.ref a)) Q E s:=by
 have hT:s.TypeIs (.ref a) "set":=⟨o,ho,hex.1⟩
 have hlt:a<s.heap.objs.size:=Jh ho
 refine wpAny_pyIter_slot hT PySem.F.slot_set_iter (JS PySem.F.slot_set_iter hT gG ?_ (PySem.F.args_set_iter_1 _))
 unfold Builtin.«frozenset.__iter__»
 refine Ja ?_
 show wpAny _ _ (pure a) _ _ _
 refine Jb (Ja ?_)
 unfold Builtin.Frozenset.sizeOf setEntries;refine Ja (Ja (wpAny_setState_of ho hd hf (Jb (Jb ?_))))
 refine Ja ?_
 unfold setDrawn;refine Ja (wpAny_setState_of ho hd hf ?_)
 dsimp only
 refine Ja (QF (Jb ?_))
 show wpAny _ _ (if(!zp w&&(!t.plain&&decide (es.size>1)))=true then _ else _) _ _ _
 by_cases hdr:(!zp w&&(!t.plain&&decide (es.size>1)))=true
 ·rw[Jc hdr]
  refine Ja (gb _ _ (by simp) fun ps d hp=>?_)
  obtain⟨vs,v1,v2⟩:=pv hp;refine Ja (wpAny_newTuple (items:=ps.map fun i:Nat=>rawInt (i:Int)) ?_ (by rw[Je,hp.length_eq,List.length_range];exact fits_of_scanBound hb))
  have hT1:(s.heap.push {cls:= .type "tuple",data:= .seq (ps.map fun i:Nat=>rawInt (i:Int)).toArray}).get? s.heap.objs.size=some {cls:= .type "tuple",data:= .seq (ps.map fun i:Nat=>rawInt (i:Int)).toArray}:=Jp _ rfl
  have ho1:=Ji {cls:= .type "tuple",data:= .seq (ps.map fun i:Nat=>rawInt (i:Int)).toArray} ho
  unfold setEpoch;refine Ja (Ja (wpAny_setState_of (s:={s with heap:=s.heap.push {cls:= .type "tuple",data:= .seq (ps.map fun i:Nat=>rawInt (i:Int)).toArray},drawn:=d}) ho1 hd hf (Jb ?_)))
  unfold newFields;refine Ja (D9 (Jb ⟨_,rfl,"set_iterator",_,⟨_,Jp _ rfl,rfl⟩,slot_si_next.lookup,?_⟩))
  refine hQ _ d _ s.heap.objs.size vs (.ref s.heap.objs.size) (by rw[JV];exact Eo _) (by rw[JV];exact Jm (Ek _)) (by rw[JV];exact Jm (Ex hlt)) (.inr (Jf _))
   (fun b o e=>Ji _ (Ji _ e)) v2 (Jp _ rfl) (.inr (.inr ⟨ps,rfl,?_,v1⟩))
  exact⟨_,Ji _ hT1,rfl,0,rfl⟩
 ·rw[Jd hdr]
  refine Ja (Jb ?_)
  unfold setEpoch;refine Ja (Ja (wpAny_setState_of ho hd hf (Jb ?_)))
  unfold newFields;refine Ja (D9 (Jb ⟨_,rfl,"set_iterator",_,⟨_,Jp _ rfl,rfl⟩,slot_si_next.lookup,?_⟩))
  have go:∀vs:List Value,vs.Perm (es.toList.map (·.2))->Way w a a es ep t vs 0 (.int (0:Nat) 0) (s.heap.push (lj (.int (0:Nat) 0) 0 a es.size ep))->Q (.ref s.heap.objs.size) {s with heap:=s.heap.push (lj (.int (0:Nat) 0) 0 a es.size ep)}:=fun vs b1 b2=>
   hQ _ s.drawn _ a vs (.int (0:Nat) 0) (Jf _) (Jm hlt) (Jm hlt) (.inl rfl) (fun b o e=>Ji _ e) b1 (Jp _ rfl) b2
  cases hbt:zp w with
  |true=>exact go _ ((iB _ es).map _) (.inl ⟨hbt,⟨0,rfl⟩,rfl⟩)
  |false=>
   rw[hbt]at hdr;have hdr':(!t.plain&&decide (es.size>1))=false:=by simpa using hdr
   rcases tw with z|⟨z1,z2⟩
   ·rw[hbt]at z;cases z
   ·have hRs:Rs t.place:=by
     cases hp:t.plain with
     |true=>exact z2 hp
     |false=>
      rw[hp]at hdr';refine Rs.few ?_
      simp only[SetTable.fits,Jz,JZ]at hf;simp at hdr'
      lia
    exact go _ (List.Perm.refl _) (.inr (.inl ⟨hbt,hdr',z1,hRs,⟨0,rfl,rG hRs⟩,rfl⟩))
theorem wH{Q:Bool->Shared->Prop}(hT:s.TypeIs (.ref a) "set")(h:Q false s):wpAny (model prog w) A (Builtin.List.listLengthHint (.ref a)) Q E s:=by
 unfold Builtin.List.listLengthHint;refine Ja (E7 hT PySem.F.slot_set_len.lookup ?_)
 generalize hid:("set.__len__":String)=id0
 wp_delta
 rw[show splitId id0=some ("set","__len__")from by subst hid;decide +kernel]
 subst hid;refine Ja (EJ (T:="set") (b:=true) hT (by rw[EX];kernel_rfl) ?_)
 refine wpAny_ite_split (fun hab=>absurd hab (by decide)) (fun _=>?_)
 refine wpAny_ite_split (fun _=>?_) (fun hab=>absurd (by decide +kernel) hab)
 exact Ja (Fg hT (Jb h))
theorem iS{Q:List Value->Shared->Prop}(hh:A.handled=none)(ho:s.heap.get? a=some o)(hex:o.ExactSet)(hd:o.data= .set es ep t)(hf:t.fits es.size=true)(hb:es.size<scanBound)(tw:TW w t)
  (h:∀(vs:List Value) (h':Heap) (tk:Nat) (d:Drawn),(∀b o,s.heap.get? b=some o->h'.get? b=some o)->s.heap.objs.size<=h'.objs.size->vs.Perm (es.toList.map (·.2))->Q vs {s with heap:=h',toks:=tk,drawn:=d}):
  wpAny (model prog w) A (collect (.ref a)) Q E s:=by
 unfold collect;refine Ja (wpAny_runValue (EL entry_proto_collect' ?_))
 show wpAny _ _ (do again (.builtin "list.__iadd__" ⟨[<- newList [],.ref a],[]⟩)) _ _ s
 refine Ja (wpAny_newList (Jb ⟨Code.quiet_builtin _ (by decide +kernel),EL entry_list_iadd' ?_⟩))
 rw[Around.under_plainId PySem.F.plain_list_iadd _];have hlt:a<s.heap.objs.size:=Jh ho
 have hLs:(s.heap.push (seqObj "list" #[] 0)).get? s.heap.objs.size=some (seqObj "list" #[] 0):=Jp _ rfl
 have ho1:=Ji (seqObj "list" #[] 0) ho
 show wpAny _ _ (Builtin.List.listExtendWith (.ref s.heap.objs.size) (.ref a) (.ref s.heap.objs.size)) _ _ {s with heap:=s.heap.push (seqObj "list" #[] 0)}
 unfold Builtin.List.listExtendWith;have hT1:Shared.TypeIs {s with heap:=s.heap.push (seqObj "list" #[] 0)} (.ref a) "set":=⟨o,ho1,hex.1⟩
 refine Ja (Fg hT1 ?_)
 have e1:Builtin.List.listSameRef (.ref s.heap.objs.size) (.ref a)=false:=by
  simp [Builtin.List.listSameRef,JX hlt]
 have e2:(Value.type "set"==Value.type "list")=false:=by decide
 have e3:(Value.type "set"==Value.type "tuple")=false:=by decide
 simp only[e1,e2,e3,Bool.or_false,Bool.false_eq_true,JE];refine Ja (BV ho1 hex hd hf hb tw fun h1 d I T vs f b1 b2 b3 b4 b5 b6 b7 b8=>?_)
 have sz:(s.heap.push (seqObj "list" #[] 0)).objs.size=s.heap.objs.size+1:=JV ..
 dsimp only at b1 b4
 rw[sz]at b1 b4;have hT2:Shared.TypeIs {s with heap:=h1,drawn:=d} (.ref a) "set":=⟨o,b5 _ _ ho1,hex.1⟩
 refine Ja (JL (wH hT2 ?_))
 have hL1:=b5 _ _ hLs;have hvl:vs.length=es.size:=by rw[b6.length_eq,Je,Jq]
 have W:=vb (prog:=prog) (w:=w) (A:=A.in1) (ep:=ep) (t:=t) (by simp [hh]) b2 b3 hvl
 have nL:s.heap.objs.size∉[I,a,T]:=by
  simp only[Jk,Js,Jt,not_or];refine⟨by lia,JX hlt,?_⟩
  rcases b4 with z|z
  ·rw[z];exact JX hlt
  ·lia
 have key:∀(h:Heap) (c₁:Nat),(∀b o,b≠s.heap.objs.size->h1.get? b=some o->h.get? b=some o)->h.get? s.heap.objs.size=some {cls:= .type "list",data:= .seq #[] c₁}->
   ∀R:Result->Shared->Prop,(∀(vs':Array Value) (h':Heap) (tk c':Nat),vs'.toList=vs->(∀b o,s.heap.get? b=some o->h'.get? b=some o)->h'.get? s.heap.objs.size=some {cls:= .type "list",dict:=none,data:= .seq vs' c',slots:= #[]}->
    R (.ok (.ret (.ref s.heap.objs.size))) {s with heap:=h',toks:=tk,drawn:=d})->
   codeAny (model prog w) A (.builtin "list.extend.loop" ⟨[.ref s.heap.objs.size,.ref I,.ref s.heap.objs.size],[]⟩) R {s with heap:=h,drawn:=d}:=by
  intro h c₁ hk hS₁ R hR;have nI:I≠s.heap.objs.size:=JX b1
  refine codeAny_extend_loopS W.toS (fits_of_scanBound hb) s.heap.objs.size nL _ es.size 0 _ #[] c₁ (by lia) (JI _) ⟨⟨o,hk _ _ (Jm hlt) (b5 _ _ ho1),hd,hf⟩,f,hk _ _ nI b7,b8.keep fun o e=>hk _ _ ?_ e⟩ hS₁ (ItemsOf.nil _) fun s' acc' c' hm hS' hacc=>?_
  ·rcases b4 with z|z
   ·rw[z];exact Jm hlt
   ·lia
  ·rw[Moved.eq_with hm]
   refine hR acc' s'.heap s'.toks c' ?_ (fun b o e=>hm.heap b o (fun hmem=>?_) (hk b o (Jm (Jh e)) (b5 _ _ (Ji _ e)))) hS'
   ·apply List.ext_getElem?
    intro j;rw[Array.getElem?_toList]
    by_cases hj:j<es.size
    ·have hj':j<acc'.size:=by rw[hacc.1];exact hj
     have:=hacc.2 j acc'[j] (getElem?_pos acc' j hj')
     rw[getElem?_pos acc' j hj',this]
    ·rw[Array.getElem?_eq_none (by rw[hacc.1];lia),F0 (by lia)]
   ·have hb':=Jh e
    rcases Jk.mp hmem with z|z
    ·exact absurd z (Jm hb')
    ·exact absurd (Jl.mp z) (Jm (Nat.lt_trans hb' b1))
 have fin:∀(vs':Array Value) (h':Heap) (tk c':Nat),vs'.toList=vs->(∀b o,s.heap.get? b=some o->h'.get? b=some o)->h'.get? s.heap.objs.size=some {cls:= .type "list",dict:=none,data:= .seq vs' c',slots:= #[]}->
   wpAny (model prog w) A (do
    let o <- load s.heap.objs.size
    match o.data with
    | .seq xs _=>pure xs.toList
    |_=>unsupported "internal:collect") Q E {s with heap:=h',toks:=tk,drawn:=d}:=by
  intro vs' h' tk c' c1 c2 c3;refine Ja (wpAny_load c3 (Jb (h _ h' tk d c2 (Fp (Jh c3)) ?_)))
  rw[c1];exact b6
 refine wpAny_ite_split (fun _=>?_) (fun _=>Jb ⟨plainId_quiet PySem.F.plain_extend_loop _,key h1 0 (fun _ _ _ e=>e) hL1 _ fin⟩)
 refine Ja (Ec (Ja ?_))
 show wpAny _ _ (updateSeq s.heap.objs.size (·.push .none) >>= fun _=>updateSeq s.heap.objs.size (·.pop)) _ _ _
 refine Ja (wpAny_updateSeq hL1 rfl ?_)
 have hL2:=EV (Obj.mapSeq (·.push Value.none)) hL1 rfl
 refine wpAny_updateSeq (hz:=by seq_fits) hL2 rfl ?_
 have hL3:=EV (Obj.mapSeq (·.pop)) hL2 rfl
 refine Jb ⟨plainId_quiet PySem.F.plain_extend_loop _,key _ _ (fun b o hb e=>?_) hL3 _ fin⟩
 exact(Fh _ _ (Ne.symm hb)).trans ((Fh _ _ (Ne.symm hb)).trans e)
end
end S0
namespace L3
open PySem PySem.Spec PyProof.Rows L2 S0
def ay(prog:Program)(w:World)(a:Addr)(ks:List Int):HO:= .ext fun h=>SetK (PySem.intKind prog w) numOf h a ks
theorem tT(prog:Program)(w:World):∀k v,(PySem.intKind prog w).is k v=true->numOf v=k:=fun k v h=>by
 obtain⟨t,rfl⟩:=Value.isInt_shape h;rfl
theorem _root_.L2.Gi.drw{X:Cx}{tx:Gd}{σ:List (Option V)}{H:Hp}{s:Shared}(I:Gi X tx σ H s)(d:Drawn):Gi X tx σ H {s with drawn:=d}:=
 ⟨I.ok,I.os,I.bare,I.base,I.loc,I.cell,I.free,I.freeC,I.pin,I.hok,I.len⟩
section
variable{X:Cx}
theorem gA(hc:X.calm=true):qY X (.type "set") (fun xs H Q=>∃(p:Addr) (ns:List Int),xs=[.ref p]/\Gq X.K H p (ns.map V.int)/\ns.length+1<scanBound/\∀l,H l=none->Q (.ref l) (Gh H l (ay X.prog X.w l (ddL ns)))):=by
 intro tx s σ H xs us Q I r h;obtain⟨p,ns,rfl,hp,hb,q⟩:=h;obtain⟨u,rfl,ru⟩:=zL r;cases ru;obtain⟨its,rv,pt,_⟩:=I.list hp;have hl:=rv.length;rw[Je]at hl;have hI:IntsAre its ns:=oZ rv
 refine uQ (knd:=PySem.intKind X.prog X.w) (kf:=numOf) (val:=fun i=>ns.getD i default) (tT _ _) (I.ok.hd hc) pt.isList (fun i v hv=>?_) (by rw[Jr];omega) fun h' tk hS kp=>?_
 ·obtain⟨t,rfl⟩:=IntsAre.int_at hI i v (by rw[List.getElem?_toArray]at hv;exact hv)
  exact⟨intKind_is _ _ _ _,rfl⟩
 ·have e:its.toArray.size=ns.length:=by rw[Jr];exact hl.symm
  rw[e,uc]at hS;refine⟨.ref s.heap.objs.size,_,I.laid (t':=tk) (o:=ay X.prog X.w s.heap.objs.size (ddL ns)) kp (Jf _) ⟨hS,?_,fun h1 h2 z1 z2=>z1.at z2⟩,rfl,q _ (I.hok.fresh (Jf _))⟩
  obtain⟨o,_,_,_,e,_⟩:=hS
  exact⟨o,e⟩
end
end L3
namespace S0
open PySem PySem.Spec PyProof.Rows
theorem rf(a:Addr):setWalk a=(do
 let(es,epoch,t) <- setState a
 if <- setsByText then return pickOrder ((<- ask).params.setOrder a epoch) es
 if !t.plain&&es.size>1 then return (<- drawOrder es.size es.toList).toArray
 (do if !t.led&&es.size>1 then unsupported "set:maker-not-led":Sem Unit)
 return es):=rfl
section
variable{prog:Program}{w:World}{K:Type} [DecidableEq K]{knd:PySem.KeyKind prog w K}{kf:Value->K}
variable{A:Around}{E:Gb}{s:Shared}
theorem Ah{Q:Bool->Shared->Prop}{bs:List Addr}(hS:∀b∈bs,∃ks,SetK knd kf s.heap b ks)(h:Q true s):wpAny (model prog w) A (setsQuiet bs) Q E s:=by
 unfold setsQuiet;refine Ja (wpAny_forIn_list _ (fun rest b s'=>b.1=none/\s'=s/\∀x∈rest,∃ks,SetK knd kf s.heap x ks) _ ?_ ?_ bs _ ⟨rfl,rfl,hS⟩)
 ·rintro x rest b s' ⟨hb,rfl,hr⟩
  obtain⟨ks,o,es,ep,t,ho,hex,hd,hf,_,hel,_,_⟩:=hr x Jw;unfold setEntries;refine Ja (Ja (wpAny_setState_of ho hd hf (Jb ?_)))
  refine Ja (PySem.MeetsSeq2.wpAny_forIn_array _ (fun rest2 b2 s2=>b2.1=none/\s2=s'/\∀e∈rest2,e.2.scannable=true) _ ?_ ?_ es _ ⟨rfl,rfl,fun e he=>(hel e he).2⟩)
  ·rintro⟨h1,y⟩ r2 b2 s2 ⟨hb2,rfl,hr2⟩
   have hy:=hr2 _ Jw;have hrest:∀e∈r2,e.2.scannable=true:=fun e he=>hr2 e (JC _ he)
   cases y<;>first|(cases hy;done)|exact Jb ⟨rfl,rfl,hrest⟩
  ·rintro⟨b21,b22⟩ s2 ⟨hb2,rfl,_⟩
   simp only at hb2
   subst hb2;exact Jb ⟨rfl,rfl,fun y hy=>hr y (JC _ hy)⟩
 ·rintro⟨b1,b2⟩ s' ⟨hb,rfl,_⟩
  simp only at hb
  subst hb;exact Jb h
theorem ZE{a:Addr}{Q:Bool->Shared->Prop}(hT:s.TypeIs (.ref a) "set")(h:Q true s):wpAny (model prog w) A (Builtin.Frozenset.isAnySet (.ref a)) Q E s:=by
 unfold Builtin.Frozenset.isAnySet;refine Ja (EJ hT sub_set_self ?_)
 exact Jb h
theorem SetK.type{h:Heap}{a:Addr}{ks:List K}{s:Shared}(x:SetK knd kf s.heap a ks):s.TypeIs (.ref a) "set":=by
 obtain⟨o,es,ep,t,h1,h2,_⟩:=x
 exact⟨o,h1,h2.1⟩
theorem kR{K:Type} [DecidableEq K]:∀(l acc:List K),acc.Nodup->(l.foldl Q2 acc).Nodup
 | [],acc,h=>h
 |k::l,acc,h=>by
  refine kR l _ ?_
  unfold Q2;split
  ·exact h
  ·rw[Fb]
   exact⟨h,by simp,fun x hx y hy=>by rw[Jl.mp hy];rintro rfl;contradiction⟩
theorem tP{K:Type} [DecidableEq K]:∀(l acc:List K) (k:K),k∈l.foldl Q2 acc↔k∈acc\/k∈l
 | [],acc,k=>by simp
 |x::l,acc,k=>by
  rw[List.foldl_cons,tP l _ k];unfold Q2;split
  ·rename_i hx
   constructor
   ·rintro(h|h)
    ·exact .inl h
    ·exact .inr (JC _ h)
   ·rintro(h|h)
    ·exact .inl h
    ·rcases Jk.mp h with rfl|h
     ·exact .inl hx
     ·exact .inr h
  ·rw[JW,Jl,Jk]
   constructor
   ·rintro((h|h)|h)
    ·exact .inl h
    ·exact .inr (.inl h)
    ·exact .inr (.inr h)
   ·rintro(h|h|h)
    ·exact .inl (.inl h)
    ·exact .inl (.inr h)
    ·exact .inr h
theorem tI{K:Type} [DecidableEq K]:∀(l acc:List K),(l.foldl Q2 acc).length<=acc.length+l.length
 | [],acc=>by simp
 |x::l,acc=>by
  have:=tI l (Q2 acc x)
  rw[List.foldl_cons,JU];have h2:(Q2 acc x).length<=acc.length+1:=by
   unfold Q2;split
   ·lia
   ·rw[JD,EG];lia
  lia
theorem kq{Q:Gb}(h:Q (.ref s.heap.objs.size) {s with heap:=s.heap.push (Qg (!zp w))}):wpAny (model prog w) A (newSet (.type "set")) Q E s:=by
 unfold newSet;obtain⟨hp,g,d,tk,os⟩:=s
 wp_walk
 refine wpAny_askSetting (Jb ?_)
 dsimp only
 simp only[newObj];exact Ja (wpAny_alloc (Jb h))
end
end S0
namespace L3
open PySem PySem.Spec PyProof.Rows L2 S0
def cw:Value->Str
 | .str x _=>x
 |_=>Str.empty
def ai(prog:Program)(w:World)(a:Addr)(ks:List Str):HO:= .ext fun h=>SetK (PySem.strKind prog w) cw h a ks
theorem uK(prog:Program)(w:World):∀k v,(PySem.strKind prog w).is k v=true->cw v=k:=fun k v h=>by
 obtain⟨t,rfl⟩:=Value.isStrOf_shape h;rfl
section
variable{prog:Program}{w:World}{A:Around}{E:Gb}{s:Shared}
theorem rP{a:Addr}{ks:List Str}{Q:Gb}(hh:A.handled=none)(hS:SetK (PySem.strKind prog w) cw s.heap a ks)(h64:ks.length<64)
  (h:∀(h':Heap) (tk:Nat) (d:Drawn) (l:Addr) (its:List Value) (n:Nat) (ss:List Str),s.heap.objs.size<=l->(∀b o,s.heap.get? b=some o->h'.get? b=some o)->h'.get? l=some (seqObj "list" its.toArray n)->
   StrsAre its ss->ss.Perm ks->sortedS ss=true->Q (.ref l) {s with heap:=h',toks:=tk,drawn:=d}):
  wpAny (model prog w) A (call (.builtin "sorted") [.ref a]) Q E s:=by
 obtain⟨o,es,ep,t,ho,hex,hd,hf,hb,hel,hpm,htw⟩:=hS;refine Calls.call_function_entry kind_sorted plain_sorted entry_sorted (args_sorted1 _) ?_
 unfold Builtin.«sorted»
 refine Ja (m:=checkCount "sorted" 1 1 _) (Jb ?_)
 refine Ja (iS hh ho hex hd hf hb htw fun vs h' tk d hk hz hp=>?_)
 have hI:StrsAre vs (vs.map cw):=by
  refine hW (by rw[Je]) fun j v e=>?_
  obtain⟨e1,he,rfl⟩:=JB.mp (hp.mem_iff.mp (DV e))
  obtain⟨⟨k,h1,_⟩,_⟩:=hel e1 he;obtain⟨tt,h2⟩:=Value.isStrOf_shape h1;refine⟨k,tt,by rw[Jo,e,h2];rfl,h2⟩
 have hvk:(vs.map cw).Perm ks:=by
  refine(hp.map cw).trans ?_
  rw[EB];exact hpm
 have hvl:vs.length<=sizeLine:=by
  rw[hp.length_eq,Je,Jq];exact fits_of_scanBound hb
 have hl64:vs.length<64:=by
  have:=hvk.length_eq
  rw[Je]at this;lia
 refine Ja (wpAny_newList ?_ hvl)
 have hoL:(h'.push (seqObj "list" vs.toArray 0)).get? h'.objs.size=some (seqObj "list" vs.toArray 0):=Jp _ rfl
 show wpAny _ _ _ _ _ {s with heap:=h'.push (seqObj "list" vs.toArray 0),toks:=tk,drawn:=d}
 refine Ja (JL (JS slot_list_sort ⟨_,hoL,rfl⟩ entry_list_sort (list_sort_treeK (κ:=PyProof.Rows.strKind) strKind_oneLt hoL hI.keysOf (fun v₁ v₂ rest e=>keyKind_strs (by rw[<- e];exact hI)) hl64 fun st' a1 a2=>⟨_,rfl,?_⟩) (args_list_sort _)))
 obtain⟨ss',b1,b2,b3⟩:=sorted_out_str hI a1 a2;obtain⟨n',hn'⟩:∃n',(sortedHeap (h'.push (seqObj "list" vs.toArray 0)) h'.objs.size vs ((arrOf st').map (·.2))).get? h'.objs.size=some (seqObj "list" ((arrOf st').map (·.2)) n'):=sortedHeap_at hoL
 refine Jb ⟨_,rfl,h _ tk d h'.objs.size ((arrOf st').map (·.2)).toList n' ss' hz (fun b o e=>?_) (by rw[hn']) b1 (b2.trans hvk) b3⟩
 have e':=hk b o e;have hb':b<h'.objs.size:=Jh e'
 rw[sortedHeap_old (Jm hb') (by rw[JV];exact Ex hb')]
 exact Ji _ e'
end
theorem fZ:∀{us:List Value} {ss:List Str},StrsAre us ss->∀(i:Nat) (v:Value),us[i]? =some v->∃t,v= .str (ss.getD i default) t
 |_,_,.nil,i,v,e=>by simp at e
 |_,_,.cons x t r,0,v,e=>by
  simp at e;subst e;exact⟨t,rfl⟩
 |_,_,.cons x t r,i+1,v,e=>by
  have e':=fZ r i v (by simpa using e)
  simpa [JF]using e'
section
variable{X:Cx}
theorem gr(hc:X.calm=true):qY X (.type "set") (fun xs H Q=>∃(p:Addr) (ss:List Str),xs=[.ref p]/\Gq X.K H p (ss.map V.str)/\ss.length+1<scanBound/\∀l,H l=none->Q (.ref l) (Gh H l (ai X.prog X.w l (ddL ss)))):=by
 intro tx s σ H xs us Q I r h;obtain⟨p,ss,rfl,hp,hb,q⟩:=h;obtain⟨u,rfl,ru⟩:=zL r;cases ru;obtain⟨its,rv,pt,_⟩:=I.list hp;have hl:=rv.length;rw[Je]at hl;refine uQ (knd:=PySem.strKind X.prog X.w) (kf:=cw) (val:=fun i=>ss.getD i default) (uK _ _) (I.ok.hd hc) pt.isList (fun i v hv=>?_) (by rw[Jr];lia) fun h' tk hS kp=>?_
 ·have hv':its[i]? =some v:=by rw[List.getElem?_toArray]at hv;exact hv
  have hi:i<ss.length:=by rw[hl];exact(Jv.mp hv').1
  obtain⟨t,rfl⟩:=fZ (gI rv) i v hv'
  exact⟨strKind_is _ _ _ _,rfl⟩
 ·have e:its.toArray.size=ss.length:=by rw[Jr];exact hl.symm
  rw[e,uc]at hS;refine⟨.ref s.heap.objs.size,_,I.laid (t':=tk) (o:=ai X.prog X.w s.heap.objs.size (ddL ss)) kp (Jf _) ⟨hS,?_,fun h1 h2 z1 z2=>z1.at z2⟩,rfl,q _ (I.hok.fresh (Jf _))⟩
  obtain⟨o,_,_,_,e,_⟩:=hS
  exact⟨o,e⟩
theorem jE(hc:X.calm=true):qY X (.builtin "sorted") (fun xs H Q=>∃(p:Addr) (ks:List Str),xs=[.ref p]/\H p=some (ai X.prog X.w p ks)/\ks.length<64/\
  ∀l (ss:List Str),H l=none->ss.Perm ks->sortedS ss=true->Q (.ref l) (Gh H l (.lst (ss.map V.str)))):=by
 intro tx s σ H xs us Q I r h;obtain⟨p,ks,rfl,hp,h64,q⟩:=h;obtain⟨u,rfl,ru⟩:=zL r;cases ru;obtain⟨hS,_⟩:=I.hok p _ hp;refine rP (I.ok.hd hc) hS h64 fun h' tk d l its n ss hl hk hL b1 b2 b3=>?_
 refine⟨.ref l,_,(I.laid (a:=l) (o:= .lst (ss.map V.str)) (t':=tk) hk hl ?_).drw d,rfl,q l ss (I.hok.fresh hl) b2 b3⟩
 refine⟨?_,its,n,aV b1,hL⟩
 have:=b2.length_eq
 rw[Je,JA];lia
end
theorem aZ{K:Type} [DecidableEq K](l:List K):(ddL l).Nodup:=kR l [] FB
theorem ac{K:Type} [DecidableEq K](l:List K)(k:K):k∈ddL l↔k∈l:=by unfold ddL;rw[tP];simp
theorem eQ{K:Type} [DecidableEq K](l:List K):(ddL l).length<=l.length:=by have:=tI l ([]:List K);simpa [ddL]using this
end L3
namespace L3
open PySem PySem.Spec PyProof.Rows L2
def BD(k:Nat)(js:List Nat)(g:TG)(wi2:TI)(g2:TG)(te:TE)(σ:L2.St)(Q:VK)(J:It)(H1:Hp):Prop:=∃W:Nat->Nat->List V->L2.St->Hp->Prop,(∃m,W 0 m [] (σ0 k js σ) H1)/\∀i m ys τ H,W i m ys τ H->
 (J.stop i H/\∀p,H p=none->Q (.ref p) (Gh H p (.lst ys)))\/(J.go i H/\∀x H',J.yld i H x H'->g x τ H' fun τ2 H2=>wi2 τ2 H2 fun J2 H3=>∃W2:Nat->Nat->List V->L2.St->Hp->Prop,(∃m2,W2 0 m2 ys τ2 H3)/\∀i2 m2 zs τ3 H4,W2 i2 m2 zs τ3 H4->
  (J2.stop i2 H4/\∃m',m'<m/\W (i+1) m' zs τ3 H4)\/(J2.go i2 H4/\zs.length<sizeLine/\∀x2 H5,J2.yld i2 H4 x2 H5->g2 x2 τ3 H5 fun τ4 H6=>∃N:V->Hp->Prop,(∀v H7,N v H7->∃m2',m2'<m2/\W2 (i2+1) m2' (zs++[v]) τ4 H7)/\te τ4 H6 N))
def tN(k:Nat)(js:List Nat)(wi:TI)(g:TG)(wi2:TI)(g2:TG)(te:TE):TE:=fun σ H Q=>wi σ H (BD k js g wi2 g2 te σ Q)
section
variable{prog:Program}{w:World}{A:Around}{R:Result->Shared->Prop}{s:Shared}
theorem kB(elt tg iter tg2 iter2:Expr)(scope:Scope)(pos:Pos)(it acc:Value)(env:Env):
  compTurn (.ListComp elt [⟨tg,iter,[],0⟩,⟨tg2,iter2,[],0⟩] scope pos) 0 it acc env=(standAt iter.pos >>= fun _=>pyNext it >>= fun r=>match r with
   |none=>pure (.done .next)
   |some v=>letOwnedTupleGo tg it v >>= fun _=>assign tg env v >>= fun _=>
    eval iter2 env >>= fun x=>standAt iter2.pos >>= fun _=>foldedSetIterable iter2 env x >>= fun x=>holding [x] (pyIter x) >>= fun i2=>runOwn (.compStart (.ListComp elt [⟨tg,iter,[],0⟩,⟨tg2,iter2,[],0⟩] scope pos) 1 i2 acc env) env >>= fun _=>
     again (.compLoop (.ListComp elt [⟨tg,iter,[],0⟩,⟨tg2,iter2,[],0⟩] scope pos) 0 it acc env)):=by rfl
theorem mj(elt tg iter tg2 iter2:Expr)(scope:Scope)(pos:Pos)(it acc:Value)(env:Env):
  compTurn (.ListComp elt [⟨tg,iter,[],0⟩,⟨tg2,iter2,[],0⟩] scope pos) 1 it acc env=(standAt iter2.pos >>= fun _=>pyNext it >>= fun r=>match r with
   |none=>pure (.done .next)
   |some v=>letOwnedTupleGo tg2 it v >>= fun _=>assign tg2 env v >>= fun _=>
    (eval elt env >>= fun x=>call (.builtin "list.append") [acc,x] >>= fun _=>pure ()) >>= fun _=>
     again (.compLoop (.ListComp elt [⟨tg,iter,[],0⟩,⟨tg2,iter2,[],0⟩] scope pos) 1 it acc env)):=by rfl
theorem mI{elt tg iter tg2 iter2:Expr}{scope:Scope}{pos:Pos}{it acc:Value}{env:Env}(I:Nat->Shared->Prop)
  (turn:∀n s,I n s->wpAny (model prog w) A (pyNext it) (fun r s₁=>match r with
   |none=>R (.ok .next) s₁
   | some v=>wpAny (model prog w) A (letOwnedTupleGo tg2 it v) (fun _ s₁'=>wpAny (model prog w) A (assign tg2 env v) (fun _ s₂=>wpAny (model prog w) A (eval elt env) (fun x s₃=>
     wpAny (model prog w) A (call (.builtin "list.append") [acc,x]) (fun _ s₄=>∃m,m<n/\I m s₄) (fun _ _=>False) s₃)
     (fun _ _=>False) s₂) (fun _ _=>False) s₁') (fun _ _=>False) s₁) (fun _ _=>False) s)
  (n:Nat)(h:I n s):
  codeAny (model prog w) A (.compLoop (.ListComp elt [⟨tg,iter,[],0⟩,⟨tg2,iter2,[],0⟩] scope pos) 1 it acc env) R s:=by
 refine codeAny_loop rfl I (fun n s hI=>?_) n h
 show wpAny _ _ ((compTurn (.ListComp elt [⟨tg,iter,[],0⟩,⟨tg2,iter2,[],0⟩] scope pos) 1 it acc env).onRaise (fun x=>do noteFrame x env;theTreesLotGoes x)) _ _ s
 refine wpAny_noted ?_
 rw[mj];refine Ja (EF (Ja (JH (turn n s hI) (fun r s₁ h₁=>?_) fun _ _ h'=>h'.elim)))
 cases r with
 |none=>exact Jb h₁
 |some v=>
  refine Ja (JH h₁ (fun _ s₁' h₁'=>?_) fun _ _ h'=>h'.elim)
  exact Ja (JH h₁' (fun _ s₂ h₂=>Ja (Ja (JH h₂ (fun x s₃ h₃=>Ja (JH h₃
   (fun _ s₄ h₄=>Jb (Jb ⟨rfl,h₄⟩)) fun _ _ h'=>h'.elim)) fun _ _ h'=>h'.elim))) fun _ _ h'=>h'.elim)
theorem k5{elt tg iter tg2 iter2:Expr}{scope:Scope}{pos:Pos}{it acc:Value}{env:Env}(hs2:∀x,foldedSetIterable iter2 env x=pure x)(I:Nat->Shared->Prop)
  (turn:∀n s,I n s->wpAny (model prog w) A (pyNext it) (fun r s₁=>match r with
   |none=>R (.ok .next) s₁
   | some v=>wpAny (model prog w) A (letOwnedTupleGo tg it v) (fun _ s₁'=>wpAny (model prog w) A (assign tg env v) (fun _ s₂=>wpAny (model prog w) A (eval iter2 env) (fun x s₃=>
     wpAny (model prog w) A (pyIter x) (fun i2 s₄=>codeAny (model prog w) A (.compStart (.ListComp elt [⟨tg,iter,[],0⟩,⟨tg2,iter2,[],0⟩] scope pos) 1 i2 acc env) (fun r s₅=>match r with| .ok _=>∃m,m<n/\I m s₅| .error _=>False) s₄) (fun _ _=>False) s₃)
     (fun _ _=>False) s₂) (fun _ _=>False) s₁') (fun _ _=>False) s₁) (fun _ _=>False) s)
  (n:Nat)(h:I n s):
  codeAny (model prog w) A (.compLoop (.ListComp elt [⟨tg,iter,[],0⟩,⟨tg2,iter2,[],0⟩] scope pos) 0 it acc env) R s:=by
 refine codeAny_loop rfl I (fun n s hI=>?_) n h
 show wpAny _ _ ((compTurn (.ListComp elt [⟨tg,iter,[],0⟩,⟨tg2,iter2,[],0⟩] scope pos) 0 it acc env).onRaise (fun x=>do noteFrame x env;theTreesLotGoes x)) _ _ s
 refine wpAny_noted ?_
 rw[kB];refine Ja (EF (Ja (JH (turn n s hI) (fun r s₁ h₁=>?_) fun _ _ h'=>h'.elim)))
 cases r with
 |none=>exact Jb h₁
 |some v=>
  refine Ja (JH h₁ (fun _ s₁' h₁'=>?_) fun _ _ h'=>h'.elim)
  refine Ja (JH h₁' (fun _ s₂ h₂=>Ja (JH h₂ (fun x s₃ h₃=>?_) fun _ _ h'=>h'.elim)) fun _ _ h'=>h'.elim)
  refine Ja (EF (Ja ?_))
  rw[hs2];refine Jb (Ja (JL (JH h₃ (fun i2 s₄ h₄=>?_) fun _ _ h'=>h'.elim)))
  refine Ja (wpAny_runOwn (E1 h₄ fun r s₅ h₅=>?_))
  cases r with
  |ok f=>exact Jb ⟨rfl,h₅⟩
  |error x=>exact h₅.elim
theorem lS{elt tg iter tg2 iter2 scope pos it acc env}
  (h0:codeAny (model prog w) A (.compLoop (.ListComp elt [⟨tg,iter,[],0⟩,⟨tg2,iter2,[],0⟩] scope pos) 1 it acc env) R s)
  (h:wpAny (model prog w) A (pyIter it) (fun it' s'=>codeAny (model prog w) A (.compLoop (.ListComp elt [⟨tg,iter,[],0⟩,⟨tg2,iter2,[],0⟩] scope pos) 1 it' acc env) R s')
   (notedBy (model prog w) A env fun x s'=>R (.error x) s') s):
  codeAny (model prog w) A (.compStart (.ListComp elt [⟨tg,iter,[],0⟩,⟨tg2,iter2,[],0⟩] scope pos) 1 it acc env) R s:=by
 refine codeAny_of_tree ?_
 show wpAny _ _ ((compStart (.ListComp elt [⟨tg,iter,[],0⟩,⟨tg2,iter2,[],0⟩] scope pos) 1 it acc env).onRaise (fun x=>do noteFrame x env;standAt theWindowsPlace)) _ _ s
 refine wpAny_notedAt ?_
 unfold compStart
 show wpAny _ _ (ask >>= _) _ _ s
 refine Ja (wpAny_askSetting (wpAny_ite ?_))
 split
 ·first
   |exact Ja (Jb (Jb (And.intro rfl h0)))
   |exact Jb (And.intro rfl h0)
 ·first
   |exact Ja (Ec (Ja (EF (Ja (JH h (fun it' s' h'=>Jb (And.intro rfl h')) fun _ _ x=>x)))))
   |(refine Ja (Ec ?_);show wpAny _ _ (standAt iter2.pos >>= _) _ _ s;exact Ja (EF (Ja (JH h (fun it' s' h'=>Jb (And.intro rfl h')) fun _ _ x=>x))))
end
variable{X:Cx}
theorem uF{elt tg iter tg2 iter2:Expr}{scope:Scope}{cl:List (Str×Addr)}{pos fpos:Pos}{fr own:List Str}{js:List Nat}{wi wi2:TI}{g g2:TG}{te:TE}{use:Option (Value->Sem Unit)}{Post:Gb}
  {tx:Gd}{s:Shared}{σ:L2.St}{H:Hp}{Q:VK}
  (hc:X.calm=true)(hi:PI X tg iter wi)(hclos:closureFor scope X.env=pure cl)(hcl:∀y c,cl.lookup y=some c->X.env.cells.lookup y=some c)(hfr:cl.map (·.1)=fr)
  (S:Hu X scope fr js)
  (hg:∀C s H fp,PG (zK X (own++fr) scope cl C s H fp) tg g)(hi2:∀C s H fp,PI (zK X (own++fr) scope cl C s H fp) tg2 iter2 wi2)(hg2:∀C s H fp,PG (zK X (own++fr) scope cl C s H fp) tg2 g2)(he:∀C s H fp,PE (zK X (own++fr) scope cl C s H fp) elt te)
  (hs:∀x,foldedSetIterable iter X.env x=pure x)(hs2:∀C x,foldedSetIterable iter2 (compEnvC scope cl C X.env) x=pure x)
  (I:L2.Gi X tx σ H s)(h:tN own.length js wi g wi2 g2 te σ H Q)
  (hfin:∀(acc C:Addr) (s5:Shared) (H':Hp) (m:Gc),L2.Gi X tx σ H' s5->s5.heap.Ns C m->Lh X tx H' C->Q (.ref acc) H'->compPost (model X.prog X.w) X.A X.xe use Post (.ref acc) C (.ok .next) s5):
  wpAny (model X.prog X.w) X.A (comprehension (.ListComp elt [⟨tg,iter,[],0⟩,⟨tg2,iter2,[],0⟩] scope pos) scope X.env fpos (newList []) false (eval iter X.env) use) Post X.xe s:=by
 refine wpAny_comprehension_free (use:=use) rfl hs hclos S.kind S.names (qC (hi tx s σ H _ I h) fun v s1 h1=>qC h1 fun itv s2 h2=>?_)
 obtain⟨it,fp,tn,J,H2,e,I2,T,st2,f2,W,⟨m0,w0⟩,turn⟩:=h2;subst e;refine D9 (wpAny_newFunctionEnv S.nocell (by intro y hy;simp at hy) (fun h₁ hns₁ hsb₁=>?_) S.kind)
 dsimp only at hns₁ hsb₁⊢
 generalize hH2:s2.heap.push {cls:= .type "list",dict:=none,data:= .seq ([]:List Value).toArray}=G at hns₁ hsb₁⊢
 have hC:G.objs.size=s2.heap.objs.size+1:=by rw[<- hH2,JV]
 have hDC:s2.heap.objs.size≠G.objs.size:=by rw[hC];exact Jm (Ek _)
 have below:∀b,b<s2.heap.objs.size->b≠G.objs.size/\b≠s2.heap.objs.size:=fun b hb=>⟨by rw[hC];exact Jm (Ex hb),Jm hb⟩
 have old:∀b o,s2.heap.get? b=some o->h₁.get? b=some o:=fun b o e=>hsb₁.extBut b o (below b (Jh e)).1 (Ji _ (hH2▸Ji _ e))
 have hacc:h₁.get? s2.heap.objs.size=some {cls:= .type "list",data:= .seq ([]:List Value).toArray 0}:=hsb₁.extBut _ _ hDC (Ji _ (hH2▸Jp _ rfl))
 let Y:Cx:=zK X (own++fr) scope cl G.objs.size s2 H2 fp
 have fplt:∀b∈fp,b<s2.heap.objs.size:=fun b hb=>by obtain⟨o,e,_⟩:=T.obj _ _ st2 b hb;exact Jh e
 have okY:Y.Ok:=by
  refine⟨I2.ok.mod,S.kind,I2.ok.glob,I2.ok.blt,by show s2.heap.objs.size<=G.objs.size;lia,?_,?_,?_,I2.ok.hd,I2.ok.frames,.inl rfl,?_,I2.bs,JK I2.ok.bsz I2.sz,?_,?_,I2.stack,I2.stkFree⟩
  ·exact fun x y c e1 e2=>I2.ok.inj x y c (hcl x c e1) (hcl y c e2)
  ·intro x hx
   have hx':(relabel scope X.env).names.lookup x=some .cell\/(relabel scope X.env).names.lookup x=some .free:=hx
   have hm:∃k,(x,k)∈scope.names/\k= .free:=by
    have aux:∀kk:NameKind,(kk= .cell\/kk= .free)->(relabel scope X.env).names.lookup x=some kk->∃k,(x,k)∈scope.names/\k= .free:=by
     intro kk hk el;obtain⟨⟨n,k⟩,hmem,e⟩:=JB.mp (E2 el)
     dsimp only at e
     split at e
     ·rename_i hcond
      cases e;refine⟨k,hmem,?_⟩
      simp only[Jz,JZ]at hcond;exact hcond.1.1
     ·cases e
      rcases hk with z|z
      ·subst z;exact absurd rfl (S.nocell _ hmem)
      ·exact⟨_,hmem,z⟩
    rcases hx' with z|z
    ·exact aux _ (.inl rfl) z
    ·exact aux _ (.inr rfl) z
   obtain⟨k,hmem,hk⟩:=hm;exact zQ (l:=cl) (by rw[hfr];exact S.free _ hmem hk)
  ·exact fun x c e _=>nomatch e
  ·refine fun b hb=>⟨?_,fun x c e=>(f2 b hb).2.2.2.2.1 x c (hcl x c e)⟩
   show b≠G.objs.size
   exact(below b (fplt b hb)).1
  ·intro b o e hb
   rcases(f2 b hb).2.2.2.1 with z|z
   ·exact I2.ok.noex b o e z
   ·exact absurd (JJ (Jh e) (JK I2.ok.bsz z)) (JY _)
  ·intro b hb hf
   rcases Jk.mp (I2.stkSub b hf)with z|z
   ·exact(f2 b hb).2.1 z
   ·exact(f2 b hb).2.2.1 z
 have lenσ:(σ0 own.length js σ).length=(own++fr).length:=by unfold σ0;simp [S.len]
 have IY:Gi Y [] (σ0 own.length js σ) H2 {s2 with heap:=h₁,toks:=s2.toks+([]:List (Str×Value)).length}:=by
  refine⟨okY,rfl,I2.bare,Un.kept old,⟨_,hns₁,?_⟩,?_,?_,?_,fun p hp=>absurd (show p∈([]:Gd)from hp) (by simp),I2.hok.kept old,lenσ⟩
  ·intro i x v hN hv _
   have hN':(own++fr)[i]? =some x:=hN
   unfold σ0 at hv
   by_cases hlt:i<own.length
   ·rw[D8 (by simpa using hlt),List.getElem?_replicate]at hv
    split at hv<;>cases hv
   ·rw[DY (by simpa using Fu hlt),FV,Jo]at hv
    rw[DY (Fu hlt)]at hN';cases ej:js[i-own.length]? with
    |none=>rw[ej]at hv;cases hv
    |some j=>
     rw[ej]at hv;have hσ:σ[j]? =some (some v):=by
      have hv':(σ[j]?).join=some v:=Jy hv
      cases q:σ[j]? with
      |none=>rw[q]at hv';cases hv'
      |some o=>rw[q]at hv';have:o=some v:=hv';rw[this]
     obtain⟨hNj,hk,hkr⟩:=S.at_ _ j x ej hN';obtain⟨m,hn,hl⟩:=I2.loc;obtain⟨u,ru,lk⟩:=hl j x v hNj hσ (.inr (.inl hk))
     refine⟨u,ru,.inr ?_⟩
     rcases lk with⟨k1,_⟩|⟨_,c,ec,ic⟩
     ·rw[hk]at k1;cases k1
     ·obtain⟨c',hc'⟩:=zQ (y:=x) (l:=cl) (by rw[hfr];exact DV hN')
      have:c'=c:=by have:=hcl x c' hc';rw[ec]at this;exact(Jy this).symm
      subst this;refine⟨?_,c',hc',?_⟩
      ·show(relabel scope X.env).names.lookup x=some .cell\/(relabel scope X.env).names.lookup x=some .free
       exact .inl hkr
      ·obtain⟨oc,hoc,hd⟩:=ic
       exact⟨oc,old _ _ hoc,hd⟩
  ·intro x c e
   obtain⟨v,oc,hoc,hd⟩:=I2.cell x c (hcl x c e)
   exact⟨v,oc,old _ _ hoc,hd⟩
  ·exact I2.hok.fresh (by show s2.heap.objs.size<=G.objs.size;lia)
  ·exact fun x c e=>I2.freeC x c (hcl x c e)
 have accfs:s2.heap.objs.size∉bF X.stack:=fun hf=>by
  rcases Jk.mp (I2.stkSub _ hf)with z|z
  ·exact absurd (by rw[<- z];exact Jf _:s2.heap.objs.size<=X.env.locals) (Nat.not_le.mpr I2.lt)
  ·exact I2.nofs (Jf _) z
 have acccell:∀x c,cl.lookup x=some c->c≠s2.heap.objs.size:=fun x c e z=>by
  obtain⟨v,oc,hoc,_⟩:=I2.cell x c (hcl x c e)
  exact absurd (Jh hoc) (by rw[z];exact JY _)
 have fpY:∀{H':Hp} {pl:Gd},(∀b∈fp,H' b=none)->(∀p∈pl,p.1=s2.heap.objs.size)->∀b∈fp,Zt Y pl H' b:=fun{H' pl} hn hp b hb=>
  ⟨hn b hb,(below b (fplt b hb)).1,okY.exfs b hb,.inl hb,fun x c e=>(f2 b hb).2.2.2.2.1 x c (hcl x c e),fun p hpp=>by
   have hpp':p∈pl:=by simpa [Y,zK]using hpp
   rw[hp p hpp'];exact Ne.symm (below b (fplt b hb)).2⟩
 have loop:∀s₃:Shared,Gi Y [] (σ0 own.length js σ) H2 s₃->tn 0 s₃.heap->s₃.heap.get? s2.heap.objs.size=some {cls:= .type "list",data:= .seq ([]:List Value).toArray 0}->
   codeAny (model X.prog X.w) X.A (.compLoop (.ListComp elt [⟨tg,iter,[],0⟩,⟨tg2,iter2,[],0⟩] scope pos) 0 (.ref it) (.ref s2.heap.objs.size) (compEnvC scope cl G.objs.size X.env))
    (compPost (model X.prog X.w) X.A X.xe use Post (.ref s2.heap.objs.size) G.objs.size) s₃:=by
  intro s₃ I3 st3 ha3;refine k5 (hs2 _) (fun n s'=>∃i ys τ H' its k,Gi Y [(s2.heap.objs.size,{cls:= .type "list",data:= .seq its.toArray k})] τ H' s'/\tn i s'.heap/\(∀b∈fp,H' b=none)/\Gk ys its/\ys.length<=sizeLine/\W i n ys τ H') ?_ m0 ?_
  ·rintro n s4 ⟨i,ys,τ,H4,its,k,I4,st4,fr4,vl,hz,w4⟩
   have pin4:=I4.pin (s2.heap.objs.size,{cls:= .type "list",data:= .seq its.toArray k}) (by simp [Y,zK])
   rcases turn i n ys τ H4 w4 with⟨stop,qn⟩|⟨go,step⟩
   ·refine qC (T.done Y rfl rfl rfl hc i _ s4 τ H4 _ I4 (fpY fr4 (by simp)) st4 stop) fun r s5 zq=>?_
    obtain⟨hr,I5⟩:=zq;subst hr
    show compPost _ _ _ _ _ _ _ _ _
    obtain⟨m5,hn5,_⟩:=I5.loc;have pin5:=I5.pin (s2.heap.objs.size,{cls:= .type "list",data:= .seq its.toArray k}) (by simp [Y,zK])
    have nacc:H4 s2.heap.objs.size=none:=pin5.2.1
    have B:=I5.base;have nC:H4 G.objs.size=none:=I5.free
    refine hfin s2.heap.objs.size G.objs.size s5 (Gh H4 s2.heap.objs.size (.lst ys)) m5 ?_ hn5 ?_ (qn _ nacc)
    ·refine I2.call' (s':=s5) (ch:=fp) I5.os ⟨B.keep,B.slot,fun b o e n hx=>?_,B.there,fun b xs e=>?_,fun b o u e=>?_,fun b ps e=>?_⟩ ?_ I5.bare ?_
     ·rw[qi (below b (Jh e)).2];exact B.free b o e n hx
     ·have e1:=B.tups b xs e
      rw[qi (qo e1 nacc)];exact e1
     ·have e1:=B.frzs b o u e
      rw[qi (qo e1 nacc)];exact e1
     ·obtain⟨more,e1⟩:=B.tbls b ps e
      exact⟨more,by rw[qi (qo e1 nacc)];exact e1⟩
     ·intro b u e
      by_cases hb:b=s2.heap.objs.size
      ·subst hb
       rw[qc]at e;cases e
       exact⟨hz,its,k,vl,pin5.1⟩
      ·rw[qi hb]at e
       exact(I5.hok b u e).stay (fun c v _ q=>q) (fun c q=>by rw[qi (qo q nacc)];exact q) fun c xs q=>by rw[qi (qo q nacc)];exact q
     ·exact fun b hb=>⟨(f2 b hb).2.2.2.1,(f2 b hb).2.1,(f2 b hb).2.2.2.2.1,(f2 b hb).2.2.2.2.2⟩
    ·have hge:s2.heap.objs.size<=G.objs.size:=by lia
     refine⟨by rw[qi (Ne.symm hDC)];exact nC,?_,JK I2.sz hge,fun x c e z=>?_,fun p hp z=>?_⟩
     ·exact JX (JJ I2.lt hge)
     ·obtain⟨v,oc,hoc,_⟩:=I2.cell x c e
      exact absurd (JJ (Jh hoc) hge) (by rw[z];exact JY _)
     ·exact absurd (JJ (Jh (I2.pin p hp).1) hge) (by rw[z];exact JY _)
   ·refine qC (T.item Y rfl rfl rfl hc i _ s4 τ H4 _ I4 (fpY fr4 (by simp)) st4 go) fun r s5 zq=>?_
    obtain⟨u,hr,h5⟩:=zq;subst hr;refine qC h5 fun _ s6 zq=>?_
    obtain⟨x,H6,I6,r6,y6,st6,fr6⟩:=zq;have I6':=I6.pinned (fpY fr6 (by simp)) (T.obj _ _ st6)
    refine qC (hg _ _ _ _ _ s6 τ H6 x u _ I6' r6 (step x H6 y6)) fun _ s7 zq=>?_
    obtain⟨τ7,H7,I7,q7⟩:=zq;refine qC (hi2 _ _ _ _ _ s7 τ7 H7 _ I7 q7) fun v7 s8 h8=>qC h8 fun itv2 s9 h9=>?_
    obtain⟨it2,fp2,tn2,J2,H9,e9,I9,T2,st9,f9,W2,⟨m2,w2⟩,turn2⟩:=h9;subst e9;have fpI:∀{H':Hp} {its':List Value} {k':Nat},(∀b∈fp2,H' b=none)->∀b∈fp2,Zt Y ((s2.heap.objs.size,{cls:= .type "list",data:= .seq its'.toArray k'})::ZQ fp s6.heap) H' b:=fun{H' its' k'} hn b hb=>
     ⟨hn b hb,(f9 b hb).2.1,(f9 b hb).2.2.1,(f9 b hb).2.2.2.1,(f9 b hb).2.2.2.2.1,fun p hp=>by
      have hp':p∈(s2.heap.objs.size,{cls:= .type "list",data:= .seq its'.toArray k'})::ZQ fp s6.heap:=by simpa [Y,zK]using hp
      rcases Jk.mp hp' with z|z
      ·rw[z]
       exact(f9 b hb).2.2.2.2.2 (s2.heap.objs.size,{cls:= .type "list",data:= .seq its.toArray k}) (by simp [zK])
      ·exact(f9 b hb).2.2.2.2.2 p (by simp [zK,z])⟩
    have L2:codeAny (model X.prog X.w) X.A (.compLoop (.ListComp elt [⟨tg,iter,[],0⟩,⟨tg2,iter2,[],0⟩] scope pos) 1 (.ref it2) (.ref s2.heap.objs.size) (compEnvC scope cl G.objs.size X.env)) (fun r s₅=>match r with
      | .ok _=>∃m,m<n/\∃i ys τ H' its k,Gi Y [(s2.heap.objs.size,{cls:= .type "list",data:= .seq its.toArray k})] τ H' s₅/\tn i s₅.heap/\(∀b∈fp,H' b=none)/\Gk ys its/\ys.length<=sizeLine/\W i m ys τ H'
      | .error _=>False) s9:=by
     refine mI (fun n2 s'=>∃(i2:Nat) (zs:List V) (τ':L2.St) (H':Hp) (its':List Value) (k':Nat),Gi Y ((s2.heap.objs.size,{cls:= .type "list",data:= .seq its'.toArray k'})::ZQ fp s6.heap) τ' H' s'/\tn2 i2 s'.heap/\(∀b∈fp2,H' b=none)/\Gk zs its'/\zs.length<=sizeLine/\W2 i2 n2 zs τ' H') ?_ m2 ⟨0,ys,τ7,H9,its,k,I9,st9,fun b hb=>(f9 b hb).1,vl,hz,w2⟩
     rintro n2 sA ⟨i2,zs,τA,HA,itsA,kA,IA,stA,frA,vlA,hzA,wA⟩
     have pinA:=IA.pin (s2.heap.objs.size,{cls:= .type "list",data:= .seq itsA.toArray kA}) (by simp [Y,zK])
     rcases turn2 i2 n2 zs τA HA wA with⟨stop2,m',hm',w'⟩|⟨go2,hlt2,step2⟩
     ·refine qC (T2.done Y rfl rfl rfl hc i2 _ sA τA HA _ IA (fpI frA) stA stop2) fun r sB zq=>?_
      obtain⟨hr2,IB⟩:=zq;subst hr2;have pinB:=IB.pin (s2.heap.objs.size,{cls:= .type "list",data:= .seq itsA.toArray kA}) (by simp [Y,zK])
      have pinO:∀b∈fp,∀o,s6.heap.get? b=some o->sB.heap.get? b=some o/\HA b=none:=fun b hb o e=>by
       have:=IB.pin (b,o) (DX _ (JC _ (Zi hb e)))
       exact⟨this.1,this.2.1⟩
      refine⟨m',hm',i+1,zs,τA,HA,itsA,kA,IB.pins_of ?_,T.keep _ _ _ st6 fun b hb o e=>(pinO b hb o e).1,fun b hb=>?_,vlA,hzA,w'⟩
      ·intro p hp
       rw[Jl.mp hp]
       exact⟨pinB.1,pinB.2.1,hDC,accfs,fun v z=>by cases z⟩
      ·obtain⟨o,e,_⟩:=T.obj _ _ st6 b hb
       exact(pinO b hb o e).2
     ·refine qC (T2.item Y rfl rfl rfl hc i2 _ sA τA HA _ IA (fpI frA) stA go2) fun r sB zq=>?_
      obtain⟨u2,hr2,hB⟩:=zq;subst hr2;refine qC hB fun _ sC zq=>?_
      obtain⟨x2,HC,IC,rC,yC,stC,frC⟩:=zq;have IC':=IC.pinned (fpI frC) (T2.obj _ _ stC);refine qC (hg2 _ _ _ _ _ sC τA HC x2 u2 _ IC' rC (step2 x2 HC yC)) fun _ sD zq=>?_
      obtain⟨τD,HD,ID,N,hN,qD⟩:=zq;refine qC (he _ _ _ _ _ sD τD HD _ ID qD) fun v' sE zq=>?_
      obtain⟨y,HE,IE,rE,nE⟩:=zq;obtain⟨m2',hm2',wE⟩:=hN _ _ nE;have pinE:=IE.pin (s2.heap.objs.size,{cls:= .type "list",data:= .seq itsA.toArray kA}) (by simp [zK])
      have pinO:∀p∈ZQ fp s6.heap,sE.heap.get? p.1=some p.2/\HE p.1=none/\p.1≠Y.env.locals/\p.1∉Y.fs/\∀v,p.2.data≠ .cell v:=fun p hp=>
       IE.pin p (DX _ (Fe _ (JC _ hp)))
      have pin2:∀b∈fp2,∀o,sC.heap.get? b=some o->sE.heap.get? b=some o/\HE b=none:=fun b hb o e=>by
       have:=IE.pin (b,o) (DX _ (DX _ (Zi hb e)))
       exact⟨this.1,this.2.1⟩
      refine wpAny_list_append_plain (items:=itsA.toArray) ⟨kA,pinE.1⟩ (fun h' ha' hs'=>?_) (by have:=vlA.length;simp;lia)
      obtain⟨k',ha'⟩:=ha';have IF:Gi Y [] τD HE {sE with heap:=h'}:=by
       refine(IE.pins_of (pins':=[]) (by simp)).turned (t':=sE.toks) (it:=s2.heap.objs.size) (fun b o hb e=>(hs'.2 b hb).trans e) pinE.2.1 ?_ (.inr (Jf _)) (fun x c e=>acccell x c e) (fun p hp=>absurd (show p∈([]:Gd)from by simpa [Y,zK]using hp) (by simp))
       exact hDC
      have ea:(itsA.toArray.push v')=(itsA++[v']).toArray:=by simp
      rw[ea]at ha';refine⟨m2',hm2',i2+1,zs++[y],τD,HE,itsA++[v'],k',IF.pins_of ?_,T2.keep _ _ _ stC fun b hb o e=>?_,fun b hb=>?_,vlA.append (.cons rE .nil),?_,wE⟩
      ·intro p hp
       rcases Jk.mp hp with z|z
       ·rw[z]
        exact⟨ha',pinE.2.1,hDC,accfs,fun v z=>by cases z⟩
       ·obtain⟨p1,p2⟩:=pinO p z
        exact⟨(hs'.2 p.1 (below p.1 (fplt p.1 (iY z).1)).2).trans p1,p2⟩
      ·refine(hs'.2 b fun z=>?_).trans (pin2 b hb o e).1
       exact(f9 b hb).2.2.2.2.2 (s2.heap.objs.size,{cls:= .type "list",data:= .seq its.toArray k}) (by simp [zK]) z.symm
      ·obtain⟨o,e,_⟩:=T2.obj _ _ stC b hb
       exact(pin2 b hb o e).2
      ·rw[JD,EG];lia
    exact lS L2 (T2.self _ 0 _ _ _ st9 L2)
  ·refine⟨0,[],σ0 own.length js σ,H2,[],0,I3.pins_of ?_,st3,fun b hb=>(f2 b hb).1,.nil,JI _,w0⟩
   intro p hp;rw[Jl.mp hp]
   exact⟨ha3,I2.hok.fresh (Jf _),hDC,accfs,fun v z=>by cases z⟩
 have st1:tn 0 h₁:=T.keep _ _ _ st2 fun b _ o e=>old b o e
 exact codeAny_compStart_list (loop _ IY st1 hacc) (T.self _ 0 _ _ _ st1 (loop _ IY st1 hacc))
theorem uV{elt tg iter tg2 iter2:Expr}{scope:Scope}{cl:List (Str×Addr)}{pos:Pos}{fr own:List Str}{js:List Nat}{wi wi2:TI}{g g2:TG}{te:TE}
  (hc:X.calm=true)(hi:QI X tg iter wi)(hclos:closureFor scope X.env=pure cl)(hcl:∀y c,cl.lookup y=some c->X.env.cells.lookup y=some c)(hfr:cl.map (·.1)=fr)
  (S:Hu X scope fr js)
  (hg:∀C s H fp,QG (zK X (own++fr) scope cl C s H fp) tg g)(hi2:∀C s H fp,QI (zK X (own++fr) scope cl C s H fp) tg2 iter2 wi2)(hg2:∀C s H fp,QG (zK X (own++fr) scope cl C s H fp) tg2 g2)(he:∀C s H fp,QE (zK X (own++fr) scope cl C s H fp) elt te)
  (hs:∀x,foldedSetIterable iter X.env x=pure x:=by intro _;rfl)(hs2:∀C x,foldedSetIterable iter2 (compEnvC scope cl C X.env) x=pure x:=by intro _ _;rfl):
  QE X (.ListComp elt [⟨tg,iter,[],0⟩,⟨tg2,iter2,[],0⟩] scope pos) (tN own.length js wi g wi2 g2 te):=by
 refine⟨fun tx s σ H Q I h=>?_⟩
 rw[eval_ListComp];refine uF (use:=none) hc hi.h hclos hcl hfr S (fun C s H fp=>(hg C s H fp).h) (fun C s H fp=>(hi2 C s H fp).h) (fun C s H fp=>(hg2 C s H fp).h) (fun C s H fp=>(he C s H fp).h) hs hs2 I h fun acc C s5 H' m I5 hn aw q=>?_
 exact⟨m,hn,fun h' hs'=>⟨.ref acc,H',I5.turned (t':=s5.toks) (fun b o hb e=>(hs'.2 b hb).trans e) aw.free aw.loc (.inr aw.new) aw.cell aw.pin,rfl,q⟩⟩
end L3
namespace S0
open PySem PySem.Spec PyProof.Rows
def nJ(M x:Nat):Nat:=(x*5+1)%M
def bo(M:Nat):Nat->Nat->Nat
 |0,x=>x
 |n+1,x=>bo M n (nJ M x)
theorem bV(M:Nat):∀(a b x:Nat),bo M (a+b) x=bo M b (bo M a x)
 |0,b,x=>by rw[Nat.zero_add];rfl
 |a+1,b,x=>by rw[Nat.add_right_comm];exact bV M a b (nJ M x)
def BZ(M:Nat):Nat->Nat->List Nat
 |0,_=>[]
 |n+1,x=>x::BZ M n (nJ M x)
theorem ub(M:Nat):∀(n x j:Nat),j∈BZ M n x->∃m,m<n/\bo M m x=j
 |0,x,j,h=>nomatch h
 |n+1,x,j,h=>by
  rcases Jk.mp h with rfl|h
  ·exact⟨0,Nat.succ_pos _,rfl⟩
  ·obtain⟨m,hm,e⟩:=ub M n _ j h
   exact⟨m+1,by lia,e⟩
def xv(M:Nat):Bool:=(bo M M 0==0)&&(List.range M).all fun j=>(BZ M M 0).contains j
def Qa(M:Nat):Prop:=xv M=true
theorem tS:Qa 8:=by unfold Qa;decide +kernel
theorem Ar:Qa 16:=by unfold Qa;decide +kernel
theorem y9:Qa 32:=by unfold Qa;decide +kernel
theorem Aa:Qa 64:=by unfold Qa;decide +kernel
theorem vT:Qa 128:=by unfold Qa;decide +kernel
theorem v8:Qa 256:=by unfold Qa;decide +kernel
theorem we{n:Nat}(h:n<256):Qa (SetTable.sizeAbove n)/\n<SetTable.sizeAbove n/\SetTable.sizeAbove n<=256:=by
 have key:∀n<256,(SetTable.sizeAbove n=8\/SetTable.sizeAbove n=16\/SetTable.sizeAbove n=32\/SetTable.sizeAbove n=64\/SetTable.sizeAbove n=128\/SetTable.sizeAbove n=256)/\n<SetTable.sizeAbove n:=by decide +kernel
 obtain⟨h1,h2⟩:=key n h;rcases h1 with e|e|e|e|e|e<;>(rw[e]at h2⊢;refine⟨?_,h2,by decide⟩)
 ·exact tS
 ·exact Ar
 ·exact y9
 ·exact Aa
 ·exact vT
 ·exact v8
theorem CQ{M i j:Nat}(h:Qa M)(hi:i<M)(hj:j<M):∃m,m<M/\bo M m i=j:=by
 unfold Qa xv at h;rw[Jz,JZ,E5]at h;obtain⟨h0,h1⟩:=h;have get:∀x,x<M->∃m,m<M/\bo M m 0=x:=fun x hx=>ub M M 0 x (by have:=h1 x (J5.mpr hx);simpa using this)
 obtain⟨a,ha,ea⟩:=get i hi;obtain⟨b,hb,eb⟩:=get j hj
 by_cases hab:a<=b
 ·refine⟨b-a,by lia,?_⟩
  rw[<- ea,<- bV,show a+(b-a)=b by lia,eb]
 ·refine⟨M-a+b,by lia,?_⟩
  rw[<- ea,<- bV,show a+(M-a+b)=M+b by lia,bV,h0,eb]
def ZG(mask:Nat):Nat->Nat×Nat->Nat×Nat
 |0,p=>p
 |n+1,p=>ZG mask n (SetTable.leap mask p.1 p.2)
theorem fE(mask:Nat):∀(a b:Nat) (p:Nat×Nat),ZG mask (a+b) p=ZG mask b (ZG mask a p)
 |0,b,p=>by rw[Nat.zero_add];rfl
 |a+1,b,p=>by rw[Nat.add_right_comm];exact fE mask a b _
theorem lF(mask:Nat):∀(n:Nat) (p:Nat×Nat),(ZG mask n p).2=p.2/32 ^ n
 |0,p=>by show p.2=_;rw[Nat.pow_zero,Nat.div_one]
 |n+1,p=>by
  show(ZG mask n (SetTable.leap mask p.1 p.2)).2=_
  rw[lF mask n]
  show p.2/32/32 ^ n=_
  rw[Nat.div_div_eq_div_mul,Nat.pow_succ,Nat.mul_comm]
theorem jh(mask:Nat):∀(n i p:Nat),p/32=0->(ZG mask n (i,p)).1=bo (mask+1) n i
 |0,i,p,h=>rfl
 |n+1,i,p,h=>by
  have e:SetTable.leap mask i p=(nJ (mask+1) i,0):=by
   unfold SetTable.leap nJ;rw[h,Nat.add_zero]
  show(ZG mask n (SetTable.leap mask i p)).1=bo (mask+1) n (nJ (mask+1) i)
  rw[e];exact jh mask n _ 0 rfl
theorem AD(h:Int):SetTable.bits h<2 ^ 64:=by
 unfold SetTable.bits;have h1:=EN h (show(0:Int)<2 ^ 64 by decide)
 have h2:=EM h (show(2 ^ 64:Int)≠0 by decide)
 lia
theorem AV{mask j:Nat}(hm:Qa (mask+1))(hj:j<=mask)(h:Int)(i:Nat):∃n,n<SetTable.turns mask/\(ZG mask n (i,SetTable.bits h)).1=j:=by
 have hb:=AD h;have e12:(ZG mask 12 (i,SetTable.bits h)).2/32=0:=by
  rw[lF]
  show SetTable.bits h/32 ^ 12/32=0
  rw[Nat.div_div_eq_div_mul];exact Nat.div_eq_of_lt (JJ hb (by decide))
 have l12:(ZG mask 12 (i,SetTable.bits h)).1<mask+1:=by
  rw[show(12:Nat)=11+1 from rfl,fE mask 11 1]
  exact Nat.mod_lt _ (Nat.succ_pos _)
 obtain⟨m,hm1,hm2⟩:=CQ hm l12 (Nat.lt_succ_of_le hj)
 refine⟨12+m,by unfold SetTable.turns;lia,?_⟩
 rw[fE];generalize ZG mask 12 (i,SetTable.bits h)=p at *
 obtain⟨a,b⟩:=p;rw[jh mask m a b e12];exact hm2
theorem i0{mask:Nat}{ow:Array (Option Nat)}:∀(fuel i p:Nat),SetTable.layClean.free mask ow fuel i p=none->∀n,n<fuel->(ow.getD (ZG mask n (i,p)).1 (some 0)).isNone=false
 |0,i,p,h,n,hn=>absurd hn (Nat.not_lt_zero _)
 |fuel+1,i,p,h,n,hn=>by
  unfold SetTable.layClean.free at h;split at h
  ·cases h
  ·rename_i hf
   cases n with
   |zero=>
    have:=List.find?_eq_none.mp hf 0 (J5.mpr (by unfold SetTable.runEnd;split<;>lia))
    exact FR.mpr this
   |succ n=>exact i0 fuel _ _ h n (by lia)
theorem iV{mask:Nat}{ow:Array (Option Nat)}{j:Nat}:∀(fuel i p:Nat),SetTable.layClean.free mask ow fuel i p=some j->(ow.getD j (some 0)).isNone=true
 |0,i,p,h=>nomatch h
 |fuel+1,i,p,h=>by
  unfold SetTable.layClean.free at h;split at h
  ·rename_i k hf
   cases h
   have:=List.find?_some hf
   exact this
  ·exact iV fuel _ _ h
def OwOk(mask:Nat)(ow:Array (Option Nat))(k:Nat):Prop:=ow.size=mask+1/\(ow.toList.filterMap id).Perm (List.range k)
theorem kX:∀l:List (Option Nat),(∀x∈l,x.isNone=false)->(l.filterMap id).length=l.length
 | [],_=>rfl
 |x::l,h=>by
  have hx:=h x Jw;cases x with
  |none=>cases hx
  |some y=>
   rw[JO]
   show(y::l.filterMap id).length=_
   rw[JU,JU,kX l fun z hz=>h z (JC _ hz)]
theorem OwOk.step{mask k:Nat}{ow:Array (Option Nat)}(hm:Qa (mask+1))(o:OwOk mask ow k)(hk:k<=mask)(h:Int):
  ∃j,SetTable.layClean.free mask ow (SetTable.turns mask) (SetTable.bits h%(mask+1)) (SetTable.bits h)=some j/\OwOk mask (ow.setIfInBounds j (some k)) (k+1):=by
 obtain⟨hs,hp⟩:=o;cases e:SetTable.layClean.free mask ow (SetTable.turns mask) (SetTable.bits h%(mask+1)) (SetTable.bits h)with
 |none=>
  exfalso
  have all:∀x∈ow.toList,x.isNone=false:=fun x hx=>by
   obtain⟨j,hj,rfl⟩:=List.mem_iff_getElem.mp hx;have hj':j<ow.size:=by rw[<- Jq];exact hj
   obtain⟨n,hn,en⟩:=AV hm (show j<=mask by lia) h (SetTable.bits h%(mask+1))
   have:=i0 _ _ _ e n hn
   rw[en]at this
   simpa [Array.getD,hj']using this
  have h1:(ow.toList.filterMap id).length=ow.toList.length:=kX _ all
  have h2:(ow.toList.filterMap id).length=(List.range k).length:=hp.length_eq
  rw[List.length_range]at h2;rw[h2,Jq]at h1;lia
 |some j=>
  refine⟨j,rfl,by rw[Array.size_setIfInBounds];exact hs,?_⟩
  have hf:=iV _ _ _ e;have hj:j<ow.size:=by
   refine Nat.lt_of_not_le fun z=>?_
   rw[Array.getD,dif_neg (by lia)]at hf
   cases hf
  have hn:ow[j]=none:=by
   rw[Array.getD,dif_pos hj]at hf;exact Option.isNone_iff_eq_none.mp hf
  have hl:j<ow.toList.length:=by rw[Jq];exact hj
  have hn':ow.toList[j]=none:=by rw[Array.getElem_toList];exact hn
  rw[Array.toList_setIfInBounds];have e1:ow.toList=ow.toList.take j++none::ow.toList.drop (j+1):=by
   rw[<- hn',List.getElem_cons_drop,List.take_append_drop]
  have e2:ow.toList.set j (some k)=ow.toList.take j++some k::ow.toList.drop (j+1):=by rw[List.set_eq_take_append_cons_drop,Jc hl]
  rw[e2,List.filterMap_append,JO]
  show((ow.toList.take j).filterMap id++k::(ow.toList.drop (j+1)).filterMap id).Perm _
  rw[e1,List.filterMap_append,JO]at hp;have hp:((ow.toList.take j).filterMap id++(ow.toList.drop (j+1)).filterMap id).Perm (List.range k):=hp
  rw[List.range_succ];refine List.perm_middle.trans ?_
  exact(List.Perm.cons k hp).trans (List.perm_append_singleton k _).symm
theorem mU{mask:Nat}(hm:Qa (mask+1)):∀(hs:List Int) (ow:Array (Option Nat)) (k:Nat),OwOk mask ow k->k+hs.length<=mask+1->
  ∃ow',hs.foldl (fun(acc:Option (Array (Option Nat)×Nat)) (h:Int)=>do
   let(owner,k) <- acc
   let j <- SetTable.layClean.free mask owner (SetTable.turns mask) (SetTable.bits h%(mask+1)) (SetTable.bits h)
   pure (owner.setIfInBounds j (some k),k+1)) (some (ow,k))=some (ow',k+hs.length)/\OwOk mask ow' (k+hs.length)
 | [],ow,k,o,_=>⟨ow,rfl,o⟩
 |h::hs,ow,k,o,hl=>by
  rw[JU]at hl;obtain⟨j,ej,oj⟩:=o.step hm (by lia) h
  obtain⟨ow',e',o'⟩:=mU hm hs _ _ oj (by lia)
  refine⟨ow',?_,by rw[JU,show k+(hs.length+1)=k+1+hs.length by lia];exact o'⟩
  rw[List.foldl_cons,JU,show k+(hs.length+1)=k+1+hs.length by lia,<- e']
  congr 1
  show(do
   let j <- SetTable.layClean.free mask ow (SetTable.turns mask) (SetTable.bits h%(mask+1)) (SetTable.bits h)
   pure (ow.setIfInBounds j (some k),k+1))=some (ow.setIfInBounds j (some k),k+1)
  rw[ej];rfl
theorem mE(n:Nat):((List.replicate n (none:Option Nat)).filterMap id)=[]:=by
 induction n with
 |zero=>rfl
 |succ n ih=>rw[Fi,JO];exact ih
theorem mD{mask:Nat}(hm:Qa (mask+1)){hs:Array Int}(hn:hs.size<=mask+1):∃ow,SetTable.layClean mask hs=some ow/\OwOk mask ow hs.size:=by
 have o0:OwOk mask (Array.replicate (mask+1) none) 0:=⟨Array.size_replicate,by rw[Array.toList_replicate,mE];exact List.Perm.refl _⟩
 obtain⟨ow,e,o⟩:=mU hm hs.toList _ 0 o0 (by rw[Jq];lia)
 rw[Nat.zero_add,Jq]at e o;refine⟨ow,?_,o⟩
 unfold SetTable.layClean;rw[<- Array.foldl_toList];exact J3 (Option.map (·.1)) e
theorem fO(f:Nat->Option Nat):∀l:List Nat,(l.filterMap fun j=>(f j).map (j,·)).map (·.2)=l.filterMap f
 | []=>rfl
 |j::l=>by
  rw[JO,JO];cases e:f j with
  |none=>simpa using fO f l
  |some k=>simpa using fO f l
theorem rz(ow:Array (Option Nat)):(List.range ow.size).filterMap (fun j=>ow.getD j none)=ow.toList.filterMap id:=by
 have e:(List.range ow.size).map (fun j=>ow.getD j none)=ow.toList:=by
  refine List.ext_getElem (by rw[Je,List.length_range,Jq]) fun i h1 h2=>?_
  have hi:i<ow.size:=by rw[Jq]at h2;exact h2
  simp [Array.getD,hi]
 rw[<- e,List.filterMap_map];rfl
theorem iW{mask fg mv:Nat}{led plain:Bool}{hs:Array Int}(hm:Qa (mask+1))(hn:hs.size<=mask):
  ∃t o,SetTable.laid mask fg mv led plain hs=some (t,o)/\t.fits hs.size=true/\o.toList.Perm (List.range hs.size)/\Rs t.place/\t.dummies= #[]/\t.led=led/\t.plain=plain/\t.mask=mask:=by
 obtain⟨ow,e,hs1,hp⟩:=mD (hs:=hs) hm (by lia)
 have el:SetTable.laid mask fg mv led plain hs=some ({mask,place:=(((List.range (mask+1)).filterMap fun j=>(ow.getD j none).map (j,·)).map (·.1)).toArray,dummies:= #[],finger:=fg,led,moves:=mv,plain},(((List.range (mask+1)).filterMap fun j=>(ow.getD j none).map (j,·)).map (·.2)).toArray):=by
  unfold SetTable.laid;rw[e];rfl
 obtain⟨h1,h2,h3⟩:=nW el;have e2:((List.range (mask+1)).filterMap fun j=>(ow.getD j none).map (j,·)).map (·.2)=ow.toList.filterMap id:=by
  rw[fO,<- hs1];exact rz ow
 have len:((List.range (mask+1)).filterMap fun j=>(ow.getD j none).map (j,·)).length=hs.size:=by
  have:=J3 List.length e2
  rw[Je,hp.length_eq,List.length_range]at this;exact this
 refine⟨_,_,el,?_,?_,h1,h2,h3,rfl,rfl⟩
 ·unfold SetTable.fits SetTable.fill
  dsimp only
  rw[Jr,Je,len];simp [hn]
 ·dsimp only
  rw[e2];exact hp
theorem my(a:Addr)(wanted:Nat):setRelay a wanted=(do
 let(es,_,t) <- setState a
 if SetTable.sizeAbove wanted>sizeLine then unsupported "set:memory"
 let(es,t) <- (do
  let some (t,order):=t.relaid (es.map (·.1)) wanted|unsupported "internal:set-table-without-room"
  let es':=order.filterMap (es[·]?)
  if es'.size != es.size then unsupported "internal:set-table-lost-an-element"
  pure (es',t):Sem (Array (Int×Value)×SetTable))
 storeSet a es t):=rfl
theorem fB(s o:Addr)(each:Sem Unit):setMerge s o each=(do
 if s==o then return
 let(eo,epoch,to) <- setState o
 if eo.isEmpty then return
 setRoomFor s eo.size
 let(_,_,ts) <- setState s
 match ts.road to with
 | .slotForSlot=>storeSet s eo {to with finger:=ts.finger,led:=ts.led&&to.led,moves:=ts.moves,plain:=ts.plain&&to.plain}
 | .clean=>
  let(es,t) <- (do
   let some (t,order):=SetTable.laid ts.mask ts.finger ts.moves (led:=ts.led&&to.led) (plain:=ts.plain&&to.plain) (eo.map (·.1))|unsupported "internal:set-table-without-room"
   let es':=order.filterMap (eo[·]?)
   if es'.size != eo.size then unsupported "internal:set-table-lost-an-element"
   pure (es',t):Sem (Array (Int×Value)×SetTable))
  storeSet s es t
 | .oneByOne=>
  for (h,x)in <- setWalkUnseen o [s] (some s) do
   let _ <- holding [x] (setAddHashed s x h)
   each
   if(<- setState o).2.1 != epoch then unsupported "set.changed-during-merge"):=rfl
theorem gi{α:Type}{es:Array α}{o:Array Nat}(h:o.toList.Perm (List.range es.size)):(o.filterMap (es[·]?)).toList.Perm es.toList:=by
 rw[Array.toList_filterMap];refine(h.filterMap _).trans ?_
 have e:(List.range es.size).filterMap (es[·]?)=es.toList:=by
  have e1:(List.range es.size).map (es[·]?)=es.toList.map some:=by
   refine List.ext_getElem (by simp) fun i h1 h2=>?_
   have hi:i<es.size:=by simpa using h2
   simp [hi]
  have:(List.range es.size).filterMap (es[·]?)=((List.range es.size).map (es[·]?)).filterMap id:=by rw[List.filterMap_map];rfl
  rw[this,e1,List.filterMap_map];exact List.filterMap_some
 rw[e]
section
variable{prog:Program}{w:World}{K:Type} [DecidableEq K]{knd:PySem.KeyKind prog w K}{kf:Value->K}
variable{A:Around}{E:Gb}{s:Shared}
theorem nv{a:Addr}{o:Obj}{es:Array (Int×Value)}{ep:Nat}{t:SetTable}{wn:Nat}{Q:Unit->Shared->Prop}(ho:s.heap.get? a=some o)(hd:o.data= .set es ep t)(hf:t.fits es.size=true)(hw:wn<256)(hn:es.size<=wn)
  (h:∀es' t',es'.toList.Perm es.toList->t'.fits es'.size=true->Rs t'.place->t'.dummies= #[]->t'.led=t.led->t'.plain=t.plain->Qa (t'.mask+1)->wn<=t'.mask->Q () {s with heap:=s.heap.update a (Obj.putSet es' t')}):
  wpAny (model prog w) A (setRelay a wn) Q E s:=by
 obtain⟨p1,p2,p3⟩:=we hw;rw[my];refine Ja (wpAny_setState_of ho hd hf ?_)
 dsimp only
 have hsl:¬SetTable.sizeAbove wn>sizeLine:=by rw[JA];lia
 rw[Jd hsl];have hm:SetTable.sizeAbove wn-1+1=SetTable.sizeAbove wn:=by lia
 obtain⟨t',or,el,q1,q2,q3,q4,q5,q6,q7⟩:=iW (mask:=SetTable.sizeAbove wn-1) (fg:=t.finger) (mv:=t.movedTo (SetTable.sizeAbove wn-1)) (led:=t.led) (plain:=t.plain) (hs:=es.map (·.1)) (by rw[hm];exact p1) (by rw[Array.size_map];lia)
 have el:t.relaid (es.map (·.1)) wn=some (t',or):=el
 rw[Array.size_map]at q1 q2;have hp:=gi (es:=es) q2
 have hsz:(or.filterMap (es[·]?)).size=es.size:=by rw[<- Jq,hp.length_eq,Jq]
 have hbn:es.size<=sizeLine:=by rw[JA];lia
 refine Ja ?_
 rw[el]
 dsimp only
 rw[hsz];simp only[bne_self_eq_false,Bool.false_eq_true,JE];exact Jb (wpAny_storeSet_of ho hd (h _ _ hp (by rw[hsz];exact q1) q3 q4 q5 q6 (by rw[q7,hm];exact p1) (by rw[q7];lia)) (by rw[hsz];exact hbn))
def FrK(w:World)(h:Heap)(a:Addr)(n:Nat):Prop:=∃o ep t,h.get? a=some o/\o.ExactSet/\o.data= .set #[] ep t/\t.fits 0=true/\t.dummies= #[]/\Qa (t.mask+1)/\n<=t.mask/\TW w t
theorem FrK.k{h:Heap}{a:Addr}{n:Nat}(x:FrK w h a n):SetK knd kf h a []:=by
 obtain⟨o,ep,t,h1,h2,h3,h4,h5,h6,h7,h8⟩:=x
 exact⟨o,#[],ep,t,h1,h2,h3,h4,by decide,(fun e he=>nomatch he),List.Perm.refl _,h8⟩
theorem AN{a:Addr}{n:Nat}{Q:Unit->Shared->Prop}(hF:FrK w s.heap a 0)(hn:n<=100)(h:∀h',Heap.SameBut a s.heap h'->FrK w h' a n->Q () {s with heap:=h'}):wpAny (model prog w) A (setRoomFor a n) Q E s:=by
 obtain⟨o,ep,t,h1,h2,h3,h4,h5,h6,h7,h8⟩:=hF;unfold setRoomFor;refine Ja (wpAny_setState_of h1 h3 h4 ?_)
 dsimp only
 have hp0:t.place.size=0:=by
  unfold SetTable.fits at h4;rw[Jz,JZ]at h4;exact h4.1
 have hfill:t.fill=0:=by unfold SetTable.fill;rw[hp0,h5];rfl
 unfold SetTable.roomFor;rw[hfill,hp0]
 by_cases c:(0+n)*5 ≥ t.mask*3
 ·rw[Jc c]
  dsimp only
  refine nv h1 h3 h4 (by lia) (JI _) fun es' t' e1 e2 e3 e4 e5 e6 e7 e8=>?_
  have e0:es'= #[]:=by
   have:=e1.length_eq
   rw[Jq]at this;exact Array.eq_empty_of_size_eq_zero this
  subst e0;refine h _ (DW s.heap a _) ⟨_,_,t',Zd h1 h3 #[] t',h2,rfl,e2,e4,e7,by lia,?_⟩
  rcases h8 with z|⟨z1,z2⟩
  ·exact .inl z
  ·exact .inr ⟨e5.trans z1,fun _=>e3⟩
 ·rw[Jd c]
  exact Jb (h s.heap (Heap.SameBut.refl a s.heap) ⟨o,ep,t,h1,h2,h3,h4,h5,h6,by lia,h8⟩)
theorem TW.both{t u:SetTable}{fg mv:Nat}(a:TW w t)(b:TW w u)(hp:u.dummies= #[]):TW w {u with finger:=fg,led:=t.led&&u.led,moves:=mv,plain:=t.plain&&u.plain}:=by
 rcases a with z|⟨z1,z2⟩
 ·exact .inl z
 ·rcases b with y|⟨y1,y2⟩
  ·exact .inl y
  ·refine .inr ⟨by show(t.led&&u.led)=true;rw[z1,y1];rfl,fun h=>?_⟩
   have h:(t.plain&&u.plain)=true:=h
   rw[Jz]at h;exact y2 h.2
theorem fY{a b:Addr}{kb:List K}{each:Sem Unit}{Q:Unit->Shared->Prop}(nab:a≠b)(hF:FrK w s.heap a 0)(hB:SetK knd kf s.heap b kb)(lb:kb.length<=100)
  (h:∀h',Heap.SameBut a s.heap h'->SetK knd kf h' a kb->(kb=[]->FrK w h' a 0)->Q () {s with heap:=h'}):wpAny (model prog w) A (setMerge a b each) Q E s:=by
 obtain⟨ob,eb,epb,tb,b1,b2,b3,b4,b5,b6,b7,b8⟩:=id hB;have esz:eb.size=kb.length:=by rw[<- b7.length_eq,Je,Jq]
 rw[fB];have hne:(a==b)=false:=by rw[ED];exact nab
 rw[hne];simp only[Bool.false_eq_true,JE];refine Ja (wpAny_setState_of b1 b3 b4 ?_)
 dsimp only
 by_cases c:eb.isEmpty=true
 ·rw[Jc c]
  have e0:kb=[]:=by
   rw[Array.isEmpty_iff_size_eq_zero,esz]at c;exact List.eq_nil_of_length_eq_zero c
  subst e0;exact Jb (h s.heap (Heap.SameBut.refl a s.heap) hF.k fun _=>hF)
 ·rw[Jd c]
  refine Ja (AN hF (by lia) fun h1 sb1 hF1=>?_)
  obtain⟨o,ep,t,q1,q2,q3,q4,q5,q6,q7,q8⟩:=id hF1;refine Ja (wpAny_setState_of (s:={s with heap:=h1}) q1 q3 q4 ?_)
  dsimp only
  have hp0:t.place.size=0:=by
   unfold SetTable.fits at q4;rw[Jz,JZ]at q4;exact q4.1
  have hfill:t.fill=0:=by unfold SetTable.fill;rw[hp0,q5];rfl
  have kne:kb≠[]:=fun z=>c (by rw[Array.isEmpty_iff_size_eq_zero,esz,z];rfl)
  have hbs:eb.size<=sizeLine:=fits_of_scanBound b5
  have er:t.road tb=if t.mask==tb.mask&&tb.dummies.isEmpty then .slotForSlot else .clean:=by
   unfold SetTable.road;rw[hfill];rfl
  rw[er]
  by_cases c2:(t.mask==tb.mask&&tb.dummies.isEmpty)=true
  ·rw[Jc c2]
   rw[Jz,Array.isEmpty_iff]at c2;refine wpAny_storeSet_of (s:={s with heap:=h1}) q1 q3 ?_ hbs
   refine h _ (sb1.trans (DW h1 a _)) ⟨_,eb,_,_,Zd q1 q3 eb _,q2,rfl,?_,b5,b6,b7,TW.both q8 b8 c2.2⟩ fun z=>absurd z kne
   exact b4
  ·rw[Jd c2]
   obtain⟨t',or,el,r1,r2,r3,r4,r5,r6,r7⟩:=iW (mask:=t.mask) (fg:=t.finger) (mv:=t.moves) (led:=t.led&&tb.led) (plain:=t.plain&&tb.plain) (hs:=eb.map (·.1)) q6 (by rw[Array.size_map];exact q7)
   rw[Array.size_map]at r1 r2;have hp:=gi (es:=eb) r2
   have hsz:(or.filterMap (eb[·]?)).size=eb.size:=by rw[<- Jq,hp.length_eq,Jq]
   dsimp only
   refine Ja ?_
   rw[el]
   dsimp only
   rw[hsz];simp only[bne_self_eq_false,Bool.false_eq_true,JE];refine Jb (wpAny_storeSet_of (s:={s with heap:=h1}) q1 q3 ?_ (by rw[hsz];exact hbs))
   refine h _ (sb1.trans (DW h1 a _)) ⟨_,_,_,t',Zd q1 q3 _ t',q2,rfl,by rw[hsz];exact r1,by rw[hsz];exact b5,b6.perm hp,(hp.map _).trans b7,?_⟩ fun z=>absurd z kne
   rcases q8 with z|⟨z1,z2⟩
   ·exact .inl z
   ·rcases b8 with y|⟨y1,y2⟩
    ·exact .inl y
    ·exact .inr ⟨by rw[r5,z1,y1];rfl,fun _=>r3⟩
end
section
variable{prog:Program}{w:World}{K:Type} [DecidableEq K]{knd:PySem.KeyKind prog w K}{kf:Value->K}
variable{A:Around}{E:Gb}{s:Shared}
theorem Cm{a:Addr}{n:Nat}{ks:List K}{Q:Unit->Shared->Prop}(hS:SetK knd kf s.heap a ks)(hn:ks.length+n<=100)(h:∀h',Heap.SameBut a s.heap h'->SetK knd kf h' a ks->Q () {s with heap:=h'}):wpAny (model prog w) A (setRoomFor a n) Q E s:=by
 obtain⟨o,es,ep,t,h1,h2,h3,h4,h5,h6,h7,h8⟩:=id hS;have esz:es.size=ks.length:=by rw[<- h7.length_eq,Je,Jq]
 unfold setRoomFor;refine Ja (wpAny_setState_of h1 h3 h4 ?_)
 dsimp only
 have hp0:t.place.size=es.size:=by
  unfold SetTable.fits at h4;rw[Jz,JZ]at h4;exact h4.1
 unfold SetTable.roomFor;rw[hp0]
 by_cases c:(t.fill+n)*5 ≥ t.mask*3
 ·rw[Jc c]
  dsimp only
  refine nv h1 h3 h4 (by lia) (by lia) fun es' t' e1 e2 e3 e4 e5 e6 e7 e8=>?_
  have sz:es'.size=es.size:=by rw[<- Jq,e1.length_eq,Jq]
  refine h _ (DW s.heap a _) ⟨_,es',_,t',Zd h1 h3 es' t',h2,rfl,e2,by rw[sz];exact h5,h6.perm e1,(e1.map _).trans h7,?_⟩
  rcases h8 with z|⟨z1,z2⟩
  ·exact .inl z
  ·exact .inr ⟨e5.trans z1,fun _=>e3⟩
 ·rw[Jd c]
  exact Jb (h s.heap (Heap.SameBut.refl a s.heap) hS)
theorem nu{a r:Addr}{o:Obj}{es:Array (Int×Value)}{ep:Nat}{t:SetTable}{kr:List K}{Q:Array (Int×Value)->Shared->Prop}(ho:s.heap.get? a=some o)(hex:o.ExactSet)(hd:o.data= .set es ep t)(hf:t.fits es.size=true)(hb:es.size<scanBound)(hel:ElemsOf knd es.toList)(tw:TW w t)
  (hR:SetK knd kf s.heap r kr)
  (h:∀arr h',arr.toList.Perm es.toList->Heap.SameBut r s.heap h'->SetK knd kf h' r kr->Q arr {s with heap:=h'}):wpAny (model prog w) A (setWalkUnseen a [r] (some r)) Q E s:=by
 have same:∀arr,arr.toList.Perm es.toList->Q arr s:=fun arr p=>h arr s.heap p (Heap.SameBut.refl r s.heap) hR
 have vC:(zp w||(t.led&&t.plain)||decide (es.size<=1))=true->wpAny (model prog w) A (setWalk a) Q E s:=fun c=>by
  rw[rf];refine Ja (wpAny_setState_of ho hd hf ?_)
  dsimp only
  refine Ja (QF ?_)
  cases hbt:zp w with
  |true=>
   rw[Jc rfl];exact Ja (wpAny_askSetting (Jb (same _ (iB _ es))))
  |false=>
   rw[Jd (by decide)]
   rw[hbt]at c;have hl:t.led=true:=by
    rcases tw with z|⟨z1,_⟩
    ·rw[hbt]at z;cases z
    ·exact z1
   have hdr:(!t.plain&&decide (es.size>1))=false:=by
    rw[hl]at c;cases hp:t.plain with
    |true=>rfl
    |false=>rw[hp]at c;simp at c;simp;lia
   rw[hdr];simp only[Bool.false_eq_true,JE,hl,Bool.not_true,Eb];exact Ja (Jb (Jb (same _ (List.Perm.refl _))))
 unfold setWalkUnseen;refine Ja (wpAny_setState_of ho hd hf ?_)
 dsimp only
 refine Ja (QF ?_)
 by_cases c:(zp w||(t.led&&t.plain)||decide (es.size<=1))=true
 ·rw[Jc c]
  exact vC c
 ·rw[Jd c]
  have hbt:zp w=false:=by
   cases e:zp w with
   |true=>rw[e]at c;simp at c
   |false=>rfl
  have hl:t.led=true:=by
   rcases tw with z|⟨z1,_⟩
   ·rw[hbt]at z;cases z
   ·exact z1
  refine Ja (Ah (knd:=knd) (kf:=kf) (fun x hx=>?_) ?_)
  ·simp only[Jk,Js,Jt]at hx
   rcases hx with rfl|rfl
   ·exact⟨_,o,es,ep,t,ho,hex,hd,hf,hb,hel,List.Perm.refl _,tw⟩
   ·exact⟨_,hR⟩
  ·simp only[Bool.not_true,Bool.false_eq_true,JE]
   refine Ja (Ec ?_)
   obtain⟨o2,es2,ep2,t2,ho2,hex2,hd2,hf2,hb2,hel2,hpm2,tw2⟩:=hR;refine Ja (wpAny_setState_of ho2 hd2 hf2 ?_)
   dsimp only
   by_cases c2:((t2.led&& !t.led)||(t2.plain&& !t.plain))=true
   ·rw[Jc c2]
    refine Ja (wpAny_storeSet_of ho2 hd2 (Jb ?_) (fits_of_scanBound hb2))
    refine h _ _ (List.Perm.refl _) (DW s.heap r _) ⟨_,es2,_,_,Zd ho2 hd2 es2 _,hex2,rfl,hf2,hb2,hel2,hpm2,?_⟩
    rcases tw2 with z|⟨z1,z2⟩
    ·exact .inl z
    ·refine .inr ⟨by show(t2.led&&t.led)=true;rw[z1,hl];rfl,fun z=>?_⟩
     have z:(t2.plain&&t.plain)=true:=z
     rw[Jz]at z;exact z2 z.1
   ·rw[Jd c2]
    exact Jb (same _ (List.Perm.refl _))
theorem wD(hkf:∀k v,knd.is k v=true->kf v=k){a b:Addr}(nab:b≠a){o:Obj}{es:Array (Int×Value)}{ep:Nat}{t:SetTable}{ka:List K}{each:Sem Unit}{Q:PUnit->Shared->Prop}(hd:o.data= .set es ep t)(hf:t.fits es.size=true)(arr:Array (Int×Value))(harr:ElemsOf knd arr.toList)(hn:ka.length+arr.size+1<scanBound)
  (heach:∀(s':Shared) (Q':Unit->Shared->Prop),s'.heap.get? b=some o->Q' () s'->wpAny (model prog w) A each Q' E s')
  (ho:s.heap.get? b=some o)(hS:SetK knd kf s.heap a ka)(nd:ka.Nodup)
  (h:∀h' ks,Heap.SameBut a s.heap h'->SetK knd kf h' a ks->ks.Nodup->(∀k,k∈ks↔k∈ka\/k∈(arr.toList.map fun e=>kf e.2))->Q ⟨⟩ {s with heap:=h'}):
  wpAny (model prog w) A (forIn arr PUnit.unit fun x _=>do
   let _ <- holding [x.2] (setAddHashed a x.2 x.1)
   each
   if(<- setState b).2.1 != ep then do
    unsupported "set.changed-during-merge"
    pure (ForInStep.yield PUnit.unit)
   else pure (ForInStep.yield PUnit.unit)) Q E s:=by
 obtain⟨hp,g,dr,tk,os⟩:=s;refine PySem.MeetsSeq2.wpAny_forIn_array _ (fun rest _ s'=>∃h' done ks,s'=⟨h',g,dr,tk,os⟩/\arr.toList=done++rest/\Heap.SameBut a hp h'/\SetK knd kf h' a ks/\ks.Nodup/\(∀k,k∈ks↔k∈ka\/k∈(done.map fun e=>kf e.2))/\ks.length<=ka.length+done.length) _ ?_ ?_ arr _ ⟨hp,[],ka,rfl,rfl,Heap.SameBut.refl a hp,hS,nd,fun k=>by simp,Jf _⟩
 ·rintro⟨hh,x⟩ rest _ s' ⟨h',done,ks,rfl,e,sb,hR',nd,mem,len⟩
  have hx:(hh,x)∈arr.toList:=by rw[e];exact DX _ Jw
  obtain⟨⟨k,hk,hhash⟩,hsc⟩:=harr _ hx
  dsimp only at hk hhash hsc⊢
  subst hhash;have hdl:done.length+1<=arr.size:=by
   have:=J3 List.length e
   rw[Jq,JD,JU]at this;lia
  have kx:kf x=k:=hkf k x hk
  refine Ja (JL (pK (s:=⟨h',g,dr,tk,os⟩) hkf hk hsc hR' (by lia) fun h2 sb2 hR2=>?_))
  have ho2:h2.get? b=some o:=by rw[sb2.2 b nab,sb.2 b nab];exact ho
  refine Ja (heach _ _ ho2 (Ja (wpAny_setState_of (s:=⟨h2,g,dr,tk,os⟩) ho2 hd hf ?_)))
  simp only[bne_self_eq_false,Bool.false_eq_true,JE];refine Jb ⟨h2,done++[(knd.hash k,x)],_,rfl,by rw[e,Ew];rfl,sb.trans sb2,hR2,?_,fun k'=>?_,?_⟩
  ·split
   ·exact nd
   ·rename_i hnk
    rw[Fb]
    exact⟨nd,by simp,fun x1 hx1 y1 hy1 e1=>hnk (by rw[Jl.mp hy1]at e1;rw[<- e1];exact hx1)⟩
  ·rw[JN,JW]
   show _↔_\/_\/k'∈[kf x]
   rw[kx,Jl];split
   ·rename_i hik
    rw[mem];constructor
    ·rintro(h1|h1)
     ·exact .inl h1
     ·exact .inr (.inl h1)
    ·rintro(h1|h1|rfl)
     ·exact .inl h1
     ·exact .inr h1
     ·exact(mem k').mp hik
   ·rw[JW,mem,Jl,or_assoc]
  ·rw[JD,EG]
   split
   ·lia
   ·rw[JD,EG];lia
 ·rintro _ s' ⟨h',done,ks,rfl,e,sb,hR',nd,mem,len⟩
  rw[El]at e;refine h h' ks sb hR' nd (by rw[e];exact mem)
theorem Ai(hkf:∀k v,knd.is k v=true->kf v=k){a b:Addr}{ka kb:List K}{each:Sem Unit}{Q:Unit->Shared->Prop}(nab:a≠b)(hA:SetK knd kf s.heap a ka)(hB:SetK knd kf s.heap b kb)(ne:ka≠[])(nd:ka.Nodup)(la:ka.length+kb.length<=100)
  (heach:∀(s':Shared) (Q':Unit->Shared->Prop),(∀o,s.heap.get? b=some o->s'.heap.get? b=some o)->Q' () s'->wpAny (model prog w) A each Q' E s')
  (h:∀h' ks,Heap.SameBut a s.heap h'->SetK knd kf h' a ks->ks.Nodup->(∀k,k∈ks↔k∈ka\/k∈kb)->Q () {s with heap:=h'}):wpAny (model prog w) A (setMerge a b each) Q E s:=by
 obtain⟨ob,eb,epb,tb,b1,b2,b3,b4,b5,b6,b7,b8⟩:=id hB;have esz:eb.size=kb.length:=by rw[<- b7.length_eq,Je,Jq]
 rw[fB];have hne:(a==b)=false:=by rw[ED];exact nab
 rw[hne];simp only[Bool.false_eq_true,JE];refine Ja (wpAny_setState_of b1 b3 b4 ?_)
 dsimp only
 by_cases c:eb.isEmpty=true
 ·rw[Jc c]
  have e0:kb=[]:=by
   rw[Array.isEmpty_iff_size_eq_zero,esz]at c;exact List.eq_nil_of_length_eq_zero c
  subst e0;exact Jb (h s.heap ka (Heap.SameBut.refl a s.heap) hA nd fun k=>by simp)
 ·rw[Jd c]
  refine Ja (Cm hA (by lia) fun h1 sb1 hA1=>?_)
  obtain⟨o,ea,ep,t,q1,q2,q3,q4,q5,q6,q7,q8⟩:=id hA1;refine Ja (wpAny_setState_of (s:={s with heap:=h1}) q1 q3 q4 ?_)
  dsimp only
  have hp0:t.place.size=ea.size:=by
   unfold SetTable.fits at q4;rw[Jz,JZ]at q4;exact q4.1
  have hea:ea.size=ka.length:=by rw[<- q7.length_eq,Je,Jq]
  have hka:ka.length≠0:=fun z=>ne (List.eq_nil_of_length_eq_zero z)
  have er:t.road tb= .oneByOne:=by
   unfold SetTable.road SetTable.fill;rw[Jc];rw[bne_iff_ne];lia
  rw[er]
  dsimp only
  have ho1:h1.get? b=some ob:=by rw[sb1.2 b nab.symm];exact b1
  refine Ja (nu (s:={s with heap:=h1}) (a:=b) (r:=a) ho1 b2 b3 b4 b5 b6 b8 hA1 fun arr h2 hp sb2 hA2=>?_)
  have asz:arr.size=eb.size:=by rw[<- Jq,hp.length_eq,Jq]
  have ho2:h2.get? b=some ob:=by rw[sb2.2 b nab.symm];exact ho1
  have e4:scanBound=4096:=rfl
  refine Ja (wD (s:={s with heap:=h2}) hkf nab.symm b3 b4 arr (b6.perm hp) (by lia) (fun s' Q' z hq=>heach s' Q' (fun o z2=>?_) hq) ho2 hA2 nd fun h3 ks sb3 hA3 nd3 mem3=>Jb ?_)
  ·rw[b1]at z2;cases z2;exact z
  ·refine h h3 ks ((sb1.trans sb2).trans sb3) hA3 nd3 fun k=>?_
   rw[mem3,(hp.map fun e=>kf e.2).mem_iff,b7.mem_iff]
theorem jP:entryFor table "set.__or__"=some Builtin.«frozenset.__or__»:=
 entryFor_alias (id':="frozenset.__or__") (by kernel_rfl) rfl (by decide +kernel) (by kernel_rfl)
theorem CN(x y:Value):Builtin.«frozenset.__or__» ⟨[x,y],[]⟩=(do
 if !(<- Builtin.Frozenset.isAnySet x <&&> Builtin.Frozenset.isAnySet y)then
  rule s!"frozenset.{"__or__"}.declined"
  return <- ret .notImplemented
 ret (<- (fun(id:String) (l:Addr) (r:Value)=>(do
  let result <- Builtin.Frozenset.copyOf l
  if r != .ref l then holding [result] (Builtin.Frozenset.updateFrom id (<- Builtin.Frozenset.addrOf result) r)
  return result:Sem Value)) s!"frozenset.{"__or__"}" (<- Builtin.Frozenset.addrOf x) y)):=rfl
theorem rS{h:Heap}{a:Addr}(ha:h.get? a=some (Qg (!zp w))):FrK w h a 0:=by
 refine⟨_,0,_,ha,⟨rfl,rfl,rfl⟩,rfl,rfl,rfl,tS,JI _,?_⟩
 cases hb:zp w with
 |true=>exact .inl hb
 |false=>exact .inr ⟨rfl,fun _=>List.Pairwise.nil⟩
theorem DJ(hkf:∀k v,knd.is k v=true->kf v=k){a b:Addr}{ka kb:List K}{Q:Gb}(nab:a≠b)(hA:SetK knd kf s.heap a ka)(hB:SetK knd kf s.heap b kb)(na:ka.Nodup)(nb:kb.Nodup)(la:ka.length+kb.length<=100)
  (h:∀h' ks,(∀c o,s.heap.get? c=some o->h'.get? c=some o)->SetK knd kf h' s.heap.objs.size ks->ks.Nodup->(∀k,k∈ks↔k∈ka\/k∈kb)->Q (.ref s.heap.objs.size) {s with heap:=h'}):
  wpAny (model prog w) A (binaryOp .BitOr (.ref a) (.ref b)) Q E s:=by
 have hTa:=hA.type (h:=s.heap)
 have hTb:=hB.type (h:=s.heap)
 refine wpAny_binaryOp_same (op:= .BitOr) (T:="set") hTa hTb PySem.F.fills_set_or PySem.F.slot_set_or (JS PySem.F.slot_set_or hTa jP ?_ (PySem.F.args_set_or_2 _ _))
 rw[CN];refine Ja (Ja (ZE hTa ?_))
 show wpAny _ _ (Builtin.Frozenset.isAnySet (Value.ref b)) _ _ _
 refine ZE hTb ?_
 simp only[Bool.not_true,Bool.false_eq_true,JE];refine Ja (Jb (Ja ?_))
 unfold Builtin.Frozenset.copyOf Builtin.Frozenset.baseOf;refine Ja (Ja (Ja (EJ hTa sub_set_self (Jb ?_))))
 rw[Jc rfl];refine Ja (kq ?_)
 refine Ja (Jb ?_)
 have hr:(s.heap.push (Qg (!zp w))).get? s.heap.objs.size=some (Qg (!zp w)):=Jp _ rfl
 have old:∀c o,s.heap.get? c=some o->(s.heap.push (Qg (!zp w))).get? c=some o:=fun c o e=>Ji _ e
 have hA1:SetK knd kf (s.heap.push (Qg (!zp w))) a ka:=hA.at (old a)
 have hB1:SetK knd kf (s.heap.push (Qg (!zp w))) b kb:=hB.at (old b)
 have lta:=hA.lt;have ltb:=hB.lt;have na':s.heap.objs.size≠a:=(Jm lta).symm
 have nb':s.heap.objs.size≠b:=(Jm ltb).symm
 refine Ja (fY (s:={s with heap:=s.heap.push (Qg (!zp w))}) na' (rS hr) hA1 (by lia) fun h1 sb1 hR1 hfr=>Jb ?_)
 have hne:((Value.ref b:Value) != Value.ref a)=true:=by
  rw[bne_iff_ne];intro e;cases e;exact nab rfl
 rw[Jc hne];have hB2:SetK knd kf h1 b kb:=hB1.at fun o1 e1=>by rw[sb1.2 b nb'.symm];exact e1
 have hTb2:Shared.TypeIs {s with heap:=h1} (.ref b) "set":=hB2.type (s:={s with heap:=h1}) (h:=s.heap)
 refine Ja (Jb (Ja (JL ?_)))
 unfold Builtin.Frozenset.updateFrom;refine Ja (ZE hTb2 ?_)
 rw[Jc rfl];refine Ja (Ja (Jb (Jb ?_)))
 unfold Builtin.Frozenset.merge;obtain⟨ob,eb,epb,tb,b1,b2,b3,b4,_⟩:=id hB2;refine Ja (wpAny_setEpoch_of (s:={s with heap:=h1}) b1 b3 b4 ?_)
 have fin:∀h2 ks,Heap.SameBut s.heap.objs.size h1 h2->SetK knd kf h2 s.heap.objs.size ks->ks.Nodup->(∀k,k∈ks↔k∈ka\/k∈kb)->Q (.ref s.heap.objs.size) {s with heap:=h2}:=fun h2 ks sb2 hk nd mem=>by
  refine h h2 ks (fun c o e=>?_) hk nd mem
  have nc:c≠s.heap.objs.size:=Jm (Jh e)
  rw[sb2.2 c nc,sb1.2 c nc];exact old c o e
 by_cases ce:ka=[]
 ·subst ce
  refine fY (s:={s with heap:=h1}) nb' (hfr rfl) hB2 (by lia) fun h2 sb2 hR2 _=>?_
  exact Jb (Jb ⟨_,rfl,(fun e=>nomatch e),fin h2 kb sb2 hR2 nb fun k=>by simp⟩)
 ·refine Ai (s:={s with heap:=h1}) hkf nb' hR1 hB2 ce na la (fun s' Q' z hq=>?_) fun h2 ks sb2 hR2 nd mem=>?_
  ·unfold Builtin.Frozenset.unchanged
   refine Ja (wpAny_setEpoch_of (s:=s') (z _ b1) b3 b4 ?_)
   simp only[bne_self_eq_false,Bool.false_eq_true,JE];exact Jb hq
  ·exact Jb (Jb ⟨_,rfl,(fun e=>nomatch e),fin h2 ks sb2 hR2 nd mem⟩)
end
theorem cf{α:Type}(xs:Array α)(i:Nat):(SetTable.eraseAt xs i).toList=xs.toList.eraseIdx i:=by
 unfold SetTable.eraseAt;rw[Array.toList_append,Array.toList_extract,Array.toList_extract,List.eraseIdx_eq_take_drop_succ];congr 1
 simp
 exact List.take_of_length_le (by simp)
theorem mM{α:Type}{l:List α}{j:Nat}(hj:j<l.length):(l[j]::l.eraseIdx j).Perm l:=by
 rw[List.eraseIdx_eq_take_drop_succ];refine List.perm_middle.symm.trans ?_
 rw[List.getElem_cons_drop,List.take_append_drop]
theorem Rs.erase{xs:Array Nat}(h:Rs xs)(i:Nat):Rs (SetTable.eraseAt xs i):=by
 unfold Rs;rw[cf];exact List.Pairwise.sublist (List.eraseIdx_sublist _ _) h
theorem yu{t:SetTable}{n i:Nat}(hf:t.fits n=true)(hi:i<n):(t.drop i).fits (n-1)=true/\(TOk t->TOk (t.drop i))/\(t.drop i).led=t.led:=by
 unfold SetTable.fits at hf;rw[Jz,JZ,decide_eq_true_eq]at hf;have hp:i<t.place.size:=by lia
 have e:t.place[i]? =some t.place[i]:=getElem?_pos t.place i hp
 unfold SetTable.drop;rw[e]
 dsimp only
 have s1:(SetTable.eraseAt t.place i).size=n-1:=by rw[<- Jq,cf,List.length_eraseIdx_of_lt (by rw[Jq];exact hp),Jq];lia
 have s2:(SetTable.insertAt t.dummies (SetTable.below t.dummies t.place[i]) t.place[i]).size=t.dummies.size+1:=by
  rw[<- Jq,SetTable.toList_insertAt,JD,JU,Eu,FI,Jq];lia
 refine⟨?_,fun h hpl=>(h hpl).erase i,rfl⟩
 unfold SetTable.fits SetTable.fill
 dsimp only
 rw[s1,s2];unfold SetTable.fill at hf;rw[Jz,JZ,decide_eq_true_eq]
 exact⟨rfl,by lia⟩
section
variable{prog:Program}{w:World}{K:Type} [DecidableEq K]{knd:PySem.KeyKind prog w K}{kf:Value->K}
variable{A:Around}{E:Gb}{s:Shared}
theorem sQ(hkf:∀k v,knd.is k v=true->kf v=k){a:Addr}{ks:List K}{k:K}{x:Value}{Q:Bool->Shared->Prop}(hkey:knd.is k x=true)(hsc:x.scannable=true)
  (hS:SetK knd kf s.heap a ks)
  (h:∀h',Heap.SameBut a s.heap h'->SetK knd kf h' a (ks.erase k)->Q (decide (k∈ks)) {s with heap:=h'}):
  wpAny (model prog w) A (setDiscardHashed a x (knd.hash k)) Q E s:=by
 obtain⟨o,es,ep,t,ho,hex,hd,hf,hb,hel,hpm,htw⟩:=id hS;have hmem:k∈ks↔∃e∈es.toList,knd.is k e.2=true:=by rw[<- hpm.mem_iff];exact lJ hkf hel k
 unfold setDiscardHashed setFind setFindIn;refine Ja (Ja (wpAny_setState_of ho hd hf ?_))
 dsimp only
 rw[byScan_of hsc hb hel];simp only[↓reduceIte];refine Ja (Ec (Ja (wpAny_setScan_of hkey ho hd hf hel ?_)))
 cases hr:List.findIdx? (fun e=>knd.is k e.2) es.toList with
 |none=>
  have hk:k∉ks:=fun z=>by
   obtain⟨e,he,hp⟩:=hmem.mp z
   have:=List.findIdx?_eq_none_iff.mp hr e he
   rw[hp]at this;cases this
  dsimp only
  refine Jb (Jb ?_)
  have:=h s.heap (Heap.SameBut.refl a s.heap) (by rw[List.erase_of_not_mem hk];exact hS)
  rw[Jn hk]at this;exact this
 |some j=>
  obtain⟨hj,hpj,_⟩:=List.findIdx?_eq_some_iff_getElem.mp hr
  have hk:k∈ks:=hmem.mpr ⟨es.toList[j],Ey hj,hpj⟩
  have hj':j<es.size:=by rw[<- Jq];exact hj
  dsimp only
  refine Jb ?_
  dsimp only
  rw[Nat.zero_add];refine Ja (wpAny_setState_of ho hd hf ?_)
  dsimp only
  obtain⟨d1,d2,d3⟩:=yu hf hj';have el:=cf es j;have sz:(SetTable.eraseAt es j).size=es.size-1:=by rw[<- Jq,el,List.length_eraseIdx_of_lt hj,Jq]
  have hb':(SetTable.eraseAt es j).size<scanBound:=by lia
  refine Ja (wpAny_storeSet_of ho hd (Ja (wpAny_point (Jb ?_))) (fits_of_scanBound hb'))
  have hp:(es.toList[j]::es.toList.eraseIdx j).Perm es.toList:=mM hj
  have hkj:kf es.toList[j].2=k:=hkf k _ hpj
  have:=h _ (DW s.heap a (Obj.putSet (SetTable.eraseAt es j) (t.drop j))) ⟨_,_,_,_,Zd ho hd _ _,hex,rfl,by rw[sz];exact d1,hb',?_,?_,?_⟩
  ·rw[Jg hk]at this;exact this
  ·intro e he
   rw[el]at he;exact hel e ((List.eraseIdx_sublist _ _).subset he)
  ·rw[el]
   have hq:=(hp.map fun e=>kf e.2).trans hpm
   rw[JQ,hkj]at hq
   exact(List.cons_perm_iff_perm_erase.mp hq).2
  ·rcases htw with z|⟨z1,z2⟩
   ·exact .inl z
   ·exact .inr ⟨d3.trans z1,d2 z2⟩
theorem ug(hkf:∀k v,knd.is k v=true->kf v=k){a b:Addr}(id:String)(nab:b≠a){o:Obj}{es:Array (Int×Value)}{ep:Nat}{t:SetTable}{ka:List K}{Q:PUnit->Shared->Prop}(hd:o.data= .set es ep t)(hf:t.fits es.size=true)(arr:Array (Int×Value))(harr:ElemsOf knd arr.toList)(ndr:(arr.toList.map fun e=>kf e.2).Nodup)(hn:ka.length+arr.size+1<scanBound)
  (ho:s.heap.get? b=some o)(hS:SetK knd kf s.heap a ka)(nd:ka.Nodup)
  (h:∀h' ks,Heap.SameBut a s.heap h'->SetK knd kf h' a ks->ks.Nodup->ks.length<=ka.length+arr.size->(∀k,k∈ks↔¬(k∈ka↔k∈(arr.toList.map fun e=>kf e.2)))->Q ⟨⟩ {s with heap:=h'}):
  wpAny (model prog w) A (forIn arr PUnit.unit fun x _=>do
   holding [x.2] (do
    let d <- setDiscardHashed a x.2 x.1
    if(!d)=true then do
     let _ <- setAddHashed a x.2 x.1
     pure PUnit.unit
    else pure PUnit.unit)
   Builtin.Frozenset.unchanged id b ep
   pure (ForInStep.yield PUnit.unit)) Q E s:=by
 obtain⟨hp,g,dr,tk,os⟩:=s;refine PySem.MeetsSeq2.wpAny_forIn_array _ (fun rest _ s'=>∃h' done ks,s'=⟨h',g,dr,tk,os⟩/\arr.toList=done++rest/\Heap.SameBut a hp h'/\SetK knd kf h' a ks/\ks.Nodup/\(∀k,k∈ks↔¬(k∈ka↔k∈(done.map fun e=>kf e.2)))/\ks.length<=ka.length+done.length) _ ?_ ?_ arr _ ⟨hp,[],ka,rfl,rfl,Heap.SameBut.refl a hp,hS,nd,fun k=>by simp,Jf _⟩
 ·rintro⟨hh,x⟩ rest _ s' ⟨h',done,ks,rfl,e,sb,hR',nd,mem,len⟩
  have hx:(hh,x)∈arr.toList:=by rw[e];exact DX _ Jw
  obtain⟨⟨k,hk,hhash⟩,hsc⟩:=harr _ hx
  dsimp only at hk hhash hsc⊢
  subst hhash;have kx:kf x=k:=hkf k x hk
  have hdl:done.length+1<=arr.size:=by
   have:=J3 List.length e
   rw[Jq,JD,JU]at this;lia
  have knew:k∉(done.map fun e=>kf e.2):=fun z=>by
   rw[e,JN,Fb]at ndr;exact ndr.2.2 k z k (by rw[JQ];show k∈kf x::_;rw[kx];exact Jw) rfl
  have mk:k∈ks↔k∈ka:=by
   rw[mem k];constructor
   ·intro z
    refine Decidable.byContradiction fun y=>z ⟨fun u=>absurd u y,fun u=>absurd u knew⟩
   ·intro z y
    exact knew (y.mp z)
  have fin:∀h2 ks2,Heap.SameBut a h' h2->SetK knd kf h2 a ks2->ks2.Nodup->(∀k',k'∈ks2↔(if k'=k then k∉ks else k'∈ks))->ks2.length<=ks.length+1->∀(Z:Shared->Prop),(∀s',(∃h' done ks,s'=(⟨h',g,dr,tk,os⟩:Shared)/\arr.toList=done++rest/\Heap.SameBut a hp h'/\SetK knd kf h' a ks/\ks.Nodup/\(∀k,k∈ks↔¬(k∈ka↔k∈(done.map fun e=>kf e.2)))/\ks.length<=ka.length+done.length)->Z s')->wpAny (model prog w) A (do
    Builtin.Frozenset.unchanged id b ep
    pure (ForInStep.yield PUnit.unit)) (fun rr s'=>match rr with| .yield _=>Z s'| .done b'=>Q b' s') E ⟨h2,g,dr,tk,os⟩:=by
   intro h2 ks2 sb2 hR2 nd2 mem2 len2 Z hZ;unfold Builtin.Frozenset.unchanged;have ho2:h2.get? b=some o:=by rw[sb2.2 b nab,sb.2 b nab];exact ho
   refine Ja (Ja (wpAny_setEpoch_of (s:=⟨h2,g,dr,tk,os⟩) ho2 hd hf ?_))
   simp only[bne_self_eq_false,Bool.false_eq_true,JE];refine Jb (Jb (hZ _ ⟨h2,done++[(knd.hash k,x)],ks2,rfl,by rw[e,Ew];rfl,sb.trans sb2,hR2,nd2,fun k'=>?_,by rw[JD,EG];lia⟩))
   rw[mem2,JN,JW]
   show _↔¬(_↔_\/k'∈[kf x])
   rw[kx,Jl]
   by_cases c:k'=k
   ·subst c
    rw[Jc rfl,mk];constructor
    ·intro z y;exact z (y.mpr (.inr rfl))
    ·intro z y;exact z ⟨fun _=> .inr rfl,fun _=>y⟩
   ·rw[Jd c,mem k']
    simp only[c,Jt]
  refine Ja (JL (Ja (sQ (s:=⟨h',g,dr,tk,os⟩) hkf hk hsc hR' fun h2 sb2 hR2=>?_)))
  by_cases hm:k∈ks
  ·rw[Jg hm,Jd (by decide)]
   refine Jb ?_
   refine JH (fin h2 _ sb2 hR2 (nd.erase k) (fun k'=>?_) (JK (List.length_erase_le ..) (Eo _)) _ fun s' z=>z) (fun rr s' z=>by cases rr<;>exact z) fun _ _ z=>z
   by_cases c:k'=k
   ·subst c
    rw[Jc rfl]
    exact⟨fun z=>absurd z (List.Nodup.not_mem_erase nd),fun z=>absurd hm z⟩
   ·rw[Jd c];exact List.mem_erase_of_ne c
  ·rw[Jn hm,Jc (show(!false)=true from rfl)]
   rw[List.erase_of_not_mem hm]at hR2;refine Ja (pK (s:=⟨h2,g,dr,tk,os⟩) hkf hk hsc hR2 (by lia) fun h3 sb3 hR3=>Jb ?_)
   rw[Jd hm]at hR3;refine JH (fin h3 _ (sb2.trans sb3) hR3 ?_ (fun k'=>?_) (by rw[JD];exact Jf _) _ fun s' z=>z) (fun rr s' z=>by cases rr<;>exact z) fun _ _ z=>z
   ·rw[Fb]
    exact⟨nd,by simp,fun x1 hx1 y1 hy1 e1=>hm (by rw[Jl.mp hy1]at e1;rw[<- e1];exact hx1)⟩
   ·rw[JW,Jl]
    by_cases c:k'=k
    ·rw[Jc c];exact⟨fun _=>hm,fun _=> .inr c⟩
    ·rw[Jd c];exact⟨fun z=>z.resolve_right c,.inl⟩
 ·rintro _ s' ⟨h',done,ks,rfl,e,sb,hR',nd,mem,len⟩
  rw[El]at e;refine h h' ks sb hR' nd (by rw[<- Jq,e];exact len) (by rw[e];exact mem)
theorem jF:entryFor table "set.__xor__"=some Builtin.«frozenset.__xor__»:=
 entryFor_alias (id':="frozenset.__xor__") (by kernel_rfl) rfl (by decide +kernel) (by kernel_rfl)
theorem CJ(x y:Value):Builtin.«frozenset.__xor__» ⟨[x,y],[]⟩=(do
 if !(<- Builtin.Frozenset.isAnySet x <&&> Builtin.Frozenset.isAnySet y)then
  rule s!"frozenset.{"__xor__"}.declined"
  return <- ret .notImplemented
 ret (<- (fun(id:String) (l:Addr) (r:Value)=>(do
  let result <- Builtin.Frozenset.newFrom id (<- Builtin.Frozenset.baseOf l) r
  holding [result] (Builtin.Frozenset.symmetricDifferenceUpdate id (<- Builtin.Frozenset.addrOf result) (.ref l))
  return result:Sem Value)) s!"frozenset.{"__xor__"}" (<- Builtin.Frozenset.addrOf x) y)):=rfl
theorem C5(hkf:∀k v,knd.is k v=true->kf v=k){a b:Addr}{ka kb:List K}{Q:Gb}(nab:a≠b)(hA:SetK knd kf s.heap a ka)(hB:SetK knd kf s.heap b kb)(na:ka.Nodup)(nb:kb.Nodup)(la:ka.length+kb.length<=1000)(lb:kb.length<=100)
  (h:∀h' ks,(∀c o,s.heap.get? c=some o->h'.get? c=some o)->SetK knd kf h' s.heap.objs.size ks->ks.Nodup->ks.length<=ka.length+kb.length->(∀k,k∈ks↔¬(k∈ka↔k∈kb))->Q (.ref s.heap.objs.size) {s with heap:=h'}):
  wpAny (model prog w) A (binaryOp .BitXor (.ref a) (.ref b)) Q E s:=by
 have hTa:=hA.type (h:=s.heap)
 have hTb:=hB.type (h:=s.heap)
 refine wpAny_binaryOp_same (op:= .BitXor) (T:="set") hTa hTb PySem.F.fills_set_xor PySem.F.slot_set_xor (JS PySem.F.slot_set_xor hTa jF ?_ (PySem.F.args_set_xor_2 _ _))
 rw[CJ];refine Ja (Ja (ZE hTa ?_))
 show wpAny _ _ (Builtin.Frozenset.isAnySet (Value.ref b)) _ _ _
 refine ZE hTb ?_
 simp only[Bool.not_true,Bool.false_eq_true,JE];refine Ja (Jb (Ja ?_))
 unfold Builtin.Frozenset.newFrom Builtin.Frozenset.baseOf;refine Ja (Ja (EJ hTa sub_set_self (Jb ?_)))
 rw[Jc rfl];refine Ja (Ja (kq ?_))
 have hr:(s.heap.push (Qg (!zp w))).get? s.heap.objs.size=some (Qg (!zp w)):=Jp _ rfl
 have old:∀c o,s.heap.get? c=some o->(s.heap.push (Qg (!zp w))).get? c=some o:=fun c o e=>Ji _ e
 have hA1:SetK knd kf (s.heap.push (Qg (!zp w))) a ka:=hA.at (old a)
 have hB1:SetK knd kf (s.heap.push (Qg (!zp w))) b kb:=hB.at (old b)
 have lta:=hA.lt;have ltb:=hB.lt;have na':s.heap.objs.size≠a:=(Jm lta).symm
 have nb':s.heap.objs.size≠b:=(Jm ltb).symm
 refine Ja (Jb (Ja (JL ?_)))
 unfold Builtin.Frozenset.updateFrom;have hTb1:Shared.TypeIs {s with heap:=s.heap.push (Qg (!zp w))} (.ref b) "set":=hB1.type (s:={s with heap:=s.heap.push (Qg (!zp w))}) (h:=s.heap)
 refine Ja (ZE hTb1 ?_)
 rw[Jc rfl];refine Ja (Ja (Jb (Jb ?_)))
 unfold Builtin.Frozenset.merge;obtain⟨ob,eb,epb,tb,b1,b2,b3,b4,_⟩:=id hB1;refine Ja (wpAny_setEpoch_of (s:={s with heap:=s.heap.push (Qg (!zp w))}) b1 b3 b4 ?_)
 refine fY (s:={s with heap:=s.heap.push (Qg (!zp w))}) nb' (rS hr) hB1 lb fun h1 sb1 hR1 _=>Jb ?_
 have hA2:SetK knd kf h1 a ka:=hA1.at fun o1 e1=>by rw[sb1.2 a na'.symm];exact e1
 have hTa2:Shared.TypeIs {s with heap:=h1} (.ref a) "set":=hA2.type (s:={s with heap:=h1}) (h:=s.heap)
 refine Ja (Jb (Ja (JL ?_)))
 unfold Builtin.Frozenset.symmetricDifferenceUpdate;have hne:((Value.ref a:Value)==Value.ref s.heap.objs.size)=false:=by
  rw[ED];intro e;cases e;exact na' rfl
 rw[hne];simp only[Bool.false_eq_true,JE];refine Ja (Fg hTa2 ?_)
 have hnd:((Value.type "set":Value)==Value.type "dict")=false:=by decide
 rw[hnd];simp only[Bool.false_eq_true,JE];refine Ja (ZE hTa2 ?_)
 rw[Jc rfl];refine Ja (Jb (Ja (Jb ?_)))
 obtain⟨oa,ea,epa,ta,a1,a2,a3,a4,a5,a6,a7,a8⟩:=id hA2;refine Ja (wpAny_setEpoch_of (s:={s with heap:=h1}) a1 a3 a4 ?_)
 refine JL (Ja (nu (s:={s with heap:=h1}) a1 a2 a3 a4 a5 a6 a8 hR1 fun arr h2 hp sb2 hR2=>?_))
 have asz:arr.size=ka.length:=by rw[<- Jq,hp.length_eq,Jq,<- a7.length_eq,Je,Jq]
 have ho2:h2.get? a=some oa:=by rw[sb2.2 a na'.symm];exact a1
 have e4:scanBound=4096:=rfl
 have hmm:(arr.toList.map fun e=>kf e.2).Perm ka:=(hp.map fun e=>kf e.2).trans a7
 refine Ja (ug (s:={s with heap:=h2}) hkf (toString "frozenset."++toString "__xor__") na'.symm a3 a4 arr (a6.perm hp) (hmm.nodup_iff.mpr na) (by lia) ho2 hR2 nb fun h3 ks sb3 hR3 nd3 len3 mem3=>Jb (Jb (Jb ⟨_,rfl,(fun e=>nomatch e),?_⟩)))
 refine h h3 ks (fun c o e=>?_) hR3 nd3 (by lia) fun k=>?_
 ·have nc:c≠s.heap.objs.size:=Jm (Jh e)
  rw[sb3.2 c nc,sb2.2 c nc,sb1.2 c nc];exact old c o e
 ·rw[mem3,hmm.mem_iff]
  exact not_congr ⟨Iff.symm,Iff.symm⟩
end
end S0
namespace L3
open PySem PySem.Spec PyProof.Rows L2 S0
section
variable{prog:Program}{w:World}{A:Around}{E:Gb}{s:Shared}
theorem pU{a:Addr}{ks:List Int}{Q:Gb}(hh:A.handled=none)(hS:SetK (PySem.intKind prog w) numOf s.heap a ks)(h64:ks.length<64)
  (h:∀(h':Heap) (tk:Nat) (d:Drawn) (l:Addr) (its:List Value) (n:Nat) (ns:List Int),s.heap.objs.size<=l->(∀b o,s.heap.get? b=some o->h'.get? b=some o)->h'.get? l=some (seqObj "list" its.toArray n)->
   IntsAre its ns->ns.Perm ks->ns.Pairwise (· <= ·)->Q (.ref l) {s with heap:=h',toks:=tk,drawn:=d}):
  wpAny (model prog w) A (call (.builtin "sorted") [.ref a]) Q E s:=by
 obtain⟨o,es,ep,t,ho,hex,hd,hf,hb,hel,hpm,htw⟩:=hS;refine Calls.call_function_entry kind_sorted plain_sorted entry_sorted (args_sorted1 _) ?_
 unfold Builtin.«sorted»
 refine Ja (m:=checkCount "sorted" 1 1 _) (Jb ?_)
 refine Ja (iS hh ho hex hd hf hb htw fun vs h' tk d hk hz hp=>?_)
 have hI:IntsAre vs (vs.map numOf):=by
  refine intsAre_map vs fun v hv=>?_
  obtain⟨e,he,rfl⟩:=JB.mp (hp.mem_iff.mp hv)
  obtain⟨⟨k,h1,_⟩,_⟩:=hel e he;obtain⟨tt,h2⟩:=Value.isInt_shape h1
  exact⟨k,tt,h2⟩
 have hvk:(vs.map numOf).Perm ks:=by
  refine(hp.map numOf).trans ?_
  rw[EB];exact hpm
 have hvl:vs.length<=sizeLine:=by
  rw[hp.length_eq,Je,Jq];exact fits_of_scanBound hb
 have hl64:vs.length<64:=by
  have:=hvk.length_eq
  rw[Je]at this;omega
 refine Ja (wpAny_newList ?_ hvl)
 have hoL:(h'.push (seqObj "list" vs.toArray 0)).get? h'.objs.size=some (seqObj "list" vs.toArray 0):=Jp _ rfl
 show wpAny _ _ _ _ _ {s with heap:=h'.push (seqObj "list" vs.toArray 0),toks:=tk,drawn:=d}
 refine Ja (JL (JS slot_list_sort ⟨_,hoL,rfl⟩ entry_list_sort (list_sort_tree hoL hI hl64 fun out ns d1 d2 d3=>⟨_,rfl,?_⟩) (args_list_sort _)))
 obtain⟨n',hn'⟩:∃n',(sortedHeap (h'.push (seqObj "list" vs.toArray 0)) h'.objs.size vs out).get? h'.objs.size=some (seqObj "list" out n'):=sortedHeap_at hoL
 refine Jb ⟨_,rfl,h _ tk d h'.objs.size out.toList n' ns hz (fun b o e=>?_) (by rw[hn']) d1 (d2.trans hvk) d3⟩
 have e':=hk b o e;have hb':b<h'.objs.size:=Jh e'
 rw[sortedHeap_old (Jm hb') (by rw[JV];exact Ex hb')]
 exact Ji _ e'
end
section
variable{X:Cx}
theorem jo(hc:X.calm=true):qY X (.builtin "sorted") (fun xs H Q=>∃(p:Addr) (ks:List Int),xs=[.ref p]/\H p=some (ay X.prog X.w p ks)/\ks.length<64/\
  ∀l (ms:List Int),H l=none->ms.Perm ks->ms.Pairwise (· <= ·)->Q (.ref l) (Gh H l (.lst (ms.map V.int)))):=by
 intro tx s σ H xs us Q I r h;obtain⟨p,ks,rfl,hp,h64,q⟩:=h;obtain⟨u,rfl,ru⟩:=zL r;cases ru;obtain⟨hS,_⟩:=I.hok p _ hp;have hkl:=SetK.len hS;refine pU (I.ok.hd hc) hS h64 fun h' tk d l its n ns hl hk hL b1 b2 b3=>?_
 refine⟨.ref l,_,(I.laid (a:=l) (o:= .lst (ns.map V.int)) (t':=tk) hk hl ?_).drw d,rfl,q l ns (I.hok.fresh hl) b2 b3⟩
 refine⟨?_,its,n,cS b1,hL⟩
 rw[Je,b2.length_eq];exact fits_of_scanBound hkl
def Dv(X:Cx):R2:=fun x y H Q=>∃(a b:Addr) (ka kb:List Str),x= .ref a/\y= .ref b/\a≠b/\H a=some (ai X.prog X.w a ka)/\H b=some (ai X.prog X.w b kb)/\ka.Nodup/\kb.Nodup/\ka.length+kb.length<=100/\
 ∀l ks,H l=none->ks.Nodup->(∀k,k∈ks↔k∈ka\/k∈kb)->Q (.ref l) (Gh H l (ai X.prog X.w l ks))
theorem Ck:zw X (binaryOp .BitOr) (Dv X):=by
 intro tx s σ H x y v u Q I rx ry h;obtain⟨a,b,ka,kb,rfl,rfl,nab,ha,hb,na,nb,la,q⟩:=h;cases rx;cases ry;obtain⟨hA,_⟩:=I.hok a _ ha;obtain⟨hB,_⟩:=I.hok b _ hb;refine DJ (uK _ _) nab hA hB na nb la fun h' ks kp hS nd mem=>?_
 refine⟨.ref s.heap.objs.size,_,I.laid (t':=s.toks) (o:=ai X.prog X.w s.heap.objs.size ks) kp (Jf _) ⟨hS,?_,fun h1 h2 z1 z2=>z1.at z2⟩,rfl,q _ _ (I.hok.fresh (Jf _)) nd mem⟩
 obtain⟨o,_,_,_,e,_⟩:=hS
 exact⟨o,e⟩
def Dh(X:Cx):R2:=fun x y H Q=>∃(a b:Addr) (ka kb:List Int),x= .ref a/\y= .ref b/\a≠b/\H a=some (ay X.prog X.w a ka)/\H b=some (ay X.prog X.w b kb)/\ka.Nodup/\kb.Nodup/\ka.length+kb.length<=1000/\kb.length<=100/\
 ∀l ks,H l=none->ks.Nodup->ks.length<=ka.length+kb.length->(∀k,k∈ks↔¬(k∈ka↔k∈kb))->Q (.ref l) (Gh H l (ay X.prog X.w l ks))
theorem yx:zw X (binaryOp .BitXor) (Dh X):=by
 intro tx s σ H x y v u Q I rx ry h;obtain⟨a,b,ka,kb,rfl,rfl,nab,ha,hb,na,nb,la,lb,q⟩:=h;cases rx;cases ry;obtain⟨hA,_⟩:=I.hok a _ ha;obtain⟨hB,_⟩:=I.hok b _ hb;refine C5 (tT _ _) nab hA hB na nb la lb fun h' ks kp hS nd len mem=>?_
 refine⟨.ref s.heap.objs.size,_,I.laid (t':=s.toks) (o:=ay X.prog X.w s.heap.objs.size ks) kp (Jf _) ⟨hS,?_,fun h1 h2 z1 z2=>z1.at z2⟩,rfl,q _ _ (I.hok.fresh (Jf _)) nd len mem⟩
 obtain⟨o,_,_,_,e,_⟩:=hS
 exact⟨o,e⟩
end
end L3
namespace L3
open PySem PySem.Spec PyProof.Rows L2 SeqAt
def p7(t:Str):Value->Bool
 | .str x _=>x==t
 |_=>false
theorem fy(t:Str):∀{its:List Value} {ss:List Str},StrsAre its ss->its.countP (p7 t)=ss.count t
 |_,_,.nil=>rfl
 |_,_,.cons x tk r=>by
  rw[List.countP_cons,List.count_cons,fy t r];rfl
theorem uJ{X:Cx}:gx X "list.count" (fun x vs H Q=>∃(l:Addr) (ss:List Str) (t:Str),x= .ref l/\vs=[.str t]/\H l=some (.lst (ss.map V.str))/\Q (.int (ss.count t:Nat)) H):=by
 intro tx s σ H x xs v us Q I rx rv h;obtain⟨l,ss,t,rfl,rfl,hl,q⟩:=h;cases rx;obtain⟨u,rfl,ru⟩:=rv.one;obtain⟨tk,rfl⟩:=ru;obtain⟨z,its,n,ri,ho⟩:=I.hok l _ hl;have e:=gI ri;refine E4 F.slot_list_count ⟨_,ho,rfl⟩ F.entry_list_count (F.args_list_count_2 _ _) (list_countAt l _ n none _ (.str t tk) (p7 t)) ⟨ho,fun y hy=>?_,?_⟩
 ·obtain⟨j,hj,rfl⟩:=List.mem_iff_getElem.mp (show y∈its by simpa using hy)
  obtain⟨tt,e1⟩:=fZ e j _ (Jj hj)
  rw[e1];exact EqAt.str_str (A:=X.A.in1) (s:=s) _ tt t tk
 ·refine⟨.int _,H,I.tok _,⟨_,rfl⟩,?_⟩
  show Q (.int ((its.toArray.toList.countP (p7 t):Nat):Int)) H
  rw[List.toList_toArray,fy t e];exact q
section
variable{X:Cx}
theorem yr{tx:Gd}{σ:L2.St}{H:Hp}{s:Shared}{A:Around}(I:L2.Gi X tx σ H s){a b:Addr}{z z':Int×Int}(h1:H a=some (.tup [.int z.1,.int z.2]))(h2:H b=some (.tup [.int z'.1,.int z'.2]))(hu:A.units<cLine):EqAt A s (.ref a) (.ref b) (decide (z=z')):=by
 by_cases hab:a=b
 ·subst hab
  rw[h1]at h2;injection h2 with h2
  injection h2 with h2
  have e:z=z':=by
   simp only[List.cons.injEq,V.int.injEq,and_true]at h2;exact Prod.ext h2.1 h2.2
  rw[Jg e];exact EqAt.same _
 ·obtain⟨its,q1,p1,_⟩:=I.tuple (Gu.of (K:=X.K) h1)
  obtain⟨its2,q2,p2,_⟩:=I.tuple (Gu.of (K:=X.K) h2)
  have l1:=q1.length;have l2:=q2.length;have e:=RcAt.tuples (A:=A) (e:=fun j=>[z.1,z.2].getD j 0==[z'.1,z'.2].getD j 0) (show s.heap.IsTuple a its.toArray from p1) (show s.heap.IsTuple b its2.toArray from p2) hu (fun j h1 h2=>by
   have h1':j<its.length:=by simpa using h1
   have h2':j<its2.length:=by simpa using h2
   obtain⟨t,e⟩:=eU (ns:=[z.1,z.2]) q1 j h1' (by rw[<- l1]at h1';exact h1')
   obtain⟨t',e'⟩:=eU (ns:=[z'.1,z'.2]) q2 j h2' (by rw[<- l2]at h2';exact h2')
   simp only[List.getElem_toArray,e,e',JF,Jj (show j<[z.1,z.2].length by rw[<- l1]at h1';exact h1'),Jj (show j<[z'.1,z'.2].length by rw[<- l2]at h2';exact h2'),EH]
   exact EqAt.int_int _ _ _ _)
  have es:its.toArray.size=2:=by rw[Jr];exact l1.symm
  have es2:its2.toArray.size=2:=by rw[Jr];exact l2.symm
  rw[es,es2]at e;have e:RcAt A s (.ref a) (.ref b) ((z.1==z'.1&&(z.2==z'.2&&true))&&true):=e
  have ed:((z.1==z'.1&&(z.2==z'.2&&true))&&true)=decide (z=z'):=by
   rw[Ej];simp [Prod.ext_iff]
  rw[ed]at e;exact EqAt.of_refs hab e
def DK:R2:=fun x y H Q=>∃(a b:Addr) (zs ws:List (Int×Int)),x= .ref a/\y= .ref b/\Iy H a zs/\Iy H b ws/\Q (.bl (decide (zs≠ws))) H
theorem B0{k:Nat}(hr:GA k X.A):zw X (compareOp .NotEq) DK:=by
 intro tx s σ H x y v u Q I rx ry h;obtain⟨a,b,zs,ws,rfl,rfl,⟨as,e1,l1,r1⟩,⟨bs,e2,l2,r2⟩,q⟩:=h;cases rx;cases ry;obtain⟨its,q1,p1,_⟩:=I.tuple (Gu.of (K:=X.K) e1)
 obtain⟨its2,q2,p2,_⟩:=I.tuple (Gu.of (K:=X.K) e2)
 have k1:=q1.length;have k2:=q2.length;rw[Je]at k1 k2;have hu:X.A.units+2<cLine:=by have:=hr.un;lia
 have e:=RcNeAt.tuples (A:=X.A) (e:=fun j=>decide (zs.getD j (0,0)=ws.getD j (0,0))) (show s.heap.IsTuple a its.toArray from p1) (show s.heap.IsTuple b its2.toArray from p2) (by lia) (fun j h1 h2=>by
  have h1':j<its.length:=by simpa using h1
  have h2':j<its2.length:=by simpa using h2
  obtain⟨x,ex,rx⟩:=zI q1 h1';obtain⟨y,ey,ry⟩:=zI q2 h2';rw[Jo]at ex ey;obtain⟨x',hx',rfl⟩:=DZ.mp ex;obtain⟨y',hy',rfl⟩:=DZ.mp ey;have hz:j<zs.length:=by lia
  have hw:j<ws.length:=by lia
  simp only[List.getElem_toArray];rw[show its[j]=Value.ref x' from rx,show its2[j]=Value.ref y' from ry,JF,JF,Jj hz,Jj hw,EH,EH]
  exact yr I (r1 j x' _ hx' (Jj hz)) (r2 j y' _ hy' (Jj hw)) (by rw[E8];lia))
 have ed:(!((List.range (min its.toArray.size its2.toArray.size)).all (fun j=>decide (zs.getD j (0,0)=ws.getD j (0,0)))&&its.toArray.size==its2.toArray.size))=decide (zs≠ws):=by
  rw[Jr,Jr,<- k1,<- k2,l1,l2];rw[Ej,Bool.not_eq_true',decide_eq_true_eq,<- Bool.not_eq_true,Jz,E5,JZ];refine not_congr ⟨fun⟨h1,h2⟩=>?_,fun h=>?_⟩
  ·refine List.ext_getElem h2 fun j j1 j2=>?_
   have:=Jx (h1 j (J5.mpr (by lia)))
   rw[JF,JF,Jj j1,Jj j2]at this;exact this
  ·subst h
   exact⟨fun j _=>Jg rfl,rfl⟩
 rw[ed]at e;exact e _ _ _ _ ⟨.bl _,H,I,rfl,q⟩
end
end L3
namespace Lw
open PySem L2 L3
theorem F3:0<=sizeLine:=by decide
theorem F4:1<=sizeLine:=by decide
theorem F5:2<=sizeLine:=by decide
theorem F6:3<=sizeLine:=by decide
theorem F7:4<=sizeLine:=by decide
theorem F8:5<=sizeLine:=by decide
theorem F9:9<=sizeLine:=by decide
theorem Ga:16<=sizeLine:=by decide
def qU(i:Nat):Stmt:=PySem.Challenge.pw_rollcode_k32_told_apart_by_one.main.body.getD i (.Pass ⟨0,0,0,0⟩)
abbrev bj:Stmt:=qU 3
abbrev bO:Stmt:=qU 4
abbrev au:Stmt:=qU 5
abbrev aD:Stmt:=qU 6
abbrev gV:Stmt:=qU 7
abbrev cM:Stmt:=qU 8
abbrev cQ:Stmt:=qU 14
abbrev cT:Stmt:=qU 15
abbrev bK:Stmt:=qU 16
abbrev Zp:Stmt:=qU 17
abbrev f6:Stmt:=qU 18
abbrev Zx:Stmt:=qU 19
abbrev bZ:Stmt:=qU 20
abbrev aG:Stmt:=qU 21
abbrev dc:Stmt:=qU 38
abbrev c6:Stmt:=qU 39
abbrev Q0:Stmt:=zy (qU 41) 0
abbrev ZA:Stmt:=zy (qU 41) 2
abbrev Q6:Stmt:=zy (qU 41) 8
abbrev Q5:Stmt:=zy (qU 41) 11
abbrev QR:Stmt:=zy (qU 41) 10
abbrev Qk:Stmt:=zy (qU 41) 9
abbrev Q7:Stmt:=zy (qU 41) 7
abbrev bv:Stmt:=zy (qU 41) 6
abbrev QU:Stmt:=zy (qU 41) 12
abbrev aq:Stmt:=zy (qU 41) 1
abbrev QH:Stmt:=zy (qU 41) 5
abbrev Q4:Stmt:=zy (qU 41) 13
abbrev Zm:Stmt:=zy (qU 41) 14
abbrev QQ:Stmt:=zy (qU 41) 15
abbrev QD:Stmt:=zy (qU 41) 16
abbrev Zy:Stmt:=zy (qU 41) 18
abbrev Za:Stmt:=zy (qU 41) 19
abbrev Zw:Stmt:=qU 23
abbrev ZU:Stmt:=qU 25
abbrev aF:Stmt:=qU 30
abbrev bi:Stmt:=qU 28
abbrev ZY:Stmt:=qU 27
abbrev ZT:Stmt:=qU 26
abbrev aN:Stmt:=qU 29
abbrev db:Stmt:=qU 24
abbrev gN:Stmt:=qU 31
abbrev dv:Stmt:=qU 43
abbrev cg:Stmt:=qU 44
abbrev bt:Stmt:=qU 45
abbrev cN:Stmt:=qU 46
abbrev bw:Stmt:=qU 47
abbrev b9:Stmt:=qU 49
abbrev cv:Stmt:=qU 50
abbrev bp:Stmt:=qU 51
abbrev aH:Stmt:=qU 52
abbrev bg:Stmt:=qU 53
abbrev aK:Stmt:=qU 54
abbrev bT:Stmt:=qU 55
abbrev bf:Stmt:=qU 56
abbrev ar:Stmt:=qU 57
abbrev bz:Stmt:=qU 59
abbrev eu:Stmt:=qU 58
abbrev Z3:Stmt:=qU 60
theorem qV{N P:List Str}{c:Scope}(h1:c.kind= .function:=by rfl)(h2:c.isCoroutine=false:=by rfl)(h3:c.isGenerator=false:=by rfl)(h4:N.Nodup:=by decide +kernel)(h5:N.take P.length=P:=by rfl)(h6:∀x∈P,c.names.lookup x=some .local\/c.names.lookup x=some .cell:=by decide +kernel)(h7:∀y∈c.names,y.2≠ .free:=by decide +kernel):Gf N P c:=⟨h1,h2,h3,h4,h5,h6,h7⟩
theorem k6:Gf (["thing"]:List Str) (["thing"]:List Str) (ql bj):=qV
theorem mB:Gf (["thing"]:List Str) (["thing"]:List Str) (ql bO):=qV
theorem jx:Gf (["things"]:List Str) (["things"]:List Str) (ql au):=qV
theorem GW:Gf (["table","back","place","digit"]:List Str) (["table"]:List Str) (ql aD):=qV
theorem HM:Gf (["table","key","digits","row","shift","place","ahead"]:List Str) (["table","key","digits"]:List Str) (ql gV):=qV
theorem GP:Gf (["table","key","digits","back","row","shift","place","ahead"]:List Str) (["table","key","digits"]:List Str) (ql cM):=qV
theorem pq:Gf (["thing"]:List Str) (["thing"]:List Str) (ql cQ):=qV
theorem pW:Gf (["thing"]:List Str) (["thing"]:List Str) (ql cT):=qV
theorem HB:Gf (["thing","name","age","code"]:List Str) (["thing"]:List Str) (ql bK):=qV
theorem GF:Gf (["name","digits","letter","place"]:List Str) (["name"]:List Str) (ql Zp):=qV
theorem HP:Gf (["table","key","name","sums","place","digit"]:List Str) (["table","key","name"]:List Str) (ql f6):=qV
theorem gd:Gf (["count"]:List Str) (["count"]:List Str) (ql Zx):=qV
theorem HN:Gf (["table","key","name","age","count","deed","four","five"]:List Str) (["table","key","name","age","count","deed"]:List Str) (ql bZ):=qV
theorem Gw:Gf (["table","key","press","name","age","code","low","middle","high","deed","check"]:List Str) (["table","key","press"]:List Str) (ql aG):=qV
theorem oV:Gf (["count","last","near","far"]:List Str) (["count","last","near","far"]:List Str) (ql dc):=qV
theorem GQ:Gf (["button","age","count","near","far","own_age","last","waiting","word"]:List Str) (["button","age","count","near","far"]:List Str) (ql c6):=qV
theorem bC:Gf (["self","table","keys","near","far","most"]:List Str) (["self","table","keys","near","far","most"]:List Str) (ql Q0):=qV
theorem gn:Gf (["self"]:List Str) (["self"]:List Str) (ql ZA):=qV
theorem ft:Gf (["self","name"]:List Str) (["self","name"]:List Str) (ql Q6):=qV
theorem fh:Gf (["self","age"]:List Str) (["self","age"]:List Str) (ql Q5):=qV
theorem cL:Gf (["self","button","age"]:List Str) (["self","button","age"]:List Str) (ql QR):=qV
theorem ZN:Gf (["self","button","age","count"]:List Str) (["self","button","age","count"]:List Str) (ql Qk):=qV
theorem Gm:Gf (["self","press","name","age","code","button","pair","count","deed","word","behind"]:List Str) (["self","press"]:List Str) (ql Q7):=qV
theorem HY:Gf (["self","thing","answer"]:List Str) (["self","thing"]:List Str) (ql bv):=qV
theorem c8:Gf (["self","thing"]:List Str) (["self","thing"]:List Str) (ql QU):=qV
theorem GB:Gf (["self","one","other","first","second","name","age","code"]:List Str) (["self","one","other"]:List Str) (ql aq):=qV
theorem cB:Gf (["self","age"]:List Str) (["self","age"]:List Str) (ql QH):=qV
theorem fk:Gf (["self"]:List Str) (["self"]:List Str) (ql Q4):=qV
theorem fV:Gf (["self"]:List Str) (["self"]:List Str) (ql Zm):=qV
theorem cJ:Gf (["self"]:List Str) (["self"]:List Str) (ql QQ):=qV
theorem cG:Gf (["self"]:List Str) (["self"]:List Str) (ql QD):=qV
theorem gc:Gf (["self"]:List Str) (["self"]:List Str) (ql Zy):=qV
theorem HF:Gf (["self","twin"]:List Str) (["self"]:List Str) (ql Za):=qV
theorem Gv:Gf (["door","button","age","near","far","most","own_age","last","waiting","stretches","after"]:List Str) (["door","button","age"]:List Str) (ql Zw):=qV
theorem gM:Gf (["door"]:List Str) (["door"]:List Str) (ql ZU):=qV
theorem jw:Gf (["one","first","other","second"]:List Str) (["one","first","other","second"]:List Str) (ql aF):=qV
theorem ky:Gf (["stretches"]:List Str) (["stretches"]:List Str) (ql bi):=qV
theorem gU:Gf (["these","those"]:List Str) (["these","those"]:List Str) (ql ZY):=qV
theorem GL:Gf (["one","first","other","second","age","these","those"]:List Str) (["one","first","other","second"]:List Str) (ql ZT):=qV
theorem Gx:Gf (["one","first","other","second","age","end","count","word","here","there","press"]:List Str) (["one","first","other","second"]:List Str) (ql aN):=qV
theorem GR:Gf (["one","other","names","name","press","pair"]:List Str) (["one","other"]:List Str) (ql db):=qV
theorem wG:Gf (["one","other"]:List Str) (["one","other"]:List Str) (ql gN):=qV
theorem GS:Gf (["_law_script","_law_k","_law_cell","_law_fold","_law_one_here"]:List Str) (["_law_script","_law_k"]:List Str) (ql dv):=qV
theorem GZ:Gf (["_law_box_here","_law_many","_law_digit","_law_m","_law_turn"]:List Str) (["_law_box_here","_law_many"]:List Str) (ql cg):=qV
theorem HZ:Gf (["_law_box_here","_law_rest"]:List Str) (["_law_box_here"]:List Str) (ql bt):=qV
theorem oO:Gf (["_law_box_here"]:List Str) (["_law_box_here"]:List Str) (ql cN):=qV
theorem lu:Gf (["_law_near","_law_far","_law_keys"]:List Str) (["_law_near","_law_far","_law_keys"]:List Str) (ql bw):=qV
theorem GI:Gf (["_law_own","_law_plain","_law_name","_law_age","_law_count","_law_row","_law_gone"]:List Str) (["_law_own","_law_plain"]:List Str) (ql b9):=qV
theorem G0:Gf (["_law_own","_law_plain","_law_word_here","_law_name","_law_age","_law_count"]:List Str) (["_law_own","_law_plain"]:List Str) (ql cv):=qV
theorem G9:Gf (["_law_code","_law_plain","_law_deed","_law_name","_law_age","_law_count"]:List Str) (["_law_code","_law_plain","_law_deed"]:List Str) (ql bp):=qV
theorem GH:Gf (["_law_code","_law_pair_here","_law_name","_law_told","_law_place","_law_age","_law_last","_law_presses"]:List Str) (["_law_code","_law_pair_here","_law_name","_law_told"]:List Str) (ql aH):=qV
theorem Ia:Gf (["_law_code","_law_pair_here","_law_plain","_law_places","_law_place"]:List Str) (["_law_code","_law_pair_here","_law_plain","_law_places"]:List Str) (ql bg):=qV
theorem GX:Gf (["_law_box_here","_law_near","_law_far","_law_other"]:List Str) (["_law_box_here"]:List Str) (ql aK):=qV
theorem Gj:Gf (["_law_box_here","_law_drawn_here","_law_names","_law_many","_law_base","_law_code","_law_pair_here","_law_near","_law_far","_law_name","_law_age","_law_last","_law_other","_law_way","_law_some","_law_told","_law_turn","_law_plain","_law_door","_law_own"]:List Str) (["_law_box_here","_law_drawn_here"]:List Str) (ql bT):=qV
theorem Ho:Gf (["_law_box_here","_law_some","_law_many","_law_names"]:List Str) (["_law_box_here"]:List Str) (ql bf):=qV
theorem jq:Gf (["_law_base"]:List Str) (["_law_base"]:List Str) (ql ar):=qV
theorem cW:Gf (["_law_found","_law_due"]:List Str) (["_law_found","_law_due"]:List Str) (ql bz):=qV
theorem GU:Gf (["_law_owns","_law_drawn_here","_law_name","_law_age","_law_count","_law_plain","_law_words"]:List Str) (["_law_owns","_law_drawn_here"]:List Str) (ql eu):=qV
theorem GV:Gf (["_law_script","_law_k","_law_box_here","_law_drawn_here","_law_code","_law_pair_here","_law_one_here","_law_here","_law_other","_law_there","_law_held","_law_due","_law_told"]:List Str) (["_law_script"]:List Str) (ql Z3):=qV
structure GJ(K:Frag)(mg:Gc)(tk:Nat->Tok):Prop where
 g_DIGITS:mg "DIGITS"=some (.int 16 (tk 0))
 g_KEY_PLACES:mg "KEY_PLACES"=some (.int 4 (tk 1))
 g_LONGEST_NAME:mg "LONGEST_NAME"=some (.int 8 (tk 2))
 g_CODE_DIGITS:mg "CODE_DIGITS"=some (.int 5 (tk 3))
 g_COUNTS:mg "COUNTS"=some (.int 4096 (tk 4))
 b_isinstance:mg "isinstance"=none
 b_bool:mg "bool"=none
 b_int:mg "int"=none
 b_tuple:mg "tuple"=none
 b_all:mg "all"=none
 b_any:mg "any"=none
 b_len:mg "len"=none
 b_abs:mg "abs"=none
 b_list:mg "list"=none
 b_enumerate:mg "enumerate"=none
 b_range:mg "range"=none
 b_max:mg "max"=none
 b_min:mg "min"=none
 b_str:mg "str"=none
 b_zip:mg "zip"=none
 b_ord:mg "ord"=none
 b_sum:mg "sum"=none
 b_reversed:mg "reversed"=none
 b_sorted:mg "sorted"=none
 b_dict:mg "dict"=none
 b_set:mg "set"=none
section
variable{P:Program}{w:World}{K:Frag}{mg:Gc}{base:Heap}{tk:Nat->Tok}
theorem lw(a:At K mg "is_number" bj ["thing"])(T:GJ K mg tk):Df P w K mg base "is_number" ["thing"] 1 fT:=by
 refine a.dq k6 fun f _ A _ s H vs Q E hr h=>?_
 ·obtain⟨x,t,rfl,hk,q⟩:=h
  obtain⟨ty,ht⟩:=C8 (K:=K) hk
  refine⟨_,(qf (qp (zG (qm lX T.b_isinstance Ju (qd (qv 0) (qd (qF (v:= .ty "int") rfl T.b_int ER rfl) qb))) (QB (av (qm lX T.b_isinstance Ju (qd (qv 0) (qd (qF (v:= .ty "bool") rfl T.b_bool Fc rfl) qb)))))))),?_⟩
  rw[yV hk]at q;refine⟨_,rfl,x,"int",t,rfl,ty,ht,by simp,_,rfl,?_⟩
  cases hi:zk t "int" with
  |false=>
   refine qW ?_
   rw[hi,Eb]at q;exact q
  |true=>
   refine zf ?_
   rw[hi,ES]at q
   exact⟨_,rfl,x,"bool",t,rfl,ty,ht,by simp,_,rfl,q⟩
theorem mF(a:At K mg "is_digit" bO ["thing"])(T:GJ K mg tk)(dR:Df P w K mg base "is_number" ["thing"] 1 fT):Df P w K mg base "is_digit" ["thing"] 2 nG:=by
 refine a.dq mB fun f _ A _ s H vs Q E hr h=>?_
 ·obtain⟨x,t,rfl,hk,q⟩:=h
  refine⟨_,(qf (qp (zG (qr dR hr.mo (qd (qv 0) qb)) (QB (fN ZI eZ qg (qv 0) (zd (v:= .int 16) rfl T.g_DIGITS ⟨_,rfl⟩)))))),?_⟩
  refine⟨_,rfl,x,t,rfl,hk,_,rfl,?_⟩
  cases hn:fP x with
  |false=>
   refine qW ?_
   rw[uG hn]at q;exact q
  |true=>
   refine zf ?_
   obtain⟨i,rfl⟩:=v9 hn;refine⟨_,rfl,_,_,rfl,rfl,_,rfl,?_⟩
   have q':Q (.bl (decide (0<=i)&&decide (i<16))) H:=q
   refine q9 (fun h0=>?_) (fun h0=>?_)
   ·refine⟨_,_,rfl,rfl,?_⟩
    rw[h0,ES]at q';exact q'
   ·rw[FR.mpr h0,Eb]at q'
    exact q'
theorem jB(a:At K mg "are_digits" au ["things"])(T:GJ K mg tk)(xZ:Df P w K mg base "is_digit" ["thing"] 2 nG):Df P w K mg base "are_digits" ["things"] 3 lP:=by
 refine a.dq jx fun f _ A _ s H vs Q E hr h=>?_
 ·obtain⟨p,xs,rfl,hp,hz,hk,q⟩:=h
  refine⟨_,(qf (qp (qm (aY rfl) T.b_all FS (qd (zT (own:=["thing"]) (fr:=[]) (js:=[]) rfl (ax (qv 0)) rfl (fun _ _ h=>nomatch h) rfl (cq rfl (by decide +kernel) (by decide +kernel) (by decide +kernel)) (fun _ _ _ _=>qh (i:=0) (show List.Nodup (["thing"]:List Str)from by decide +kernel) rfl (Or.inl rfl) (.inr rfl)) (fun _ _ _ _=>(qr xZ hr.mo (qd (qv 0) qb)))) qb)))),?_⟩
  refine⟨_,rfl,p,rfl,⟨xs,Gu.of hp⟩,aM (xs:=xs) hz (fun i ys H2=>ys=(xs.take i).map (fun x=>V.bl (cm x))/\Ge H H2) ⟨by simp,Ge.refl H⟩ (fun i ys H2 ⟨_,s2⟩=>Gu.of (s2 _ _ hp)) ?_ ?_⟩
  ·rintro i ys H2 x hx _ ⟨rfl,s2⟩
   obtain⟨t,ht⟩:=hk x (DV hx)
   refine⟨_,rfl,x,t,rfl,eY s2 ht,?_,s2⟩
   rw[Eh,hx];simp
  ·rintro ys H2 _ ⟨rfl,s2⟩ l hl
   rw[EA];refine⟨l,xs.map cm,rfl,Gq.of (by rw[EB];exact qc),?_⟩
   rw[List.all_map];exact q _ (s2.trans (Ge.upd hl))
theorem oJ(a:At K mg "is_name" cQ ["thing"])(T:GJ K mg tk):Df P w K mg base "is_name" ["thing"] 1 iw:=by
 refine a.dq pq fun f _ A _ s H vs Q E hr h=>?_
 ·obtain⟨x,b,rfl,hx,q⟩:=h
  refine⟨_,(qe (qG (QW.pt (zF (Qh (zc (qm qI T.b_isinstance Ju (qd (qv 0) (qd (qF (v:= .ty "str") rfl T.b_str Fd rfl) qb))))) (zA (Qh (lZ ZI ZI qg (qm ke T.b_len J1 (qd (qv 0) qb)) (zd (v:= .int 8) rfl T.g_LONGEST_NAME ⟨_,rfl⟩)))))) (qf (qp QM)) qy)
   (qf (qp (qm (aY rfl) T.b_all FS (qd (zT (own:=["letter"]) (fr:=[]) (js:=[]) rfl (uu (qv 0)) rfl (fun _ _ h=>nomatch h) rfl (cq rfl (by decide +kernel) (by decide +kernel) (by decide +kernel)) (fun _ _ _ _=>qh (i:=0) (show List.Nodup (["letter"]:List Str)from by decide +kernel) rfl (Or.inl rfl) (.inr rfl)) (fun _ _ _ _=>(fN iu iu qB (qv 0) qB))) qb))))),?_⟩
  rcases hx with⟨z,rfl,hz,hl,rfl⟩|⟨t,hk,hs,rfl⟩
  case inr=>
   refine⟨_,rfl,x,"str",t,rfl,li hk,by simp,_,rfl,?_⟩
   rw[hs];exact zf (q _ (Ge.refl _))
  have zl:z.length=z.cps.toList.length:=rfl
  refine⟨_,rfl,_,"str","str",rfl,.str z,by simp,_,rfl,?_⟩
  refine qW ?_
  refine⟨_,rfl,z,rfl,by rw[JA];lia,_,_,rfl,rfl,_,rfl,?_⟩
  unfold xi at q
  by_cases h1:1<=z.length
  case neg=>
   refine zW (Jn (by lia)) ⟨_,rfl,zf ?_⟩
   rw[Jn h1,Eb,Eb]at q;exact q _ (Ge.refl _)
  refine zR (Jg (by lia)) ?_
  refine⟨_,_,rfl,rfl,_,rfl,?_⟩
  rw[Jg h1,ES]at q
  by_cases h8:z.length<=8
  case neg=>
   refine zR (by rw[Jn (by lia:¬((z.length:Nat):Int)<=8)];rfl) ?_
   rw[Jn h8,Eb]at q;exact q _ (Ge.refl _)
  refine zW (by rw[Jg (by lia:((z.length:Nat):Int)<=8)];rfl) ?_
  rw[Jg h8,ES]at q;refine⟨_,rfl,z,rfl,hz,vf (by show z.cps.toList.length<=_;rw[JA];lia) (fun i ys H2=>H2=H/\ys=((z.cps.toList.take i).map ly).map V.bl) ⟨rfl,rfl⟩ ?_ ?_⟩
  ·rintro i ys H2 c hc _ ⟨rfl,rfl⟩
   have hc':=oH hc;obtain⟨l1,l2⟩:=p8 c;refine⟨_,rfl,_,_,rfl,rfl,_,rfl,?_⟩
   rw[Eh,hc',JN,JN]
   by_cases h97:97<=c
   ·refine zR (by rw[l1,Jg h97]) ⟨_,_,rfl,rfl,rfl,?_⟩
    rw[l2]
    show _=_++[V.bl (decide (97<=c)&&decide (c<=122))]
    rw[Jg h97,ES]
   ·refine zW (by rw[l1,Jn h97]) ⟨rfl,?_⟩
    show _=_++[V.bl (decide (97<=c)&&decide (c<=122))]
    rw[Jn h97,Eb]
  ·rintro ys H2 hl ⟨rfl,rfl⟩ l hl'
   refine⟨l,z.cps.toList.map ly,rfl,Gq.of (by rw[show z.cps.size=z.cps.toList.length from rfl,EA];exact qc),?_⟩
   rw[List.all_map];exact q _ (Ge.upd hl')
theorem pD(a:At K mg "is_code" cT ["thing"])(T:GJ K mg tk)(xQ:Df P w K mg base "are_digits" ["things"] 3 lP):Df P w K mg base "is_code" ["thing"] 4 ja:=by
 refine a.dq pW fun f _ A _ s H vs Q E hr h=>?_
 ·obtain⟨x,b,rfl,hx,q⟩:=h
  refine⟨_,(qe (qG (Qh (zc (qm qI T.b_isinstance Ju (qd (qv 0) (qd (qF (v:= .ty "tuple") rfl T.b_tuple JG rfl) qb))))) (qf (qp QM)) qy)
   (qf (qp (zG (zj zt (qm qR T.b_len J1 (qd (qv 0) qb)) (zd (v:= .int 5) rfl T.g_CODE_DIGITS ⟨_,rfl⟩) (qu _)) (QB (qr xQ hr.mo (qd (qv 0) qb))))))),?_⟩
  rcases hx with⟨pc,ds,rfl,hp,hl,hk,rfl⟩|⟨t,hk,hs,rfl⟩
  case inr=>
   refine⟨_,rfl,x,"tuple",t,rfl,li hk,by simp,_,rfl,?_⟩
   rw[hs];exact zf (q _ (Ge.refl _))
  refine⟨_,rfl,_,"tuple","tuple",rfl,.tup (.inl hp),by simp,_,rfl,?_⟩
  refine qW ?_
  refine⟨_,rfl,pc,_,rfl,.inr (Gu.of hp),rfl,_,rfl,?_⟩
  by_cases h5:ds.length=5
  ·refine zR (Jg (by rw[h5];rfl)) ?_
   refine⟨_,rfl,pc,_,rfl,hp,by rw[JA];lia,hk,fun H' s'=>?_⟩
   rw[Jg h5,ES]at q;exact q _ s'
  ·rw[Jn h5,Eb]at q
   refine zW (Jn (by intro z;injection z with z;lia)) ?_
   exact q _ (Ge.refl _)
theorem mR(a:At K mg "is_press" bK ["thing"])(T:GJ K mg tk)(yD:Df P w K mg base "is_name" ["thing"] 1 iw)(dR:Df P w K mg base "is_number" ["thing"] 1 fT)(yE:Df P w K mg base "is_code" ["thing"] 4 ja):Df P w K mg base "is_press" ["thing"] 5 cj:=by
 refine a.dq HB fun f _ A _ s H vs Q E hr h=>?_
 ·obtain⟨x,b,rfl,hx,q⟩:=h
  refine⟨_,(qe (qG (QW.pt (zF (Qh (zc (qm qI T.b_isinstance Ju (qd (qv 0) (qd (qF (v:= .ty "tuple") rfl T.b_tuple JG rfl) qb))))) (zA (qx ZJ (qm qR T.b_len J1 (qd (qv 0) qb)) qg (qu _))))) (qf (qp QM)) qy)
   (qe (zb (qv 0) (zi rfl (qq (qh (i:=1) HB.nd rfl (Or.inl rfl)) (qq (qh (i:=2) HB.nd rfl (Or.inl rfl)) (qq (qh (i:=3) HB.nd rfl (Or.inl rfl)) qO)))))
   (qf (qp (zG (qr yD hr.mo (qd (qv 1) qb)) (zG (qr dR hr.mo (qd (qv 2) qb)) (QB (qr yE hr.mo (qd (qv 3) qb))))))))),?_⟩
  cases hx with
  | @kd t hk hs=>
   refine⟨_,rfl,x,"tuple",t,rfl,li hk,by simp,_,rfl,?_⟩
   rw[hs];exact zf (q _ (Ge.refl _))
  | @len a xs e h l n=>
   subst e;refine⟨_,rfl,_,"tuple","tuple",rfl,.tup (.inl h),by simp,_,rfl,?_⟩
   refine qW ?_
   refine⟨_,rfl,a,_,rfl,.inr (Gu.of h),rfl,_,rfl,?_⟩
   refine zR (by rw[Jn (by intro z;injection z with z;lia)];rfl) ?_
   exact q _ (Ge.refl _)
  | @tup a n y c bn bc ty e h hn hy hc=>
   subst e;refine⟨_,rfl,_,"tuple","tuple",rfl,.tup (.inl h),by simp,_,rfl,?_⟩
   refine qW ?_
   refine⟨_,rfl,a,_,rfl,.inr (Gu.of h),rfl,_,rfl,?_⟩
   refine Z6 rfl ?_
   refine⟨_,rfl,a,_,rfl,.tup h,rfl,_,_,rfl,_,_,rfl,_,_,rfl,rfl,?_⟩
   refine⟨_,rfl,n,bn,rfl,hn,fun H1 s1=>⟨_,rfl,?_⟩⟩
   cases bn with
   |false=>exact qW (q _ s1)
   |true=>
    refine zf ?_
    refine⟨_,rfl,y,ty,rfl,eY s1 hy,_,rfl,?_⟩
    cases hnum:fP y with
    |false=>
     rw[hnum]at q;exact qW (q _ s1)
    |true=>
     rw[hnum]at q;refine zf ?_
     exact⟨_,rfl,c,bc,rfl,hc.same s1,fun H2 s2=>q _ (s1.trans s2)⟩
theorem re(a:At K mg "word_of" dc ["count","last","near","far"])(T:GJ K mg tk):Df P w K mg base "word_of" ["count","last","near","far"] 1 nQ:=by
 refine a.dq oV fun f _ A _ s H vs Q E hr h=>?_
 ·obtain⟨c,l,n,f,rfl,q⟩:=h
  unfold px at q;refine⟨_,(qe (qG (qx ZI (qv 0) (qv 1) (qu _)) (qf (qp qB)) qy)
   (qe (qG (qx ZI (qv 0) (qw qJ (qv 1) (qv 2)) (qu _)) (qf (qp qB)) qy)
   (qe (qG (qx ZI (qv 0) (qw qJ (qv 1) (qv 3)) (qu _)) (qf (qp qB)) qy)
   (qf (qp qB))))),?_⟩
  refine⟨_,rfl,_,rfl,_,_,rfl,rfl,_,rfl,?_⟩
  refine q9 (fun z=>?_) (fun z=>?_)
  ·rw[Jc (Jx z)]at q;exact q
  ·rw[Jd (fun y=>z (Jg y))]at q
   refine⟨_,rfl,_,rfl,_,rfl,_,_,rfl,rfl,_,_,rfl,rfl,_,rfl,?_⟩
   refine q9 (fun z=>?_) (fun z=>?_)
   ·rw[Jc (Jx z)]at q;exact q
   ·rw[Jd (fun y=>z (Jg y))]at q
    refine⟨_,rfl,_,rfl,_,rfl,_,_,rfl,rfl,_,_,rfl,rfl,_,rfl,?_⟩
    refine q9 (fun z=>?_) (fun z=>?_)
    ·rw[Jc (Jx z)]at q;exact q
    ·rw[Jd (fun y=>z (Jg y))]at q;exact q
theorem oX(a:At K mg "step_by" c6 ["button","age","count","near","far"])(T:GJ K mg tk)(yF:Df P w K mg base "word_of" ["count","last","near","far"] 1 nQ):Df P w K mg base "step_by" ["button","age","count","near","far"] 2 ie:=by
 refine a.dq GQ fun f _ A _ s H vs Q E hr h=>?_
 ·obtain⟨a,e,age,c,near,far,rfl,⟨v,hb,hw⟩,q⟩:=h
  refine⟨_,(qe (zb (qv 0) (zi rfl (qq (qh (i:=5) GQ.nd rfl (Or.inl rfl)) (qq (qh (i:=6) GQ.nd rfl (Or.inl rfl)) (qq (qh (i:=7) GQ.nd rfl (Or.inl rfl)) qO)))))
   (qe (qA (i:=8) GQ.nd rfl (Or.inl rfl) (qr yF hr.mo (qd (qv 2) (qd (qv 6) (qd (qv 3) (qd (qv 4) qb))))))
   (qe (qG (QW.pt (cV (qx zt (qv 8) qB (qu _)) (eC (qx (uv hr) (qv 7) (qz (qd (qv 1) (qd (qw Qf (qv 2) qg) qb))) (qu _))))) (qf (qA (i:=8) GQ.nd rfl (Or.inl rfl) qB)) qy)
   (qe (qG (qx zt (qv 8) qB (qu _)) (qf (qp (qz (qd (qv 8) (qd (qz (qd (qv 1) (qd (qv 2) (qd qM qb)))) qb))))) qy)
   (qe (qG (qx zt (qv 8) qB (qu _)) (qf (qp (qz (qd (qv 8) (qd (qz (qd (qv 5) (qd (qv 6) (qd (qz (qd (qv 1) (qd (qv 2) qb))) qb)))) qb))))) qy)
   (qf (qp (qz (qd (qv 8) (qd (qv 0) qb)))))))))),?_⟩
  refine⟨_,rfl,a,_,rfl,.tup hb,rfl,_,_,rfl,_,_,rfl,_,_,rfl,rfl,?_⟩
  refine⟨_,rfl,_,rfl,_,rfl,_,rfl,c,e.last,near,far,rfl,?_⟩
  unfold zu at q;unfold px
  by_cases h1:c<=e.last
  ·rw[Jc h1]
   rw[Jc h1]at q;refine⟨_,rfl,rfl,_,rfl,?_⟩
   refine q9 (fun y=>absurd (Jx y) (by decide +kernel)) (fun _=>?_)
   refine⟨_,rfl,rfl,_,rfl,?_⟩
   refine q9 (fun y=>absurd (Jx y) (by decide +kernel)) (fun _=>?_)
   refine⟨_,rfl,rfl,_,rfl,?_⟩
   refine q9 (fun y=>absurd (Jx y) (by decide +kernel)) (fun _=>?_)
   refine⟨_,rfl,_,rfl,F5,fun q1 hq1=>?_⟩
   exact q q1 a _ (Ge.upd hq1) qc (GY.same (Ge.upd hq1) ⟨v,hb,hw⟩)
  ·rw[Jd h1]
   rw[Jd h1]at q
   by_cases h2:c<=e.last+near
   ·rw[Jc h2]
    rw[Jc h2]at q;refine⟨_,rfl,rfl,_,rfl,?_⟩
    refine q9 (fun y=>absurd (Jx y) (by decide +kernel)) (fun _=>?_)
    refine⟨_,rfl,rfl,_,rfl,?_⟩
    refine q9 (fun _=>?_) (fun y=>absurd (Jg rfl) y)
    refine⟨_,rfl,_,rfl,_,rfl,F6,fun t ht=>⟨F5,fun q1 hq1=>?_⟩⟩
    have u1:=Ge.upd (o:= .tup [.int age,.int c,.non]) ht
    have u2:=Ge.upd (o:= .tup [.str "near",.ref t]) hq1
    exact q q1 t _ (u1.trans u2) qc ⟨.non,u2 _ _ qc,rfl⟩
   ·rw[Jd h2]
    rw[Jd h2]at q
    by_cases h3:c<=e.last+far
    ·rw[Jc h3]
     rw[Jc h3]at q;refine⟨_,rfl,rfl,_,rfl,?_⟩
     refine q9 (fun _=>?_) (fun y=>absurd (Jg rfl) y)
     refine⟨_,rfl,_,rfl,_,rfl,_,_,rfl,rfl,F5,fun t0 ht0=>?_⟩
     have u0:=Ge.upd (o:= .tup [.int age,.int (c-1)]) ht0
     have hw0:=hw.mv (S:=[]) u0.mv (fun c h=>nomatch h)
     refine⟨e.wt,t0,age,c-1,hw0,rfl,.inl qc,_,rfl,?_⟩
     by_cases h4:e.wt=some (age,c-1)
     ·rw[Jc h4]at q
      refine zR (Jg h4) ?_
      refine⟨_,rfl,rfl,_,rfl,?_⟩
      refine q9 (fun _=>?_) (fun y=>absurd (Jg rfl) y)
      refine⟨_,rfl,_,rfl,_,rfl,F6,fun t ht=>⟨F5,fun q1 hq1=>?_⟩⟩
      have u1:=Ge.upd (o:= .tup [.int age,.int c,.non]) ht
      have u2:=Ge.upd (o:= .tup [.str "near",.ref t]) hq1
      exact q q1 t _ ((u0.trans u1).trans u2) qc ⟨.non,u2 _ _ qc,rfl⟩
     ·rw[Jd h4]at q
      refine zW (Jn h4) ?_
      refine⟨_,rfl,rfl,_,rfl,?_⟩
      refine q9 (fun y=>absurd (Jx y) (by decide +kernel)) (fun _=>?_)
      refine⟨_,rfl,rfl,_,rfl,?_⟩
      refine q9 (fun _=>?_) (fun y=>absurd (Jg rfl) y)
      refine⟨_,rfl,_,rfl,_,rfl,_,rfl,_,rfl,F5,fun t1 ht1=>⟨F6,fun t ht=>⟨F5,fun q1 hq1=>?_⟩⟩⟩
      have u1:=Ge.upd (o:= .tup [.int age,.int c]) ht1
      have u2:=Ge.upd (o:= .tup [.int e.age,.int e.last,.ref t1]) ht
      have u3:=Ge.upd (o:= .tup [.str "far",.ref t]) hq1
      exact q q1 t _ (((u0.trans u1).trans u2).trans u3) qc ⟨.ref t1,u3 _ _ qc,t1,rfl,u3 _ _ (u2 _ _ qc)⟩
    ·rw[Jd h3]
     rw[Jd h3]at q;refine⟨_,rfl,rfl,_,rfl,?_⟩
     refine q9 (fun y=>absurd (Jx y) (by decide +kernel)) (fun _=>?_)
     refine⟨_,rfl,rfl,_,rfl,?_⟩
     refine q9 (fun y=>absurd (Jx y) (by decide +kernel)) (fun _=>?_)
     refine⟨_,rfl,rfl,_,rfl,?_⟩
     refine q9 (fun y=>absurd (Jx y) (by decide +kernel)) (fun _=>?_)
     refine⟨_,rfl,_,rfl,F5,fun q1 hq1=>?_⟩
     exact q q1 a _ (Ge.upd hq1) qc (GY.same (Ge.upd hq1) ⟨v,hb,hw⟩)
end
section
variable{P:Program}{w:World}{K:Frag}{mg:Gc}{base:Heap}{tk:Nat->Tok}{C:Addr}
theorem ia(a:Io K C "__init__" "Door.__init__" Q0 ["self","table","keys","near","far","most"])(T:GJ K mg tk)(U:HG K C):Mf P w K mg base C "__init__" ["self","table","keys","near","far","most"] 1 (n5 K C):=by
 refine a.mq bC fun f _ A _ s H vs Q E hr h=>?_
 ·obtain⟨p,a,b,dx,near,far,most,t,kss,rfl,hp,ha,hb,hl,q⟩:=h
  refine⟨_,(qe (zx (qv 0) (qH bb T.b_tuple JG (qd (qv 1) qb)))
   (qe (zx (qv 0) (zT (own:=["key"]) (fr:=[]) (js:=[]) rfl (Qd (qv 2)) rfl (fun _ _ h=>nomatch h) rfl (cq rfl (by decide +kernel) (by decide +kernel) (by decide +kernel)) (fun _ _ _ _=>qh (i:=0) (show List.Nodup (["key"]:List Str)from by decide +kernel) rfl (Or.inl rfl) (.inr rfl)) (fun _ _ _ _=>(qH fw T.b_tuple JG (qd (qv 0) qb)))))
   (qe (zx (qv 0) (qv 3))
   (qe (zx (qv 0) (qv 4))
   (qe (zx (qv 0) (qv 5))
   (qe (zx (qv 0) qg)
   (qe (zx (qv 0) fJ)
   (qf (zx (qv 0) (zz qb)))))))))),?_⟩
  refine⟨_,rfl,a,_,rfl,ha,fun ta H2 s2 ht=>⟨_,rfl,p,_,rfl,zn U.cl (s2 _ _ hp) U.n_table 0,?_⟩⟩
  have e2:=s2 _ _ hp;have hb2:=(hb.same s2).upd (o:= .ins C dx [("table",.ref ta)]) e2
  obtain⟨as,eb,la,hks⟩:=hb2;have ht2:=eT (o:= .ins C dx [("table",.ref ta)]) e2 ht
  refine⟨_,rfl,b,rfl,⟨_,Gq.of eb⟩,aX (K:=K) (xs:=as.map V.ref) (by rw[Je,la,JA];lia) (fun i ys H3=>Ge (Gh H2 p (.ins C dx [("table",.ref ta)])) H3/\∃bs:List Addr,ys=bs.map V.ref/\bs.length=i/\∀(j:Nat) (x:Addr) (ks:List Int),bs[j]? =some x->kss[j]? =some ks->Gu [] H3 x (ks.map V.int)) ⟨Ge.refl _,[],rfl,rfl,fun j x ks e=>by(cases e)⟩ (fun i ys H3 ⟨s3,_⟩=>s3.seq (Gq.of eb)) ?_ ?_⟩
  ·rintro i ys H3 x hx hyl ⟨s3,bs,rfl,hbl,hbs⟩
   rw[Jo]at hx;cases ea:as[i]? with
   |none=>rw[ea]at hx;cases hx
   |some x0=>
    rw[ea]at hx
    obtain rfl:V.ref x0=x:=Jy hx
    have hi:i<kss.length:=by rw[<- la];exact(Jv.mp ea).1
    have hk0:=hks i x0 kss[i] ea (Jj hi);refine⟨_,rfl,x0,_,rfl,.inr (Ge.sqt s3 hk0).rd,fun l H4 s4 hl4=>⟨s3.trans s4,bs++[l],by simp,by simp [hbl],fun j y ks e1 e2'=>?_⟩⟩
    rw[F2]at e1;split at e1
    ·exact Ge.sqt s4 (hbs j y ks e1 e2')
    ·have hj:j-bs.length=0:=by
      cases hj:j-bs.length with
      |zero=>rfl
      |succ k=>rw[hj]at e1;cases e1
     rw[hj]at e1;cases e1
     have:j=i:=by lia
     subst this;rw[Jj hi]at e2';cases e2';exact .inl hl4
  ·rintro ys H3 hyl ⟨s3,bs,rfl,hbl,hbs⟩ hk hhk
   have u3:=Ge.upd (o:= .lst (bs.map V.ref)) hhk
   have e3:=u3 _ _ (s3 _ _ qc);refine⟨_,rfl,p,_,rfl,zn U.cl e3 U.n_house_keys 1,?_⟩
   refine⟨_,rfl,_,rfl,p,_,rfl,zn U.cl qc U.n_near 2,?_⟩
   refine⟨_,rfl,_,rfl,p,_,rfl,zn U.cl qc U.n_far 3,?_⟩
   refine⟨_,rfl,_,rfl,p,_,rfl,zn U.cl qc U.n_most 4,?_⟩
   refine⟨_,rfl,p,_,rfl,zn U.cl qc U.n_least_age 5,?_⟩
   refine fun bd hbd=>⟨_,rfl,p,_,rfl,zn U.cl (by rw[qi (qo qc hbd)];exact qc) U.n_buttons 6,?_⟩
   have nbd:=qo qc hbd;refine⟨F3,fun lg hlg=>⟨_,rfl,p,_,rfl,zn U.cl (by rw[qi (qo qc hlg)];exact qc) U.n_log 7,?_⟩⟩
   have nlg:=qo qc hlg;have m3:Mv [p] H H3:=((s2.mv (S:=[p])).trans Mv.upd1).trans s3.mv
   have nhk:hk≠p:=(qo (s3 _ _ qc) hhk).symm
   have m4:Mv [p] H (Gh H3 hk (.lst (bs.map V.ref))):=m3.trans u3.mv
   have M:∀o1 o2 o3 o4 o5,Mv [p] (Gh H3 hk (.lst (bs.map V.ref))) (Gh (Gh (Gh (Gh (Gh (Gh H3 hk (.lst (bs.map V.ref))) p o1) p o2) p o3) p o4) p o5):=fun o1 o2 o3 o4 o5=>(((Mv.upd1.trans Mv.upd1).trans Mv.upd1).trans Mv.upd1).trans Mv.upd1
   have M6:Mv [p] (Gh H3 hk (.lst (bs.map V.ref))) _:=(((M _ _ _ _ _).trans (Ge.upd hbd).mv).trans Mv.upd1).trans (Ge.upd (o:= .lst []) hlg).mv
   have M7:=M6.trans (Mv.upd1 (o:= .ins C dx (dF ⟨t,kss,near,far,most,0,[]⟩ ta hk bd lg)))
   have nt:NT [p] (Gh H3 hk (.lst (bs.map V.ref))):=NT.one e3 trivial
   have hbdlg:bd≠lg:=qo (by rw[qi nbd.symm];exact qc) hlg
   have KR:=GC.mv M7 nt (qX nhk) (show GC [] _ hk kss from⟨bs,qc,by rw[hbl,Je,la],fun j x ks e1 e2'=>Ge.sqt u3 (hbs j x ks e1 e2')⟩)
   refine q ta hk bd lg _ (m3.nfree (qX nhk) hhk) ((m4.trans (M _ _ _ _ _)).nfree (qX nbd.symm) hbd) ((m4.trans ((((M _ _ _ _ _).trans (Ge.upd hbd).mv).trans Mv.upd1))).nfree (qX nlg.symm) hlg) (m4.trans M7) ⟨⟨dx,qc⟩,?_,GC.up KR,?_,?_,?_⟩ KR
   ·exact M7.sqt nt (Ge.sqt u3 (Ge.sqt s3 ht2))
   ·exact⟨([],fun _=>0),by rw[qi nbd.symm,qi hbdlg,qi nbd.symm];exact qc,fun e he=>by(cases he),.refl _,FB⟩
   ·exact⟨[],by rw[qi nlg.symm];exact qc,Jf _⟩
   ·refine(qo (o:= .lst (bs.map V.ref)) ?_ hlg).symm
    rw[qi nhk];rw[qi (qo (o:= .lst (bs.map V.ref)) (by rw[qi nhk,qi nhk,qi nhk,qi nhk,qi nhk];exact qc) hbd)]
    rw[qi nhk,qi nhk,qi nhk,qi nhk,qi nhk];exact qc
theorem gl(a:Io K C "is_full" "Door.is_full" ZA ["self"])(T:GJ K mg tk)(U:HG K C):Mf P w K mg base C "is_full" ["self"] 1 (mT K C):=by
 refine a.mq gn fun f _ A _ s H vs Q E hr h=>?_
 ·obtain⟨p,ta,hk,bd,lg,n,D,rfl,b,q⟩:=h
  obtain⟨fn,hd,_,hpm,_⟩:=b.kb;refine⟨_,(qf (qp (zj rh (qm sU T.b_len J1 (qd (qN (qv 0)) qb)) (qN (qv 0)) (qu _)))),?_⟩
  refine⟨_,rfl,p,_,rfl,b.h_buttons U,bd,_,rfl,hd,_,rfl,p,_,rfl,b.h_most U,_,_,rfl,rfl,?_⟩
  rw[show(bG fn.1 fn.2).length=D.kn.length from(Je _).trans hpm.length_eq]
  exact q
theorem ff(a:Io K C "button_of" "Door.button_of" Q6 ["self","name"])(T:GJ K mg tk)(U:HG K C):Mf P w K mg base C "button_of" ["self","name"] 1 (jG K C):=by
 refine a.mq ft fun f _ A _ s H vs Q E hr h=>?_
 ·obtain⟨p,ta,hk,bd,lg,n,D,nm,rfl,b,q1,q2⟩:=h
  refine⟨_,(qf (qp (lO hr (qN (qv 0)) (qv 1)))),?_⟩
  obtain⟨fn,hd,_⟩:=id b.kb;refine⟨_,rfl,p,_,rfl,b.h_buttons U,bd,rfl,.inl ⟨_,.inl hd⟩,_,rfl,?_⟩
  rcases b.kb.get nm with⟨e1,g⟩|⟨e,x,e1,g,hx⟩
  ·exact⟨_,g,q1 e1⟩
  ·exact⟨_,g,q2 e x e1 hx⟩
theorem fj(a:Io K C "takes_age" "Door.takes_age" Q5 ["self","age"])(T:GJ K mg tk)(U:HG K C):Mf P w K mg base C "takes_age" ["self","age"] 1 (fS K C):=by
 refine a.mq fh fun f _ A _ s H vs Q E hr h=>?_
 ·obtain⟨p,ta,hk,bd,lg,n,D,age,rfl,b,q⟩:=h
  obtain⟨as,eh,la,_⟩:=b.ks;refine⟨_,(qf (qp (fN ZI eZ (qN (qv 0)) (qv 1) (qm qR T.b_len J1 (qd (qN (qv 0)) qb))))),?_⟩
  unfold QX at q;refine⟨_,rfl,p,_,rfl,b.h_least_age U,_,rfl,_,_,rfl,rfl,_,rfl,?_⟩
  refine q9 (fun z=>?_) (fun z=>?_)
  ·rw[z,ES]at q
   refine⟨_,rfl,p,_,rfl,b.h_house_keys U,hk,_,rfl,.inl (Gq.of eh),_,_,rfl,rfl,?_⟩
   rw[Je,la];exact q
  ·rw[FR.mpr z,Eb]at q
   exact q
theorem cK(a:Io K C "takes_from" "Door.takes_from" QR ["self","button","age"])(T:GJ K mg tk)(U:HG K C)(dH:Mf P w K mg base C "takes_age" ["self","age"] 1 (fS K C)):Mf P w K mg base C "takes_from" ["self","button","age"] 2 (bE K C):=by
 refine a.mq cL fun f _ A _ s H vs Q E hr h=>?_
 ·obtain⟨p,ta,hk,bd,lg,x,n,D,e,age,rfl,b,⟨v,hx,hw⟩,q⟩:=h
  refine⟨_,(qf (qp (zG (zg dH U.cl hr.mo (qv 0) (qd (qv 2) qb)) (QB (zj rh (qv 2) (qE qP (qv 1) qg) (qu _)))))),?_⟩
  unfold qT at q;refine⟨_,rfl,p,rfl,b.no,_,rfl,p,ta,hk,bd,lg,n,D,age,rfl,b,_,rfl,?_⟩
  refine q9 (fun z=>?_) (fun z=>?_)
  ·rw[z,ES]at q
   exact⟨_,rfl,_,rfl,x,_,_,_,rfl,rfl,Gu.of hx,rfl,_,_,rfl,rfl,q⟩
  ·rw[FR.mpr z,Eb]at q
   exact q
theorem dy(a:Io K C "plain_step" "Door.plain_step" Qk ["self","button","age","count"])(T:GJ K mg tk)(U:HG K C)(dB:Mf P w K mg base C "takes_from" ["self","button","age"] 2 (bE K C))(xD:Df P w K mg base "step_by" ["button","age","count","near","far"] 2 ie):Mf P w K mg base C "plain_step" ["self","button","age","count"] 3 (nD K C):=by
 refine a.mq ZN fun f _ A _ s H vs Q E hr h=>?_
 ·obtain⟨p,ta,hk,bd,lg,x,n,D,e,age,c,rfl,b,hx,ht,q⟩:=h
  refine⟨_,(qe (qG (Qh (zc (zg dB U.cl hr.mo (qv 0) (qd (qv 1) (qd (qv 2) qb))))) (qf (qp (qz (qd qB (qd (qv 1) qb))))) qy)
   (qf (qp (qr xD hr.mo (qd (qv 1) (qd (qv 2) (qd (qv 3) (qd (qN (qv 0)) (qd (qN (qv 0)) qb))))))))),?_⟩
  refine⟨_,rfl,p,rfl,b.no,_,rfl,_,rfl,p,ta,hk,bd,lg,x,n,D,e,age,rfl,b,hx,_,rfl,?_⟩
  rw[ht];refine qW ?_
  exact⟨_,rfl,_,rfl,_,rfl,_,rfl,p,_,rfl,b.h_near U,_,rfl,p,_,rfl,b.h_far U,x,e,age,c,D.near,D.far,rfl,hx,q⟩
theorem fi(a:Io K C "answer_to" "Door.answer_to" Q7 ["self","press"])(T:GJ K mg tk)(U:HG K C)(dD:Mf P w K mg base C "button_of" ["self","name"] 1 (jG K C))(dB:Mf P w K mg base C "takes_from" ["self","button","age"] 2 (bE K C))(dG:Mf P w K mg base C "plain_step" ["self","button","age","count"] 3 (nD K C))
  (dO:Df P w K mg base "read_press" ["table","key","press"] 3 (j5 K)):Mf P w K mg base C "answer_to" ["self","press"] 4 (iA K C):=by
 refine a.mq Gm fun f _ A _ s H vs Q E hr h=>?_
 ·obtain⟨p,ta,hk,bd,lg,pr,n,D,nm,age,ds,rfl,b,ok,⟨pc,hp,hpc⟩,hn,l5,hdd,q⟩:=h
  refine⟨_,(qe (zb (qv 1) (zi rfl (qq (qh (i:=2) Gm.nd rfl (Or.inl rfl)) (qq (qh (i:=3) Gm.nd rfl (Or.inl rfl)) (qq (qh (i:=4) Gm.nd rfl (Or.inl rfl)) qO)))))
   (qe (qA (i:=5) Gm.nd rfl (Or.inl rfl) (zg dD U.cl hr.mo (qv 0) (qd (qv 2) qb)))
   (qe (qG (qx zP (qv 5) qM (qu _)) (qf (qp (qz (qd qB (qd qB qb))))) qy)
   (qe (qG (Qh (zc (zg dB U.cl hr.mo (qv 0) (qd (qv 5) (qd (qv 3) qb))))) (qf (qp (qz (qd qB (qd qB qb))))) qy)
   (qe (qA (i:=6) Gm.nd rfl (Or.inl rfl) (qr dO hr.mo (qd (qN (qv 0)) (qd (qE qK (qN (qv 0)) (qv 3)) (qd (qv 1) qb)))))
   (qe (qG (qx zP (qv 6) qM (qu _)) (qf (qp (qz (qd qB (qd qB qb))))) qy)
   (qe (zb (qv 6) (zi rfl (qq (qh (i:=7) Gm.nd rfl (Or.inl rfl)) (qq (qh (i:=8) Gm.nd rfl (Or.inl rfl)) qO))))
   (qe (zb (zg dG U.cl hr.mo (qv 0) (qd (qv 5) (qd (qv 3) (qd (qv 7) qb)))) (zi rfl (qq (qh (i:=9) Gm.nd rfl (Or.inl rfl)) (qq (qh (i:=10) Gm.nd rfl (Or.inl rfl)) qO))))
   (qe (ZC hr (qN (qv 0)) (qv 2) (qv 10))
   (qe (qG (qx zt (qv 9) qB (qu _)) (qf (qp (qz (qd qB (qd (qv 2) (qd (qv 8) qb)))))) qy)
   (qf (qp (qz (qd qB (qd (qv 9) qb))))))))))))))),?_⟩
  refine⟨_,rfl,pr,_,rfl,.tup hp,rfl,_,_,rfl,_,_,rfl,_,_,rfl,rfl,?_⟩
  refine⟨_,rfl,p,rfl,b.no,_,rfl,p,ta,hk,bd,lg,n,D,nm,rfl,b,fun e1=>?_,fun e x e1 hx=>?_⟩
  ·have eJ:zo D nm age (Zj D.t (Qx D age) nm ds)=([.str "held",.str "unknown"],D.kn):=by unfold zo;rw[e1]
   rw[eJ]at q;refine⟨_,rfl,rfl,_,rfl,?_⟩
   refine q9 (fun _=>?_) (fun y=>absurd (Jg rfl) y)
   refine⟨F5,fun q1 hq1=>?_⟩
   exact q q1 _ (Ge.upd hq1).mv qc (b.same (Ge.upd hq1))
  ·refine⟨_,rfl,rfl,_,rfl,?_⟩
   refine q9 (fun y=>nomatch (Jx y)) (fun _=>?_)
   refine⟨_,rfl,p,rfl,b.no,_,rfl,_,rfl,p,ta,hk,bd,lg,x,n,D,e,age,rfl,b,hx,_,rfl,?_⟩
   cases ht:qT D e age with
   |false=>
    have eJ:zo D nm age (Zj D.t (Qx D age) nm ds)=([.str "held",.str "age"],D.kn):=by unfold zo;rw[e1];simp only;rw[ht];rfl
    rw[eJ]at q;refine zf ?_
    refine⟨F5,fun q1 hq1=>?_⟩
    exact q q1 _ (Ge.upd hq1).mv qc (b.same (Ge.upd hq1))
   |true=>
    refine qW ?_
    obtain⟨a0,a1⟩:=ZO ht ok.l0;obtain⟨xs,ak,eh,hat,hak⟩:=b.ks.at a0 a1;refine⟨_,rfl,p,_,rfl,b.h_table U,_,rfl,p,_,rfl,b.h_house_keys U,_,rfl,hk,_,_,_,rfl,rfl,Gq.of eh,hat,_,rfl,ta,ak,pr,pc,nm,age,D.t,Qx D age,ds,rfl,.inr b.tb,.inr hak,.tup hp,.tup hpc,hn,ok.tp,l5,hdd,fun y H1 s1 told=>?_⟩
    have b1:=b.same s1;have hx1:=hx.same s1;have told':cX H1 y (Zj D.t (Qx D age) nm ds):=told
    cases er:Zj D.t (Qx D age) nm ds with
    |none=>
     rw[er]at told' q;have ey:y= .non:=told'
     subst ey;have eJ:zo D nm age none=([.str "held",.str "false"],D.kn):=by unfold zo;rw[e1];simp only;rw[ht];rfl
     rw[eJ]at q;refine⟨_,rfl,rfl,_,rfl,?_⟩
     refine q9 (fun _=>?_) (fun y=>absurd (Jg rfl) y)
     refine⟨F5,fun q1 hq1=>?_⟩
     exact q q1 _ (s1.trans (Ge.upd hq1)).mv qc (b1.same (Ge.upd hq1))
    |some cd=>
     obtain⟨c,d⟩:=cd;rw[er]at told' q;obtain⟨pp,ey,hpp⟩:=told';subst ey;refine⟨_,rfl,rfl,_,rfl,?_⟩
     refine q9 (fun y=>nomatch (Jx y)) (fun _=>?_)
     refine⟨_,rfl,pp,_,rfl,.tup hpp,rfl,_,_,rfl,_,_,rfl,rfl,?_⟩
     refine⟨_,rfl,p,rfl,b1.no,_,rfl,_,rfl,_,rfl,p,ta,hk,bd,lg,x,n,D,e,age,c,rfl,b1,hx1,ht,fun q1 a' H2 s2 hq1 hb'=>⟨q1,_,rfl,.tup hq1,rfl,_,_,rfl,_,_,rfl,rfl,?_⟩⟩
     have b2:=b1.same s2;obtain⟨H3,dp,m3,kb3⟩:=b2.kb.put nm (by have:=ok.nl;lia) hb'
     refine⟨_,rfl,_,rfl,p,_,rfl,b2.h_buttons U,_,rfl,bd,H3,rfl,dp,?_⟩
     have b3:=b2.putK m3 kb3;have mm:Mv [bd] H H3:=(s1.trans s2).mv.trans m3
     refine⟨_,rfl,rfl,_,rfl,?_⟩
     by_cases hw:(zu D.near D.far e age c).1="near"
     ·have eJ:zo D nm age (some (c,d))=([.str "open",.str nm,.int d],ze D.kn nm (zu D.near D.far e age c).2):=by unfold zo;rw[e1];simp only;rw[Jc ht,Jc hw]
      rw[eJ]at q;refine q9 (fun _=>?_) (fun y=>absurd (Jg (by rw[hw])) y)
      refine⟨_,rfl,_,rfl,F6,fun q2 hq2=>?_⟩
      exact q q2 _ (mm.trans (Ge.upd hq2).mv) qc (b3.same (Ge.upd hq2))
     ·have eJ:zo D nm age (some (c,d))=([.str "held",.str (zu D.near D.far e age c).1],ze D.kn nm (zu D.near D.far e age c).2):=by unfold zo;rw[e1];simp only;rw[Jc ht,Jd hw]
      rw[eJ]at q;refine q9 (fun y=>absurd (Jx y) (by intro z;injection z with z;exact hw z)) (fun _=>?_)
      refine⟨_,rfl,F5,fun q2 hq2=>?_⟩
      exact q q2 _ (mm.trans (Ge.upd hq2).mv) qc (b3.same (Ge.upd hq2))
theorem cU(a:Io K C "read_right" "Door.read_right" QU ["self","thing"])(T:GJ K mg tk)(U:HG K C)(dX:Df P w K mg base "is_press" ["thing"] 5 cj)(dH:Mf P w K mg base C "takes_age" ["self","age"] 1 (fS K C))(dO:Df P w K mg base "read_press" ["table","key","press"] 3 (j5 K)):Mf P w K mg base C "read_right" ["self","thing"] 6 (ir K C):=by
 refine a.mq c8 fun f _ A _ s H vs Q E hr h=>?_
 ·obtain⟨p,ta,hk,bd,lg,n,D,x,o,rfl,b,ok,tg,q⟩:=h
  refine⟨_,(qe (qG (QW.pt (zF (Qh (zc (qr dX hr.mo (qd (qv 1) qb)))) (zA (Qh (zc (zg dH U.cl hr.mo (qv 0) (qd (qE qP (qv 1) qg) qb))))))) (qf (qp qM)) qy)
   (qf (qp (qr dO hr.mo (qd (qN (qv 0)) (qd (qE qK (qN (qv 0)) (qE qP (qv 1) qg)) (qd (qv 1) qb))))))),?_⟩
  refine⟨_,rfl,x,_,rfl,tg.b,fun H1 s1=>⟨_,rfl,?_⟩⟩
  cases o with
  |none=>exact zf (zf (q .non _ s1 rfl))
  |some PP=>
  obtain⟨pr,rfl,hp,hn,l5,hdd⟩:=tg;have q:∀y H',Ge H H'->cX H' y (dw D PP)->Q y H':=q
  obtain⟨nm,age,ds⟩:=PP;simp only at hn l5 hdd
  refine qW ?_
  have b1:=b.same s1;obtain⟨pc,hp1,hpc1⟩:=GK.same s1 hp;refine⟨_,rfl,p,rfl,b1.no,_,rfl,pr,_,_,_,rfl,rfl,Gu.of hp1,rfl,p,ta,hk,bd,lg,n,D,age,rfl,b1,_,rfl,?_⟩
  unfold dw at q;cases ht:QX D age with
  |false=>
   rw[Jd (by rw[ht];intro z;cases z)]at q
   exact zf (q _ _ s1 rfl)
  |true=>
  rw[Jc ht]at q;refine qW ?_
  have ht':qT D ⟨age,0,none⟩ age=true:=by unfold qT;rw[ht,Jg (EC _)];rfl
  obtain⟨a0,a1⟩:=ZO ht' ok.l0;obtain⟨xs,ak,eh,hat,hak⟩:=b1.ks.at a0 a1
  exact⟨_,rfl,p,_,rfl,b1.h_table U,_,rfl,p,_,rfl,b1.h_house_keys U,_,rfl,pr,_,_,_,rfl,rfl,Gu.of hp1,rfl,hk,_,_,_,rfl,rfl,Gq.of eh,hat,_,rfl,ta,ak,pr,pc,nm,age,D.t,Qx D age,ds,rfl,.inr b1.tb,.inr hak,.tup hp1,.tup hpc1,hn,ok.tp,l5,hdd,fun y H2 s2 told=>q y H2 (s1.trans s2) told⟩
theorem fo(a:Io K C "known_now" "Door.known_now" Q4 ["self"])(T:GJ K mg tk)(U:HG K C):Mf P w K mg base C "known_now" ["self"] 1 (fF K C):=by
 refine a.mq fk fun f _ A _ s H vs Q E hr h=>?_
 ·obtain⟨p,ta,hk,bd,lg,n,D,rfl,b,ok,q⟩:=h
  obtain⟨fn,hd,hbu,hpm,_⟩:=id b.kb;refine⟨_,(qf (qp (qH qZ T.b_tuple JG (qd (zT (own:=["name"]) (fr:=["self"]) (js:=[0]) rfl (Qd (qm (jW rfl) T.b_sorted PyProof.Rows.boot_sorted (qd (qN (qv 0)) qb))) rfl (lN rfl) rfl (jZ rfl (by decide +kernel) (by decide +kernel) (by decide +kernel) rfl rfl rfl) (fun _ _ _ _=>qh (i:=0) (show List.Nodup (["name","self"]:List Str)from by decide +kernel) rfl (Or.inl rfl) (.inr rfl)) (fun _ _ _ _=>(qw Z9 (qz (qd (qv 0) qb)) (Qc hr (AJ (K:=K) rfl (qv 1)) (qv 0))))) qb)))),?_⟩
  refine⟨_,rfl,p,_,rfl,b.h_buttons U,bd,_,fn.1.map (·.1),rfl,hd,Az _ _,by rw[Je,hpm.length_eq];have:=ok.nl;lia,fun l ss hl pm0 so=>⟨l,rfl,⟨_,Gq.of qc⟩,?_⟩⟩
  have pm:=pm0.trans (hpm.map (·.1))
  have u1:=Ge.upd (o:= .lst (ss.map V.str)) hl
  have ls:ss.length<=60:=by rw[pm.length_eq,Je];exact ok.nl
  refine aX (K:=K) (xs:=ss.map V.str) (by rw[Je,JA];lia) (fun i ys H3=>Ge (Gh H l (.lst (ss.map V.str))) H3/\∃as:List Addr,ys=as.map V.ref/\as.length=i/\∀(j:Nat) (x:Addr) (nm:Str) (e:Kb),as[j]? =some x->ss[j]? =some nm->D.kn.lookup nm=some e->∃v,H3 x=some (.tup [.str nm,.int e.age,.int e.last,v])/\Wt H3 v e.wt) ⟨Ge.refl _,[],rfl,rfl,fun j x nm e h=>by(cases h)⟩ (fun i ys H3 ⟨s3,_⟩=>s3.seq (Gq.of qc)) ?_ ?_
  ·rintro i ys H3 x hx hyl ⟨s3,as,rfl,hal,has⟩
   rw[Jo]at hx;cases es:ss[i]? with
   |none=>rw[es]at hx;cases hx
   |some nm=>
    rw[es]at hx
    obtain rfl:V.str nm=x:=Jy hx
    have hmem:nm∈D.kn.map (·.1):=pm.mem_iff.mp (DV es)
    obtain⟨e,he⟩:=ZV hmem;have b3:=b.same (u1.trans s3);obtain⟨e',x0,he',g,v0,hx0,hw0⟩:=(b3.kb.get nm).resolve_left (fun z=>by rw[he]at z;cases z.1)
    rw[he]at he';cases he';refine⟨_,rfl,F4,fun t ht=>?_⟩
    have u4:=Ge.upd (o:= .tup [.str nm]) ht
    have b4:=b3.same u4;obtain⟨e',x0,he',g,v0,hx0,hw0⟩:=(b4.kb.get nm).resolve_left (fun z=>by rw[he]at z;cases z.1)
    rw[he]at he';cases he';refine⟨_,rfl,p,_,rfl,b4.h_buttons U,_,rfl,bd,_,rfl,g,t,x0,_,_,rfl,rfl,qc,hx0,F7,fun q1 H5 s5 hq1=>?_⟩
    refine⟨(s3.trans u4).trans s5,as++[q1],by simp,by simp [hal],fun j y m2 e2 h1 h2 h3=>?_⟩
    rw[F2]at h1;split at h1
    ·obtain⟨v,a1,a2⟩:=has j y m2 e2 h1 h2 h3
     exact⟨v,s5 _ _ (u4 _ _ a1),a2.mv (S:=[]) (u4.trans s5).mv (fun c h=>nomatch h)⟩
    ·have hj:j-as.length=0:=by
      cases hj:j-as.length with
      |zero=>rfl
      |succ k=>rw[hj]at h1;cases h1
     rw[hj]at h1;cases h1
     obtain rfl:j=i:=by lia
     rw[es]at h2;cases h2;rw[he]at h3;cases h3
     exact⟨v0,hq1,hw0.mv (S:=[]) s5.mv (fun c h=>nomatch h)⟩
  ·rintro ys H3 hyl ⟨s3,as,rfl,hal,has⟩ l2 hl2
   have u4:=Ge.upd (o:= .lst (as.map V.ref)) hl2
   refine⟨l2,_,rfl,.inl ⟨Gq.of qc,fun q1 hq1=>?_⟩⟩
   have u5:=Ge.upd (o:= .tup (as.map V.ref)) hq1
   have S:=u4.trans u5;refine q q1 ss _ ((u1.trans s3).trans S) pm so ⟨as,qc,by rw[hal,Je],fun j x nm e h1 h2 h3=>?_⟩
   obtain⟨v,a1,a2⟩:=has j x nm e h1 h2 h3
   exact⟨v,S _ _ a1,a2.mv (S:=[]) S.mv (fun c h=>nomatch h)⟩
end
section
variable{P:Program}{w:World}{K:Frag}{mg:Gc}{base:Heap}{tk:Nat->Tok}{C:Addr}
theorem kL(a:Io K C "hear" "Door.hear" bv ["self","thing"])(T:GJ K mg tk)(U:HG K C)(dX:Df P w K mg base "is_press" ["thing"] 5 cj)(xB:Mf P w K mg base C "answer_to" ["self","press"] 4 (iA K C)):Mf P w K mg base C "hear" ["self","thing"] 6 (ox K C):=by
 refine a.mq HY fun f _ A _ s H vs Q E hr h=>?_
 ·obtain⟨⟨p,ta,hk,bd,lg⟩,D,L,x,o,rfl,⟨b,⟨rs,el,ro⟩,kr⟩,n1,ok,tg,qn,qs⟩:=h
  simp only at b el kr qs
  refine⟨_,(qe (qG (Qh (zc (qr dX hr.mo (qd (qv 1) qb)))) (qf (qp (qz (qd qB (qd qB qb))))) qy)
   (qe (qA (i:=2) HY.nd rfl (Or.inl rfl) (zg xB U.cl hr.mo (qv 0) (qd (qv 1) qb)))
   (qe (zJ (ZM Ei EY EZ Qp (qN (qv 0)) (qd (qz (qd qB (qd (qv 1) (qd (qv 2) qb)))) qb)))
   (qf (qp (qv 2)))))),?_⟩
  refine⟨_,rfl,x,_,rfl,tg.b,fun H1 s1=>⟨_,rfl,?_⟩⟩
  cases o with
  |none=>exact zf ⟨F5,fun q hq=>qn rfl q _ (s1.trans (Ge.upd hq)) qc⟩
  |some PP=>
  obtain⟨pr,rfl,hp,okP⟩:=tg;have q:=qs PP rfl;refine qW ?_
  have b1:=b.same s1;obtain⟨f0,hd,_⟩:=id b1.kb;have ntb:NT [bd] H1:=NT.one hd trivial
  refine⟨_,rfl,p,rfl,b1.no,_,rfl,p,ta,hk,bd,lg,pr,L.length,D,PP.nm,PP.age,PP.ds,rfl,b1,ok,GK.same s1 hp,okP.nm,okP.l,okP.dg,fun q1 H2 m2 hq1 b2=>?_⟩
  have el2:=m2 _ _ (qX (zY (s1 _ _ el) hd (by intro z;cases z))) (s1 _ _ el)
  have ro2:=(ro.same s1).mv m2 ntb;refine⟨_,rfl,p,_,rfl,b2.h_log U,.inl ⟨rfl,_,Gq.of el2⟩,_,rfl,_,rfl,F6,fun r hr'=>?_⟩
  have u3:=Ge.upd (o:= .tup [.str "hear",.ref pr,.ref q1]) hr'
  have b3:=b2.same u3;have pr3:=GK.same u3 (GK.mv m2 ntb (GK.same s1 hp));have ntl:NT [lg] _:=NT.one (u3 _ _ el2) trivial
  refine⟨lg,_,_,rfl,rfl,u3 _ _ el2,by rw[Je,ro.1,JA];lia,⟨_,rfl,?_⟩⟩
  exact q pr q1 _ rfl (((s1.mv.trans (m2.mono (fun c h z=>h (by rw[Jl.mp z];exact Jw ..)))).trans u3.mv).trans (Mv.upd1.mono (fun c h z=>h (by rw[Jl.mp z];exact JC _ (Jw ..))))) (GK.mv Mv.upd1 ntl pr3) (Mv.upd1.tup ntl (u3 _ _ hq1)) (GN.push (a:=⟨p,ta,hk,bd,lg⟩) b3 (u3 _ _ el2) (ro2.same u3) ((GC.mv m2 ntb (qX (wS hd b1)) (GC.same s1 kr)).same u3) ⟨pr,q1,.inl qc,pr3,okP,u3 _ _ hq1,uy D PP,vF D PP⟩)
theorem cC(a:Io K C "close_below" "Door.close_below" QH ["self","age"])(T:GJ K mg tk)(U:HG K C):Mf P w K mg base C "close_below" ["self","age"] 1 (jV K C):=by
 refine a.mq cB fun f _ A _ s H vs Q E hr h=>?_
 ·obtain⟨⟨p,ta,hk,bd,lg⟩,D,L,age,rfl,⟨b,⟨rs,el,ro⟩,kr⟩,n1,q⟩:=h
  simp only at b el kr q
  refine⟨_,(qe (zx (qv 0) (qm (ZS rfl) T.b_max FC (qd (qN (qv 0)) (qd (qv 1) qb))))
   (qf (zJ (ZM Ei EY EZ Qp (qN (qv 0)) (qd (qz (qd qB (qd (qv 1) qb))) qb))))),?_⟩
  have q:=q _ _ rfl;obtain⟨z,hz⟩:∃z:Int,z=if age>D.least then age else D.least:=⟨_,rfl⟩
  rw[<- hz]at q;obtain⟨dx0,ep⟩:=id b.ob;obtain⟨dx,pf,m,b3⟩:=b.putLeast U z;have el3:=m _ _ (qX (zY el ep (by intro z;cases z))) el
  have ro3:=ro.mv m (NT.one ep trivial);refine⟨_,rfl,p,_,rfl,b.h_least_age U,_,rfl,_,_,rfl,_,rfl,p,_,rfl,by rw[<- hz];exact pf,?_⟩
  refine⟨_,rfl,p,_,rfl,b3.h_log U,.inl ⟨rfl,_,Gq.of el3⟩,_,rfl,F5,fun r hr'=>?_⟩
  have u7:=Ge.upd (o:= .tup [.str "close",.int age]) hr'
  have b7:=b3.same u7;refine⟨lg,_,_,rfl,rfl,u7 _ _ el3,by rw[Je,ro.1,JA];lia,?_⟩
  exact q _ (((m.mono (fun c h z=>h (by rw[Jl.mp z];exact Jw ..))).trans u7.mv).trans (Mv.upd1.mono (fun c h z=>h (by rw[Jl.mp z];exact JC _ (Jw ..))))) (GN.push (a:=⟨p,ta,hk,bd,lg⟩) b7 (u7 _ _ el3) (ro3.same u7) ((GC.mv m (NT.one ep trivial) (qX (Bf ep b)) kr).same u7) (show Iq _ r (.close age)from .inl qc))
theorem gw(a:Io K C "log_now" "Door.log_now" Zy ["self"])(T:GJ K mg tk)(U:HG K C):Mf P w K mg base C "log_now" ["self"] 1 (t7 K C):=by
 refine a.mq gc fun f _ A _ s H vs Q E hr h=>?_
 ·obtain⟨⟨p,ta,hk,bd,lg⟩,D,L,rfl,⟨b,⟨rs,el,ro⟩,kr⟩,q⟩:=h
  simp only at b el kr
  refine⟨_,(qf (qp (qH qZ T.b_tuple JG (qd (qN (qv 0)) qb)))),?_⟩
  exact⟨_,rfl,p,_,rfl,b.h_log U,lg,_,rfl,.inl ⟨Gq.of el,fun t ht=>q t _ (Ge.upd ht) ⟨rs,.inl qc,ro.same (Ge.upd ht)⟩⟩⟩
theorem jv(a:Io K C "learn" "Door.learn" aq ["self","one","other"])(T:GJ K mg tk)(U:HG K C)(dM:Mf P w K mg base C "read_right" ["self","thing"] 6 (ir K C))(xI:Mf P w K mg base C "is_full" ["self"] 1 (mT K C)):Mf P w K mg base C "learn" ["self","one","other"] 7 (iK K C):=by
 refine a.mq GB fun f _ A _ s H vs Q E hr h=>?_
 ·obtain⟨⟨p,ta,hk,bd,lg⟩,D,L,p1,p2,⟨nm,age,ds1⟩,⟨nm2,age2,ds2⟩,c,d1,d2,rfl,⟨b,⟨rs,el,ro⟩,kr⟩,n1,ok,hp1,hp2,ok1,ok2,r1,r2,en,ea,hno,hmo,q⟩:=h
  simp only at b el kr q en ea hno
  subst en;subst ea
  refine⟨_,(qe (qA (i:=3) GB.nd rfl (Or.inl rfl) (zg dM U.cl hr.mo (qv 0) (qd (qv 1) qb)))
   (qe (qG (qx zP (qv 3) qM (qu _)) Qq qy)
   (qe (qA (i:=4) GB.nd rfl (Or.inl rfl) (zg dM U.cl hr.mo (qv 0) (qd (qv 2) qb)))
   (qe (qG (QW.pt (zF (qx zP (qv 4) qM (qu _)) (zF (qx (Bm hr) (ZB eE (qv 2) Z8 (ae qg)) (ZB eE (qv 1) Z8 (ae qg)) (qu _)) (zA (qx ZJ (qE qP (qv 4) qg) (qw qJ (qE qP (qv 3) qg) qg) (qu _)))))) Qq qy)
   (qe (zb (qv 1) (zi rfl (qq (qh (i:=5) GB.nd rfl (Or.inl rfl)) (qq (qh (i:=6) GB.nd rfl (Or.inl rfl)) (qq (qh (i:=7) GB.nd rfl (Or.inl rfl)) qO)))))
   (qe (qG (CH hr (qv 5) (qN (qv 0))) Qq qy)
   (qe (qG (zc (zm xI U.cl hr.mo (qv 0))) Qq qy)
   (qe (ZC hr (qN (qv 0)) (qv 5) (qz (qd (qv 6) (qd (qE qP (qv 4) qg) (qd qM qb)))))
   (qf (zJ (ZM Ei EY EZ Qp (qN (qv 0)) (qd (qz (qd qB (qd (qv 1) (qd (qv 2) qb)))) qb)))))))))))),?_⟩
  refine⟨_,rfl,p,rfl,b.no,_,rfl,p,ta,hk,bd,lg,L.length,D,.ref p1,some _,rfl,b,ok,⟨p1,rfl,hp1,ok1⟩,fun y1 H1 s1 t1=>?_⟩
  have t1:cX H1 y1 (dw D _):=t1
  rw[r1]at t1;obtain⟨f1,rfl,hf1⟩:=t1;refine⟨_,rfl,rfl,_,rfl,q9 (fun y=>nomatch (Jx y)) (fun _=>?_)⟩
  have b1:=b.same s1;refine⟨_,rfl,p,rfl,b1.no,_,rfl,p,ta,hk,bd,lg,L.length,D,.ref p2,some _,rfl,b1,ok,⟨p2,rfl,GK.same s1 hp2,ok2⟩,fun y2 H2 s2 t2=>?_⟩
  have t2:cX H2 y2 (dw D _):=t2
  rw[r2]at t2;obtain⟨f2,rfl,hf2⟩:=t2;have b2:=b1.same s2;have hp1':=GK.same (s1.trans s2) hp1;have hp2':=GK.same (s1.trans s2) hp2;obtain⟨c1,e1,_⟩:=id hp1';obtain⟨c2,e2,_⟩:=id hp2';simp only at e1 e2
  refine⟨_,rfl,rfl,_,rfl,?_⟩
  refine q9 (fun y=>nomatch (Jx y)) (fun _=>?_)
  refine⟨_,rfl,_,rfl,p2,_,rfl,e2,fun t3 H3 s3 h3 _=>⟨_,rfl,_,rfl,p1,_,rfl,s3 _ _ e1,fun t4 H4 s4 h4 _=>?_⟩⟩
  have h3':H4 t3=some (.tup [.str nm2,.int age2]):=s4 _ _ h3
  have h4':H4 t4=some (.tup [.str nm2,.int age2]):=h4
  have S4:=(s3.trans s4);have SS:=(s1.trans s2).trans S4;refine⟨1,by decide,IK.pair h3' h4',_,rfl,qW ?_⟩
  refine⟨_,rfl,f2,_,_,_,rfl,rfl,Gu.of (S4 _ _ hf2),rfl,_,rfl,f1,_,_,_,rfl,rfl,Gu.of (S4 _ _ (s2 _ _ hf1)),rfl,_,_,rfl,rfl,rfl,_,rfl,?_⟩
  refine Z6 rfl ?_
  have b4:=b2.same S4;refine⟨_,rfl,p1,_,rfl,.tup (S4 _ _ e1),rfl,_,_,rfl,_,_,rfl,_,_,rfl,rfl,?_⟩
  have g4:HI H4 bd (.str nm2) none:=by
   rcases b4.kb.get nm2 with⟨_,g⟩|⟨e,x,e5,_⟩
   ·exact g
   ·rw[hno]at e5;cases e5
  refine⟨_,rfl,_,rfl,p,_,rfl,b4.h_buttons U,bd,_,rfl,g4,_,rfl,?_⟩
  refine qW ?_
  refine⟨_,rfl,p,rfl,b4.no,p,ta,hk,bd,lg,L.length,D,rfl,b4,_,rfl,?_⟩
  refine q9 (fun y=>absurd (Jx y) (by lia)) (fun _=>?_)
  refine⟨_,rfl,_,rfl,f2,_,_,_,rfl,rfl,Gu.of (S4 _ _ hf2),rfl,F6,fun t5 ht5=>?_⟩
  have u5:=Ge.upd (o:= .tup [.int age2,.int (c+1),.non]) ht5
  have b5:=b4.same u5;obtain⟨f0,hd,_⟩:=id b5.kb;have SQ:=SS.trans u5;obtain⟨H6,dp,m6,kb6⟩:=b5.kb.put nm2 (a:=t5) (e:=⟨age2,c+1,none⟩) (by have:=ok.nl;lia) ⟨.non,qc,rfl⟩
  refine⟨_,rfl,p,_,rfl,b5.h_buttons U,_,rfl,bd,H6,rfl,dp,?_⟩
  have b6:=b5.putK m6 kb6;have el6:=m6 _ _ (qX (zY (SQ _ _ el) hd (by intro z;cases z))) (SQ _ _ el)
  have nt5:NT [bd] _:=NT.one hd trivial
  have ro6:=(ro.same SQ).mv m6 nt5;refine⟨_,rfl,p,_,rfl,b6.h_log U,.inl ⟨rfl,_,Gq.of el6⟩,_,rfl,_,rfl,F6,fun r hr'=>?_⟩
  have u7:=Ge.upd (o:= .tup [.str "learn",.ref p1,.ref p2]) hr'
  have b7:=b6.same u7;refine⟨lg,_,_,rfl,rfl,u7 _ _ el6,by rw[Je,ro.1,JA];lia,?_⟩
  exact q _ (((SQ.mv.trans (m6.mono (fun c h z=>h (by rw[Jl.mp z];exact Jw ..)))).trans u7.mv).trans (Mv.upd1.mono (fun c h z=>h (by rw[Jl.mp z];exact JC _ (Jw ..))))) (GN.push (a:=⟨p,ta,hk,bd,lg⟩) b7 (u7 _ _ el6) (ro6.same u7) ((GC.mv m6 nt5 (qX (wS hd b5)) (GC.same SQ kr)).same u7) ⟨p1,p2,.inl qc,GK.same u7 (GK.mv m6 nt5 (GK.same SQ hp1)),GK.same u7 (GK.mv m6 nt5 (GK.same SQ hp2)),ok1,ok2⟩)
theorem fq(a:Io K C "twin_door" "Door.twin_door" Za ["self"])(T:GJ K mg tk)(U:HG K C)(xM:Mi P w K mg base C "Door" ["self","table","keys","near","far","most"] 1 (n5 K C)):Mf P w K mg base C "twin_door" ["self"] 3 (nR K C):=by
 refine a.mq HF fun f _ A _ s H vs Q E hr h=>?_
 ·obtain⟨⟨p,ta,hk,bd,lg⟩,D,L,rfl,⟨b,⟨rs,el,ro⟩,kr⟩,k8,q⟩:=h
  simp only at b el kr q
  refine⟨_,(qe (qA (i:=1) HF.nd rfl (Or.inl rfl) (nH xM hr.mo (qd (qN (qv 0)) (qd (qN (qv 0)) (qd (qN (qv 0)) (qd (qN (qv 0)) (qd (qN (qv 0)) qb)))))))
   (qe (zx (qv 1) (qN (qv 0)))
   (qe (zx (qv 1) (qH pB T.b_dict PyProof.Rows.boot_dict (qd (qN (qv 0)) qb)))
   (qe (zx (qv 1) (qH aA T.b_list D7 (qd (qN (qv 0)) qb)))
   (qf (qp (qv 1))))))),?_⟩
  refine⟨_,rfl,p,_,rfl,b.h_table U,_,rfl,p,_,rfl,b.h_house_keys U,_,rfl,p,_,rfl,b.h_near U,_,rfl,p,_,rfl,b.h_far U,_,rfl,p,_,rfl,b.h_most U,fun x dx nx ndx nex=>?_⟩
  have sJ:Ge H (Gh (Gh H dx (.own x)) x (.ins C dx [])):=(Ge.upd ndx).trans (Ge.upd (by rw[qi nex.symm];exact nx))
  refine⟨x,ta,hk,dx,D.near,D.far,D.most,D.t,D.kss,rfl,qc,.inr (Ge.sqt sJ b.tb),GC.same sJ kr,k8,fun ta' hk' bd0 lg0 H1 h1 h2 h3 mv dr krn=>⟨rfl,?_⟩⟩
  have S1:Ge H H1:=fun c o e=>mv c o (qX (qo e nx)) (sJ c o e)
  obtain⟨dx',e1⟩:=id dr.ob;obtain⟨as,eh1,_⟩:=id dr.ks;have nhx:hk'≠x:=zY eh1 e1 (by intro z;cases z)
  obtain⟨f0,hd,hbu,hpm,nd⟩:=id b.kb;have b1:=b.same S1;refine⟨_,rfl,p,_,rfl,b1.h_least_age U,_,rfl,x,_,rfl,iq U e1 D.least,?_⟩
  have S2:=S1.put (o:= .ins C dx' (dF ⟨D.t,D.kss,D.near,D.far,D.most,D.least,[]⟩ ta' hk' bd0 lg0)) nx
  have b2:=b.same S2;refine⟨_,rfl,p,_,rfl,b2.h_buttons U,bd,_,rfl,S2 _ _ hd,fun bd' hbd'=>?_⟩
  have nbx:bd'≠x:=(qo qc hbd').symm
  have fbd:H bd'=none:=aL hbd' S2
  have S3:=S2.put (o:= .dK (bG f0.1 f0.2)) fbd
  refine⟨_,rfl,x,_,rfl,mG U (by rw[qi nbx.symm];exact qc) bd',?_⟩
  have S4:=S3.put (o:= .ins C dx' (dF ⟨D.t,D.kss,D.near,D.far,D.most,D.least,[]⟩ ta' hk' bd' lg0)) nx
  have b4:=b.same S4;refine⟨_,rfl,p,_,rfl,b4.h_log U,lg,_,rfl,.inl (Gq.of (S4 _ _ el)),fun lg' hlg'=>?_⟩
  have nlx:lg'≠x:=(qo qc hlg').symm
  have flg:H lg'=none:=aL hlg' S4
  have S5:=S4.put (o:= .lst (rs.map V.ref)) flg
  refine⟨_,rfl,x,_,rfl,y8 U (by rw[qi nlx.symm];exact qc) lg',?_⟩
  have S6:=S5.put (o:= .ins C dx' (dF ⟨D.t,D.kss,D.near,D.far,D.most,D.least,[]⟩ ta' hk' bd' lg')) nx
  have e4b:_=some (HO.dK (bG f0.1 f0.2)):=(qi (o:= .ins C dx' (dF ⟨D.t,D.kss,D.near,D.far,D.most,D.least,[]⟩ ta' hk' bd' lg0)) nbx).trans (qc (H:=Gh H1 x (.ins C dx' (dF ⟨D.t,D.kss,D.near,D.far,D.most,D.least,[]⟩ ta' hk' bd0 lg0))) (a:=bd') (o:= .dK (bG f0.1 f0.2)))
  have nlb:lg'≠bd':=(qo e4b hlg').symm
  have nhb:hk'≠bd':=qo (by rw[qi nhx];exact eh1) hbd'
  have nhl:hk'≠lg':=qo (by rw[qi nhx,qi nhb,qi nhx];exact eh1) hlg'
  have M:Mv [x] H1 _:=(((Mv.upd1 (a:=x) (H:=H1) (o:= .ins C dx' (dF ⟨D.t,D.kss,D.near,D.far,D.most,D.least,[]⟩ ta' hk' bd0 lg0))).trans (Ge.upd (o:= .dK (bG f0.1 f0.2)) hbd').mv).trans (Mv.upd1 (o:= .ins C dx' (dF ⟨D.t,D.kss,D.near,D.far,D.most,D.least,[]⟩ ta' hk' bd' lg0)))).trans (Ge.upd (o:= .lst (rs.map V.ref)) hlg').mv
  have M6:=M.trans (Mv.upd1 (o:= .ins C dx' (dF ⟨D.t,D.kss,D.near,D.far,D.most,D.least,[]⟩ ta' hk' bd' lg')))
  have nt:NT [x] H1:=NT.one e1 trivial
  have eL6:∀(G:Hp) (o:HO),Gh (Gh G lg' (.lst (rs.map V.ref))) x o lg'=some (HO.lst (rs.map V.ref)):=fun G o=>by rw[qi nlx];exact qc
  refine⟨_,rfl,q ⟨x,ta',hk',bd',lg'⟩ _ S6 nx (aL h1 sJ) fbd flg ⟨⟨⟨dx',qc⟩,M6.sqt nt dr.tb,dr.ks.mv M6 nt (qX nhx),⟨f0,?_,fun e he=>(hbu e he).same S6,hpm,nd⟩,⟨rs,eL6 _ _,FG ro.1⟩,nhl.symm⟩,⟨rs,eL6 _ _,ro.same S6⟩,GC.mv M6 nt (qX nhx) krn⟩⟩
  rw[qi nbx,qi nlb.symm];exact e4b
theorem gp(a:Io K C "__init__" "Door.__init__" Q0 ["self","table","keys","near","far","most"])(T:GJ K mg tk)(U:HG K C):Mf P w K mg base C "__init__" ["self","table","keys","near","far","most"] 1 (kJ K C):=by
 refine a.mq bC fun f _ A _ s H vs Q E hr h=>?_
 ·obtain⟨p,a,b,dx,near,far,most,t,kss,rfl,hp,ha,hb,hl,q⟩:=h
  refine⟨_,(qe (zx (qv 0) (qH bb T.b_tuple JG (qd (qv 1) qb)))
   (qe (zx (qv 0) (zT (own:=["key"]) (fr:=[]) (js:=[]) rfl (ax (qv 2)) rfl (fun _ _ h=>nomatch h) rfl (cq rfl (by decide +kernel) (by decide +kernel) (by decide +kernel)) (fun _ _ _ _=>qh (i:=0) (show List.Nodup (["key"]:List Str)from by decide +kernel) rfl (Or.inl rfl) (.inr rfl)) (fun _ _ _ _=>(qH fw T.b_tuple JG (qd (qv 0) qb)))))
   (qe (zx (qv 0) (qv 3))
   (qe (zx (qv 0) (qv 4))
   (qe (zx (qv 0) (qv 5))
   (qe (zx (qv 0) qg)
   (qe (zx (qv 0) fJ)
   (qf (zx (qv 0) (zz qb)))))))))),?_⟩
  refine⟨_,rfl,a,_,rfl,ha,fun ta H2 s2 ht=>⟨_,rfl,p,_,rfl,zn U.cl (s2 _ _ hp) U.n_table 0,?_⟩⟩
  have e2:=s2 _ _ hp;have hb2:=(hb.same s2).upd (o:= .ins C dx [("table",.ref ta)]) e2
  obtain⟨as,eb,la,hks⟩:=hb2;have ht2:=eT (o:= .ins C dx [("table",.ref ta)]) e2 ht
  refine⟨_,rfl,b,rfl,⟨_,eb.up⟩,aM (K:=K) (xs:=as.map V.ref) (by rw[Je,la,JA];lia) (fun i ys H3=>Ge (Gh H2 p (.ins C dx [("table",.ref ta)])) H3/\∃bs:List Addr,ys=bs.map V.ref/\bs.length=i/\∀(j:Nat) (x:Addr) (ks:List Int),bs[j]? =some x->kss[j]? =some ks->Gu [] H3 x (ks.map V.int)) ⟨Ge.refl _,[],rfl,rfl,fun j x ks e=>by(cases e)⟩ (fun i ys H3 ⟨s3,_⟩=>(Ge.sqt s3 eb).up) ?_ ?_⟩
  ·rintro i ys H3 x hx hyl ⟨s3,bs,rfl,hbl,hbs⟩
   rw[Jo]at hx;cases ea:as[i]? with
   |none=>rw[ea]at hx;cases hx
   |some x0=>
    rw[ea]at hx
    obtain rfl:V.ref x0=x:=Jy hx
    have hi:i<kss.length:=by rw[<- la];exact(Jv.mp ea).1
    have hk0:=hks i x0 kss[i] ea (Jj hi);refine⟨_,rfl,x0,_,rfl,.inr (Ge.sqt s3 hk0).rd,fun l H4 s4 hl4=>⟨s3.trans s4,bs++[l],by simp,by simp [hbl],fun j y ks e1 e2'=>?_⟩⟩
    rw[F2]at e1;split at e1
    ·exact Ge.sqt s4 (hbs j y ks e1 e2')
    ·have hj:j-bs.length=0:=by
      cases hj:j-bs.length with
      |zero=>rfl
      |succ k=>rw[hj]at e1;cases e1
     rw[hj]at e1;cases e1
     have:j=i:=by lia
     subst this;rw[Jj hi]at e2';cases e2';exact .inl hl4
  ·rintro ys H3 hyl ⟨s3,bs,rfl,hbl,hbs⟩ hk hhk
   have u3:=Ge.upd (o:= .lst (bs.map V.ref)) hhk
   have e3:=u3 _ _ (s3 _ _ qc);refine⟨_,rfl,p,_,rfl,zn U.cl e3 U.n_house_keys 1,?_⟩
   refine⟨_,rfl,_,rfl,p,_,rfl,zn U.cl qc U.n_near 2,?_⟩
   refine⟨_,rfl,_,rfl,p,_,rfl,zn U.cl qc U.n_far 3,?_⟩
   refine⟨_,rfl,_,rfl,p,_,rfl,zn U.cl qc U.n_most 4,?_⟩
   refine⟨_,rfl,p,_,rfl,zn U.cl qc U.n_least_age 5,?_⟩
   refine fun bd hbd=>⟨_,rfl,p,_,rfl,zn U.cl (by rw[qi (qo qc hbd)];exact qc) U.n_buttons 6,?_⟩
   have nbd:=qo qc hbd;refine⟨F3,fun lg hlg=>⟨_,rfl,p,_,rfl,zn U.cl (by rw[qi (qo qc hlg)];exact qc) U.n_log 7,?_⟩⟩
   have nlg:=qo qc hlg;have m3:Mv [p] H H3:=((s2.mv (S:=[p])).trans Mv.upd1).trans s3.mv
   have nhk:hk≠p:=(qo (s3 _ _ qc) hhk).symm
   have m4:Mv [p] H (Gh H3 hk (.lst (bs.map V.ref))):=m3.trans u3.mv
   have M:∀o1 o2 o3 o4 o5,Mv [p] (Gh H3 hk (.lst (bs.map V.ref))) (Gh (Gh (Gh (Gh (Gh (Gh H3 hk (.lst (bs.map V.ref))) p o1) p o2) p o3) p o4) p o5):=fun o1 o2 o3 o4 o5=>(((Mv.upd1.trans Mv.upd1).trans Mv.upd1).trans Mv.upd1).trans Mv.upd1
   have M6:Mv [p] (Gh H3 hk (.lst (bs.map V.ref))) _:=(((M _ _ _ _ _).trans (Ge.upd hbd).mv).trans Mv.upd1).trans (Ge.upd (o:= .lst []) hlg).mv
   have M7:=M6.trans (Mv.upd1 (o:= .ins C dx (dF ⟨t,kss,near,far,most,0,[]⟩ ta hk bd lg)))
   have nt:NT [p] (Gh H3 hk (.lst (bs.map V.ref))):=NT.one e3 trivial
   have hbdlg:bd≠lg:=qo (by rw[qi nbd.symm];exact qc) hlg
   have KR:=GC.mv M7 nt (qX nhk) (show GC [] _ hk kss from⟨bs,qc,by rw[hbl,Je,la],fun j x ks e1 e2'=>Ge.sqt u3 (hbs j x ks e1 e2')⟩)
   refine q ta hk bd lg _ (m3.nfree (qX nhk) hhk) ((m4.trans (M _ _ _ _ _)).nfree (qX nbd.symm) hbd) ((m4.trans ((((M _ _ _ _ _).trans (Ge.upd hbd).mv).trans Mv.upd1))).nfree (qX nlg.symm) hlg) (m4.trans M7) ⟨⟨dx,qc⟩,?_,GC.up KR,?_,?_,?_⟩ KR
   ·exact M7.sqt nt (Ge.sqt u3 (Ge.sqt s3 ht2))
   ·exact⟨([],fun _=>0),by rw[qi nbd.symm,qi hbdlg,qi nbd.symm];exact qc,fun e he=>by(cases he),.refl _,FB⟩
   ·exact⟨[],by rw[qi nlg.symm];exact qc,Jf _⟩
   ·refine(qo (o:= .lst (bs.map V.ref)) ?_ hlg).symm
    rw[qi nhk];rw[qi (qo (o:= .lst (bs.map V.ref)) (by rw[qi nhk,qi nhk,qi nhk,qi nhk,qi nhk];exact qc) hbd)]
    rw[qi nhk,qi nhk,qi nhk,qi nhk,qi nhk];exact qc
theorem cD(a:Io K C "bounds_told" "Door.bounds_told" QD ["self"])(T:GJ K mg tk)(U:HG K C):Mf P w K mg base C "bounds_told" ["self"] 1 (cP K C):=by
 refine a.mq cG fun f _ A _ s H vs Q E hr h=>?_
 ·obtain⟨p,ta,hk,bd,lg,n,D,rfl,b,q⟩:=h
  refine⟨_,(qf (qp (qz (qd (qN (qv 0)) (qd (qN (qv 0)) (qd (qN (qv 0)) qb)))))),?_⟩
  exact⟨_,rfl,p,_,rfl,b.h_near U,_,rfl,p,_,rfl,b.h_far U,_,rfl,p,_,rfl,b.h_most U,F6,fun t ht=>q t _ (Ge.upd ht) qc⟩
theorem f7(a:Io K C "keys_now" "Door.keys_now" Zm ["self"])(T:GJ K mg tk)(U:HG K C):Mf P w K mg base C "keys_now" ["self"] 1 (oq K C):=by
 refine a.mq fV fun f _ A _ s H vs Q E hr h=>?_
 ·obtain⟨p,ta,hk,bd,lg,n,D,rfl,b,q⟩:=h
  refine⟨_,(qf (qp (qH bb T.b_tuple JG (qd (qN (qv 0)) qb)))),?_⟩
  obtain⟨as,eh,la,hks⟩:=id b.ks;refine⟨_,rfl,p,_,rfl,b.h_house_keys U,hk,_,rfl,.inl (Gq.of eh),fun t H2 s2 ht=>?_⟩
  exact q t as H2 s2 ht la fun i a ks e1 e2=>Ge.sqt s2 (hks i a ks e1 e2)
end
section
variable{P:Program}{w:World}{K:Frag}{mg:Gc}{base:Heap}{tk:Nat->Tok}{C:Addr}
theorem dz(a:Io K C "closed_now" "Door.closed_now" QQ ["self"])(T:GJ K mg tk)(U:HG K C):Mf P w K mg base C "closed_now" ["self"] 1 (i4 K C):=by
 refine a.mq cJ fun f _ A _ s H vs Q E hr h=>?_
 ·obtain⟨p,ta,hk,bd,lg,n,D,rfl,b,q⟩:=h
  refine⟨_,(qf (qp (qN (qv 0)))),?_⟩
  exact⟨_,rfl,p,_,rfl,b.h_least_age U,q⟩
end
section
variable{P:Program}{w:World}{K:Frag}{mg:Gc}{base:Heap}{tk:Nat->Tok}
theorem mN(a:At K mg "_law_take" cg ["_law_box_here","_law_many"])(T:GJ K mg tk):Df P w K mg base "_law_take" ["_law_box_here","_law_many"] 1 aa:=by
 refine a.dq GZ fun f _ A _ s H vs Q E hr h=>?_
 ·obtain⟨b,many,c,rfl,⟨n,m,k,hb,m0,m1,k0,k1⟩,hc,h0,h1,q⟩:=h
  refine⟨_,(qe (qG (qx wM (qE qK (qv 0) qg) qg (qu _)) (qe (qA (i:=2) GZ.nd rfl (Or.inl rfl) (qw Qe (qE qK (qv 0) qg) (qv 1)))
   (qe (zb (qw bH (qE qK (qv 0) qg) (qv 1)) (cH (qv 0) qg Zv))
   (qf (qp (qv 2))))) qy)
   (qe (zb (qw qJ (qE qK (qv 0) qg) qg) (cH (qv 0) qg Zv))
   (qe (qA (i:=3) GZ.nd rfl (Or.inl rfl) (qw qJ (qE qK (qv 0) qg) (qw Zn qg (qE qK (qv 0) qg))))
   (qe (zh JM rfl (zN rfl T.b_range (qd qg qb)) (qh (i:=4) GZ.nd rfl (Or.inl rfl))
   (qf (qA (i:=3) GZ.nd rfl (Or.inl rfl) (qw Qe (qw qJ (qw qJ (qw Zn (qv 3) (qv 3)) (qw Zn qg (qE qK (qv 0) qg))) qg) qg))))
   (qf (qp (qw Qe (qw bH (qv 3) qg) (qv 1)))))))),?_⟩
  refine⟨_,rfl,b,_,_,_,rfl,rfl,Gq.of hb,rfl,_,_,rfl,rfl,_,rfl,?_⟩
  refine q9 (fun _=>?_) (fun _=>?_)
  ·refine⟨_,rfl,b,_,_,_,rfl,rfl,Gq.of hb,rfl,_,rfl,_,_,rfl,rfl,h0,?_⟩
   refine⟨_,rfl,b,_,_,_,rfl,rfl,Gq.of hb,rfl,_,rfl,_,_,rfl,rfl,⟨h0,h1⟩,_,rfl,b,_,_,0,rfl,rfl,hb,rfl,?_⟩
   refine⟨_,rfl,?_⟩
   refine q _ _ (EM _ (by lia)) (EN _ h0) ⟨fun c o hc e=>?_,_,_,_,qc,m0,m1,k0,by lia⟩
   rw[qi hc];exact e
  ·refine⟨_,rfl,b,_,_,_,rfl,rfl,Gq.of hb,rfl,_,_,rfl,rfl,_,rfl,b,_,_,2,rfl,rfl,hb,rfl,?_⟩
   have hb2:(Gh H b (ra n m (k+1))) b=some (ra n m (k+1)):=qc
   refine⟨_,rfl,b,_,_,_,rfl,rfl,Gq.of hb2,rfl,_,rfl,b,_,_,_,rfl,rfl,Gq.of hb2,rfl,_,_,rfl,rfl,.inl ⟨by decide,by decide⟩,_,_,rfl,rfl,?_⟩
   refine⟨3,rfl,by decide,by decide,Qo (n:=3) (Pv:=fun i σ H2=>H2=Gh H b (ra n m (k+1))/\∃(z:Int) (o:Option V),σ=[some (.ref b),some (.int many),none,some (.int z),o]/\0<=z/\z<2 ^ 64) ⟨rfl,_,_,rfl,by lia,by lia⟩ ?_ ?_⟩
   ·rintro i σ H2 hi ⟨rfl,z,o,rfl,z0,z1⟩
    refine⟨_,rfl,_,rfl,_,_,rfl,rfl,.inl ⟨by lia,by lia⟩,_,rfl,b,_,_,_,rfl,rfl,Gq.of hb2,rfl,_,_,rfl,rfl,.inl ⟨by decide,by decide⟩,_,_,rfl,rfl,_,_,rfl,rfl,_,_,rfl,rfl,(by decide:(0:Int)<2305843009213693951),rfl,_,_,rfl,?_,?_⟩
    ·exact EM _ (by decide)
    ·exact Int.lt_trans (EN _ (by decide)) (by decide)
   ·rintro σ H2 ⟨rfl,z,o,rfl,z0,z1⟩
    refine⟨_,rfl,_,_,rfl,rfl,⟨by decide,by decide⟩,_,rfl,_,_,rfl,rfl,h0,?_⟩
    refine q _ _ (EM _ (by lia)) (EN _ h0) ⟨fun c o hc e=>?_,_,_,_,qc,m0,m1,by lia,by lia⟩
    rw[qi hc];exact e
theorem pM(a:At K mg "_law_box" dv ["_law_script","_law_k"])(T:GJ K mg tk):Df P w K mg base "_law_box" ["_law_script","_law_k"] 1 (tO K):=by
 refine a.dq GS fun f _ A _ s H vs Q E hr h=>?_
 ·obtain⟨b,ns,k,rfl,hS,q⟩:=h
  refine⟨_,(qe (zb (qz (qd qg (qd qg qb))) (gq rfl (qq (qh (i:=2) GS.nd rfl (Or.inl rfl)) (qq (qh (i:=3) GS.nd rfl (Or.inl rfl)) qO))))
   (qe (qG (qx eZ (qv 1) (qm qR T.b_len J1 (qd (qv 0) qb)) (qu _)) (qf (qA (i:=2) GS.nd rfl (Or.inl rfl) (qE qK (qv 0) (qv 1)))) qy)
   (qe (zh JM rfl (Qd (ZB mV (qv 0) Z8 (ae qg))) (qh (i:=4) GS.nd rfl (Or.inl rfl))
   (qf (qA (i:=3) GS.nd rfl (Or.inl rfl) (qw Qe (qw qJ (qw Zn (qv 3) qg) (qv 4)) qg))))
   (qf (qp (zz (qd (qw Zn (qm kT T.b_abs PyProof.Rows.boot_abs (qd (qv 2) qb)) (qH je T.b_int ER (qd (zj rh (qm kT T.b_abs PyProof.Rows.boot_abs (qd (qv 2) qb)) (qw AT qg qg) (qu _)) qb))) (qd (qw Qe (qw qJ (qw qJ (qw Zn (qv 3) qg) (qv 2)) (qw Zn qg (qv 1))) qg) (qd qg qb))))))))),?_⟩
  refine⟨F5,fun tp htp=>⟨tp,_,rfl,Gu.of qc,rfl,_,_,rfl,_,_,rfl,rfl,?_⟩⟩
  have s1:=Ge.upd (o:= .tup [.int 0,.int 7]) htp
  refine⟨_,rfl,_,rfl,b,_,rfl,.inl (s1.seq hS),_,_,rfl,rfl,_,rfl,?_⟩
  refine q9 (fun hk=>?_) (fun _=>?_)
  ·have hk':k<ns.length:=by have:=Jx hk;rw[Je]at this;lia
   refine⟨_,rfl,_,rfl,b,_,_,.int ns[k],rfl,rfl,s1.seq hS,Zc (by rw[Jo,Jj hk'];rfl),?_⟩
   refine⟨_,rfl,_,rfl,b,_,rfl,s1.seq hS,fun l hl=>⟨l,rfl,⟨_,Gq.of qc⟩,?_⟩⟩
   rw[bP];have s2:=s1.trans (Ge.upd (o:= .lst ((aI ns none (some 63)).map V.int)) hl)
   refine Qj (K:=K) (a:=l) (xs:=(aI ns none (some 63)).map V.int) (fun i σ H2=>H2=Gh (Gh H tp (.tup [.int 0,.int 7])) l (.lst ((aI ns none (some 63)).map V.int))/\∃(z:Int) (o:Option V),σ=[some (.ref b),some (.int (k:Int)),some (.int ns[k]),some (.int z),o]/\0<=z/\z<2147483647) ⟨rfl,_,_,rfl,by decide,by decide⟩ (fun i σ H2 _ ⟨e,_⟩=>by subst e;exact Gq.of qc) ?_ ?_
   ·rintro i x σ H2 hx ⟨rfl,z,o,rfl,z0,z1⟩
    obtain⟨y,rfl,hy⟩:=Qu hx;refine⟨_,rfl,_,_,rfl,rfl,.inr ⟨by decide,by decide⟩,_,rfl,_,_,rfl,rfl,_,_,rfl,rfl,(by decide:(0:Int)<2147483647),rfl,_,_,rfl,EM _ (by decide),EN _ (by decide)⟩
   ·rintro σ H2 ⟨rfl,z,o,rfl,z0,z1⟩
    refine⟨_,rfl,_,rfl,_,rfl,_,rfl,_,_,rfl,rfl,⟨by decide,by decide,by decide⟩,_,_,rfl,rfl,.inr ⟨_,rfl,?_⟩⟩
    refine⟨_,_,rfl,rfl,.inr ⟨rR _,tK _⟩,_,rfl,_,_,rfl,rfl,.inr ⟨by decide,by decide⟩,_,rfl,_,_,rfl,rfl,_,rfl,_,_,rfl,rfl,.inl ⟨by decide,by decide⟩,_,_,rfl,rfl,_,_,rfl,rfl,(by decide:(0:Int)<2305843009213693951),?_⟩
    exact⟨F6,fun p hp=>q _ _ (aL hp s2) (s2.trans (Ge.upd hp)) ⟨_,_,_,qc,EM _ (by decide),Int.lt_trans (EN _ (by decide)) (by decide),by decide,by decide⟩⟩
  ·refine⟨_,rfl,_,rfl,b,_,rfl,s1.seq hS,fun l hl=>⟨l,rfl,⟨_,Gq.of qc⟩,?_⟩⟩
   rw[bP];have s2:=s1.trans (Ge.upd (o:= .lst ((aI ns none (some 63)).map V.int)) hl)
   refine Qj (K:=K) (a:=l) (xs:=(aI ns none (some 63)).map V.int) (fun i σ H2=>H2=Gh (Gh H tp (.tup [.int 0,.int 7])) l (.lst ((aI ns none (some 63)).map V.int))/\∃(z:Int) (o:Option V),σ=[some (.ref b),some (.int (k:Int)),some (.int 0),some (.int z),o]/\0<=z/\z<2147483647) ⟨rfl,_,_,rfl,by decide,by decide⟩ (fun i σ H2 _ ⟨e,_⟩=>by subst e;exact Gq.of qc) ?_ ?_
   ·rintro i x σ H2 hx ⟨rfl,z,o,rfl,z0,z1⟩
    obtain⟨y,rfl,hy⟩:=Qu hx;refine⟨_,rfl,_,_,rfl,rfl,.inr ⟨by decide,by decide⟩,_,rfl,_,_,rfl,rfl,_,_,rfl,rfl,(by decide:(0:Int)<2147483647),rfl,_,_,rfl,EM _ (by decide),EN _ (by decide)⟩
   ·rintro σ H2 ⟨rfl,z,o,rfl,z0,z1⟩
    refine⟨_,rfl,_,rfl,_,rfl,_,rfl,_,_,rfl,rfl,⟨by decide,by decide,by decide⟩,_,_,rfl,rfl,.inr ⟨_,rfl,?_⟩⟩
    refine⟨_,_,rfl,rfl,.inr ⟨rR _,tK _⟩,_,rfl,_,_,rfl,rfl,.inr ⟨by decide,by decide⟩,_,rfl,_,_,rfl,rfl,_,rfl,_,_,rfl,rfl,.inl ⟨by decide,by decide⟩,_,_,rfl,rfl,_,_,rfl,rfl,(by decide:(0:Int)<2305843009213693951),?_⟩
    exact⟨F6,fun p hp=>q _ _ (aL hp s2) (s2.trans (Ge.upd hp)) ⟨_,_,_,qc,EM _ (by decide),Int.lt_trans (EN _ (by decide)) (by decide),by decide,by decide⟩⟩
theorem lr(a:At K mg "_law_table" bt ["_law_box_here"])(T:GJ K mg tk)(dA:Df P w K mg base "_law_take" ["_law_box_here","_law_many"] 1 aa):Df P w K mg base "_law_table" ["_law_box_here"] 2 j7:=by
 refine a.dq HZ fun f _ A _ s H vs Q E hr h=>?_
 ·obtain⟨b,c,rfl,hb,hc,q⟩:=h
  refine⟨_,(qe (qA (i:=1) HZ.nd rfl (Or.inr rfl) (qH (pA rfl) T.b_list D7 (qd (qH iH T.b_range PyProof.Rows.boot_range (qd qg qb)) qb)))
   (qf (qp (qH qZ T.b_tuple JG (qd (zT (own:=["_law_k"]) (fr:=["_law_rest","_law_box_here"]) (js:=[1,0]) rfl (zN rfl T.b_range (qd qg qb)) rfl (CL rfl rfl) rfl (BW rfl (by decide +kernel) (by decide +kernel) (by decide +kernel) rfl rfl rfl rfl rfl rfl) (fun _ _ _ _=>qh (i:=0) (show List.Nodup (["_law_k","_law_rest","_law_box_here"]:List Str)from by decide +kernel) rfl (Or.inl rfl) (.inr rfl)) (fun _ _ _ _=>(uS (K:=K) rfl Ei PySem.F.slot_list_pop PySem.F.type_list_pop kH (qv 1) (qd (qr dA hr.mo (qd (qv 2) (qd (qm (cx (K:=K) rfl) T.b_len J1 (qd (qv 1) qb)) qb))) qb)))) qb))))),?_⟩
  refine⟨_,rfl,fun r hr0=>⟨r,16,rfl,qc,by decide,fun l hl=>?_⟩⟩
  rw[Co];have s1:=(Ge.upd (o:= .rng 0 16) hr0).trans (Ge.upd (o:= .lst (GM.map V.int)) hl)
  have nlb:l≠b:=zr ((Ge.upd hr0).grc hb).bx hl
  refine⟨_,rfl,by decide,by decide,Z5 (n:=16) (by decide) (fun i ys H2=>Ij b (c+i) H H2/\∃ms zs:List Int,H2 l=some (.lst (ms.map V.int))/\ys=zs.map V.int/\ms.length+i=16/\(zs++ms).Perm GM) ⟨s1.grc hb,GM,[],qc,rfl,by rw[km],.refl _⟩ ?_ ?_⟩
  ·rintro i ys H2 hi hl2 ⟨G2,ms,zs,hm,rfl,hml,pm⟩
   refine⟨_,rfl,.inl ⟨rfl,_,Gq.of hm⟩,?_⟩
   refine⟨_,rfl,_,rfl,l,_,rfl,.inl (Gq.of hm),b,_,_,rfl,G2.bx,by lia,by rw[Je];lia,by rw[Je];lia,fun x H3 x0 x1 g3=>?_⟩
   rw[Je]at x1;obtain⟨k,rfl⟩:∃k:Nat,x=(k:Int):=⟨x.toNat,by lia⟩
   have hk:k<ms.length:=by lia
   have hm3:=g3.kp _ _ nlb hm;refine⟨l,_,_,k,.int ms[k],rfl,rfl,hm3,by lia,by lia,?_,?_,?_⟩
   ·rw[Je];exact c7 hk
   ·rw[Jo,Jj hk];rfl
   ·refine⟨⟨fun c o hcb e=>?_,?_⟩,ms.eraseIdx k,zs++[ms[k]],?_,by simp,?_,?_⟩
    ·by_cases z:c=l
     ·subst z
      rw[Ge.upd hr0 _ _ e]at hl;cases hl
     ·rw[qi z];exact g3.kp _ _ hcb (G2.kp _ _ hcb e)
    ·obtain⟨n,m,k',e,r⟩:=g3.bx
     exact⟨n,m,k',by rw[qi nlb.symm];exact e,r⟩
    ·rw[qc,oQ]
    ·rw[List.length_eraseIdx_of_lt hk];lia
    ·exact(wj hk).trans pm
  ·rintro ys H2 hyl ⟨G2,ms,zs,hm,rfl,hml,pm⟩ p hp
   have e0:ms=[]:=List.eq_nil_of_length_eq_zero (by lia)
   subst e0;rw[El]at pm;refine⟨p,_,rfl,.inl ⟨Gq.of qc,fun t ht=>?_⟩⟩
   have G3:=G2.same (Ge.upd (o:= .lst (zs.map V.int)) hp)
   exact q t zs _ (G3.same (Ge.upd ht)) (G3.fresh (hb.mono (by lia)) ht) qc pm
theorem pj(a:At K mg "_law_key" cN ["_law_box_here"])(T:GJ K mg tk)(dA:Df P w K mg base "_law_take" ["_law_box_here","_law_many"] 1 aa):Df P w K mg base "_law_key" ["_law_box_here"] 2 om:=by
 refine a.dq oO fun f _ A _ s H vs Q E hr h=>?_
 ·obtain⟨b,c,rfl,hb,hc,q⟩:=h
  refine⟨_,(qf (qp (qH qZ T.b_tuple JG (qd (zT (own:=["_law_k"]) (fr:=["_law_box_here"]) (js:=[0]) rfl (zN rfl T.b_range (qd (qw qJ qg (qr dA hr.mo (qd (qv 0) (qd qg qb)))) qb)) rfl (lN rfl) rfl (jZ rfl (by decide +kernel) (by decide +kernel) (by decide +kernel) rfl rfl rfl) (fun _ _ _ _=>qh (i:=0) (show List.Nodup (["_law_k","_law_box_here"]:List Str)from by decide +kernel) rfl (Or.inl rfl) (.inr rfl)) (fun _ _ _ _=>(qr dA hr.mo (qd (qv 1) (qd qg qb))))) qb)))),?_⟩
  refine⟨_,rfl,b,_,_,rfl,hb,by lia,by decide,by decide,fun r H1 r0 r1 g1=>⟨_,_,rfl,rfl,_,rfl,by lia,by lia,?_⟩⟩
  obtain⟨n,rfl,n8⟩:∃n:Nat,r=(n:Int)/\n<8:=⟨r.toNat,by lia,by lia⟩
  have en:(1+(n:Int)).toNat=n+1:=by lia
  rw[en];refine Z5 (n:=n+1) (JK (by lia:n+1<=8) (by decide)) (fun i ys H2=>Ij b (c+1+i) H H2/\∃ks:List Int,ys=ks.map V.int/\zC ks) ⟨g1,[],rfl,fun _ h=>nomatch h⟩ ?_ ?_
  ·rintro i ys H2 hi hl2 ⟨G2,ks,rfl,hk⟩
   refine⟨_,rfl,b,_,_,rfl,G2.bx,by lia,by decide,by decide,fun x H3 x0 x1 g3=>⟨G2.trans g3,ks++[x],by simp,fun z hz=>?_⟩⟩
   rcases JW.mp hz with y|y
   ·exact hk z y
   ·rw[Jl.mp y];exact⟨x0,x1⟩
  ·rintro ys H2 hyl ⟨G2,ks,rfl,hk⟩ p hp
   rw[Je]at hyl;refine⟨p,_,rfl,.inl ⟨Gq.of qc,fun t ht=>?_⟩⟩
   have G3:=G2.same (Ge.upd (o:= .lst (ks.map V.int)) hp)
   exact q t ks _ ((G3.same (Ge.upd ht)).mono (by lia)) (G3.fresh (hb.mono (by lia)) ht) qc hk (by lia) (by lia)
end
section
variable{P:Program}{w:World}{K:Frag}{mg:Gc}{base:Heap}{tk:Nat->Tok}
theorem jA(a:At K mg "back_table" aD ["table"])(T:GJ K mg tk):Df P w K mg base "back_table" ["table"] 1 (sW K):=by
 refine a.dq GW fun f _ A _ s H vs Q E hr h=>?_
 ·obtain⟨c,t,rfl,hS,pm,q⟩:=h
  refine⟨_,(qe (qA (i:=1) GW.nd rfl (Or.inl rfl) (qw ux (zz (qd qg qb)) (zd (v:= .int 16) rfl T.g_DIGITS ⟨_,rfl⟩)))
   (qe (zh JM rfl (vP rfl T.b_enumerate (qd (qv 0) qb)) (gq rfl (qq (qh (i:=2) GW.nd rfl (Or.inl rfl)) (qq (qh (i:=3) GW.nd rfl (Or.inl rfl)) qO)))
   (qf (zb (qv 2) (cH (qv 1) (qv 3) Zv))))
   (qf (qp (qH qZ T.b_tuple JG (qd (qv 1) qb)))))),?_⟩
  refine⟨F4,fun p hp=>⟨p,16,_,rfl,rfl,qc,by decide,by decide,Ga,fun l hl=>?_⟩⟩
  have e0:(List.replicate (16:Int).toNat [V.int 0]).flatten=(QP t 0).map V.int:=by rw[wu];rfl
  rw[e0];have s1:=(Ge.upd (o:= .lst [V.int 0]) hp)
  have s2:=s1.trans (Ge.upd (o:= .lst ((QP t 0).map V.int)) hl)
  have step:∀(i:Nat) (x:V) (H2:Hp) (pp:Addr),(t.map V.int)[i]? =some x->H2 l=some (.lst ((QP t i).map V.int))->Ge H H2->H2 pp=none->
    ∃j:Nat,∃z:Int,x= .int z/\cy ((QP t i).map V.int).length z=some j/\(Gh H2 pp (.tup [.int i,x])) l=some (.lst ((QP t i).map V.int))/\
     (Gh (Gh H2 pp (.tup [.int i,x])) l (.lst (((QP t i).map V.int).set j (.int i)))) l=some (.lst ((QP t (i+1)).map V.int))/\Ge H (Gh (Gh H2 pp (.tup [.int i,x])) l (.lst (((QP t i).map V.int).set j (.int i)))):=by
   intro i x H2 pp hx hm sm hpp;obtain⟨z,rfl,hz⟩:=Qu hx;have hi:i<t.length:=(Jv.mp hz).1
   have ez:t[i]=z:=(Jv.mp hz).2
   have bd:=kE pm hi;have sp:=Ge.upd (o:= .tup [.int i,.int z]) hpp
   refine⟨z.toNat,z,rfl,gZ (by lia) (by rw[Je,bD];lia),sp _ _ hm,?_,fun d o e=>?_⟩
   ·rw[qc,cr,<- ez,vA pm hi]
   ·have ndl:d≠l:=fun y=>by
     rw[y]at e;rw[s1 _ _ e]at hl;cases hl
    rw[qi ndl];exact sp _ _ (sm _ _ e)
  have fin:∀(o:Option V) (o':Option V) (H2:Hp),H2 l=some (.lst ((QP t t.length).map V.int))->Ge H H2->∀p',H2 p'=none->Q (.ref p') (Gh H2 p' (.tup ((QP t t.length).map V.int))):=fun _ _ H2 hm sm p' hp'=>
   q _ _ (sm.trans (Ge.upd hp')) (by rw[qc,yY pm])
  rcases hS with hS|hS
  ·refine⟨_,rfl,c,rfl,.inl ⟨⟨_,s2.seq hS⟩,?_⟩⟩
   refine jX (K:=K) (a:=c) (xs:=t.map V.int) (fun i σ H2=>∃(o2 o3:Option V),σ=[some (.ref c),some (.ref l),o2,o3]/\H2 l=some (.lst ((QP t i).map V.int))/\Ge H H2) ⟨none,none,rfl,qc,s2⟩ (fun i σ H2 _ ⟨_,_,_,_,sm⟩=>sm.seq hS) ?_ ?_
   ·rintro i x σ H2 pp hx ⟨o2,o3,rfl,hm,sm⟩ hpp
    obtain⟨j,z,rfl,hj,e1,e2,s3⟩:=step i x H2 pp hx hm sm hpp;refine⟨pp,_,rfl,Gu.of qc,rfl,_,_,rfl,_,_,rfl,rfl,?_⟩
    exact⟨_,rfl,_,rfl,_,rfl,l,_,_,j,rfl,rfl,e1,hj,_,_,rfl,e2,s3⟩
   ·rintro σ H2 ⟨o2,o3,rfl,hm,sm⟩
    rw[Je]at hm
    exact⟨_,rfl,l,_,rfl,.inl ⟨Gq.of hm,fin o2 o3 H2 hm sm⟩⟩
  ·refine⟨_,rfl,c,rfl,.inr ⟨⟨_,Ge.sqt s2 hS⟩,?_⟩⟩
   refine ul (K:=K) (a:=c) (xs:=t.map V.int) (fun i σ H2=>∃(o2 o3:Option V),σ=[some (.ref c),some (.ref l),o2,o3]/\H2 l=some (.lst ((QP t i).map V.int))/\Ge H H2) ⟨none,none,rfl,qc,s2⟩ (fun i σ H2 _ ⟨_,_,_,_,sm⟩=>Ge.sqt sm hS) ?_ ?_
   ·rintro i x σ H2 pp hx ⟨o2,o3,rfl,hm,sm⟩ hpp
    obtain⟨j,z,rfl,hj,e1,e2,s3⟩:=step i x H2 pp hx hm sm hpp;refine⟨pp,_,rfl,Gu.of qc,rfl,_,_,rfl,_,_,rfl,rfl,?_⟩
    exact⟨_,rfl,_,rfl,_,rfl,l,_,_,j,rfl,rfl,e1,hj,_,_,rfl,e2,s3⟩
   ·rintro σ H2 ⟨o2,o3,rfl,hm,sm⟩
    rw[Je]at hm
    exact⟨_,rfl,l,_,rfl,.inl ⟨Gq.of hm,fin o2 o3 H2 hm sm⟩⟩
theorem vj(a:At K mg "coded" gV ["table","key","digits"])(T:GJ K mg tk):Df P w K mg base "coded" ["table","key","digits"] 1 (gX K):=by
 refine a.dq HM fun f _ A _ s H vs Q E hr h=>?_
 ·obtain⟨a,b,c,t,ks,ds,rfl,ha,hb,hc,lt,l1,l64,q⟩:=h
  refine⟨_,(qe (qA (i:=3) HM.nd rfl (Or.inl rfl) (qH aA T.b_list D7 (qd (qv 2) qb)))
   (qe (zh JM rfl (CG (qv 1)) (qh (i:=4) HM.nd rfl (Or.inl rfl))
   (qf (zh JM rfl (zN rfl T.b_range (qd (qm qR T.b_len J1 (qd (qv 2) qb)) qb)) (qh (i:=5) HM.nd rfl (Or.inl rfl))
   (qe (qA (i:=6) HM.nd rfl (Or.inl rfl) (qE qK (qv 3) (qw Qf (qv 5) qg)))
   (qf (zb (qE (IV.or qK qP) (qv 0) (qw Qe (qw qJ (qw qJ (qw qJ (qE qK (qv 3) (qv 5)) (qv 4)) (qv 5)) (qv 6)) (zd (v:= .int 16) rfl T.g_DIGITS ⟨_,rfl⟩))) (cH (qv 3) (qv 5) Zv)))))))
   (qf (qp (qH qZ T.b_tuple JG (qd (qv 3) qb)))))),?_⟩
  refine⟨_,rfl,c,_,rfl,hc,fun l hl=>?_⟩
  have s1:Ge H _:=Ge.upd (o:= .lst (ds.map V.int)) hl
  refine⟨_,rfl,b,rfl,yo (K:=K) (H0:=H) hb (fun j σ H2=>Ge H H2/\∃o4 o5 o6,σ=[some (.ref a),some (.ref b),some (.ref c),some (.ref l),o4,o5,o6]/\H2 l=some (.lst ((QJ t (ks.take j) ds).map V.int))) ⟨s1,_,_,_,rfl,qc⟩ (fun j σ' H' h=>h.1) ?_ ?_⟩
  ·rintro j x σ H2 hx ⟨s2,o4,o5,o6,rfl,hm⟩
   obtain⟨shift,rfl,hks⟩:=Qu hx;rw[ib hks,k9];have hrl:(QJ t (ks.take j) ds).length=ds.length:=ca
   generalize QJ t (ks.take j) ds=r at hm hrl
   refine⟨_,rfl,c,_,rfl,hc.same s2,_,rfl,?_,?_,?_⟩
   ·lia
   ·rw[Je];lia
   rw[show((((ds.map V.int).length:Nat):Int)).toNat=ds.length by rw[Je];rfl]
   refine Qo (n:=ds.length) (Pv:=fun i σ H3=>Ge H H3/\∃o5 o6,σ=[some (.ref a),some (.ref b),some (.ref c),some (.ref l),some (.int shift),o5,o6]/\H3 l=some (.lst ((ZX t shift r i).map V.int))) ⟨s2,_,_,rfl,hm⟩ ?_ ?_
   ·rintro i σ H3 hi ⟨s3,o5,o6,rfl,hm3⟩
    have hrl3:(ZX t shift r i).length=ds.length:=by rw[QK,hrl]
    generalize hr':ZX t shift r i=r' at hm3 hrl3
    have hi':i<r'.length:=by lia
    refine⟨_,rfl,_,rfl,_,_,rfl,rfl,l,_,_,_,rfl,rfl,Gq.of hm3,tU (i:=i) (by lia) hi',?_⟩
    refine⟨_,rfl,_,rfl,_,rfl,l,_,_,_,rfl,rfl,Gq.of hm3,aB (i:=i) (by lia) hi',_,rfl,_,_,rfl,rfl,_,rfl,_,_,rfl,rfl,_,rfl,_,_,rfl,rfl,_,_,rfl,rfl,(by decide:(0:Int)<16),?_⟩
    have dm:=af (r'.getD i 0+shift+(0+(i:Int))+ah r' i)
    refine(ha.same s3).ix (aB (i:=((r'.getD i 0+shift+(0+(i:Int))+ah r' i)%16).toNat) (by have:=dm.1;lia) (by rw[lt];have:=dm.1;have:=dm.2;lia)) ?_
    refine⟨_,rfl,_,rfl,l,_,_,i,rfl,rfl,hm3,gZ (by lia) (by rw[Je];exact hi'),Zs s3 hl,_,_,rfl,?_⟩
    rw[qc,cr,ZX,hr',hX,Int.zero_add]
   ·rintro σ H3 ⟨s3,o5,o6,rfl,hm3⟩
    exact⟨s3,_,_,_,rfl,hm3⟩
  ·rintro σ H2 ⟨s2,o4,o5,o6,rfl,hm⟩
   rw[Je,EA]at hm
   exact⟨_,rfl,l,_,rfl,.inl ⟨Gq.of hm,fun p hp=>q p _ (s2.trans (Ge.upd hp)) (aL hp s2) qc⟩⟩
theorem oK(a:At K mg "decoded" cM ["table","key","digits"])(T:GJ K mg tk)(xN:Df P w K mg base "back_table" ["table"] 1 (sW K)):Df P w K mg base "decoded" ["table","key","digits"] 2 (io K):=by
 refine a.dq GP fun f _ A _ s H vs Q E hr h=>?_
 ·obtain⟨a,b,c,t,ks,ds,rfl,ha,hb,hc,pm,hdd,l1,l64,q⟩:=h
  refine⟨_,(qe (qA (i:=3) GP.nd rfl (Or.inl rfl) (qr xN hr.mo (qd (qv 0) qb)))
   (qe (qA (i:=4) GP.nd rfl (Or.inl rfl) (qH aA T.b_list D7 (qd (qv 2) qb)))
   (qe (zh JM rfl (sO rfl T.b_reversed (qd (qv 1) qb)) (qh (i:=5) GP.nd rfl (Or.inl rfl))
   (qf (zh JM rfl (sO rfl T.b_reversed (qd (qH iH T.b_range PyProof.Rows.boot_range (qd (qm qR T.b_len J1 (qd (qv 2) qb)) qb)) qb)) (qh (i:=6) GP.nd rfl (Or.inl rfl))
   (qe (qA (i:=7) GP.nd rfl (Or.inl rfl) (qE qK (qv 4) (qw Qf (qv 6) qg)))
   (qf (zb (qw Qe (qw Qf (qw Qf (qw Qf (qE qP (qv 3) (qE qK (qv 4) (qv 6))) (qv 5)) (qv 6)) (qv 7)) (zd (v:= .int 16) rfl T.g_DIGITS ⟨_,rfl⟩)) (cH (qv 4) (qv 6) Zv)))))))
   (qf (qp (qH qZ T.b_tuple JG (qd (qv 4) qb))))))),?_⟩
  refine⟨_,rfl,a,t,rfl,ha,pm,fun pb H1 s1 hpb=>?_⟩
  refine⟨_,rfl,c,_,rfl,hc.same s1,fun l hl=>?_⟩
  have s2:Ge H1 _:=Ge.upd (o:= .lst (ds.map V.int)) hl
  refine⟨_,rfl,b,rfl,vU (K:=K) (H0:=H1) (hb.same s1) (fun j σ H2=>Ge H1 H2/\∃o4 o5 o6,σ=[some (.ref a),some (.ref b),some (.ref c),some (.ref pb),some (.ref l),o4,o5,o6]/\H2 l=some (.lst ((Q8 (zD t) (ks.drop (ks.length-j)) ds).map V.int))) ⟨s2,_,_,_,rfl,by rw[Nat.sub_zero,List.drop_length];exact qc⟩ (fun j σ' H' h=>h.1) ?_ ?_⟩
  ·rintro j x σ H2 hj hx ⟨s2,o4,o5,o6,rfl,hm⟩
   obtain⟨shift,rfl,hks⟩:=Qu hx;rw[Je]at hj hks;have ed:ks.drop (ks.length-(j+1))=shift::ks.drop (ks.length-j):=by
    have:=tf hks
    rw[show ks.length-1-j+1=ks.length-j by lia]at this
    rw[show ks.length-(j+1)=ks.length-1-j by lia]
    exact this
   rw[ed,Q8];have hrl:(Q8 (zD t) (ks.drop (ks.length-j)) ds).length=ds.length:=fW
   have hrd:zC (Q8 (zD t) (ks.drop (ks.length-j)) ds):=kQ hdd
   generalize Q8 (zD t) (ks.drop (ks.length-j)) ds=r at hm hrl hrd
   refine⟨_,rfl,c,_,rfl,(hc.same s1).same s2,_,rfl,fun pr hpr=>⟨pr,rfl,.inr (.inr ⟨ds.length,?_,by lia,?_⟩)⟩⟩
   ·rw[qc,Je]
   have s2':=s2.trans (Ge.upd (o:= .rng 0 ((ds.map V.int).length:Nat)) hpr)
   have hm':=Ge.upd (o:= .rng 0 ((ds.map V.int).length:Nat)) hpr _ _ hm
   refine uY (n:=ds.length) (Pv:=fun i σ H3=>Ge H1 H3/\∃o5 o6 r',σ=[some (.ref a),some (.ref b),some (.ref c),some (.ref pb),some (.ref l),some (.int shift),o5,o6]/\H3 l=some (.lst (r'.map V.int))/\r'.length=ds.length/\zC r'/\ao (zD t) shift r' (ds.length-i)=ao (zD t) shift r ds.length) ⟨s2',_,_,r,rfl,hm',hrl,hrd,rfl⟩ ?_ ?_
   ·rintro i σ H3 hi ⟨s3,o5,o6,r',rfl,hm3,hrl3,hrd3,er⟩
    have hi':ds.length-1-i<r'.length:=by lia
    have ep:(ds.length:Int)-1-i=((ds.length-1-i:Nat):Int):=by lia
    rw[ep];generalize hpl:ds.length-1-i=pl at hi'
    rw[show ds.length-i=pl+1 by lia,ao]at er
    refine⟨_,rfl,_,rfl,_,_,rfl,rfl,l,_,_,_,rfl,rfl,Gq.of hm3,tU (i:=pl) rfl hi',?_⟩
    have dr:=gW hrd3 pl;refine⟨_,rfl,_,rfl,_,rfl,l,_,_,_,rfl,rfl,Gq.of hm3,aB (i:=pl) rfl hi',pb,_,_,_,rfl,rfl,Gu.of (s3 _ _ hpb),aB (i:=(r'.getD pl 0).toNat) (by have:=dr.1;lia) (by rw[aQ];have:=dr.1;have:=dr.2;lia),?_⟩
    refine⟨_,rfl,_,_,rfl,rfl,_,rfl,_,_,rfl,rfl,_,rfl,_,_,rfl,rfl,_,_,rfl,rfl,(by decide:(0:Int)<16),?_⟩
    refine⟨_,rfl,_,rfl,l,_,_,pl,rfl,rfl,hm3,mW (by rw[Je];exact hi'),Zs s3 hl,_,_,fX (zD t) shift r' pl,rfl,?_,by rw[jY];exact hrl3,j4 hrd3,?_⟩
    ·rw[qc,cr,fX]
    ·rw[show ds.length-(i+1)=pl by lia];exact er
   ·rintro σ H3 ⟨s3,o5,o6,r',rfl,hm3,hrl3,hrd3,er⟩
    rw[Nat.sub_self,ao]at er;rw[er]at hm3
    exact⟨s3,_,_,_,rfl,hm3⟩
  ·rintro σ H2 ⟨s2,o4,o5,o6,rfl,hm⟩
   rw[Je,Nat.sub_self,List.drop_zero]at hm
   exact⟨_,rfl,l,_,rfl,.inl ⟨Gq.of hm,fun p hp=>q p _ ((s1.trans s2).trans (Ge.upd hp)) (aL hp (s1.trans s2)) qc⟩⟩
theorem fD(a:At K mg "letter_digits" Zp ["name"])(T:GJ K mg tk):Df P w K mg base "letter_digits" ["name"] 1 jd:=by
 refine a.dq GF fun f _ A _ s H vs Q E hr h=>?_
 ·obtain⟨z,rfl,hz,q⟩:=h
  refine⟨_,(qe (qA (i:=1) GF.nd rfl (Or.inl rfl) (zz qb))
   (qe (zh JM rfl (uu (qv 0)) (qh (i:=2) GF.nd rfl (Or.inl rfl))
   (qe (qA (i:=3) GF.nd rfl (Or.inl rfl) (qw Qf (qm lc T.b_ord PyProof.Rows.boot_ord (qd (qv 2) qb)) (qm lc T.b_ord PyProof.Rows.boot_ord (qd qB qb))))
   (qe (zJ (ZM Ei EY EZ Qp (qv 1) (qd (qw Qe (qv 3) (zd (v:= .int 16) rfl T.g_DIGITS ⟨_,rfl⟩)) qb)))
   (qf (zJ (ZM Ei EY EZ Qp (qv 1) (qd (qw bH (qv 3) (zd (v:= .int 16) rfl T.g_DIGITS ⟨_,rfl⟩)) qb)))))))
   (qf (qp (qv 1))))),?_⟩
  refine⟨F3,fun l hl=>?_⟩
  refine⟨_,rfl,z,rfl,kU hz,yh (fun i σ H2=>Ge H H2/\∃o2 o3,σ=[some (.str z),some (.ref l),o2,o3]/\H2 l=some (.lst ((Q3 (z.cps.toList.take i)).map V.int))) ⟨Ge.upd hl,_,_,rfl,qc⟩ ?_ ?_⟩
  ·rintro i c σ H2 hc ⟨s2,o2,o3,rfl,hm⟩
   have hc':=oH hc;rw[As hc',sT];have hln:(Q3 (z.cps.toList.take i)).length<=16:=by rw[iI,Eu];have:=hz.2.2;lia
   generalize Q3 (z.cps.toList.take i)=ds at hm hln
   have eX:((((⟨#[c]⟩:Str).cps.getD 0 0:Nat):Int)-((("a":Str).cps.getD 0 0:Nat):Int))=(c:Int)-97:=rfl
   have big:(100:Nat)<sizeLine:=by decide
   refine⟨_,rfl,_,rfl,rfl,_,rfl,rfl,_,_,rfl,rfl,?_⟩
   show fL _ _ _ [some (V.str z),some (V.ref l),some (V.str ⟨#[c]⟩),some (V.int ((c:Int)-97))] H2
   refine⟨_,rfl,.inl ⟨rfl,_,Gq.of hm⟩,_,rfl,_,_,rfl,rfl,(by decide:(0:Int)<16),l,_,_,rfl,rfl,hm,by rw[Je];lia,?_⟩
   have w1:Ge H (Gh H2 l (.lst (ds.map V.int++[V.int (((c:Int)-97)%16)]))):=Zs s2 hl
   refine⟨_,rfl,.inl ⟨rfl,_,Gq.of qc⟩,_,rfl,_,_,rfl,rfl,⟨by decide,by decide⟩,l,_,_,rfl,rfl,qc,by rw[JD,Je,EG];lia,Zs w1 hl,_,_,rfl,?_⟩
   rw[qc,JN,Ew];rfl
  ·rintro σ H2 ⟨s2,o2,o3,rfl,hm⟩
   rw[show z.cps.size=z.cps.toList.length from rfl,EA]at hm
   exact⟨_,rfl,q l H2 s2 hl hm⟩
theorem tY(a:At K mg "key_of" f6 ["table","key","name"])(T:GJ K mg tk)(xF:Df P w K mg base "letter_digits" ["name"] 1 jd)(xL:Df P w K mg base "coded" ["table","key","digits"] 1 (gX K)):Df P w K mg base "key_of" ["table","key","name"] 2 (gK K):=by
 refine a.dq HP fun f _ A _ s H vs Q E hr h=>?_
 ·obtain⟨a,b,z,t,ks,rfl,ha,hb,hz,lt,q⟩:=h
  refine⟨_,(qe (qA (i:=3) HP.nd rfl (Or.inl rfl) (qw ux (zz (qd qg qb)) (zd (v:= .int 4) rfl T.g_KEY_PLACES ⟨_,rfl⟩)))
   (qe (zh JM rfl (yy rfl T.b_enumerate (qd (qr xF hr.mo (qd (qv 2) qb)) qb)) (gq rfl (qq (qh (i:=4) HP.nd rfl (Or.inl rfl)) (qq (qh (i:=5) HP.nd rfl (Or.inl rfl)) qO)))
   (qf (yt (qv 3) (qw Qe (qv 4) (zd (v:= .int 4) rfl T.g_KEY_PLACES ⟨_,rfl⟩)) wm (qv 5) Cc Zv)))
   (qf (qp (qr xL hr.mo (qd (qv 0) (qd (qv 1) (qd (zT (own:=["total"]) (fr:=[]) (js:=[]) rfl (Qd (qv 3)) rfl (fun _ _ h=>nomatch h) rfl (cq rfl (by decide +kernel) (by decide +kernel) (by decide +kernel)) (fun _ _ _ _=>qh (i:=0) (show List.Nodup (["total"]:List Str)from by decide +kernel) rfl (Or.inl rfl) (.inr rfl)) (fun _ _ _ _=>(qw Qe (qv 0) (zd (v:= .int 16) rfl T.g_DIGITS ⟨_,rfl⟩)))) qb)))))))),?_⟩
  refine⟨F4,fun p0 hp0=>⟨p0,4,_,rfl,rfl,qc,by decide,by decide,F7,fun l hl=>?_⟩⟩
  have s1:=(Ge.upd (o:= .lst [V.int 0]) hp0)
  have s2:=s1.trans (Ge.upd (o:= .lst (List.replicate (4:Int).toNat [V.int 0]).flatten) hl)
  have hlH:H l=none:=aL hl s1
  refine⟨_,rfl,z,rfl,hz,fun ld H1 s3 hldn hld=>?_⟩
  have hm1:=s3 _ _ (qc (H:=Gh H p0 (.lst [V.int 0])) (a:=l) (o:= .lst (List.replicate (4:Int).toNat [V.int 0]).flatten))
  have ndl:ld≠l:=fun y=>by rw[y,qc]at hldn;cases hldn
  generalize hds:Q3 z.cps.toList=ds at hld q
  have hdl:ds.length<=16:=by rw[<- hds,iI];have:=hz.2.2;lia
  refine⟨ld,rfl,⟨_,Gq.of hld⟩,jX (K:=K) (a:=ld) (xs:=ds.map V.int) (fun i σ H2=>∃(o4 o5:Option V),σ=[some (.ref a),some (.ref b),some (.str z),some (.ref l),o4,o5]/\H2 l=some (.lst ((ZL ds i).map V.int))/\H2 ld=some (.lst (ds.map V.int))/\Ge H H2)
   ⟨none,none,rfl,hm1,hld,s2.trans s3⟩ (fun i σ H2 _ ⟨_,_,_,_,hd,_⟩=>Gq.of hd) ?_ ?_⟩
  ·rintro i x σ H2 pp hx ⟨o4,o5,rfl,hm,hd2,sm⟩ hpp
   obtain⟨dg,rfl,hz'⟩:=Qu hx;have hi:i<ds.length:=(Jv.mp hz').1
   have eg:ds.getD i 0=dg:=by rw[JF,hz'];rfl
   have sp2:=Ge.upd (o:= .tup [.int i,.int dg]) hpp
   have hm':=sp2 _ _ hm;have h4:i%4<(ZL ds i).length:=Nat.mod_lt i (by decide)
   have e4:(i:Int)%4=((i%4:Nat):Int):=by lia
   refine⟨pp,_,rfl,Gu.of qc,rfl,_,_,rfl,_,_,rfl,rfl,?_⟩
   refine⟨_,rfl,_,rfl,_,_,rfl,rfl,(by decide:(0:Int)<4),l,_,i%4,.int ((ZL ds i).getD (i%4) 0),rfl,(by show V.int ((i:Int)%4)=_;rw[e4]),hm',?_,_,rfl,_,_,rfl,rfl,l,_,_,i%4,rfl,rfl,hm',gZ e4 (by rw[Je];exact h4),_,_,rfl,?_,?_,?_⟩
   ·rw[gJ h4,JF,Jj h4];rfl
   ·rw[qc,cr,<- eg,uI]
   ·rw[qi ndl];exact sp2 _ _ hd2
   ·exact Zs (sm.trans sp2) hlH
  ·rintro σ H2 ⟨o4,o5,rfl,hm,hd2,sm⟩
   rw[Je]at hm;refine⟨_,rfl,_,rfl,_,rfl,l,rfl,⟨_,Gq.of hm⟩,aX (xs:=(ZL ds ds.length).map V.int) (F7) (fun i ys H3=>ys=((br ds).take i).map V.int/\H3=H2) ⟨by simp,rfl⟩ (fun i ys H3 ⟨_,e⟩=>by rw[e];exact Gq.of hm) ?_ ?_⟩
   ·rintro i ys H3 x hx _ ⟨rfl,rfl⟩
    obtain⟨y,rfl,hy⟩:=Qu hx;refine⟨_,rfl,_,_,rfl,rfl,(by decide:(0:Int)<16),?_,rfl⟩
    have:(br ds)[i]? =some (y%16):=by unfold br;rw[Jo,hy];rfl
    rw[Eh,this];simp
   ·rintro ys H3 hyl ⟨rfl,rfl⟩ p hp
    rw[show(br ds).take ((ZL ds ds.length).map V.int).length=br ds from rfl]
    have su:=Ge.upd (o:= .lst ((br ds).map V.int)) hp
    exact⟨a,b,p,t,ks,br ds,rfl,(ha.same sm).same su,(hb.same sm).same su,.lst qc,lt,by rw[ki];decide,by rw[ki];decide,fun p' H' s' hn' hp'=>q p' H' ((sm.trans su).trans s') (aL hn' (sm.trans su)) hp'⟩
theorem gk(a:At K mg "count_digits" Zx ["count"])(T:GJ K mg tk):Df P w K mg base "count_digits" ["count"] 1 Bz:=by
 refine a.dq gd fun f _ A _ s H vs Q E hr h=>?_
 ·obtain⟨c,rfl,q⟩:=h
  refine⟨_,(qf (qp (qz (qd (qw Qe (qv 0) (zd (v:= .int 16) rfl T.g_DIGITS ⟨_,rfl⟩)) (qd (qw Qe (qw bH (qv 0) (zd (v:= .int 16) rfl T.g_DIGITS ⟨_,rfl⟩)) (zd (v:= .int 16) rfl T.g_DIGITS ⟨_,rfl⟩)) (qd (qw bH (qv 0) qg) qb)))))),?_⟩
  exact⟨_,rfl,_,_,rfl,rfl,(by decide:(0:Int)<16),_,rfl,_,_,rfl,rfl,⟨by decide,by decide⟩,_,_,rfl,rfl,(by decide:(0:Int)<16),_,rfl,_,_,rfl,rfl,⟨by decide,by decide⟩,F6,fun p hp=>q p _ (Ge.upd hp) qc⟩
theorem AC{c d:Int}(h0:0<=c)(h1:c<4096)(hd:aW d):∀z∈Z0 c d,0<=z/\z<=1000000:=fun z hz=>by
 have:=fI h0 h1 hd z (Fe _ hz)
 exact⟨this.1,Int.le_trans (Int.le_of_lt this.2) (by decide)⟩
theorem mf(a:At K mg "press_of" bZ ["table","key","name","age","count","deed"])(T:GJ K mg tk)(xG:Df P w K mg base "count_digits" ["count"] 1 Bz)(xH:Df P w K mg base "key_of" ["table","key","name"] 2 (gK K))(xL:Df P w K mg base "coded" ["table","key","digits"] 1 (gX K)):Df P w K mg base "press_of" ["table","key","name","age","count","deed"] 3 (nV K):=by
 refine a.dq HN fun f _ A _ s H vs Q E hr h=>?_
 ·obtain⟨a,b,z,age,c,d,t,ks,rfl,ha,hb,hz,lt,c0,c1,hd,q⟩:=h
  refine⟨_,(qe (qA (i:=6) HN.nd rfl (Or.inl rfl) (qw Z9 (qr xG hr.mo (qd (qv 4) qb)) (qz (qd (qv 5) qb))))
   (qe (qA (i:=7) HN.nd rfl (Or.inl rfl) (qw Z9 (qv 6) (qz (qd (qw Qe (qm (sF rfl) T.b_sum PyProof.Rows.boot_sum (qd (qv 6) qb)) (zd (v:= .int 16) rfl T.g_DIGITS ⟨_,rfl⟩)) qb))))
   (qf (qp (qz (qd (qv 2) (qd (qv 3) (qd (qr xL hr.mo (qd (qv 0) (qd (qr xH hr.mo (qd (qv 0) (qd (qv 1) (qd (qv 2) qb)))) (qd (qv 7) qb)))) qb)))))))),?_⟩
  refine⟨_,rfl,c,rfl,fun p1 H1 s1 hp1=>?_⟩
  refine⟨_,rfl,F4,fun p2 hp2=>?_⟩
  have u2:=Ge.upd (o:= .tup [V.int d]) hp2
  refine⟨p1,p2,_,_,rfl,rfl,u2 _ _ hp1,qc,F7,fun p3 H3 s3 hp3=>?_⟩
  have hp3':H3 p3=some (.tup ((Z0 c d).map V.int)):=hp3
  have S3:=(s1.trans u2).trans s3;refine⟨_,rfl,_,rfl,p3,Z0 c d,rfl,.tup hp3',by show 4<=1000;decide,AC c0 c1 hd,_,_,rfl,rfl,(by decide:(0:Int)<16),F4,fun p4 hp4=>?_⟩
  have u4:=Ge.upd (o:= .tup [V.int ((Z0 c d).sum%16)]) hp4
  refine⟨p3,p4,_,_,rfl,rfl,u4 _ _ hp3',qc,F8,fun p5 H5 s5 hp5=>?_⟩
  have hp5':H5 p5=some (.tup ((Z1 c d).map V.int)):=hp5
  have S5:=(S3.trans u4).trans s5;refine⟨_,rfl,_,rfl,_,rfl,_,rfl,_,rfl,_,rfl,a,b,z,t,ks,rfl,ha.same S5,hb.same S5,hz,lt,fun pk H6 s6 _ hpk=>?_⟩
  refine⟨_,rfl,a,pk,p5,t,il t ks z,Z1 c d,rfl,(ha.same S5).same s6,.tup hpk,.tup (s6 _ _ hp5'),lt,by rw[ci];decide,by rw[ci];decide,fun pc H7 s7 _ hpc=>?_⟩
  refine⟨F6,fun p hp=>?_⟩
  have u8:=Ge.upd (o:= .tup [V.str z,.int age,.ref pc]) hp
  exact q p pc _ (((S5.trans s6).trans s7).trans u8) qc (u8 _ _ hpc)
theorem jy(a:At K mg "read_press" aG ["table","key","press"])(T:GJ K mg tk)(xH:Df P w K mg base "key_of" ["table","key","name"] 2 (gK K))(yG:Df P w K mg base "decoded" ["table","key","digits"] 2 (io K)):Df P w K mg base "read_press" ["table","key","press"] 3 (j5 K):=by
 refine a.dq Gw fun f _ A _ s H vs Q E hr h=>?_
 ·obtain⟨a,b,pr,pc,z,age,t,ks,ds,rfl,ha,hb,hpr,hpc,hz,pm,l5,hdd,q⟩:=h
  refine⟨_,(qe (zb (qv 2) (zi rfl (qq (qh (i:=3) Gw.nd rfl (Or.inl rfl)) (qq (qh (i:=4) Gw.nd rfl (Or.inl rfl)) (qq (qh (i:=5) Gw.nd rfl (Or.inl rfl)) qO)))))
   (qe (zb (qr yG hr.mo (qd (qv 0) (qd (qr xH hr.mo (qd (qv 0) (qd (qv 1) (qd (qv 3) qb)))) (qd (qv 5) qb)))) (gq rfl (qq (qh (i:=6) Gw.nd rfl (Or.inl rfl)) (qq (qh (i:=7) Gw.nd rfl (Or.inl rfl)) (qq (qh (i:=8) Gw.nd rfl (Or.inl rfl)) (qq (qh (i:=9) Gw.nd rfl (Or.inl rfl)) (qq (qh (i:=10) Gw.nd rfl (Or.inl rfl)) qO)))))))
   (qe (qG (qx ZJ (qv 10) (qw Qe (qw qJ (qw qJ (qw qJ (qv 6) (qv 7)) (qv 8)) (qv 9)) (zd (v:= .int 16) rfl T.g_DIGITS ⟨_,rfl⟩)) (qu _)) (qf (qp qM)) qy)
   (qf (qp (qz (qd (qw qJ (qw qJ (qv 6) (qw Zn (qv 7) (zd (v:= .int 16) rfl T.g_DIGITS ⟨_,rfl⟩))) (qw Zn (qv 8) qg)) (qd (qv 9) qb)))))))),?_⟩
  refine⟨_,rfl,pr,_,rfl,hpr,rfl,_,_,rfl,_,_,rfl,_,_,rfl,rfl,?_⟩
  refine⟨_,rfl,_,rfl,_,rfl,_,rfl,a,b,z,t,ks,rfl,ha,hb,hz,nU pm,fun pk H1 s1 _ hpk=>?_⟩
  refine⟨_,rfl,a,pk,pc,t,il t ks z,ds,rfl,ha.same s1,.tup hpk,hpc.same s1,pm,hdd,by lia,by lia,fun pd H2 s2 _ hpd=>?_⟩
  have q':∀x H',Ge H2 H'->cX H' x (jJ (Q8 (zD t) (il t ks z) ds))->Q x H':=fun x H' s' ht=>q x H' ((s1.trans s2).trans s') ht
  have hl:(Q8 (zD t) (il t ks z) ds).length=5:=by rw[fW,l5]
  obtain⟨lo,mi,hi,de,ck,er⟩:=Aq hl;rw[er]at hpd q';refine⟨pd,_,rfl,Gu.of hpd,rfl,_,_,rfl,_,_,rfl,_,_,rfl,_,_,rfl,_,_,rfl,rfl,?_⟩
  refine⟨_,rfl,_,rfl,_,rfl,_,_,rfl,rfl,_,rfl,_,_,rfl,rfl,_,rfl,_,_,rfl,rfl,_,_,rfl,rfl,(by decide:(0:Int)<16),rfl,_,rfl,?_⟩
  have q2:∀x H',Ge H2 H'->cX H' x (if ck=(lo+mi+hi+de)%16 then some (lo+mi*16+hi*256,de)else none)->Q x H':=q'
  by_cases e:ck=(lo+mi+hi+de)%16
  ·rw[Jc e]at q2
   refine Z6 (c:=V.int ck=V.int ((lo+mi+hi+de)%16)) (by rw[e]) ?_
   refine⟨_,rfl,_,rfl,_,_,rfl,rfl,.inr ⟨by decide,by decide⟩,_,_,rfl,rfl,_,rfl,_,_,rfl,rfl,.inr ⟨by decide,by decide⟩,_,_,rfl,rfl,_,rfl,F5,fun p hp=>?_⟩
   exact q2 _ _ (Ge.upd hp) ⟨p,rfl,qc⟩
  ·rw[Jd e]at q2
   refine q9 (fun _=>q2 _ _ (Ge.refl _) rfl) (fun y=>absurd ?_ y)
   have:¬V.int ck=V.int ((lo+mi+hi+de)%16):=fun w'=>e (by injection w')
   show(!decide (V.int ck=V.int ((lo+mi+hi+de)%16)))=true
   rw[Jn this];rfl
end
end Lw
namespace L3
open PySem PySem.Spec PyProof.Rows L2
structure GO(t:List Int)(kss:List (List Int))(base:Int)(D:Dr):Prop where
 ok:Ip D
 t:D.t=t
 ks:D.kss=kss
 k1:1<=kss.length
 n0:1<=D.near
 n1:D.near<=4
 f0:D.near<=D.far
 f1:D.far<=12
 ms:D.most=12
 lk:D.least<kss.length
 nm:∀e∈D.kn,Qy e.1
 kb:∀e∈D.kn,HL D e.2/\base<e.2.last/\e.2.last<=base+23
section
variable{t:List Int}{kss:List (List Int)}{base:Int}{D:Dr}{nm:Str}{age c:Int}
theorem GO.learn(h:GO t kss base D)(hn:Qy nm)(hl:D.kn.length<=11)(a0:0<=age)(a1:age<kss.length)(c0:1<=c)(c1:c<4096)(b0:base<c)(b1:c<=base+23):GO t kss base {D with kn:=ze D.kn nm ⟨age,c,none⟩}:=by
 have hle:=jQ D.kn nm ⟨age,c,none⟩;have k:HL {D with kn:=ze D.kn nm ⟨age,c,none⟩} ⟨age,c,none⟩:=⟨a0,by show age<(D.kss.length:Int);rw[h.ks];exact a1,c0,c1,fun x y z=>by cases z⟩
 refine⟨⟨h.ok.tp,h.ok.l0,h.ok.kl,by show(ze _ _ _).length<=60;lia,gL h.ok.nd _ _⟩,h.t,h.ks,h.k1,h.n0,h.n1,h.f0,h.f1,h.ms,h.lk,fun e he=>?_,fun e he=>?_⟩
 ·rcases cu he with he|rfl
  ·exact h.nm e he
  ·exact hn
 ·rcases cu he with he|rfl
  ·exact⟨(h.kb e he).1.mono (Jf _),(h.kb e he).2⟩
  ·exact⟨k,b0,b1⟩
theorem pV{D:Dr}{nm:Str}{age c:Int}:zX D nm age c=D.kn\/∃e,D.kn.lookup nm=some e/\qT D e age=true/\zX D nm age c=ze D.kn nm (zu D.near D.far e age c).2:=by
 unfold zX zo;cases e1:D.kn.lookup nm with
 |none=>exact .inl rfl
 |some e=>
  simp only
  by_cases ht:qT D e age=true
  ·rw[Jc ht]
   exact .inr ⟨e,rfl,ht,by split<;>rfl⟩
  ·rw[Jd ht];exact .inl rfl
theorem GO.hear(h:GO t kss base D)(c0:0<=c)(c1:c<4096)(b1:c<=base+23):GO t kss base {D with kn:=zX D nm age c}/\(zX D nm age c).map (·.1)=D.kn.map (·.1):=by
 rcases pV (D:=D) (nm:=nm) (age:=age) (c:=c)with e|⟨e,he,ht,ek⟩
 ·rw[e];exact⟨h,rfl⟩
 ·rw[ek]
  have hin:=zv he;have hk:=(h.kb _ hin).1;have hb:=(h.kb _ hin).2;simp only at hb
  obtain⟨a0,a1⟩:=ZO ht h.ok.l0;have hm:nm∈D.kn.map (·.1):=JB.mpr ⟨_,hin,rfl⟩
  have hl:=mC (e:=(zu D.near D.far e age c).2) hm
  have ks:=lz hk (bY ht) a1 c0 c1;have lst:(zu D.near D.far e age c).2.last=e.last\/((zu D.near D.far e age c).2.last=c/\e.last<c):=by
   unfold zu;split
   ·exact .inl rfl
   ·split
    ·exact .inr ⟨rfl,by lia⟩
    ·split
     ·split
      ·exact .inr ⟨rfl,by lia⟩
      ·exact .inl rfl
     ·exact .inl rfl
  refine⟨⟨⟨h.ok.tp,h.ok.l0,h.ok.kl,by show(ze _ _ _).length<=60;rw[hl];exact h.ok.nl,gL h.ok.nd _ _⟩,h.t,h.ks,h.k1,h.n0,h.n1,h.f0,h.f1,h.ms,h.lk,fun x hx=>?_,fun x hx=>?_⟩,pC he⟩
  ·rcases cu hx with hx|rfl
   ·exact h.nm x hx
   ·exact h.nm (nm,e) hin
  ·rcases cu hx with hx|rfl
   ·exact⟨(h.kb x hx).1.mono (Jf _),(h.kb x hx).2⟩
   ·refine⟨ks.mono (Jf _),?_⟩
    show base<(zu D.near D.far e age c).2.last/\(zu D.near D.far e age c).2.last<=base+23
    rcases lst with l|⟨l,q⟩
    ·rw[l];exact hb
    ·rw[l];lia
theorem GO.close{a:Int}(h:GO t kss base D)(a1:a<kss.length):GO t kss base {D with least:=if a>D.least then a else D.least}:=by
 have lk:=h.lk;have l0:=h.ok.l0
 exact⟨⟨h.ok.tp,(by show 0<=if a>D.least then a else D.least;split<;>lia),h.ok.kl,h.ok.nl,h.ok.nd⟩,h.t,h.ks,h.k1,h.n0,h.n1,h.f0,h.f1,h.ms,(by show(if a>D.least then a else D.least)<(kss.length:Int);split<;>lia),h.nm,fun e he=>⟨(h.kb e he).1.mono (Jf _),(h.kb e he).2⟩⟩
theorem cY{d:Int}(tp:t.Perm GM)(hn:Qy nm)(c0:0<=c)(c1:c<4096)(hd:aW d):Iw (Qv t kss nm age c d):=⟨hn,rV ..,vn tp c0 c1 hd⟩
theorem kz{d:Int}(h:GO t kss base D)(c0:0<=c)(c1:c<4096)(hd:aW d):Z7 D (Qv t kss nm age c d)=zo D nm age (some (c,d)):=by
 unfold Z7 Qv;simp only
 rw[h.t,show Qx D age=kss.getD age.toNat [] by unfold Qx;rw[h.ks],iE (h.t▸h.ok.tp) c0 c1 hd]
end
def Il(f:Nat->Dr->Dr)(k:Nat)(xs xs':List En):Prop:=xs'.length=xs.length/\∀(i:Nat) (x:En),xs[i]? =some x->∃L',xs'[i]? =some (x.1,f i x.2.1,L')/\L'.length<=x.2.2.length+k
theorem Il.refl(xs:List En):Il (fun _ D=>D) 0 xs xs:=⟨rfl,fun i x hx=>⟨x.2.2,hx,Jf _⟩⟩
theorem Il.set{f g:Nat->Dr->Dr}{k i:Nat}{xs xs':List En}{x:En}{L' L'':List Rw}(h:Il f k xs xs')(hx:xs[i]? =some x)(hx':xs'[i]? =some (x.1,f i x.2.1,L'))(hl:L''.length<=L'.length+1)(hg:g i x.2.1=D')(ho:∀j,j≠i->g j=f j):Il g (k+1) xs (xs'.set i (x.1,D',L'')):=by
 refine⟨by rw[E3];exact h.1,fun j y hy=>?_⟩
 obtain⟨M,hM,hMl⟩:=h.2 j y hy
 by_cases z:j=i
 ·subst z
  rw[hx]at hy;cases hy
  rw[hx']at hM
  have:L'=M:=by injection hM with hM;injection hM with _ hM;injection hM
  subst this
  exact⟨L'',by rw[FE (by rw[h.1];exact(Jv.mp hx).1),hg],by lia⟩
 ·exact⟨M,by rw[FF (fun w=>z w.symm),ho j z];exact hM,by lia⟩
theorem Il.mono{f:Nat->Dr->Dr}{k k':Nat}{xs xs':List En}(h:Il f k xs xs')(l:k<=k'):Il f k' xs xs':=⟨h.1,fun i x hx=>let⟨L',e,q⟩:=h.2 i x hx;⟨L',e,by lia⟩⟩
theorem Il.ext{f g:Nat->Dr->Dr}{k:Nat}{xs xs':List En}(h:Il f k xs xs')(e:∀i x,xs[i]? =some x->f i x.2.1=g i x.2.1):Il g k xs xs':=⟨h.1,fun i x hx=>let⟨L',q,r⟩:=h.2 i x hx;⟨L',by rw[q,e i x hx],r⟩⟩
theorem Il.all{p q:Dr->Prop}{f:Nat->Dr->Dr}{k n:Nat}{xs xs':List En}(h:Il f k xs xs')(hp:∀(i:Nat) (x:En),xs[i]? =some x->p x.2.1/\x.2.2.length<=n)(hf:∀i D,p D->q (f i D)):∀(i:Nat) (x:En),xs'[i]? =some x->q x.2.1/\x.2.2.length<=n+k:=by
 intro i x hx;have hi:i<xs.length:=by rw[<- h.1];exact(Jv.mp hx).1
 obtain⟨L',e,l⟩:=h.2 i xs[i] (Jj hi)
 rw[e]at hx;cases hx
 obtain⟨h1,h2⟩:=hp i xs[i] (Jj hi)
 exact⟨hf i _ h1,by show L'.length<=n+k;lia⟩
def La(H:Hp)(v:V):Option (Int×Int)->Prop
 |none=>v= .non
 |some (a,l)=>∃t,v= .ref t/\H t=some (.tup [.int a,.int l])
def Ie(H:Hp)(tl:Addr)(os:List (Option (Int×Int))):Prop:=∃vs:List V,H tl=some (.lst vs)/\vs.length=os.length/\∀(i:Nat) (v:V) (o:Option (Int×Int)),vs[i]? =some v->os[i]? =some o->La H v o
theorem La.mv{S:List Addr}{H H':Hp}{v:V}{o:Option (Int×Int)}(m:Mv S H H')(n:NT S H)(h:La H v o):La H' v o:=by
 cases o with
 |none=>exact h
 |some p=>obtain⟨t,e,r⟩:=h;exact⟨t,e,m.tup n r⟩
theorem Ie.mv{S:List Addr}{H H':Hp}{tl:Addr}{os:List (Option (Int×Int))}(h:Ie H tl os)(m:Mv S H H')(n:NT S H)(hs:tl∉S):Ie H' tl os:=by
 obtain⟨vs,e,l,r⟩:=h
 exact⟨vs,m _ _ hs e,l,fun i v o e1 e2=>(r i v o e1 e2).mv m n⟩
theorem Ie.same{H H':Hp}{tl:Addr}{os:List (Option (Int×Int))}(h:Ie H tl os)(s:Ge H H'):Ie H' tl os:=h.mv (S:=[]) s.mv dh (fun h=>nomatch h)
def c5(nm:Str)(D:Dr):Option (Int×Int)->Dr
 |none=>D
 |some (a,l)=>{D with kn:=ze D.kn nm ⟨a,l,none⟩}
section
variable(K:Frag)(C:Addr)
def ku:Sp:=fun vs H Q _=>∃(cd tb kt pl p ps b:Addr) (c:Nat) (H0:Hp) (t:List Int) (kss:List (List Int)) (xs:List En) (nm:Str) (age n:Int) (is:List Nat) (base:Int),vs=[.ref cd,.ref pl,.ref p,.ref ps]/\Pw K C H0 H b c pl xs/\xs.length=2/\G8 H cd tb kt t kss/\Qy nm/\0<=age/\age<kss.length/\0<=n/\n<4096/\H p=some (.tup [.str nm,.int age,.int n])/\Rd H ps (.tup (is.map fun i:Nat=>V.int (i:Int)))/\is.Nodup/\(∀i∈is,i<2)/\
 (∀(i:Nat) (x:En),xs[i]? =some x->GO t kss base x.2.1/\x.2.2.length<=900)/\
 ∀H' xs',Pw K C H0 H' b c pl xs'->G8 H' cd tb kt t kss->Il (fun i D=>if i∈is then{D with kn:=zX D nm age n}else D) 2 xs xs'->Q .non H'
end
def Qt(a b:Int):Int:=if a<b then b else a
def ap(a b:Int):Int:=if b<a then b else a
def Q9(D:Dr)(e:Kb)(D':Dr)(e':Kb):Int:=ap (e.last+D.far) (e'.last+D'.far)
def zE(lo hi:Int)(p:Int->Bool):Option Int:=((List.range (hi-lo).toNat).map fun i:Nat=>lo+(i:Int)).find? p
theorem Z2{lo hi:Int}{p:Int->Bool}{c:Int}(h:zE lo hi p=some c):lo<=c/\c<hi/\p c=true/\∀x,lo<=x->x<c->p x=false:=by
 unfold zE at h;obtain⟨h1,as,bs,e,h2⟩:=List.find?_eq_some_iff_append.mp h
 have len:=J3 List.length e;rw[Je,List.length_range,JD,JU]at len;have ec:c=lo+(as.length:Int):=by
  have z:((List.range (hi-lo).toNat).map fun i:Nat=>lo+(i:Int))[as.length]? =some c:=by rw[e];simp
  rw[Jo,FD (by lia)]at z
  exact(Jy z).symm
 refine⟨by lia,by lia,h1,fun x hx1 hx2=>?_⟩
 have hm:x∈as:=by
  have hj:(x-lo).toNat<as.length:=by lia
  have z:((List.range (hi-lo).toNat).map fun i:Nat=>lo+(i:Int))[(x-lo).toNat]? =some x:=by
   rw[Jo,FD (by lia)]
   show some (lo+((x-lo).toNat:Int))=some x
   congr 1;lia
  rw[e,D8 hj]at z;exact DV z
 have:=h2 x hm
 simpa using this
theorem bU{lo hi:Int}{p:Int->Bool}(h:zE lo hi p=none):∀x,lo<=x->x<hi->p x=false:=by
 intro x h1 h2
 have:=List.find?_eq_none.mp h x (JB.mpr ⟨(x-lo).toNat,J5.mpr (by lia),by lia⟩)
 simpa using this
theorem vB{lo hi:Int}{p:Int->Bool}{c:Int}(h1:lo<=c)(h2:c<hi)(h3:p c=true)(h4:∀x,lo<=x->x<c->p x=false):zE lo hi p=some c:=by
 cases e:zE lo hi p with
 |none=>rw[bU e c h1 h2]at h3;cases h3
 |some d=>
  obtain⟨d1,d2,d3,d4⟩:=Z2 e;rcases Int.lt_trichotomy c d with z|z|z
  ·rw[d4 c h1 z]at h3;cases h3
  ·rw[z]
  ·rw[h4 d d1 z]at d3;cases d3
theorem iZ{lo hi:Int}{p:Int->Bool}(h:∀x,lo<=x->x<hi->p x=false):zE lo hi p=none:=by
 cases e:zE lo hi p with
 |none=>rfl
 |some d=>
  obtain⟨d1,d2,d3,d4⟩:=Z2 e;rw[h d d1 d2]at d3;cases d3
theorem oP{lo hi lo' hi':Int}{p:Int->Bool}(hl:lo'<=lo)(hh:hi<=hi')(h1:∀x,lo'<=x->x<lo->p x=false)(h2:∀x,hi<=x->x<hi'->p x=false):zE lo' hi' p=zE lo hi p:=by
 cases e:zE lo hi p with
 |some c=>
  obtain⟨c1,c2,c3,c4⟩:=Z2 e;refine vB (by lia) (by lia) c3 fun x x1 x2=>?_
  by_cases hx:x<lo
  ·exact h1 x x1 hx
  ·exact c4 x (by lia) x2
 |none=>
  refine iZ fun x x1 x2=>?_
  by_cases hx:x<lo
  ·exact h1 x x1 hx
  ·by_cases hy:x<hi
   ·exact bU e x (by lia) hy
   ·exact h2 x (by lia) x2
section
variable(K:Frag)(C:Addr)
def k7:Sp:=fun vs H Q _=>∃(p ta hk bd lg:Addr) (n:Nat) (D:Dr),vs=[.ref p]/\Gg K C H p ta hk bd lg n D/\Ip D/\∀l (ss:List Str) H',Ge H H'->ss.Perm (D.kn.map (·.1))->H' l=some (.lst (ss.map V.str))->Q (.ref l) H'
def nO:Sp:=fun vs H Q _=>∃(p ta hk bd lg a:Addr) (n:Nat) (D:Dr) (e:Kb) (p' ta' hk' bd' lg' a':Addr) (n':Nat) (D':Dr) (e':Kb),vs=[.ref p,.ref a,.ref p',.ref a']/\Gg K C H p ta hk bd lg n D/\GY H a e/\Gg K C H p' ta' hk' bd' lg' n' D'/\GY H a' e'/\
 ∀H',Ge H H'->Q (.int (Q9 D e D' e')) H'
end
theorem rJ{α:Type} [DecidableEq α]:∀{l m:List α},l.Nodup->(∀x∈l,x∈m)->l.length<=m.length
 | [],m,_,_=>JI _
 |x::l,m,hn,hs=>by
  obtain⟨n1,n2⟩:=Et.mp hn;have hx:=hs x (Jw ..);have ih:=rJ (l:=l) (m:=m.erase x) n2 (fun y hy=>(List.mem_erase_of_ne (fun e:y=x=>n1 (by rw[<- e];exact hy))).mpr (hs y (JC _ hy)))
  have h1:=List.length_erase_of_mem hx;have h2:=List.length_pos_of_mem hx;rw[JU];omega
structure Lj(t:List Int)(kss:List (List Int))(D:Dr):Prop where
 ok:Ip D
 t:D.t=t
 ks:D.kss=kss
 rm:(D.kn.length:Int)<D.most
theorem gf{t:List Int}{kss:List (List Int)}{D:Dr}{nm:Str}{age c d:Int}(h:Lj t kss D)(l0:D.least<=age)(a1:age<kss.length)(c0:0<=c)(c1:c<4096)(hd:aW d):dw D (Qv t kss nm age c d)=some (c,d):=by
 unfold dw QX Qv;simp only
 rw[Jg l0,h.ks,Jg a1,Jc (show(true&&true)=true from rfl),h.t,show Qx D age=kss.getD age.toNat [] by unfold Qx;rw[h.ks]]
 exact iE (h.t▸h.ok.tp) c0 c1 hd
def i6(K:Frag)(C:Addr):Sp:=fun vs H Q _=>∃(cd tb kt pl tl b:Addr) (c:Nat) (H0:Hp) (t:List Int) (kss:List (List Int)) (xs:List En) (nm:Str) (os:List (Option (Int×Int))),vs=[.ref cd,.ref pl,.str nm,.ref tl]/\Pw K C H0 H b c pl xs/\xs.length=2/\G8 H cd tb kt t kss/\Qy nm/\Ie H tl os/\os.length=2/\(∀(i:Nat) (x:En),xs[i]? =some x->tl∉eS x.1)/\
 (∀(i:Nat) (x:En),xs[i]? =some x->Lj t kss x.2.1/\(∀a l,os.getD i none=some (a,l)->x.2.1.least<=a)/\x.2.1.kn.lookup nm=none/\x.2.1.kn.length<=11/\x.2.2.length<=900)/\(∀a l,some (a,l)∈os->0<=a/\a<kss.length/\1<=l/\l<4096)/\
 ∀H' xs',Pw K C H0 H' b c pl xs'->G8 H' cd tb kt t kss->Il (fun i D=>c5 nm D (os.getD i none)) 2 xs xs'->(∀c ys,H c=some (.tup ys)->H' c=some (.tup ys))->Q .non H'
section
variable{X:Cx}
theorem rT:qY X (.type "range") (fun xs H Q=>∃i j:Int,xs=[.int i,.int j]/\∀p,H p=none->Q (.ref p) (Gh H p (.rng i j))):=by
 intro tx s σ H xs us Q I r h;obtain⟨i,j,rfl,q⟩:=h;obtain⟨u,v,rfl,ru,rv⟩:=bS r;obtain⟨t,rfl⟩:=ru;obtain⟨t',rfl⟩:=rv;refine call_range_2 ⟨.ref s.heap.objs.size,_,I.laid (o:= .rng i j) (fun b o e=>Ji _ e) (Jf _) ⟨_,_,_,Jp _ rfl⟩,rfl,q _ (I.hok.fresh (Jf _))⟩
def az(a:Int)(n:Nat):List V:=(List.range n).map fun i:Nat=>V.int (a+(i:Int))
theorem mQ(hc:X.calm=true):qY X (.type "list") (fun xs H Q=>∃(p:Addr) (a:Int) (n:Nat),xs=[.ref p]/\H p=some (.rng a (a+(n:Int)))/\ -(2 ^ 60)<=a/\a<=2 ^ 60/\n<=2 ^ 24/\∀l,H l=none->Q (.ref l) (Gh H l (.lst (az a n)))):=by
 intro tx s σ H xs us Q I r h;obtain⟨p,a,j,rfl,hp,ha,ha',hj,q⟩:=h;obtain⟨u,rfl,ru⟩:=zL r;cases ru;obtain⟨t,u,v,e⟩:=I.hok p _ hp;refine call_list_range (n:=j) (I.ok.hd hc) (show IsRange s.heap p a (a+(j:Int)) 1 t u v from e) (small_one (by lia) (by lia) (by lia) (by lia)) (by rw[rangeSize_one];split<;>lia) hj fun h' tk acc' c' hk hS' hacc=>?_
 refine⟨.ref s.heap.objs.size,_,I.laid (h':=h') (t':=tk) hk (Jf _) ?_,rfl,q _ (I.hok.fresh (Jf _))⟩
 have aux:∀(us:List Value) (n k:Nat),us.length=n->(∀i v,us[i]? =some v->∃t,v=Value.int (a+((k+i:Nat):Int)) t)->Gk ((List.range' k n).map fun i:Nat=>V.int (a+(i:Int))) us:=by
  intro us
  induction us with
  |nil=>intro n k hn _;cases hn;exact .nil
  |cons u us ih=>
   intro n k hn hv;cases n with
   |zero=>cases hn
   |succ n=>
    rw[List.range'_succ,JQ];obtain⟨t,ht⟩:=hv 0 u rfl;refine .cons ⟨t,by simpa using ht⟩ (ih n (k+1) (by simpa using hn) fun i v hi=>?_)
    obtain⟨t,ht⟩:=hv (i+1) v hi
    exact⟨t,by rw[ht];congr 1;lia⟩
 have vals:Gk (az a j) acc'.toList:=by
  unfold az;rw[List.range_eq_range'];refine aux _ _ 0 (by rw[Jq];exact hacc.1) fun i v hi=>?_
  obtain⟨t,ht⟩:=hacc.2 i v (by rw[<- Array.getElem?_toList];exact hi)
  exact⟨t,by rw[ht];first|rfl|(congr 1;lia)⟩
 exact⟨by unfold az;simp only[Je,List.length_range];exact JK hj (by rw[JA];decide),acc'.toList,c',vals,hS'⟩
end
theorem vi(a:Int)(n:Nat):(az a n).length=n:=by unfold az;rw[Je,List.length_range]
theorem AM{a:Int}{n i:Nat}{x:V}(h:(az a n)[i]? =some x):x= .int (a+(i:Int))/\i<n:=by
 unfold az at h;rw[Jo]at h;have hi:i<n:=by
  cases q:(List.range n)[i]? with
  |none=>rw[q]at h;cases h
  |some y=>have:=(Jv.mp q).1;rwa [List.length_range]at this
 rw[FD hi]at h;cases h
 exact⟨rfl,hi⟩
def Zz(n:Int)(S:List (Int×Int)):List (Int×Int):=S.filterMap fun p=>if p.1<n then some (p.1,if p.2<n-1 then p.2 else n-1)else none
def QV(n:Int)(S:List (Int×Int)):Bool:=S.any fun p=>decide (p.1<=n)&&decide (n<=p.2)
inductive Lc:List (Int×Int)->Prop where
 |nil:Lc []
 |one (f l:Int) (h:f<=l):Lc [(f,l)]
 |two (f l g:Int) (h:f<=l) (h2:l+1<g):Lc [(f,l),(g,g)]
def vR(F:List (Int×Int))(n:Int):List (Int×Int):=match F.getLast? with
 |some (f,l)=>if l=n-1 then F.dropLast++[(f,n)]else F++[(n,n)]
 |none=>[(n,n)]
theorem jj{S:List (Int×Int)}(h:Lc S)(n:Int):Zz (n+1) S=if QV n S=true then vR (Zz n S) n else Zz n S:=by
 cases h with
 |nil=>rfl
 |one f l h=>
  unfold Zz QV vR
  by_cases h1:f<n
  ·by_cases h2:n<=l
   ·have e1:(if f<n+1 then some (f,if l<n+1-1 then l else n+1-1)else none)=some (f,n):=by rw[Jc (by lia),Jd (by lia)];congr 2;lia
    have e2:(if f<n then some (f,if l<n-1 then l else n-1)else none)=some (f,n-1):=by rw[Jc h1,Jd (by lia)]
    simp only[JO,List.filterMap_nil,e1,e2,J4,List.any_nil];rw[Jg (by lia:f<=n),Jg h2]
    simp
   ·have e1:(if f<n+1 then some (f,if l<n+1-1 then l else n+1-1)else none)=some (f,l):=by rw[Jc (by lia),Jc (by lia)]
    have e2:(if f<n then some (f,if l<n-1 then l else n-1)else none)=some (f,l):=by rw[Jc h1];congr 2;split<;>lia
    simp only[JO,List.filterMap_nil,e1,e2,J4,List.any_nil];rw[Jn h2];simp
  ·by_cases h2:f=n
   ·subst h2
    have e1:(if f<f+1 then some (f,if l<f+1-1 then l else f+1-1)else none)=some (f,f):=by rw[Jc (by lia),Jd (by lia)];congr 2;lia
    have e2:(if f<f then some (f,if l<f-1 then l else f-1)else none)=none:=by rw[Jd (by lia)]
    simp only[JO,List.filterMap_nil,e1,e2,J4,List.any_nil];rw[Jg (EC f),Jg h];simp
   ·have e1:(if f<n+1 then some (f,if l<n+1-1 then l else n+1-1)else none)=none:=by rw[Jd (by lia)]
    have e2:(if f<n then some (f,if l<n-1 then l else n-1)else none)=none:=by rw[Jd h1]
    simp only[JO,List.filterMap_nil,e1,e2,J4,List.any_nil];rw[Jn (by lia:¬f<=n)]
    simp
 |two f l g h hg=>
  unfold Zz QV vR
  by_cases h1:f<n
  ·by_cases h2:n<=l
   ·have e1:(if f<n+1 then some (f,if l<n+1-1 then l else n+1-1)else none)=some (f,n):=by rw[Jc (by lia),Jd (by lia)];congr 2;lia
    have e2:(if f<n then some (f,if l<n-1 then l else n-1)else none)=some (f,n-1):=by rw[Jc h1,Jd (by lia)]
    have e3:(if g<n+1 then some (g,if g<n+1-1 then g else n+1-1)else none)=none:=by rw[Jd (by lia)]
    have e4:(if g<n then some (g,if g<n-1 then g else n-1)else none)=none:=by rw[Jd (by lia)]
    simp only[JO,List.filterMap_nil,e1,e2,e3,e4,J4,List.any_nil];rw[Jg (by lia:f<=n),Jg h2]
    simp
   ·have e1:(if f<n+1 then some (f,if l<n+1-1 then l else n+1-1)else none)=some (f,l):=by rw[Jc (by lia),Jc (by lia)]
    have e2:(if f<n then some (f,if l<n-1 then l else n-1)else none)=some (f,l):=by rw[Jc h1];congr 2;split<;>lia
    by_cases h3:g<n
    ·have e3:(if g<n+1 then some (g,if g<n+1-1 then g else n+1-1)else none)=some (g,g):=by rw[Jc (by lia),Jc (by lia)]
     have e4:(if g<n then some (g,if g<n-1 then g else n-1)else none)=some (g,g):=by rw[Jc h3];congr 2;split<;>lia
     simp only[JO,List.filterMap_nil,e1,e2,e3,e4,J4,List.any_nil];rw[Jn h2,Jn (by lia:¬n<=g)]
     simp
    ·by_cases h4:g=n
     ·subst h4
      have e3:(if g<g+1 then some (g,if g<g+1-1 then g else g+1-1)else none)=some (g,g):=by rw[Jc (by lia),Jd (by lia)];congr 2;lia
      have e4:(if g<g then some (g,if g<g-1 then g else g-1)else none)=none:=by rw[Jd (by lia)]
      simp only[JO,List.filterMap_nil,e1,e2,e3,e4,J4,List.any_nil];rw[Jg (EC g)];simp
      lia
     ·have e3:(if g<n+1 then some (g,if g<n+1-1 then g else n+1-1)else none)=none:=by rw[Jd (by lia)]
      have e4:(if g<n then some (g,if g<n-1 then g else n-1)else none)=none:=by rw[Jd h3]
      simp only[JO,List.filterMap_nil,e1,e2,e3,e4,J4,List.any_nil];rw[Jn h2,Jn (by lia:¬g<=n)]
      simp
  ·have e3:(if g<n+1 then some (g,if g<n+1-1 then g else n+1-1)else none)=none:=by rw[Jd (by lia)]
   have e4:(if g<n then some (g,if g<n-1 then g else n-1)else none)=none:=by rw[Jd (by lia)]
   by_cases h2:f=n
   ·subst h2
    have e1:(if f<f+1 then some (f,if l<f+1-1 then l else f+1-1)else none)=some (f,f):=by rw[Jc (by lia),Jd (by lia)];congr 2;lia
    have e2:(if f<f then some (f,if l<f-1 then l else f-1)else none)=none:=by rw[Jd (by lia)]
    simp only[JO,List.filterMap_nil,e1,e2,e3,e4,J4,List.any_nil];rw[Jg (EC f),Jg h];simp
   ·have e1:(if f<n+1 then some (f,if l<n+1-1 then l else n+1-1)else none)=none:=by rw[Jd (by lia)]
    have e2:(if f<n then some (f,if l<n-1 then l else n-1)else none)=none:=by rw[Jd h1]
    simp only[JO,List.filterMap_nil,e1,e2,e3,e4,J4,List.any_nil];rw[Jn (by lia:¬f<=n),Jn (by lia:¬g<=n)]
    simp
theorem jm{S:List (Int×Int)}{n:Int}(h:∀p∈S,n<=p.1):Zz n S=[]:=by
 unfold Zz;rw[List.filterMap_eq_nil_iff];intro p hp;rw[Jd (by have:=h p hp;lia)]
theorem l7{S:List (Int×Int)}{n:Int}(h:∀p∈S,p.1<=p.2/\p.2<n):Zz n S=S:=by
 unfold Zz
 induction S with
 |nil=>rfl
 |cons p r ih=>
  have:=h p (Jw ..)
  rw[JO,Jc (by lia)]
  simp only
  rw[ih (fun q hq=>h q (JC _ hq))]
  congr 1
  obtain⟨a,b⟩:=p;simp only at this⊢
  congr 1
  split<;>lia
def Gy:List Str:=["a","b","ab","ba","aaaaaaaa","aaaaaaab","door","gate","x"]
structure Lk(nms:List Str)(many:Nat)(base:Int):Prop where
 nd:nms.Nodup
 nm:∀z∈nms,Qy z
 l1:1<=nms.length
 l9:nms.length<=9
 m1:1<=many
 m8:many<=8
 b0:0<=base
 b1:base<=4076
section
def vS(n f:Int):Prop:=1<=n/\n<=4/\n<=f/\f<=12
def jc:Sp:=fun vs H Q _=>∃(b:Addr) (c:Nat),vs=[.ref b]/\HJ H b c/\c<100000000/\∀l x y (n f n' f':Int) H',Ij b (c+7) H H'->H' l=some (.lst [.ref x,.ref y])->H' x=some (.tup [.int n,.int f])->H' y=some (.tup [.int n',.int f'])->vS n f->vS n' f'->H l=none->Q (.ref l) H'
def i7:Sp:=fun vs H Q _=>∃(base:Int),vs=[.int base]/\0<=base/\base<=4076/\∀l H',Ge H H'->H' l=some (.lst (az base ((if base+40<4095 then base+40 else 4095)-base+1).toNat))->Q (.ref l) H'
end
section
variable{K:Frag}{C:Addr}{H0 H H':Hp}{b:Addr}{c:Nat}{pl:Addr}{xs:List En}{S:List Addr}{z:Addr}
theorem Pw.fresh(p:Pw K C H0 H b c pl xs)(h:H z=none):H0 z=none:=by
 cases q:H0 z with
 |none=>rfl
 |some o=>
  by_cases w:z=b
  ·subst w;obtain⟨_,_,_,e1,_⟩:=p.bx;rw[h]at e1;cases e1
  ·have:=p.s z o (qX w) q;rw[h]at this;cases this
theorem Pw.out(p:Pw K C H0 H b c pl xs)(m:Mv S H H')(nt:NT S H)(hb:b∉S)(hp:pl∉S)(he:∀(i:Nat) (x:En),xs[i]? =some x->∀z∈eS x.1,z∉S)(h0:∀z∈S,H0 z=none):Pw K C H0 H' b c pl xs:=
 ⟨fun c o hc e=>m c o (fun z=>by rw[h0 c z]at e;cases e) (p.s c o hc e),p.bx.mv m hb,p.b0,fun i x hi=>(p.en i x hi).mv m nt (he i x hi),p.dj,p.fr,m _ _ hp p.pe,p.np,p.fp⟩
end
theorem Ie.two{H:Hp}{tl:Addr}{v v':V}{o o':Option (Int×Int)}(e:H tl=some (.lst [v,v']))(h:La H v o)(h':La H v' o'):Ie H tl [o,o']:=⟨[v,v'],e,rfl,fun i u w e1 e2=>by
 match i,e1,e2 with
 |0,e1,e2=>cases e1;cases e2;exact h
 |1,e1,e2=>cases e1;cases e2;exact h'
 |i+2,e1,e2=>cases e1⟩
theorem tZ{nms:List Str}{nm:Str}{j:Nat}(nd:nms.Nodup)(e:nms[j]? =some nm):nm∉nms.take j:=fun z=>by
 obtain⟨k,hk,ek⟩:=List.mem_iff_getElem.mp z;rw[List.getElem_take]at ek;rw[Eu]at hk
 exact(List.pairwise_iff_getElem.mp nd) k j (by lia) (Jv.mp e).1 (by lia) (ek.trans (Jv.mp e).2.symm)
structure Ib(t:List Int)(kss:List (List Int))(base:Int)(nms:List Str)(D:Dr):Prop where
 dp:GO t kss base D
 sub:∀z∈D.kn.map (·.1),z∈nms
 few:D.kn.length<=nms.length
theorem Ib.hear{t:List Int}{kss:List (List Int)}{base:Int}{nms:List Str}{D:Dr}{nm:Str}{age c:Int}(h:Ib t kss base nms D)(c0:0<=c)(c1:c<4096)(b1:c<=base+23):Ib t kss base nms {D with kn:=zX D nm age c}:=by
 obtain⟨a,b⟩:=h.dp.hear (nm:=nm) (age:=age) c0 c1 b1
 have l:(zX D nm age c).length=D.kn.length:=by have:=J3 List.length b;simpa using this
 exact⟨a,fun z hz=>h.sub z (by have hz:z∈(zX D nm age c).map (·.1):=hz;rw[b]at hz;exact hz),by show(zX D nm age c).length<=_;rw[l];exact h.few⟩
theorem Ib.close{t:List Int}{kss:List (List Int)}{base:Int}{nms:List Str}{D:Dr}{a:Int}(h:Ib t kss base nms D)(a1:a<kss.length):Ib t kss base nms {D with least:=if a>D.least then a else D.least}:=⟨h.dp.close a1,h.sub,h.few⟩
def lT:Sp:=fun vs H Q _=>∃(b:Addr) (c:Nat),vs=[.ref b]/\HJ H b c/\c<100000000/\∀q nl nms many base H',Ij b (c+20) H H'->H' q=some (.tup [.ref nl,.int ((many:Nat):Int),.int base])->H' nl=some (.lst (nms.map V.str))->H nl=none->Lk nms many base->(∀z∈nms,z∈Gy)->Q (.ref q) H'
def nN(K:Frag)(C:Addr):Sp:=fun vs H Q _=>∃(b dr nl:Addr) (c:Nat) (nms:List Str) (many:Nat) (base:Int),vs=[.ref b,.ref dr]/\HJ H b c/\c<1000000/\H dr=some (.tup [.ref nl,.int (many:Int),.int base])/\H nl=some (.lst (nms.map V.str))/\nl≠b/\Lk nms many base/\
 ∀q cd tb kt pl t kss xs H',Pw K C H H' b (c+300) pl xs->xs.length=2->H' q=some (.tup [.ref cd,.ref pl])->G8 H' cd tb kt t kss->kss.length=many->(∀(i:Nat) (x:En),xs[i]? =some x->Ib t kss base nms x.2.1/\x.2.2.length<=100)->Q (.ref q) H'
section
variable{t:List Int}{kss:List (List Int)}{base:Int}{D:Dr}{nm:Str}{age:Int}
theorem aT(h:GO t kss base D)(nm:Str)(age:Int):zZ D nm age=[]\/∃e,D.kn.lookup nm=some e/\qT D e age=true/\e.last+1<4096/\
  ((zZ D nm age=[(e.last+1,if 4095<e.last+D.near then 4095 else e.last+D.near)]/\∀w,e.wt=some (age,w)->¬w+1<=(if 4095<e.last+D.far then 4095 else e.last+D.far))\/
   ∃w,e.wt=some (age,w)/\w+1<=(if 4095<e.last+D.far then 4095 else e.last+D.far)/\zZ D nm age=[(e.last+1,if 4095<e.last+D.near then 4095 else e.last+D.near),(w+1,w+1)]):=by
 cases e1:D.kn.lookup nm with
 |none=>exact .inl (by unfold zZ;rw[e1])
 |some e=>
  have kl:=(h.kb _ (zv e1)).1;simp only at kl
  by_cases ht:qT D e age=true
  case neg=>exact .inl (by unfold zZ QC;rw[e1];simp only;rw[Jd ht])
  have es:zZ D nm age=(if e.last+1<4096 then [(e.last+1,if 4095<e.last+D.near then 4095 else e.last+D.near)]else [])++(match e.wt with
   |none=>[]
   |some (x,w)=>if x=age/\w+1<=(if 4095<e.last+D.far then 4095 else e.last+D.far)then [(w+1,w+1)]else []):=by unfold zZ QC;rw[e1];simp only;rw[Jc ht]<;>rfl
  have n0:=h.n0;have l1:=kl.l1
  by_cases h1:e.last+1<4096
  ·refine .inr ⟨e,rfl,ht,h1,?_⟩
   rw[es,Jc h1];cases ew:e.wt with
   |none=>exact .inl ⟨rfl,fun w z=>by cases z⟩
   |some xw=>
    obtain⟨x,w⟩:=xw;simp only
    by_cases h2:x=age/\w+1<=(if 4095<e.last+D.far then 4095 else e.last+D.far)
    ·rw[Jc h2]
     obtain⟨rfl,h2⟩:=h2;exact .inr ⟨w,rfl,h2,rfl⟩
    ·rw[Jd h2]
     exact .inl ⟨rfl,fun w' z=>by cases z;exact fun q=>h2 ⟨rfl,q⟩⟩
  ·refine .inl ?_
   rw[es,Jd h1];cases ew:e.wt with
   |none=>rfl
   |some xw=>
    obtain⟨x,w⟩:=xw
    have:=kl.w x w ew
    simp only
    rw[Jd (fun z=>by have:=z.2;split at this<;>omega)];rfl
theorem An(h:GO t kss base D)(nm:Str)(age:Int):Lc (zZ D nm age):=by
 rcases aT h nm age with e|⟨e,e1,ht,h1,⟨q,_⟩|⟨w,ew,hw,q⟩⟩
 ·rw[e];exact .nil
 ·have n0:=h.n0
  rw[q];exact .one _ _ (by split<;>omega)
 ·have n0:=h.n0
  have kl:=(h.kb _ (zv e1)).1.w age w ew;simp only at kl
  rw[q];exact .two _ _ _ (by split<;>omega) (by split<;>omega)
theorem tF(h:GO t kss base D)(nm:Str)(age:Int):∀p∈zZ D nm age,base<p.1/\p.1<=p.2/\p.2<=4095/\p.2<=base+40:=by
 rcases aT h nm age with e|⟨e,e1,ht,h1,⟨q,_⟩|⟨w,ew,hw,q⟩⟩
 ·rw[e];exact fun p hp=>nomatch hp
 ·have n0:=h.n0
  have n1:=h.n1;have kb:=(h.kb _ (zv e1)).2;simp only at kb
  rw[q];intro p hp;rw[Jl.mp hp];simp only
  split<;>omega
 ·have n0:=h.n0
  have n1:=h.n1;have f1:=h.f1;have kb:=(h.kb _ (zv e1)).2;have kl:=(h.kb _ (zv e1)).1.w age w ew;simp only at kb kl
  rw[q];intro p hp;simp only[Jk,Js,Jt]at hp;rcases hp with rfl|rfl
  ·simp only;split<;>omega
  ·simp only;split at hw<;>omega
theorem oC(h:GO t kss base D){n:Int}(nm:Str)(age:Int)(n1:n<=4095):qS D nm age n="open"↔QV n (zZ D nm age)=true:=by
 have no1:¬(("":Str)="open"):=by decide
 have no3:¬(("wait":Str)="open"):=by decide
 have nil:QV n []=false:=rfl
 cases e1:D.kn.lookup nm with
 |none=>
  have:zZ D nm age=[]:=by unfold zZ;rw[e1]
  rw[this,nil]
  have:qS D nm age n="":=by unfold qS;rw[e1]
  rw[this]
  exact⟨fun z=>absurd z no1,fun z=>by cases z⟩
 |some e=>
  by_cases ht:qT D e age=true
  case neg=>
   have:zZ D nm age=[]:=by unfold zZ QC;rw[e1];simp only;rw[Jd ht]
   rw[this,nil]
   have:qS D nm age n="":=by unfold qS;rw[e1];simp only;rw[Jd ht]
   rw[this]
   exact⟨fun z=>absurd z no1,fun z=>by cases z⟩
  have ew:qS D nm age n=(if n-e.last<1\/n-e.last>D.far then("":Str)else if n-e.last<=D.near\/e.wt=some (age,n-1)then("open":Str)else("wait":Str)):=by unfold qS;rw[e1];simp only;rw[Jc ht]
  have op:qS D nm age n="open"↔(1<=n-e.last/\n-e.last<=D.far/\(n-e.last<=D.near\/e.wt=some (age,n-1))):=by
   rw[ew]
   by_cases h1:n-e.last<1\/n-e.last>D.far
   ·rw[Jc h1];exact⟨fun z=>absurd z no1,fun z=>by omega⟩
   ·rw[Jd h1]
    by_cases h2:n-e.last<=D.near\/e.wt=some (age,n-1)
    ·rw[Jc h2];exact⟨fun _=>⟨by omega,by omega,h2⟩,fun _=>rfl⟩
    ·rw[Jd h2];exact⟨fun z=>absurd z no3,fun z=>absurd z.2.2 h2⟩
  rw[op];have f0:=h.f0;have kl:=(h.kb _ (zv e1)).1;simp only at kl
  have l1:=kl.l1;rcases aT h nm age with es|⟨e',e1',_,h1,⟨q,hno⟩|⟨w,ew',hw,q⟩⟩
  ·rw[es,nil]
   refine⟨fun z=>?_,fun z=>by cases z⟩
   have:e.last+1<4096:=by omega
   have es':zZ D nm age≠[]:=by unfold zZ QC;rw[e1];simp only;rw[Jc ht,Jc this];exact fun z=>by cases z
   exact absurd es es'
  ·rw[e1]at e1';cases e1'
   rw[q];unfold QV;simp only[J4,List.any_nil,Bool.or_false,Jz,decide_eq_true_eq];constructor
   ·rintro⟨a1,a2,a3|a3⟩
    ·split<;>omega
    ·have:=hno (n-1) a3
     split at this<;>omega
   ·intro z
    split at z<;>omega
  ·rw[e1]at e1';cases e1'
   have kw:=kl.w age w ew';have n0:=h.n0;rw[q];unfold QV;simp only[J4,List.any_nil,Bool.or_false,Jz,Bool.or_eq_true,decide_eq_true_eq];constructor
   ·rintro⟨a1,a2,a3|a3⟩
    ·left;split<;>omega
    ·right;rw[ew']at a3;injection a3 with a3;injection a3 with _ a3;omega
   ·rintro(z|z)
    ·split at z<;>omega
    ·refine⟨by omega,?_,.inr ?_⟩
     ·split at hw<;>omega
     ·rw[ew'];congr 2;omega
end
theorem Lc.len{S:List (Int×Int)}(h:Lc S):S.length<=2:=by
 cases h with
 |nil=>exact JI _
 |one _ _ _=>exact(by decide:1<=2)
 |two _ _ _ _ _=>exact Jf 2
def ZZ{α:Type}(lo:Int)(n:Nat)(f:Int->Option α):Option α:=((List.range n).map fun i:Nat=>lo+(i:Int)).findSome? f
theorem ab{α β:Type}{l:List α}{f:α->Option β}(h:∀x∈l,f x=none):l.findSome? f=none:=by
 induction l with
 |nil=>rfl
 |cons x r ih=>rw[List.findSome?_cons,h x Jw];exact ih fun y hy=>h y (JC _ hy)
theorem eW{α β:Type}{l:List α}{f:α->Option β}{i:Nat}{x:α}{y:β}(hx:l[i]? =some x)(hy:f x=some y)(h:∀j z,j<i->l[j]? =some z->f z=none):l.findSome? f=some y:=by
 induction l generalizing i with
 |nil=>cases hx
 |cons a r ih=>
  rw[List.findSome?_cons];cases i with
  |zero=>cases hx;rw[hy]
  |succ i=>
   rw[h 0 a (Nat.succ_pos _) rfl];exact ih hx fun j z hj hz=>h (j+1) z (by lia) hz
theorem fR{α β:Type}{l:List α}{f g:α->Option β}(h:∀x∈l,f x=g x):l.findSome? f=l.findSome? g:=by
 induction l with
 |nil=>rfl
 |cons x r ih=>rw[List.findSome?_cons,List.findSome?_cons,h x Jw,ih fun y hy=>h y (JC _ hy)]
theorem tz{α β:Type}{l:List α}{f:α->Option β}(p:α->Bool)(h:∀x∈l,p x=false->f x=none):(l.filter p).findSome? f=l.findSome? f:=by
 induction l with
 |nil=>rfl
 |cons x r ih=>
  have ih:=ih fun y hy=>h y (JC _ hy)
  rw[List.filter_cons,List.findSome?_cons];cases e:p x with
  |true=>rw[Jc rfl,List.findSome?_cons,ih]
  |false=>rw[Jd (by decide),h x Jw e];exact ih
theorem eN{lo x:Int}{n:Nat}(h:x∈(List.range n).map fun i:Nat=>lo+(i:Int)):lo<=x/\x<lo+n:=by
 obtain⟨i,hi,rfl⟩:=JB.mp h
 have:=J5.mp hi
 lia
theorem QL{α:Type}{lo:Int}{n:Nat}{f:Int->Option α}(h:∀x,lo<=x->x<lo+n->f x=none):ZZ lo n f=none:=ab fun x hx=>h x (eN hx).1 (eN hx).2
theorem bL{α:Type}{lo:Int}{n i:Nat}{f:Int->Option α}{y:α}(hi:i<n)(hy:f (lo+(i:Int))=some y)(h:∀x,lo<=x->x<lo+i->f x=none):ZZ lo n f=some y:=by
 refine eW (i:=i) (x:=lo+(i:Int)) (by rw[Jo,FD hi];rfl) hy fun j z hj hz=>?_
 rw[Jo,FD (by lia)]at hz
 cases hz;exact h _ (show lo<=lo+(j:Int) by lia) (show lo+(j:Int)<lo+(i:Int) by lia)
theorem aU{α:Type}{lo:Int}{n:Nat}{f g:Int->Option α}(h:∀x,lo<=x->x<lo+n->f x=g x):ZZ lo n f=ZZ lo n g:=fR fun x hx=>h x (eN hx).1 (eN hx).2
def zB(S:List (Int×Int)):List Int:=S.flatMap fun p=>(List.range (p.2+1-p.1).toNat).map fun i:Nat=>p.1+(i:Int)
theorem lM(S:List (Int×Int))(n:Int):n∈zB S↔QV n S=true:=by
 unfold zB QV;rw[List.mem_flatMap,List.any_eq_true];refine exists_congr fun p=>and_congr_right fun _=>?_
 rw[Jz,decide_eq_true_eq,decide_eq_true_eq,JB];constructor
 ·rintro⟨i,hi,rfl⟩
  have:=J5.mp hi
  lia
 ·rintro⟨h1,h2⟩
  exact⟨(n-p.1).toNat,J5.mpr (by lia),by lia⟩
structure Hv(S:List (Int×Int)):Prop where
 two:Lc S
 bd:∀p∈S,0<=p.1/\p.1<=p.2/\p.2<=4095/\p.2-p.1<=13
theorem Hv.nil:Hv []:=⟨.nil,fun p h=>nomatch h⟩
theorem Hv.out{S:List (Int×Int)}(h:Hv S){n:Int}(hn:n<0\/4096<=n):QV n S=false:=by
 unfold QV;rw[List.any_eq_false];intro p hp z;rw[Jz,decide_eq_true_eq,decide_eq_true_eq]at z
 have:=h.bd p hp
 lia
theorem Hv.cnt{S:List (Int×Int)}(h:Hv S):(zB S).length<=28:=by
 have key:∀p∈S,((List.range (p.2+1-p.1).toNat).map fun i:Nat=>p.1+(i:Int)).length<=14:=fun p hp=>by
  rw[Je,List.length_range]
  have:=h.bd p hp
  lia
 have l2:=h.two.len;unfold zB
 match S,l2 with
 | [],_=>exact JI _
 | [p],_=>
  have:=key p Jw
  rw[List.flatMap_cons,List.flatMap_nil,El];lia
 | [p,q],_=>
  have h1:=key p Jw;have h2:=key q (JC _ Jw);rw[List.flatMap_cons,List.flatMap_cons,List.flatMap_nil,El,JD];lia
theorem CP{S S':List (Int×Int)}(h:Hv S)(h':Hv S')(he:∀n,QV n S=QV n S'):S=S':=by
 have key:∀k:Nat,Zz (k:Int) S=Zz (k:Int) S':=fun k=>by
  induction k with
  |zero=>
   show Zz 0 S=Zz 0 S'
   rw[jm fun p hp=>(h.bd p hp).1,jm fun p hp=>(h'.bd p hp).1]
  |succ k ih=>
   have e:((k+1:Nat):Int)=(k:Int)+1:=by lia
   rw[e,jj h.two,jj h'.two,he,ih]
 have:=key 4096
 rw[l7 fun p hp=>⟨(h.bd p hp).2.1,by have:=(h.bd p hp).2.2.1;lia⟩,l7 fun p hp=>⟨(h'.bd p hp).2.1,by have:=(h'.bd p hp).2.2.1;lia⟩]at this
 exact this
def zV(S S':List (Int×Int))(n:Int):Bool:=decide (QV n S≠QV n S')
def Qm(S S':List (Int×Int)):Int:=(zE 0 4096 (zV S S')).getD 0
theorem pR(S S':List (Int×Int)):zV S S'=zV S' S:=by
 funext n
 exact decide_eq_decide.mpr ⟨Ne.symm,Ne.symm⟩
theorem rF(S S':List (Int×Int)):Qm S S'=Qm S' S:=by unfold Qm;rw[pR]
theorem gy{S S':List (Int×Int)}(h:Hv S)(h':Hv S')(ne:S≠S'):zE 0 4096 (zV S S')=some (Qm S S'):=by
 cases e:zE 0 4096 (zV S S')with
 |some c=>unfold Qm;rw[e];rfl
 |none=>
  refine absurd (CP h h' fun n=>?_) ne
  by_cases hn:n<0\/4096<=n
  ·rw[h.out hn,h'.out hn]
  ·have:=of_decide_eq_false (bU e n (by lia) (by lia))
   exact Decidable.not_not.mp this
theorem pX{S S':List (Int×Int)}{ms:List Int}(h:Hv S)(h':Hv S')(hm:∀k,k∈ms↔¬(k∈zB S↔k∈zB S'))(hp:ms.Pairwise (· <= ·))(ne:S≠S'):ms[0]? =some (Qm S S'):=by
 obtain⟨l1,l2,l3,l4⟩:=Z2 (gy h h' ne)
 have mem:∀k,k∈ms↔zV S S' k=true:=fun k=>by
  rw[hm,lM,lM];unfold zV;rw[decide_eq_true_eq];exact not_congr Ej.symm
 cases ms with
 |nil=>exact absurd ((mem _).mpr l3) Js
 |cons x r=>
  have hx:=(mem x).mp Jw;have hl:Qm S S'∈x::r:=(mem _).mpr l3
  have le1:x<=Qm S S':=by
   rcases Jk.mp hl with e|e
   ·rw[e];exact EC _
   ·exact(List.pairwise_cons.mp hp).1 _ e
  have le2:¬x<Qm S S':=fun z=>by
   have x0:0<=x:=by
    refine Int.not_lt.mp fun y=>?_
    have:=Jx hx
    rw[h.out (.inl y),h'.out (.inl y)]at this;exact this rfl
   rw[l4 x x0 z]at hx;cases hx
  show some x=_
  congr 1
  lia
def Qi(D:Dr)(age:Int)(o:Option Kb):List (Int×Int):=match o with
 |none=>[]
 |some e=>QC D e age
def Zq(D:Dr)(o:Option Kb)(D':Dr)(o':Option Kb):Option (Int×Int):=ZZ 0 D.kss.length fun a=>if Qi D a o=Qi D' a o' then none else some (a,Qm (Qi D a o) (Qi D' a o'))
theorem gY{D D':Dr}(hk:D.kss.length=D'.kss.length)(o o':Option Kb):Zq D o D' o'=Zq D' o' D o:=by
 unfold Zq;rw[hk];refine aU fun a _ _=>?_
 by_cases z:Qi D a o=Qi D' a o'
 ·rw[Jc z,Jc z.symm]
 ·rw[Jd z,Jd (Ne.symm z),rF]
theorem nh(D:Dr)(o:Option Kb):Zq D o D o=none:=QL fun a _ _=>Jc rfl
theorem CD{D D':Dr}{o o':Option Kb}(h:Zq D o D' o'=none){a:Int}(a0:0<=a)(a1:a<D.kss.length):Qi D a o=Qi D' a o':=by
 unfold Zq ZZ at h
 have:=List.findSome?_eq_none_iff.mp h a (JB.mpr ⟨a.toNat,J5.mpr (by lia),by lia⟩)
 by_cases z:Qi D a o=Qi D' a o'
 ·exact z
 ·rw[Jd z]at this;cases this
structure HQ(D:Dr):Prop where
 n0:1<=D.near
 n1:D.near<=13
 nf:D.near<=D.far
 f1:D.far<=100
 l0:0<=D.least
 lk:D.least<D.kss.length
def iD(D:Dr):Option Kb->Prop
 |none=>True
 |some e=>HL D e
theorem Ab{D:Dr}{e:Kb}(d:HQ D)(k:HL D e)(age:Int):Hv (QC D e age):=by
 have n0:=d.n0;have n1:=d.n1;have l0:=k.l0;have l1:=k.l1;unfold QC
 by_cases ht:qT D e age=true
 case neg=>rw[Jd ht];exact Hv.nil
 rw[Jc ht]
 by_cases h1:e.last+1<4096
 ·rw[Jc h1]
  have one:Hv [(e.last+1,if 4095<e.last+D.near then 4095 else e.last+D.near)]:=⟨.one _ _ (by split<;>lia),fun p hp=>by rw[Jl.mp hp];simp only;split<;>lia⟩
  cases ew:e.wt with
  |none=>exact one
  |some xw=>
   obtain⟨x,w⟩:=xw;have hw:=k.w x w ew;simp only
   by_cases h2:x=age/\w+1<=(if 4095<e.last+D.far then 4095 else e.last+D.far)
   ·rw[Jc h2]
    have h3:=h2.2;refine⟨.two _ _ _ (by split<;>lia) (by split<;>lia),fun p hp=>?_⟩
    rcases Jk.mp hp with rfl|hp
    ·exact one.bd _ Jw
    ·rw[Jl.mp hp];simp only;split at h3<;>lia
   ·rw[Jd h2,El];exact one
 ·rw[Jd h1]
  cases ew:e.wt with
  |none=>exact Hv.nil
  |some xw=>
   obtain⟨x,w⟩:=xw;have hw:=k.w x w ew;simp only
   rw[Jd (fun z=>by have:=z.2;split at this<;>lia)]
   exact Hv.nil
theorem oA{D:Dr}{o:Option Kb}(d:HQ D)(k:iD D o)(age:Int):Hv (Qi D age o):=by
 cases o with
 |none=>exact Hv.nil
 |some e=>exact Ab d k age
theorem kO{D:Dr}{e:Kb}{age c:Int}(d:HQ D)(k:HL D e)(c0:0<=c)(c1:c<4096):HL D (Qs D e age c).2:=by
 unfold Qs
 by_cases ht:qT D e age=true
 ·rw[Jc ht];exact lz k (bY ht) (ZO ht d.l0).2 c0 c1
 ·rw[Jd ht];exact k
def Zk(D:Dr)(o:Option Kb)(D':Dr)(o':Option Kb):Option ((Int×Int)×Int×Int):=match o,o' with
 |some e,some e'=>ZZ (Q9 D e D' e') (ap (Q9 D e D' e'+2) 4096-Q9 D e D' e').toNat fun c=>(Zq D (some (Qs D e (Qt e.age D.least) c).2) D' (some (Qs D' e' (Qt e.age D.least) c).2)).map fun p=>((Qt e.age D.least,c),p)
 |_,_=>none
theorem sI(D:Dr)(o:Option Kb):Zk D o D o=none:=by
 cases o with
 |none=>rfl
 |some e=>exact QL fun c _ _=>by rw[nh];rfl
theorem vo(D D':Dr)(e e':Kb):Q9 D e D' e'=Q9 D' e' D e:=by unfold Q9 ap;split<;>split<;>lia
theorem Zu{D:Dr}{e:Kb}(d:HQ D)(k:HL D e)(h1:e.last+1<4096){a:Int}:QC D e a≠[]↔Qt e.age D.least<=a/\a<D.kss.length:=by
 unfold QC
 by_cases ht:qT D e a=true
 ·rw[Jc ht,Jc h1]
  refine⟨fun _=>?_,fun _ z=>by cases z⟩
  have h2:=bY ht;have h3:=(ZO ht d.l0).2;unfold qT QX at ht;rw[Jz,Jz]at ht;have h4:=Jx ht.1.1;unfold Qt;split<;>lia
 ·rw[Jd ht]
  refine⟨fun z=>absurd rfl z,fun⟨z1,z2⟩=>absurd ?_ ht⟩
  unfold qT QX
  have:e.age<=a/\D.least<=a:=by unfold Qt at z1;split at z1<;>lia
  rw[Jg this.2,Jg z2,Jg this.1];rfl
theorem jT{D:Dr}{e:Kb}(d:HQ D)(k:HL D e)(h1:¬e.last+1<4096)(a:Int):QC D e a=[]:=by
 have n0:=d.n0;unfold QC
 by_cases ht:qT D e a=true
 ·rw[Jc ht,Jd h1]
  cases ew:e.wt with
  |none=>rfl
  |some xw=>
   obtain⟨x,w⟩:=xw;have hw:=k.w x w ew;simp only
   rw[Jd (fun z=>by have:=z.2;split at this<;>lia)];rfl
 ·rw[Jd ht]
theorem sx{D D':Dr}{o o':Option Kb}(d:HQ D)(d':HQ D')(k:iD D o)(k':iD D' o')(hk:D.kss.length=D'.kss.length)(no:Zq D o D' o'=none):Zk D o D' o'=Zk D' o' D o:=by
 cases o with
 |none=>cases o'<;>rfl
 |some e=>
  cases o' with
  |none=>rfl
  |some e'=>
   have k:HL D e:=k
   have k':HL D' e':=k'
   have a0:=k.a0;have a0':=k'.a0;have a1:=k.a1;have a1':=k'.a1;have lk:=d.lk;have lk':=d'.lk;have ll:=d.l0;have ll':=d'.l0;have b1:0<=Qt e.age D.least/\Qt e.age D.least<D.kss.length:=by unfold Qt;split<;>lia
   have b2:0<=Qt e'.age D'.least/\Qt e'.age D'.least<D'.kss.length:=by unfold Qt;split<;>lia
   have all:∀a:Int,0<=a->a<D.kss.length->QC D e a=QC D' e' a:=fun a h0 h1=>CD no h0 h1
   have Zh:∀{D D':Dr} {e e':Kb},HQ D->HQ D'->¬e.last+1<4096->¬e'.last+1<4096->∀f:Int->Option ((Int×Int)×Int×Int),ZZ (Q9 D e D' e') (ap (Q9 D e D' e'+2) 4096-Q9 D e D' e').toNat f=none:=fun{D D' e e'} d d' h h' f=>QL fun x x1 x2=>by
    have n0:=d.n0;have nf:=d.nf;have n0':=d'.n0;have nf':=d'.nf
    have:4096<=Q9 D e D' e':=by unfold Q9 ap;split<;>lia
    unfold ap at x2;split at x2<;>lia
   by_cases h1:e.last+1<4096
   ·by_cases h2:e'.last+1<4096
    ·have e1:Qt e.age D.least=Qt e'.age D'.least:=by
      have p1:=(Zu d k h1 (a:=Qt e.age D.least)).mpr ⟨EC _,b1.2⟩
      rw[all _ b1.1 b1.2]at p1;have q1:=(Zu d' k' h2).mp p1;have p2:=(Zu d' k' h2 (a:=Qt e'.age D'.least)).mpr ⟨EC _,b2.2⟩
      rw[<- all _ b2.1 (by rw[hk];exact b2.2)]at p2
      have q2:=(Zu d k h1).mp p2;lia
     unfold Zk;simp only
     rw[<- vo D D' e e',<- e1];exact aU fun c _ _=>by rw[gY hk]
    ·have p1:=(Zu d k h1 (a:=Qt e.age D.least)).mpr ⟨EC _,b1.2⟩
     rw[all _ b1.1 b1.2,jT d' k' h2]at p1;exact absurd rfl p1
   ·by_cases h2:e'.last+1<4096
    ·have p2:=(Zu d' k' h2 (a:=Qt e'.age D'.least)).mpr ⟨EC _,b2.2⟩
     rw[<- all _ b2.1 (by rw[hk];exact b2.2),jT d k h1]at p2
     exact absurd rfl p2
    ·unfold Zk
     simp only
     rw[Zh d d' h1 h2,Zh d' d h2 h1]
abbrev Zr:=List (Str×Int×Int)
def zS(D D':Dr)(nm:Str):Option Zr:=(Zq D (D.kn.lookup nm) D' (D'.kn.lookup nm)).map fun p=>[(nm,p.1,p.2)]
def ZW(D D':Dr)(nm:Str):Option Zr:=(Zk D (D.kn.lookup nm) D' (D'.kn.lookup nm)).map fun p=>[(nm,p.1.1,p.1.2),(nm,p.2.1,p.2.2)]
def zO(D D':Dr)(ns:List Str):Option Zr:=match ns.findSome? (zS D D')with
 |some r=>some r
 |none=>ns.findSome? (ZW D D')
def wx(D:Dr):Prop:=∀nm,iD D (D.kn.lookup nm)
theorem rY{D D':Dr}(d:HQ D)(d':HQ D')(k:wx D)(k':wx D')(hk:D.kss.length=D'.kss.length)(ns:List Str):zO D D' ns=zO D' D ns:=by
 have e1:zS D D'=zS D' D:=by
  funext nm
  unfold zS;rw[gY hk]
 unfold zO;rw[e1];cases e:ns.findSome? (zS D' D)with
 |some r=>rfl
 |none=>
  refine fR fun nm hn=>?_
  unfold ZW;rw[sx d d' (k nm) (k' nm) hk]
  have:=List.findSome?_eq_none_iff.mp e nm hn
  unfold zS at this;rw[Option.map_eq_none_iff]at this;rw[gY hk];exact this
theorem rL(D:Dr)(ns:List Str):zO D D ns=none:=by
 have e1:ns.findSome? (zS D D)=none:=ab fun nm _=>by unfold zS;rw[nh];rfl
 unfold zO;rw[e1];exact ab fun nm _=>by unfold ZW;rw[sI];rfl
theorem vp{D D':Dr}{ns:List Str}{r:Zr}(no:ns.findSome? (zS D D')=none)(h:zO D D' ns=some r):r.length=2:=by
 unfold zO at h;rw[no]at h;obtain⟨nm,_,e⟩:=List.exists_of_findSome?_eq_some h
 unfold ZW at e;obtain⟨p,_,rfl⟩:=DZ.mp e;rfl
theorem p6{ns ms:List Str}(h1:ns.Nodup)(h2:ms.Nodup)(s1:sortedS ns=true)(s2:sortedS ms=true)(h:∀k,k∈ns↔k∈ms):ns=ms:=
 bu ((List.perm_ext_iff_of_nodup h1 h2).mpr h) s1 (List.Perm.refl _) s2
theorem tQ(D:Dr)(nm:Str)(a:Int):Qi D a (D.kn.lookup nm)=zZ D nm a:=by
 unfold Qi zZ;cases D.kn.lookup nm<;>rfl
def am(D:Dr)(nm:Str)(a c:Int):Bool:=decide (qS D nm a c="open")
def nM(D D':Dr)(lo:Int)(n:Nat)(nm:Str)(a:Int):Option Zr:=ZZ lo n fun c=>if am D nm a c=am D' nm a c then none else some [(nm,a,c)]
def aO(D D':Dr)(many:Nat)(lo:Int)(n:Nat)(nm:Str):Option Zr:=ZZ 0 many fun a=>nM D D' lo n nm a
theorem AG{α β:Type}(lo:Int)(n:Nat)(f:Int->Option α)(g:α->β):(ZZ lo n f).map g=ZZ lo n fun a=>(f a).map g:=by
 unfold ZZ
 induction ((List.range n).map fun i:Nat=>lo+(i:Int))with
 |nil=>rfl
 |cons x r ih=>
  rw[List.findSome?_cons,List.findSome?_cons];cases e:f x with
  |some y=>rfl
  |none=>exact ih
theorem tG{α:Type}(lo:Int)(n:Nat)(p:Int->Bool)(g:Int->α):(ZZ lo n fun c=>if p c=true then some (g c)else none)=(zE lo (lo+n) p).map g:=by
 unfold ZZ zE;rw[show(lo+(n:Int)-lo).toNat=n by lia]
 induction ((List.range n).map fun i:Nat=>lo+(i:Int))with
 |nil=>rfl
 |cons x r ih=>
  rw[List.findSome?_cons,E9];cases e:p x with
  |true=>rfl
  |false=>exact ih
def Qn(base:Int):Nat:=((if base+40<4095 then base+40 else 4095)-base+1).toNat
theorem wB{t:List Int}{kss:List (List Int)}{base:Int}{D D':Dr}(h:GO t kss base D)(h':GO t kss base D')(b0:0<=base)(b1:base<=4076)(nm:Str):aO D D' kss.length base (Qn base) nm=zS D D' nm:=by
 unfold aO zS Zq;rw[AG,h.ks];refine aU fun a _ _=>?_
 rw[tQ,tQ];obtain⟨S,eS⟩:∃S,S=zZ D nm a:=⟨_,rfl⟩
 obtain⟨S',eS'⟩:∃S',S'=zZ D' nm a:=⟨_,rfl⟩
 have wn:(Qn base:Int)=(if base+40<4095 then base+40 else 4095)-base+1:=by unfold Qn;split<;>lia
 have bd:∀{D:Dr} {n:Int},GO t kss base D->(n<base\/base+Qn base<=n)->QV n (zZ D nm a)=false:=fun{D n} dp hn=>by
  unfold QV;rw[List.any_eq_false];intro p hp z;rw[Jz,decide_eq_true_eq,decide_eq_true_eq]at z
  have:=tF dp nm a p hp
  rw[wn]at hn;split at hn<;>lia
 have e1:nM D D' base (Qn base) nm a=(zE base (base+Qn base) (zV S S')).map fun c=>[(nm,a,c)]:=by
  rw[<- tG];refine aU fun c c0 c1=>?_
  have c4:c<=4095:=by rw[wn]at c1;split at c1<;>lia
  have w:am D nm a c=QV c S:=by rw[eS];unfold am;rw[Ej,decide_eq_true_eq];exact oC h nm a c4
  have w':am D' nm a c=QV c S':=by rw[eS'];unfold am;rw[Ej,decide_eq_true_eq];exact oC h' nm a c4
  rw[w,w'];unfold zV
  by_cases z:QV c S=QV c S'
  ·rw[Jc z,Jn (fun y=>y z),Jd (by decide)]
  ·rw[Jd z,Jg z,Jc rfl]
 have e2:zE 0 4096 (zV S S')=zE base (base+Qn base) (zV S S'):=by
  refine oP b0 (by rw[wn];split<;>lia) (fun x _ hx=>?_) (fun x hx _=>?_)
  ·unfold zV
   rw[eS,eS',bd h (.inl hx),bd h' (.inl hx)];exact Jn fun z=>z rfl
  ·unfold zV
   rw[eS,eS',bd h (.inr hx),bd h' (.inr hx)];exact Jn fun z=>z rfl
 rw[e1,<- e2,<- eS,<- eS']
 by_cases z:S=S'
 ·rw[Jc z]
  have:zE 0 4096 (zV S S')=none:=iZ fun x _ _=>by
   unfold zV;rw[z];exact Jn fun y=>y rfl
  rw[this];rfl
 ·rw[Jd z]
  have ok:∀{D:Dr},GO t kss base D->Hv (zZ D nm a):=fun{D} dp=>by
   refine⟨An dp nm a,fun p hp=>?_⟩
   have hb:=tF dp nm a p hp;have n1:=dp.n1;refine⟨by lia,by lia,by lia,?_⟩
   rcases aT dp nm a with e|⟨e,e1,ht,h1,⟨q,_⟩|⟨w,ew,hw,q⟩⟩
   ·rw[e]at hp;cases hp
   ·rw[q]at hp;rw[Jl.mp hp];simp only;split<;>lia
   ·rw[q]at hp
    rcases Jk.mp hp with rfl|hp
    ·simp only;split<;>lia
    ·rw[Jl.mp hp];simp only;lia
  rw[gy (by rw[eS];exact ok h) (by rw[eS'];exact ok h') z];rfl
theorem uN{D D':Dr}{ns ms:List Str}(nn:ns.Nodup)(sn:sortedS ns=true)(mem:∀k,k∈ns↔k∈D.kn.map (·.1)\/k∈D'.kn.map (·.1))(mn:ms.Nodup)(sm:sortedS ms=true)(sub:∀z∈D.kn.map (·.1),z∈ms)(sub':∀z∈D'.kn.map (·.1),z∈ms):ns.findSome? (zS D D')=ms.findSome? (zS D D'):=by
 have hp:ns.Perm (ms.filter fun nm=>(D.kn.lookup nm).isSome||(D'.kn.lookup nm).isSome):=by
  refine(List.perm_ext_iff_of_nodup nn (List.Pairwise.filter _ mn)).mpr fun k=>?_
  rw[mem,List.mem_filter,Bool.or_eq_true];constructor
  ·rintro(z|z)
   ·exact⟨sub k z,.inl (Gp.mpr z)⟩
   ·exact⟨sub' k z,.inr (Gp.mpr z)⟩
  ·rintro⟨_,z|z⟩
   ·exact .inl (Gp.mp z)
   ·exact .inr (Gp.mp z)
 have e:ns=ms.filter fun nm=>(D.kn.lookup nm).isSome||(D'.kn.lookup nm).isSome:=by
  refine List.Perm.eq_of_pairwise (le:=sR) (fun x y _ _ h1 h2=>?_) (Z4 sn) ((Z4 sm).filter _) hp
  have e:x.cps.toList=y.cps.toList:=List.le_antisymm h1 h2
  cases x with
  |mk u=>cases y with
   |mk v=>
    have:u=v:=Array.toList_inj.mp e
    rw[this]
 rw[e];refine tz _ fun nm _ z=>?_
 rw[Bool.or_eq_false_iff]at z;unfold zS;rw[Option.isSome_eq_false_iff,Option.isNone_iff_eq_none]at z;rw[z.1,Option.isNone_iff_eq_none.mp (Option.isSome_eq_false_iff.mp z.2)]
 have:Zq D none D' none=none:=QL fun a _ _=>Jc rfl
 rw[this];rfl
theorem IX.same{H H':Hp}{v:V}{o:Option Kb}(h:IX H v o)(s:Ge H H'):IX H' v o:=by
 cases o with
 |none=>exact h
 |some e=>obtain⟨a,e1,h1⟩:=h;exact⟨a,e1,h1.same s⟩
theorem Ln{D:Dr}{nm:Str}{H:Hp}{Q:VK}(h:∀v,IX H v (D.kn.lookup nm)->Q v H):(D.kn.lookup nm=none->Q .non H)/\(∀e a,D.kn.lookup nm=some e->GY H a e->Q (.ref a) H):=
 ⟨fun e=>h _ (by rw[e];rfl),fun e a e1 h1=>h _ (by rw[e1];exact⟨a,rfl,h1⟩)⟩
theorem i3{S:List (Int×Int)}{i:Nat}{z:Int×Int}(h:S[i]? =some z):zB (S.take (i+1))=zB (S.take i)++(List.range (z.2+1-z.1).toNat).map fun k:Nat=>z.1+(k:Int):=by
 unfold zB;rw[Eh,h,List.flatMap_append]
 show _++List.flatMap _ [z]=_
 rw[List.flatMap_cons,List.flatMap_nil,El]
def Iz(H:Hp)(v:V):Option Zr->Prop
 |none=>v= .non
 |some r=>∃(t:Addr) (as:List Addr),v= .ref t/\H t=some (.tup (as.map V.ref))/\as.length=r.length/\∀(i:Nat) (a:Addr) (z:Str×Int×Int),as[i]? =some a->r[i]? =some z->H a=some (.tup [.str z.1,.int z.2.1,.int z.2.2])
theorem Iz.same{H H':Hp}{v:V}{o:Option Zr}(h:Iz H v o)(s:Ge H H'):Iz H' v o:=by
 cases o with
 |none=>exact h
 |some r=>
  obtain⟨t,as,e,h1,h2,h3⟩:=h
  exact⟨t,as,e,s _ _ h1,h2,fun i a z e1 e2=>s _ _ (h3 i a z e1 e2)⟩
theorem Iz.eqk{K:Frag}{H:Hp}{v u:V}{o:Option Zr}(h:Iz H v o)(g:Iz H u o):IJ K H 2 v u:=by
 cases o with
 |none=>
  have h:v= .non:=h
  have g:u= .non:=g
  rw[h,g];exact .non 2
 |some r=>
  obtain⟨t,as,rfl,h1,h2,h3⟩:=h;obtain⟨t',bs,rfl,g1,g2,g3⟩:=g;refine .tup (Gu.of h1) (Gu.of g1) (by rw[Je,Je,h2,g2]) fun i x y ex ey=>?_
  rw[Jo]at ex ey;obtain⟨a,ha,rfl⟩:=DZ.mp ex;obtain⟨b,hb,rfl⟩:=DZ.mp ey;have hi:i<r.length:=by rw[<- h2];exact(Jv.mp ha).1
  refine .tup (n:=0) (Gu.of (h3 i a _ ha (Jj hi))) (Gu.of (g3 i b _ hb (Jj hi))) rfl fun j x y ex ey=>?_
  match j,ex,ey with
  |0,ex,ey=>cases ex;cases ey;exact .str _ _
  |1,ex,ey=>cases ex;cases ey;exact .int _ _
  |2,ex,ey=>cases ex;cases ey;exact .int _ _
  |j+3,ex,ey=>cases ex
theorem Iz.eqw{H:Hp}{v u:V}{o:Option Zr}(h:Iz H v o)(g:Iz H u o)(hl:∀r,o=some r->r.length<=2):IS H 2 v u:=by
 cases o with
 |none=>
  have h:v= .non:=h
  have g:u= .non:=g
  rw[h,g];exact .non 2
 |some r=>
  obtain⟨t,as,rfl,h1,h2,h3⟩:=h;obtain⟨t',bs,rfl,g1,g2,g3⟩:=g
  have:=hl r rfl
  refine .tup (Rd.of h1) (Rd.of g1) (by rw[Je,Je,h2,g2]) (by rw[Je,h2,JA];lia) fun i x y ex ey=>?_
  rw[Jo]at ex ey;obtain⟨a,ha,rfl⟩:=DZ.mp ex;obtain⟨b,hb,rfl⟩:=DZ.mp ey;have hi:i<r.length:=by rw[<- h2];exact(Jv.mp ha).1
  refine .tup (n:=0) (Rd.of (h3 i a _ ha (Jj hi))) (Rd.of (g3 i b _ hb (Jj hi))) rfl (by show 3<=sizeLine;decide) fun j x y ex ey=>?_
  match j,ex,ey with
  |0,ex,ey=>cases ex;cases ey;exact .str _ _
  |1,ex,ey=>cases ex;cases ey;exact .int _ _
  |2,ex,ey=>cases ex;cases ey;exact .int _ _
  |j+3,ex,ey=>cases ex
theorem Iz.one{H:Hp}{t a:Addr}{z:Str×Int×Int}(h:H t=some (.tup [.ref a]))(h1:H a=some (.tup [.str z.1,.int z.2.1,.int z.2.2])):Iz H (.ref t) (some [z]):=by
 refine⟨t,[a],rfl,h,rfl,fun i b y e1 e2=>?_⟩
 cases i with
 |zero=>cases e1;cases e2;exact h1
 |succ i=>cases e1
def DR(H:Hp)(v:V):Option ((Int×Int)×Int×Int)->Prop
 |none=>v= .non
 |some p=>∃(t x y:Addr),v= .ref t/\H t=some (.tup [.ref x,.ref y])/\H x=some (.tup [.int p.1.1,.int p.1.2])/\H y=some (.tup [.int p.2.1,.int p.2.2])
section
variable(K:Frag)(C:Addr)
def kW:Sp:=fun vs H Q _=>∃(t:Addr) (S:List (Int×Int)),vs=[.ref t]/\Iy H t S/\Hv S/\∀l H',Ge H H'->H' l=some (.lst ((zB S).map V.int))->Q (.ref l) H'
def nY:Sp:=fun vs H Q _=>∃(t t':Addr) (S S':List (Int×Int)),vs=[.ref t,.ref t']/\Iy H t S/\Iy H t' S'/\Hv S/\Hv S'/\S≠S'/\∀H',Ge H H'->Q (.int (Qm S S')) H'
def wc:Sp:=fun vs H Q _=>∃(p ta hk bd lg:Addr) (n:Nat) (D:Dr) (v:V) (o:Option Kb) (p' ta' hk' bd' lg':Addr) (n':Nat) (D':Dr) (v':V) (o':Option Kb),vs=[.ref p,v,.ref p',v']/\Gg K C H p ta hk bd lg n D/\IX H v o/\Gg K C H p' ta' hk' bd' lg' n' D'/\IX H v' o'/\HQ D/\HQ D'/\iD D o/\iD D' o'/\D.kss.length<=8/\
 ∀u H',Ge H H'->La H' u (Zq D o D' o')->Q u H'
def uB:Sp:=fun vs H Q _=>∃(p ta hk bd lg:Addr) (n:Nat) (D:Dr) (v:V) (o:Option Kb) (p' ta' hk' bd' lg':Addr) (n':Nat) (D':Dr) (v':V) (o':Option Kb),vs=[.ref p,v,.ref p',v']/\Gg K C H p ta hk bd lg n D/\IX H v o/\Gg K C H p' ta' hk' bd' lg' n' D'/\IX H v' o'/\HQ D/\HQ D'/\iD D o/\iD D' o'/\D.kss.length<=8/\
 ∀u H',Ge H H'->DR H' u (Zk D o D' o')->Q u H'
structure IR(D:Dr):Prop where
 ok:Ip D
 dn:HQ D
 kn:wx D
 few:D.kn.length<=30
def kj:Sp:=fun vs H Q _=>∃(p ta hk bd lg:Addr) (n:Nat) (D:Dr) (p' ta' hk' bd' lg':Addr) (n':Nat) (D':Dr),vs=[.ref p,.ref p']/\Gg K C H p ta hk bd lg n D/\Gg K C H p' ta' hk' bd' lg' n' D'/\IR D/\IR D'/\
 ∀u ns H',Ge H H'->ns.Nodup->(∀k,k∈ns↔k∈D.kn.map (·.1)\/k∈D'.kn.map (·.1))->sortedS ns=true->Iz H' u (zO D D' ns)->Q u H'
def mY:Sp:=fun vs H Q _=>∃(p ta hk bd lg:Addr) (n:Nat) (D:Dr) (p' ta' hk' bd' lg':Addr) (n':Nat) (D':Dr),vs=[.ref p,.ref p']/\Gg K C H p ta hk bd lg n D/\Gg K C H p' ta' hk' bd' lg' n' D'/\IR D/\IR D'/\
 ∀ns H',Ge H H'->ns.Nodup->(∀k,k∈ns↔k∈D.kn.map (·.1)\/k∈D'.kn.map (·.1))->sortedS ns=true->Q (.bl (zO D D' ns).isNone) H'
end
def uj:Sp:=fun vs H Q _=>∃(ol m1 kd1 m2 kd2 dr nl:Addr) (D D':Dr) (nms:List Str) (many:Nat) (base:Int),vs=[.ref ol,.ref dr]/\H ol=some (.lst [.ref m1,.ref m2])/\GG H m1 kd1 D/\GG H m2 kd2 D'/\H dr=some (.tup [.ref nl,.int (many:Int),.int base])/\H nl=some (.lst (nms.map V.str))/\nms.length<64/\many<=8/\0<=base/\base<=4076/\
 ∀u ms H',Ge H H'->ms.Perm nms->sortedS ms=true->Iz H' u (ms.findSome? (aO D D' many base (Qn base)))->Q u H'
def Ca(K:Frag)(C:Addr):Sp:=fun vs H Q _=>∃(p ta hk bd lg:Addr) (n:Nat) (D:Dr) (nm:Str),vs=[.ref p,.str nm]/\Gg K C H p ta hk bd lg n D/\∀v,IX H v (D.kn.lookup nm)->Q v H
theorem Mf.ofO{P:Program}{w:World}{K:Frag}{mg:Gc}{base:Heap}{C:Addr}(a:Mf P w K mg base C "button_of" ["self","name"] 1 (jG K C)):Mf P w K mg base C "button_of" ["self","name"] 1 (Ca K C):=
 a.weak fun vs H Q E ⟨p,ta,hk,bd,lg,n,D,nm,e,b,q⟩=>⟨p,ta,hk,bd,lg,n,D,nm,e,b,L3.Ln q⟩
theorem GO.td{t:List Int}{kss:List (List Int)}{base:Int}{D:Dr}(h:GO t kss base D)(hl:D.kn.length<=30):IR D:=by
 refine⟨h.ok,⟨h.n0,by have:=h.n1;lia,h.f0,by have:=h.f1;lia,h.ok.l0,by rw[h.ks];exact h.lk⟩,fun nm=>?_,hl⟩
 cases e:D.kn.lookup nm with
 |none=>exact trivial
 |some b=>exact(h.kb _ (zv e)).1
end L3
namespace Lw
open PySem L2 L3
section
variable{P:Program}{w:World}{K:Frag}{mg:Gc}{base:Heap}{tk:Nat->Tok}{C:Addr}
theorem ga(a:At K mg "stretches_of" Zw ["door","button","age"])(T:GJ K mg tk)(U:HG K C)(dB:Mf P w K mg base C "takes_from" ["self","button","age"] 2 (bE K C))(dE:Mf P w K mg base C "bounds_told" ["self"] 1 (cP K C)):Df P w K mg base "stretches_of" ["door","button","age"] 3 (wN K C):=by
 refine a.dq Gv fun f _ A _ s H vs Q E hr h=>?_
 ·obtain⟨p,ta,hk,bd,lg,n,D,v,o,age,rfl,b,hv,q⟩:=h
  refine⟨_,(qe (qG (QW.pt (zF (qx zP (qv 1) qM (qu _)) (zA (Qh (zc (zg dB U.cl hr.mo (qv 0) (qd (qv 1) (qd (qv 2) qb)))))))) (qf (qp (qz qb))) qy)
   (qe (zb (zm dE U.cl hr.mo (qv 0)) (zi rfl (qq (qh (i:=3) Gv.nd rfl (Or.inl rfl)) (qq (qh (i:=4) Gv.nd rfl (Or.inl rfl)) (qq (qh (i:=5) Gv.nd rfl (Or.inl rfl)) qO)))))
   (qe (zb (qv 1) (zi rfl (qq (qh (i:=6) Gv.nd rfl (Or.inl rfl)) (qq (qh (i:=7) Gv.nd rfl (Or.inl rfl)) (qq (qh (i:=8) Gv.nd rfl (Or.inl rfl)) qO)))))
   (qe (qA (i:=9) Gv.nd rfl (Or.inl rfl) (zz qb))
   (qe (qG (qx eZ (qw qJ (qv 7) qg) (zd (v:= .int 4096) rfl T.g_COUNTS ⟨_,rfl⟩) (qu _)) (qf (zJ (ZM Ei EY EZ Qp (qv 9) (qd (qz (qd (qw qJ (qv 7) qg) (qd (qm (Qr rfl) T.b_min PyProof.Rows.boot_min (qd (qw qJ (qv 7) (qv 3)) (qd (qw Qf (zd (v:= .int 4096) rfl T.g_COUNTS ⟨_,rfl⟩) qg) qb))) qb))) qb)))) qy)
   (qe (qG (QW.pt (cV (qx Zg (qv 8) qM (qu _)) (eC (qx zt (qE qP (qv 8) qg) (qv 2) (qu _))))) (qe (qA (i:=10) Gv.nd rfl (Or.inl rfl) (qw qJ (qE qP (qv 8) qg) qg))
   (qf (qG (qx ZI (qv 10) (qm (Qr rfl) T.b_min PyProof.Rows.boot_min (qd (qw qJ (qv 7) (qv 4)) (qd (qw Qf (zd (v:= .int 4096) rfl T.g_COUNTS ⟨_,rfl⟩) qg) qb))) (qu _)) (qf (zJ (ZM Ei EY EZ Qp (qv 9) (qd (qz (qd (qv 10) (qd (qv 10) qb))) qb)))) qy))) qy)
   (qf (qp (qH qZ T.b_tuple JG (qd (qv 9) qb)))))))))),?_⟩
  have none':(∀t H',Ge H H'->Iy H' t []->Q (.ref t) H')->∀t,H t=none->Q (.ref t) (Gh H t (.tup [])):=fun q t ht=>q t _ (Ge.upd ht) ⟨[],qc,rfl,fun i a z h=>by cases h⟩
  cases o with
  |none=>
   have hv:v= .non:=hv
   subst hv
   exact⟨_,rfl,rfl,_,rfl,zR (Jg rfl) (zf ⟨F3,none' q⟩)⟩
  |some e=>
  obtain⟨x,rfl,v',hx,hw⟩:=hv;refine⟨_,rfl,rfl,_,rfl,q9 (fun y=>nomatch (Jx y)) (fun _=>?_)⟩
  refine⟨_,rfl,p,rfl,b.no,_,rfl,_,rfl,p,ta,hk,bd,lg,x,n,D,e,age,rfl,b,⟨v',hx,hw⟩,_,rfl,?_⟩
  have q:∀t H',Ge H H'->Iy H' t (QC D e age)->Q (.ref t) H':=q
  unfold QC at q;cases ht:qT D e age with
  |false=>
   rw[Jd (by rw[ht];intro z;cases z)]at q
   exact zf ⟨F3,none' q⟩
  |true=>
  rw[Jc ht]at q;obtain⟨AA,eA⟩:∃AA:List (Int×Int),(if e.last+1<4096 then [(e.last+1,if 4095<e.last+D.near then 4095 else e.last+D.near)]else [])=AA:=⟨_,rfl⟩
  rw[eA]at q;have hA:AA.length<=1:=by rw[<- eA];split<;>simp
  refine qW ?_
  refine⟨_,rfl,p,rfl,b.no,p,ta,hk,bd,lg,n,D,rfl,b,fun t1 H1 s1 ht1=>⟨t1,_,rfl,.tup ht1,rfl,_,_,rfl,_,_,rfl,_,_,rfl,rfl,?_⟩⟩
  refine⟨_,rfl,x,_,rfl,.tup (s1 _ _ hx),rfl,_,_,rfl,_,_,rfl,_,_,rfl,rfl,?_⟩
  refine⟨F3,fun sl hsl=>?_⟩
  have u2:=Ge.upd (o:= .lst []) hsl
  have hsl0:=aL hsl s1;refine fU (fun σ' H'=>Ge H H'/\Lg H' sl AA/\σ'=[some (.ref p),some (.ref x),some (.int age),some (.int D.near),some (.int D.far),some (.int D.most),some (.int e.age),some (.int e.last),some v',some (.ref sl),none]) (fun D' hrt hnx=>?_) ?_
  ·refine⟨_,rfl,_,_,rfl,rfl,_,_,rfl,rfl,_,rfl,?_⟩
   by_cases h1:e.last+1<4096
   ·refine zR (Jg h1) ?_
    refine⟨_,rfl,.inl ⟨rfl,_,Gq.of qc⟩,_,rfl,_,_,rfl,rfl,_,rfl,_,rfl,_,_,rfl,rfl,_,_,rfl,rfl,_,_,rfl,F5,fun y hy=>⟨sl,_,_,rfl,rfl,(Ge.upd hy) _ _ qc,by show 0<sizeLine;decide,hnx _ _ ⟨?_,?_,rfl⟩⟩⟩
    ·exact fun c o e=>by rw[qi (qo e hsl0)];exact Ge.upd hy _ _ (u2 _ _ (s1 _ _ e))
    ·rw[<- eA,Jc h1]
     exact Lg.add (as:=[]) (zs:=[]) ((Ge.upd hy) _ _ qc) rfl (fun i a z h=>by cases h) qc
   ·refine zW (Jn h1) (hnx _ _ ⟨s1.trans u2,?_,rfl⟩)
    rw[<- eA,Jd h1]
    exact⟨[],qc,rfl,fun i a z h=>by cases h⟩
  rintro _ H3 ⟨s3,pr3,rfl⟩
  refine ZD (fun σ' H'=>Ge H H'/\Lg H' sl (AA++(match e.wt with
   |none=>[]
   |some (x,w)=>if x=age/\w+1<=(if 4095<e.last+D.far then 4095 else e.last+D.far)then [(w+1,w+1)]else []))/\∃o,σ'=[some (.ref p),some (.ref x),some (.int age),some (.int D.near),some (.int D.far),some (.int D.most),some (.int e.age),some (.int e.last),some v',some (.ref sl),o]) (fun D' hrt hnx=>?_) ?_
  ·have hw3:=hw.same s3
   cases ew:e.wt with
   |none=>
    rw[ew]at hw3;have hv':v'= .non:=hw3
    subst hv';simp only
    exact⟨_,rfl,rfl,_,rfl,zW rfl (qW (hnx _ _ ⟨s3,by rw[ew];simp only;rw[El];exact pr3,_,rfl⟩))⟩
   |some xw=>
   obtain⟨x',w'⟩:=xw;rw[ew]at hw3;obtain⟨wa,rfl,hwa⟩:=hw3;simp only
   refine⟨_,rfl,rfl,_,rfl,zR rfl ?_⟩
   refine⟨_,rfl,wa,_,_,_,rfl,rfl,Gu.of hwa,rfl,_,rfl,rfl,_,rfl,?_⟩
   by_cases h2:x'=age
   case neg=>
    refine zW (Jn (by intro z;injection z with z;exact h2 z)) (hnx _ _ ⟨s3,?_,_,rfl⟩)
    rw[ew];simp only
    rw[Jd (fun z=>h2 z.1),El];exact pr3
   refine zR (Jg (by rw[h2])) ?_
   refine⟨_,rfl,wa,_,_,_,rfl,rfl,Gu.of hwa,rfl,_,_,rfl,rfl,?_⟩
   refine⟨_,rfl,_,rfl,_,rfl,_,_,rfl,rfl,_,_,rfl,rfl,_,_,rfl,_,_,rfl,rfl,_,rfl,?_⟩
   by_cases h3:w'+1<=(if 4095<e.last+D.far then 4095 else e.last+D.far)
   ·refine zR (Jg h3) ?_
    obtain⟨as,eas,las,has⟩:=pr3;refine⟨_,rfl,.inl ⟨rfl,_,Gq.of eas⟩,_,rfl,_,rfl,F5,fun y hy=>⟨sl,_,_,rfl,rfl,(Ge.upd hy) _ _ eas,by rw[Je,las,JA];omega,hnx _ _ ⟨?_,?_,_,rfl⟩⟩⟩
    ·exact fun c o e=>by rw[qi (qo e hsl0)];exact Ge.upd hy _ _ (s3 _ _ e)
    ·rw[ew];simp only
     rw[Jc ⟨h2,h3⟩];exact Lg.add ((Ge.upd hy) _ _ eas) las (fun i a z e1 e2=>Ge.upd hy _ _ (has i a z e1 e2)) qc
   ·refine zW (Jn h3) (hnx _ _ ⟨s3,?_,_,rfl⟩)
    rw[ew];simp only
    rw[Jd (fun z=>h3 z.2),El];exact pr3
  rintro _ H4 ⟨s4,⟨as,eas,las,has⟩,o,rfl⟩
  exact⟨_,rfl,sl,_,rfl,.inl ⟨Gq.of eas,fun t ht=>q t _ (s4.trans (Ge.upd ht)) ⟨as,qc,las,fun i a z e1 e2=>Ge.upd ht _ _ (has i a z e1 e2)⟩⟩⟩
theorem cE(a:Io K C "plain_step" "Door.plain_step" Qk ["self","button","age","count"])(T:GJ K mg tk)(U:HG K C)(dB:Mf P w K mg base C "takes_from" ["self","button","age"] 2 (bE K C))(xD:Df P w K mg base "step_by" ["button","age","count","near","far"] 2 ie):Mf P w K mg base C "plain_step" ["self","button","age","count"] 3 (kN K C):=by
 refine a.mq ZN fun f _ A _ s H vs Q E hr h=>?_
 ·obtain⟨p,ta,hk,bd,lg,x,n,D,e,age,c,rfl,b,hx,q⟩:=h
  refine⟨_,(qe (qG (Qh (zc (zg dB U.cl hr.mo (qv 0) (qd (qv 1) (qd (qv 2) qb))))) (qf (qp (qz (qd qB (qd (qv 1) qb))))) qy)
   (qf (qp (qr xD hr.mo (qd (qv 1) (qd (qv 2) (qd (qv 3) (qd (qN (qv 0)) (qd (qN (qv 0)) qb))))))))),?_⟩
  refine⟨_,rfl,p,rfl,b.no,_,rfl,_,rfl,p,ta,hk,bd,lg,x,n,D,e,age,rfl,b,hx,_,rfl,?_⟩
  unfold Qs at q;cases ht:qT D e age with
  |false=>
   rw[ht,Jd (by intro z;cases z)]at q
   refine zf ⟨_,rfl,F5,fun q1 hq1=>?_⟩
   exact q q1 x _ (Ge.upd hq1) qc (hx.same (Ge.upd hq1))
  |true=>
  rw[ht,Jc rfl]at q;refine qW ?_
  exact⟨_,rfl,_,rfl,_,rfl,_,rfl,p,_,rfl,b.h_near U,_,rfl,p,_,rfl,b.h_far U,x,e,age,c,D.near,D.far,rfl,hx,q⟩
theorem ij(a:At K mg "names_known" ZU ["door"])(T:GJ K mg tk)(U:HG K C)(dC:Mf P w K mg base C "known_now" ["self"] 1 (fF K C)):Df P w K mg base "names_known" ["door"] 2 (k7 K C):=by
 refine a.dq gM fun f _ A _ s H vs Q E hr h=>?_
 ·obtain⟨p,ta,hk,bd,lg,n,D,rfl,b,ok,q⟩:=h
  refine⟨_,(qf (qp (zT (own:=["row"]) (fr:=[]) (js:=[]) rfl (ax (zm dC U.cl hr.mo (qv 0))) rfl (fun _ _ h=>nomatch h) rfl (cq rfl (by decide +kernel) (by decide +kernel) (by decide +kernel)) (fun _ _ _ _=>qh (i:=0) (show List.Nodup (["row"]:List Str)from by decide +kernel) rfl (Or.inl rfl) (.inr rfl)) (fun _ _ _ _=>(qE (AL (K:=K) rfl) (qv 0) qg))))),?_⟩
  refine⟨_,rfl,p,rfl,b.no,p,ta,hk,bd,lg,n,D,rfl,b,ok,fun q1 ss H1 s1 pm so sh=>?_⟩
  obtain⟨as,e1,la,has⟩:=sh;have ls:ss.length<=60:=by rw[pm.length_eq,Je];exact ok.nl
  refine⟨q1,rfl,⟨_,Gu.of e1⟩,aM (K:=K) (xs:=as.map V.ref) (by rw[Je,la,JA];omega) (fun i ys H2=>ys=(ss.take i).map V.str/\Ge H1 H2) ⟨by simp,Ge.refl _⟩ (fun i ys H2 ⟨_,s2⟩=>Gu.of (s2 _ _ e1)) ?_ ?_⟩
  ·rintro i ys H2 x hx hyl ⟨rfl,s2⟩
   rw[Jo]at hx;obtain⟨a1,ha1,rfl⟩:=DZ.mp hx;have hi:i<ss.length:=by rw[<- la];exact(Jv.mp ha1).1
   have es:ss[i]? =some ss[i]:=Jj hi
   obtain⟨e,he⟩:=ZV (pm.mem_iff.mp (Ey hi))
   obtain⟨v,h1,_⟩:=has i a1 ss[i] e ha1 es he
   refine⟨_,rfl,a1,_,_,_,rfl,rfl,Gu.of (s2 _ _ h1),rfl,?_,s2⟩
   rw[Eh,es,JN];rfl
  ·rintro ys H2 hyl ⟨rfl,s2⟩ l hl
   refine q l ss _ ((s1.trans s2).trans (Ge.upd hl)) pm ?_
   rw[qc,Je,la,EA]
theorem jt(a:At K mg "lesser_end" aF ["one","first","other","second"])(T:GJ K mg tk)(U:HG K C)(dE:Mf P w K mg base C "bounds_told" ["self"] 1 (cP K C)):Df P w K mg base "lesser_end" ["one","first","other","second"] 2 (nO K C):=by
 refine a.dq jw fun f _ A _ s H vs Q E hr h=>?_
 ·obtain⟨p,ta,hk,bd,lg,x,n,D,e,p',ta',hk',bd',lg',x',n',D',e',rfl,b,⟨v,hx,_⟩,b',⟨v',hx',_⟩,q⟩:=h
  refine⟨_,(qf (qp (qm (Qr rfl) T.b_min PyProof.Rows.boot_min (qd (qw qJ (qE qP (qv 1) qg) (qE qP (zm dE U.cl hr.mo (qv 0)) qg)) (qd (qw qJ (qE qP (qv 3) qg) (qE qP (zm dE U.cl hr.mo (qv 2)) qg)) qb))))),?_⟩
  refine⟨_,rfl,x,_,_,_,rfl,rfl,Gu.of hx,rfl,_,rfl,p,rfl,b.no,p,ta,hk,bd,lg,n,D,rfl,b,fun t1 H1 s1 ht1=>⟨t1,_,_,_,rfl,rfl,Gu.of ht1,rfl,_,_,rfl,rfl,?_⟩⟩
  have b1:=b'.same s1
  exact⟨_,rfl,x',_,_,_,rfl,rfl,Gu.of (s1 _ _ hx'),rfl,_,rfl,p',rfl,b1.no,p',ta',hk',bd',lg',n',D',rfl,b1,fun t2 H2 s2 ht2=>⟨t2,_,_,_,rfl,rfl,Gu.of ht2,rfl,_,_,rfl,rfl,_,_,rfl,q _ (s1.trans s2)⟩⟩
end
section
variable{P:Program}{w:World}{K:Frag}{mg:Gc}{base:Heap}{tk:Nat->Tok}{C:Addr}
theorem lI(a:At K mg "counts_in" bi ["stretches"])(T:GJ K mg tk):Df P w K mg base "counts_in" ["stretches"] 1 kW:=by
 refine a.dq ky fun f _ A _ s H vs Q E hr h=>?_
 ·obtain⟨t,S,rfl,pr,ok,q⟩:=h
  refine⟨_,(qf (qp (uV (own:=["first","last","count"]) (fr:=[]) (js:=[]) rfl (ax (qv 0)) rfl (fun _ _ h=>nomatch h) rfl (cq rfl (by decide +kernel) (by decide +kernel) (by decide +kernel)) (fun _ _ _ _=>hJ (K:=K) rfl 2 rfl (qq (qh (i:=0) (show List.Nodup (["first","last","count"]:List Str)from by decide +kernel) rfl (Or.inl rfl) (.inr rfl)) (qq (qh (i:=1) (show List.Nodup (["first","last","count"]:List Str)from by decide +kernel) rfl (Or.inl rfl) (.inr rfl)) qO))) (fun _ _ _ _=>(iC rfl T.b_range (qd (qv 0) (qd (qw qJ (qv 1) qg) qb)))) (fun _ _ _ _=>qh (i:=2) (show List.Nodup (["first","last","count"]:List Str)from by decide +kernel) rfl (Or.inl rfl) (.inr rfl)) (fun _ _ _ _=>(qv 2))))),?_⟩
  obtain⟨as,e1,la,has⟩:=id pr;have cl:∀i,(zB (S.take i)).length<=28:=fun i=>by
   refine JK ?_ ok.cnt
   have e:zB S=zB (S.take i)++zB (S.drop i):=by unfold zB;rw[<- List.flatMap_append,List.take_append_drop]
   rw[e,JD];exact EK _ _
  refine⟨_,rfl,t,rfl,⟨_,Gu.of e1⟩,?_⟩
  refine⟨fun i m ys τ Hx=>m=S.length-i/\i<=S.length/\Hx=H/\ys=(zB (S.take i)).map V.int/\∃o0 o1 o2,τ=[o0,o1,o2],⟨S.length,by simp,JI _,rfl,rfl,_,_,_,rfl⟩,?_⟩
  rintro i m ys τ Hx ⟨rfl,hi,rfl,rfl,o0,o1,o2,rfl⟩
  by_cases hlt:i<S.length
  ·have hz:S[i]? =some S[i]:=Jj hlt
   obtain⟨z,ez⟩:∃z,z=S[i]:=⟨_,rfl⟩
   rw[<- ez]at hz;have hia:i<as.length:=by rw[la];exact hlt
   have hA:(as.map V.ref)[i]? =some (.ref as[i]):=by rw[Jo,Jj hia];rfl
   refine .inr ⟨⟨_,_,Gu.of e1,hA⟩,fun x H' y=>?_⟩
   obtain⟨eH,hx⟩:H'=Hx/\(as.map V.ref)[i]? =some x:=⟨y.1,y.2 _ (Gu.of e1)⟩
   subst eH;rw[hA]at hx;cases hx;have hb:=ok.bd z (DV hz);refine⟨_,_,rfl,Gu.of (has i _ z (Jj hia) hz),rfl,_,_,rfl,_,_,rfl,rfl,?_⟩
   refine⟨_,rfl,_,rfl,_,_,rfl,rfl,_,_,rfl,⟨by lia,by lia,by lia,by lia⟩,?_⟩
   obtain⟨n,en⟩:∃n,n=(z.2+1-z.1).toNat:=⟨_,rfl⟩
   have ln:=cl (i+1);rw[i3 hz,<- en,JD,Je,List.length_range]at ln;refine⟨fun i2 m2 zs τ Hx=>m2=n-i2/\i2<=n/\Hx=H'/\zs=(zB (S.take i)).map V.int++(List.range i2).map (fun k:Nat=>V.int (z.1+(k:Int)))/\∃o2,τ=[some (.int z.1),some (.int z.2),o2],⟨n,by simp,JI _,rfl,by simp,_,rfl⟩,?_⟩
   rintro i2 m2 zs τ Hy ⟨rfl,hi2,rfl,rfl,o2',rfl⟩
   by_cases hl2:i2<n
   ·refine .inr ⟨by rw[<- en];exact hl2,by rw[JD,Je,Je,List.length_range,JA];lia,fun x2 H5 y2=>?_⟩
    obtain⟨eH5,rfl⟩:H5=Hy/\x2= .int (z.1+(i2:Int)):=y2
    subst eH5;refine⟨fun v H7=>v= .int (z.1+(i2:Int))/\H7=H5,fun v H7 hv=>⟨n-(i2+1),by lia,rfl,hl2,hv.2,?_,_,rfl⟩,⟨_,rfl,rfl,rfl⟩⟩
    rw[hv.1,List.range_succ,JN,Ew];rfl
   ·obtain rfl:i2=n:=by lia
    refine .inl ⟨by rw[<- en];exact Jf _,S.length-(i+1),by lia,rfl,hlt,rfl,?_,_,_,_,rfl⟩
    rw[i3 hz,<- en,JN,EB];rfl
  ·obtain rfl:i=S.length:=by lia
   refine .inl ⟨⟨_,Gu.of e1,by rw[Je,la];exact Jf _⟩,fun p hp=>q p _ (Ge.upd hp) ?_⟩
   rw[qc,EA]
theorem gP(a:At K mg "least_apart" ZY ["these","those"])(T:GJ K mg tk)(xJ:Df P w K mg base "counts_in" ["stretches"] 1 kW):Df P w K mg base "least_apart" ["these","those"] 2 nY:=by
 refine a.dq gU fun f _ A _ s H vs Q E hr h=>?_
 ·obtain⟨t,t',S,S',rfl,pr,pr',ok,ok',ne,q⟩:=h
  refine⟨_,(qf (qp (qE qK (qm (jo rfl) T.b_sorted PyProof.Rows.boot_sorted (qd (qw yx (qH (gA rfl) T.b_set PyProof.Rows.boot_set (qd (qr xJ hr.mo (qd (qv 0) qb)) qb)) (qH (gA rfl) T.b_set PyProof.Rows.boot_set (qd (qr xJ hr.mo (qd (qv 1) qb)) qb))) qb)) qg))),?_⟩
  have c1:=ok.cnt;have c2:=ok'.cnt;have sb:PySem.scanBound=4096:=rfl
  refine⟨_,rfl,t,S,rfl,pr,ok,fun l1 H1 s1 e1=>⟨l1,zB S,rfl,Gq.of e1,by lia,fun z1 hz1=>?_⟩⟩
  have u1:=Ge.upd (o:=ay P w z1 (S0.ddL (zB S))) hz1
  refine⟨_,rfl,t',S',rfl,(pr'.same s1).same u1,ok',fun l2 H2 s2 e2=>⟨l2,zB S',rfl,Gq.of e2,by lia,fun z2 hz2=>?_⟩⟩
  have u2:=Ge.upd (o:=ay P w z2 (S0.ddL (zB S'))) hz2
  have ez1:=s2 _ _ (qc (H:=H1) (a:=z1) (o:=ay P w z1 (S0.ddL (zB S))))
  have d1:=eQ (zB S);have d2:=eQ (zB S');refine⟨z1,z2,_,_,rfl,rfl,qo ez1 hz2,u2 _ _ ez1,qc,aZ _,aZ _,by lia,by lia,fun z3 ks hz3 nd len mem=>?_⟩
  have u3:=Ge.upd (o:=ay P w z3 ks) hz3
  refine⟨z3,ks,rfl,qc,by lia,fun l ms hl pm pw=>?_⟩
  have u4:=Ge.upd (o:= .lst (ms.map V.int)) hl
  have hd:=pX (ms:=ms) ok ok' (fun k=>by rw[pm.mem_iff,mem,ac,ac]) pw ne
  exact⟨l,_,_,_,rfl,rfl,Gq.of qc,Zc (j:=0) (by rw[Jo,hd];rfl),q _ (((((s1.trans u1).trans s2).trans u2).trans u3).trans u4)⟩
theorem hU(a:At K mg "press_apart" ZT ["one","first","other","second"])(T:GJ K mg tk)(U:HG K C)(xE:Mf P w K mg base C "keys_now" ["self"] 1 (oq K C))(dY:Df P w K mg base "stretches_of" ["door","button","age"] 3 (wN K C))(xK:Df P w K mg base "least_apart" ["these","those"] 2 nY):Df P w K mg base "press_apart" ["one","first","other","second"] 4 (wc K C):=by
 refine a.dq GL fun f _ A _ s H vs Q E hr h=>?_
 ·obtain⟨p,ta,hk,bd,lg,n,D,v,o,p',ta',hk',bd',lg',n',D',v',o',rfl,b,hv,b',hv',dn,dn',k,k',k8,q⟩:=h
  refine⟨_,(qe (zh JM rfl (zN rfl T.b_range (qd (qm qR T.b_len J1 (qd (zm xE U.cl hr.mo (qv 0)) qb)) qb)) (qh (i:=4) GL.nd rfl (Or.inl rfl))
   (qe (qA (i:=5) GL.nd rfl (Or.inl rfl) (qr dY hr.mo (qd (qv 0) (qd (qv 1) (qd (qv 4) qb)))))
   (qe (qA (i:=6) GL.nd rfl (Or.inl rfl) (qr dY hr.mo (qd (qv 2) (qd (qv 3) (qd (qv 4) qb)))))
   (qf (qG (qx (B0 hr) (qv 5) (qv 6) (qu _)) (qf (qp (qz (qd (qv 4) (qd (qr xK hr.mo (qd (qv 5) (qd (qv 6) qb))) qb))))) qy)))))
   (qf (qp qM))),?_⟩
  refine⟨_,rfl,p,rfl,b.no,p,ta,hk,bd,lg,n,D,rfl,b,fun t0 as H0 s0 sq la _=>⟨t0,_,rfl,.inr sq,_,rfl,by lia,by rw[Je,la];lia,?_⟩⟩
  rw[Je,la,Ee];refine Qo (n:=D.kss.length) (Pv:=fun i σ Hx=>Ge H Hx/\(∀x:Int,0<=x->x<0+(i:Int)->Qi D x o=Qi D' x o')/\∃o4 o5 o6,σ=[some (.ref p),some v,some (.ref p'),some v',o4,o5,o6]) ⟨s0,fun x h1 h2=>by lia,_,_,_,rfl⟩ ?_ ?_
  ·rintro i σ H1 hi ⟨s1,no,o4,o5,o6,rfl⟩
   obtain⟨A,eA⟩:∃A:Int,A=0+(i:Int):=⟨_,rfl⟩
   rw[<- eA]at no⊢;refine⟨_,rfl,_,rfl,_,rfl,p,ta,hk,bd,lg,n,D,v,o,A,rfl,b.same s1,hv.same s1,fun t1 H2 s2 pr1=>?_⟩
   have S2:=s1.trans s2;refine⟨_,rfl,_,rfl,_,rfl,p',ta',hk',bd',lg',n',D',v',o',A,rfl,b'.same S2,hv'.same S2,fun t2 H3 s3 pr2=>?_⟩
   have pr1:Iy H3 t1 (Qi D A o):=Iy.same s3 pr1
   have pr2:Iy H3 t2 (Qi D' A o'):=pr2
   have S3:=S2.trans s3;refine⟨_,rfl,_,rfl,t1,t2,_,_,rfl,rfl,pr1,pr2,_,rfl,q9 (fun y=>?_) (fun y=>?_)⟩
   ·have ne:=Jx y
    refine⟨_,rfl,_,rfl,_,rfl,t1,t2,_,_,rfl,pr1,pr2,oA dn k A,oA dn' k' A,ne,fun H4 s4=>⟨F5,fun tt htt=>?_⟩⟩
    have e1:Zq D o D' o'=some (A,Qm (Qi D A o) (Qi D' A o')):=by
     unfold Zq;refine bL hi (by rw[<- eA];exact Jd ne) fun x x0 x1=>Jc (no x x0 (by lia))
    have:=q (.ref tt) _ ((S3.trans s4).trans (Ge.upd (o:= .tup [.int A,.int (Qm (Qi D A o) (Qi D' A o'))]) htt))
    rw[e1]at this;exact this ⟨tt,rfl,qc⟩
   ·have eq:=Decidable.not_not.mp (fun z=>y (Jg z))
    refine⟨S3,fun x x0 x1=>?_,_,_,_,rfl⟩
    by_cases hx:x<A
    ·exact no x x0 hx
    ·obtain rfl:x=A:=by lia
     exact eq
  ·rintro σ H1 ⟨s1,no,o4,o5,o6,rfl⟩
   have e1:Zq D o D' o'=none:=QL fun x x0 x1=>Jc (no x x0 x1)
   have:=q .non _ s1
   rw[e1]at this;exact this rfl
theorem jz(a:At K mg "pair_apart" aN ["one","first","other","second"])(T:GJ K mg tk)(U:HG K C)(d0:Mf P w K mg base C "closed_now" ["self"] 1 (i4 K C))(dG:Mf P w K mg base C "plain_step" ["self","button","age","count"] 3 (kN K C))(xO:Df P w K mg base "lesser_end" ["one","first","other","second"] 2 (nO K C))(dJ:Df P w K mg base "press_apart" ["one","first","other","second"] 4 (wc K C)):Df P w K mg base "pair_apart" ["one","first","other","second"] 5 (uB K C):=by
 refine a.dq Gx fun f _ A _ s H vs Q E hr h=>?_
 ·obtain⟨p,ta,hk,bd,lg,n,D,v,o,p',ta',hk',bd',lg',n',D',v',o',rfl,b,hv,b',hv',dn,dn',k,k',k8,q⟩:=h
  refine⟨_,(qe (qG (QW.pt (zF (qx zP (qv 1) qM (qu _)) (zA (qx zP (qv 3) qM (qu _))))) (qf (qp qM)) qy)
   (qe (qA (i:=4) Gx.nd rfl (Or.inl rfl) (qm (ZS rfl) T.b_max FC (qd (qE qP (qv 1) qg) (qd (zm d0 U.cl hr.mo (qv 0)) qb))))
   (qe (qA (i:=5) Gx.nd rfl (Or.inl rfl) (qr xO hr.mo (qd (qv 0) (qd (qv 1) (qd (qv 2) (qd (qv 3) qb))))))
   (qe (zh JM rfl (iC rfl T.b_range (qd (qv 5) (qd (qm (Qr rfl) T.b_min PyProof.Rows.boot_min (qd (qw qJ (qv 5) qg) (qd (zd (v:= .int 4096) rfl T.g_COUNTS ⟨_,rfl⟩) qb))) qb))) (qh (i:=6) Gx.nd rfl (Or.inl rfl))
   (qe (zb (zg dG U.cl hr.mo (qv 0) (qd (qv 1) (qd (qv 4) (qd (qv 6) qb)))) (zi rfl (qq (qh (i:=7) Gx.nd rfl (Or.inl rfl)) (qq (qh (i:=8) Gx.nd rfl (Or.inl rfl)) qO))))
   (qe (zb (zg dG U.cl hr.mo (qv 2) (qd (qv 3) (qd (qv 4) (qd (qv 6) qb)))) (zi rfl (qq (qh (i:=7) Gx.nd rfl (Or.inl rfl)) (qq (qh (i:=9) Gx.nd rfl (Or.inl rfl)) qO))))
   (qe (qA (i:=10) Gx.nd rfl (Or.inl rfl) (qr dJ hr.mo (qd (qv 0) (qd (qv 8) (qd (qv 2) (qd (qv 9) qb))))))
   (qf (qG (qx Zg (qv 10) qM (qu _)) (qf (qp (qz (qd (qz (qd (qv 4) (qd (qv 6) qb))) (qd (qv 10) qb))))) qy))))))
   (qf (qp qM)))))),?_⟩
  cases o with
  |none=>
   have hv:v= .non:=hv
   subst hv
   exact⟨_,rfl,rfl,_,rfl,zR (Jg rfl) (zf (q .non H (Ge.refl _) rfl))⟩
  |some e=>
  obtain⟨x,rfl,hx⟩:=hv;refine⟨_,rfl,rfl,_,rfl,q9 (fun y=>nomatch (Jx y)) (fun _=>?_)⟩
  cases o' with
  |none=>
   have hv':v'= .non:=hv'
   subst hv'
   exact⟨_,rfl,rfl,_,rfl,zf (q .non H (Ge.refl _) rfl)⟩
  |some e'=>
  obtain⟨x',rfl,hx'⟩:=hv';refine⟨_,rfl,rfl,_,rfl,qW ?_⟩
  have k:HL D e:=k
  have k':HL D' e':=k'
  obtain⟨w1,h1,hw1⟩:=id hx;refine⟨_,rfl,x,_,_,_,rfl,rfl,Gu.of h1,rfl,_,rfl,p,rfl,b.no,p,ta,hk,bd,lg,n,D,rfl,b,_,_,rfl,?_⟩
  refine⟨_,rfl,_,rfl,_,rfl,_,rfl,p,ta,hk,bd,lg,x,n,D,e,p',ta',hk',bd',lg',x',n',D',e',rfl,b,hx,b',hx',fun H1 s1=>?_⟩
  obtain⟨A,eA⟩:∃A,A=Qt e.age D.least:=⟨_,rfl⟩
  obtain⟨L,eL⟩:∃L,L=Q9 D e D' e':=⟨_,rfl⟩
  have Lb:0<=L/\L<=5000:=by
   have:=k.l0
   have:=k.l1
   have:=k'.l0
   have:=k'.l1
   have:=dn.n0
   have:=dn.nf
   have:=dn.f1
   have:=dn'.n0
   have:=dn'.nf
   have:=dn'.f1
   rw[eL];unfold Q9 ap;split<;>lia
  refine⟨_,rfl,_,rfl,_,_,rfl,rfl,_,_,rfl,_,_,rfl,⟨by rw[<- eL];lia,by rw[<- eL];lia,by rw[<- eL];split<;>lia,by rw[<- eL];split<;>lia⟩,?_⟩
  have eq0:Zk D (some e) D' (some e')=ZZ L (ap (L+2) 4096-L).toNat fun c=>(Zq D (some (Qs D e A c).2) D' (some (Qs D' e' A c).2)).map fun p=>((A,c),p):=by rw[eL,eA];rfl
  refine Qo (lo:=Q9 D e D' e') (Pv:=fun i σ Hx=>Ge H Hx/\(∀y:Int,L<=y->y<L+(i:Int)->Zq D (some (Qs D e A y).2) D' (some (Qs D' e' A y).2)=none)/\∃o6 o7 o8 o9 oa,σ=[some (.ref p),some (.ref x),some (.ref p'),some (.ref x'),some (.int A),some (.int L),o6,o7,o8,o9,oa]) ⟨s1,fun y h1 h2=>by lia,_,_,_,_,_,by rw[eL,eA];rfl⟩ ?_ ?_
  ·rintro i σ H2 hi ⟨s2,no,o6,o7,o8,o9,oa,rfl⟩
   rw[<- eL]at hi⊢;have hi:i<(ap (L+2) 4096-L).toNat:=hi
   have hi':(i:Int)<ap (L+2) 4096-L:=by lia
   have cb:0<=L+(i:Int)/\L+(i:Int)<4096:=by unfold ap at hi';split at hi'<;>lia
   refine⟨_,rfl,p,rfl,(b.same s2).no,_,rfl,_,rfl,_,rfl,p,ta,hk,bd,lg,x,n,D,e,A,_,rfl,b.same s2,hx.same s2,fun q1 a1 H3 s3 hq1 ha1=>⟨q1,_,rfl,.tup hq1,rfl,_,_,rfl,_,_,rfl,rfl,?_⟩⟩
   have S3:=s2.trans s3;refine⟨_,rfl,p',rfl,(b'.same S3).no,_,rfl,_,rfl,_,rfl,p',ta',hk',bd',lg',x',n',D',e',A,_,rfl,b'.same S3,hx'.same S3,fun q2 a2 H4 s4 hq2 ha2=>⟨q2,_,rfl,.tup hq2,rfl,_,_,rfl,_,_,rfl,rfl,?_⟩⟩
   have S4:=S3.trans s4;refine⟨_,rfl,_,rfl,_,rfl,_,rfl,p,ta,hk,bd,lg,n,D,.ref a1,some (Qs D e A (L+(i:Int))).2,p',ta',hk',bd',lg',n',D',.ref a2,some (Qs D' e' A (L+(i:Int))).2,rfl,b.same S4,⟨a1,rfl,ha1.same s4⟩,b'.same S4,⟨a2,rfl,ha2⟩,dn,dn',kO dn k cb.1 cb.2,kO dn' k' cb.1 cb.2,k8,fun u H5 s5 ol=>?_⟩
   have S5:=S4.trans s5;cases ep:Zq D (some (Qs D e A (L+(i:Int))).2) D' (some (Qs D' e' A (L+(i:Int))).2)with
   |none=>
    rw[ep]at ol;have ol:u= .non:=ol
    subst ol;refine⟨_,rfl,rfl,_,rfl,qW ⟨S5,fun y y1 y2=>?_,_,_,_,_,_,rfl⟩⟩
    by_cases hy:y<L+(i:Int)
    ·exact no y y1 hy
    ·obtain rfl:y=L+(i:Int):=by lia
     exact ep
   |some pr=>
    rw[ep]at ol;obtain⟨tt,rfl,htt⟩:=ol;refine⟨_,rfl,rfl,_,rfl,zf ?_⟩
    refine⟨_,rfl,_,rfl,F5,fun r1 hr1=>⟨_,rfl,F5,fun r2 hr2=>?_⟩⟩
    have u1:=Ge.upd (o:= .tup [.int A,.int (L+(i:Int))]) hr1
    have u2:=Ge.upd (o:= .tup [.ref r1,.ref tt]) hr2
    have e1:Zk D (some e) D' (some e')=some ((A,L+(i:Int)),pr):=by
     rw[eq0];exact bL hi (by rw[ep];rfl) fun y y1 y2=>by rw[no y y1 y2];rfl
    have:=q (.ref r2) _ ((S5.trans u1).trans u2)
    rw[e1]at this;exact this ⟨r2,r1,tt,rfl,qc,u2 _ _ qc,u2 _ _ (u1 _ _ htt)⟩
  ·rintro σ H2 ⟨s2,no,o6,o7,o8,o9,oa,rfl⟩
   have e1:Zk D (some e) D' (some e')=none:=by
    rw[eq0];refine QL fun y y1 y2=>?_
    rw[no y y1 (by rw[eL]at y2⊢;exact y2)];rfl
   have:=q .non _ s2
   rw[e1]at this;exact this rfl
end
section
variable{P:Program}{w:World}{K:Frag}{mg:Gc}{base:Heap}{tk:Nat->Tok}{C:Addr}
theorem rB(a:At K mg "telling" db ["one","other"])(T:GJ K mg tk)(U:HG K C)(yH:Mf P w K mg base C "button_of" ["self","name"] 1 (jG K C))(xA:Df P w K mg base "names_known" ["door"] 2 (k7 K C))(dJ:Df P w K mg base "press_apart" ["one","first","other","second"] 4 (wc K C))(xT:Df P w K mg base "pair_apart" ["one","first","other","second"] 5 (uB K C)):Df P w K mg base "telling" ["one","other"] 6 (kj K C):=by
 have dD:=yH.ofO;refine a.dq GR fun f _ A _ s H vs Q E hr h=>?_
 ·obtain⟨p,ta,hk,bd,lg,n,D,p',ta',hk',bd',lg',n',D',rfl,b,b',td,td',q⟩:=h
  refine⟨_,(qe (qA (i:=2) GR.nd rfl (Or.inl rfl) (qm (jE rfl) T.b_sorted PyProof.Rows.boot_sorted (qd (qw Ck (qH (gr rfl) T.b_set PyProof.Rows.boot_set (qd (qr xA hr.mo (qd (qv 0) qb)) qb)) (qH (gr rfl) T.b_set PyProof.Rows.boot_set (qd (qr xA hr.mo (qd (qv 1) qb)) qb))) qb)))
   (qe (zh JM rfl (Qd (qv 2)) (qh (i:=3) GR.nd rfl (Or.inr rfl))
   (qe (qA (i:=4) GR.nd rfl (Or.inl rfl) (qr dJ hr.mo (qd (qv 0) (qd (zg dD U.cl hr.mo (qv 0) (qd (qv 3) qb)) (qd (qv 1) (qd (zg dD U.cl hr.mo (qv 1) (qd (qv 3) qb)) qb))))))
   (qf (qG (qx Zg (qv 4) qM (qu _)) (qf (qp (qz (qd (qw Z9 (qz (qd (qv 3) qb)) (qv 4)) qb)))) qy))))
   (qe (zh JM rfl (Qd (qv 2)) (qh (i:=3) GR.nd rfl (Or.inr rfl))
   (qe (qA (i:=5) GR.nd rfl (Or.inl rfl) (qr xT hr.mo (qd (qv 0) (qd (zg dD U.cl hr.mo (qv 0) (qd (qv 3) qb)) (qd (qv 1) (qd (zg dD U.cl hr.mo (qv 1) (qd (qv 3) qb)) qb))))))
   (qf (qG (qx Zg (qv 5) qM (qu _)) (qf (qp (qH qZ T.b_tuple JG (qd (zT (own:=["press"]) (fr:=["name"]) (js:=[3]) rfl (ax (qv 5)) rfl (lN rfl) rfl (jZ rfl (by decide +kernel) (by decide +kernel) (by decide +kernel) rfl rfl rfl) (fun _ _ _ _=>qh (i:=0) (show List.Nodup (["press","name"]:List Str)from by decide +kernel) rfl (Or.inl rfl) (.inr rfl)) (fun _ _ _ _=>(qw Z9 (qz (qd (qv 1) qb)) (qv 0)))) qb)))) qy))))
   (qf (qp qM))))),?_⟩
  have l30:∀{D:Dr} {ss:List Str},IR D->ss.Perm (D.kn.map (·.1))->ss.length<=30:=fun td pm=>by rw[pm.length_eq,Je];exact td.few
  refine⟨_,rfl,p,ta,hk,bd,lg,n,D,rfl,b,td.ok,fun n1 ss1 H1 s1 pm1 e1=>?_⟩
  have ls1:=l30 td pm1;have sb:PySem.scanBound=4096:=rfl
  refine⟨n1,ss1,rfl,Gq.of e1,by lia,fun z1 hz1=>?_⟩
  have u1:=Ge.upd (o:=ai P w z1 (S0.ddL ss1)) hz1
  refine⟨_,rfl,p',ta',hk',bd',lg',n',D',rfl,(b'.same s1).same u1,td'.ok,fun n2 ss2 H2 s2 pm2 e2=>?_⟩
  have ls2:=l30 td' pm2;have d1:=eQ ss1;have d2:=eQ ss2;refine⟨n2,ss2,rfl,Gq.of e2,by lia,fun z2 hz2=>?_⟩
  have u2:=Ge.upd (o:=ai P w z2 (S0.ddL ss2)) hz2
  have ez1:=s2 _ _ (qc (H:=H1) (a:=z1) (o:=ai P w z1 (S0.ddL ss1)))
  refine⟨z1,z2,_,_,rfl,rfl,qo ez1 hz2,u2 _ _ ez1,qc,aZ _,aZ _,by lia,fun z3 ks hz3 nd mem=>?_⟩
  have u3:=Ge.upd (o:=ai P w z3 ks) hz3
  have kl:ks.length<=60:=by
   have:=rJ (m:=ss1++ss2) nd fun k hk=>JW.mpr (((mem k).mp hk).imp (ac ss1 k).mp (ac ss2 k).mp)
   rw[JD]at this;lia
  refine⟨z3,ks,rfl,qc,by lia,fun l5 ns hl5 pm5 so5=>?_⟩
  have u5:=Ge.upd (o:= .lst (ns.map V.str)) hl5
  have S5:=((((s1.trans u1).trans s2).trans u2).trans u3).trans u5;have hmem:∀k,k∈ns↔k∈D.kn.map (·.1)\/k∈D'.kn.map (·.1):=fun k=>by
   rw[pm5.mem_iff,mem,ac,ac,pm1.mem_iff,pm2.mem_iff]
  have ndn:ns.Nodup:=pm5.nodup_iff.mpr nd
  have nl:ns.length<=60:=by rw[pm5.length_eq];exact kl
  have q:∀u H',Ge H H'->Iz H' u (zO D D' ns)->Q u H':=fun u H' s t=>q u ns H' s ndn hmem so5 t
  have k8:=td.ok.kl;clear u1 u2 u3 u5 ez1 mem pm5 pm1 pm2 d1 d2 ls1 ls2 kl nd hz1 hz2 hz3 hl5 e1 e2 s1 s2;refine fU (fun σ' H'=>Ge H H'/\H' l5=some (.lst (ns.map V.str))/\ns.findSome? (zS D D')=none/\∃o3 o4 o5,σ'=[some (.ref p),some (.ref p'),some (.ref l5),o3,o4,o5]) (fun D0 hrt hnx=>?_) ?_
  ·refine⟨_,rfl,l5,rfl,⟨_,Gq.of qc⟩,?_⟩
   refine Qj (K:=K) (a:=l5) (xs:=ns.map V.str) (fun i σ Hx=>Ge H Hx/\Hx l5=some (.lst (ns.map V.str))/\(∀j z,j<i->ns[j]? =some z->zS D D' z=none)/\∃o3 o4 o5,σ=[some (.ref p),some (.ref p'),some (.ref l5),o3,o4,o5]) ⟨S5,qc,fun j z hj _=>absurd hj (Nat.not_lt_zero _),_,_,_,rfl⟩ (fun i σ Hx _ h=>Gq.of h.2.1) ?_ ?_
   ·rintro i z σ H6 hz ⟨s6,e6,no,o3,o4,o5,rfl⟩
    rw[Jo]at hz;obtain⟨nm,hnm,rfl⟩:=DZ.mp hz;refine⟨_,rfl,_,rfl,p,rfl,(b.same s6).no,_,rfl,p,ta,hk,bd,lg,n,D,nm,rfl,b.same s6,fun v1 hv1=>?_⟩
    refine⟨_,rfl,_,rfl,p',rfl,(b'.same s6).no,_,rfl,p',ta',hk',bd',lg',n',D',nm,rfl,b'.same s6,fun v2 hv2=>?_⟩
    refine⟨p,ta,hk,bd,lg,n,D,v1,_,p',ta',hk',bd',lg',n',D',v2,_,rfl,b.same s6,hv1,b'.same s6,hv2,td.dn,td'.dn,td.kn nm,td'.kn nm,k8,fun u H7 s7 ol=>?_⟩
    have S7:=s6.trans s7;cases ep:Zq D (D.kn.lookup nm) D' (D'.kn.lookup nm)with
    |none=>
     rw[ep]at ol;have ol:u= .non:=ol
     subst ol;refine⟨_,rfl,rfl,_,rfl,qW ⟨S7,s7 _ _ e6,fun j z hj hz2=>?_,_,_,_,rfl⟩⟩
     by_cases hji:j<i
     ·exact no j z hji hz2
     ·obtain rfl:j=i:=by lia
      have ez:z=nm:=Jy (hz2.symm.trans hnm)
      rw[ez];unfold zS;rw[ep];rfl
    |some pr=>
     rw[ep]at ol;obtain⟨tt,rfl,htt⟩:=ol;refine⟨_,rfl,rfl,_,rfl,zf ?_⟩
     refine⟨_,rfl,F4,fun t0 ht0=>⟨_,rfl,t0,tt,_,_,rfl,rfl,qc,(Ge.upd ht0) _ _ htt,F6,fun pp H9 s9 hpp=>⟨F4,fun r hr9=>?_⟩⟩⟩
     have u9:=Ge.upd (o:= .tup [.ref pp]) hr9
     have e1:zO D D' ns=some [(nm,pr.1,pr.2)]:=by
      unfold zO;rw[eW (f:=zS D D') hnm (show zS D D' nm=some [(nm,pr.1,pr.2)] by unfold zS;rw[ep];rfl) no]
     have:=q (.ref r) _ (((S7.trans (Ge.upd ht0)).trans s9).trans u9)
     rw[e1]at this;rw[hrt];exact this (Iz.one qc (u9 _ _ hpp))
   ·rintro σ H6 ⟨s6,e6,no,o3,o4,o5,rfl⟩
    refine hnx _ _ ⟨s6,e6,ab fun x hx=>?_,_,_,_,rfl⟩
    obtain⟨j,hj,rfl⟩:=List.mem_iff_getElem.mp hx;exact no j _ (by rw[Je];exact hj) (Jj hj)
  clear S5
  rintro σ H5 ⟨s5,e5,none1,o3,o4,o5,rfl⟩
  have et:zO D D' ns=ns.findSome? (ZW D D'):=by unfold zO;rw[none1]
  rw[et]at q;refine⟨_,rfl,l5,rfl,⟨_,Gq.of e5⟩,?_⟩
  refine Qj (K:=K) (a:=l5) (xs:=ns.map V.str) (fun i σ Hx=>Ge H Hx/\Hx l5=some (.lst (ns.map V.str))/\(∀j z,j<i->ns[j]? =some z->ZW D D' z=none)/\∃o3 o4 o5,σ=[some (.ref p),some (.ref p'),some (.ref l5),o3,o4,o5]) ⟨s5,e5,fun j z hj _=>absurd hj (Nat.not_lt_zero _),_,_,_,rfl⟩ (fun i σ Hx _ h=>Gq.of h.2.1) ?_ ?_
  ·rintro i z σ H6 hz ⟨s6,e6,no,o3,o4,o5,rfl⟩
   rw[Jo]at hz;obtain⟨nm,hnm,rfl⟩:=DZ.mp hz;refine⟨_,rfl,_,rfl,p,rfl,(b.same s6).no,_,rfl,p,ta,hk,bd,lg,n,D,nm,rfl,b.same s6,fun v1 hv1=>?_⟩
   refine⟨_,rfl,_,rfl,p',rfl,(b'.same s6).no,_,rfl,p',ta',hk',bd',lg',n',D',nm,rfl,b'.same s6,fun v2 hv2=>?_⟩
   refine⟨p,ta,hk,bd,lg,n,D,v1,_,p',ta',hk',bd',lg',n',D',v2,_,rfl,b.same s6,hv1,b'.same s6,hv2,td.dn,td'.dn,td.kn nm,td'.kn nm,k8,fun u H7 s7 ol=>?_⟩
   have S7:=s6.trans s7;cases ep:Zk D (D.kn.lookup nm) D' (D'.kn.lookup nm)with
   |none=>
    rw[ep]at ol;have ol:u= .non:=ol
    subst ol;refine⟨_,rfl,rfl,_,rfl,qW ⟨S7,s7 _ _ e6,fun j z hj hz2=>?_,_,_,_,rfl⟩⟩
    by_cases hji:j<i
    ·exact no j z hji hz2
    ·obtain rfl:j=i:=by lia
     have ez:z=nm:=Jy (hz2.symm.trans hnm)
     rw[ez];unfold ZW;rw[ep];rfl
   |some pr=>
    rw[ep]at ol;obtain⟨tt,x1,x2,rfl,htt,hx1,hx2⟩:=ol;refine⟨_,rfl,rfl,_,rfl,zf ?_⟩
    refine⟨_,rfl,tt,rfl,⟨_,Gu.of htt⟩,?_⟩
    obtain⟨zs,ezs⟩:∃zs:Zr,zs=[(nm,pr.1.1,pr.1.2),(nm,pr.2.1,pr.2.2)]:=⟨_,rfl⟩
    refine aM (K:=K) (a:=tt) (xs:=[.ref x1,.ref x2]) (F5) (fun i ys Hx=>Ge H7 Hx/\∃as:List Addr,ys=as.map V.ref/\as.length=i/\∀(j:Nat) (a:Addr) (z:Str×Int×Int),as[j]? =some a->zs[j]? =some z->Hx a=some (.tup [.str z.1,.int z.2.1,.int z.2.2])) ⟨Ge.refl _,[],rfl,rfl,fun j a z h=>by cases h⟩ (fun i ys Hx h=>Gu.of (h.1 _ _ htt)) ?_ ?_
    ·rintro i2 ys H8 x hx hyl ⟨s8,as,rfl,la,has⟩
     obtain⟨xa,y,rfl,hxa,hzy⟩:∃(xa:Addr) (y:Int×Int),x= .ref xa/\H7 xa=some (.tup [.int y.1,.int y.2])/\∀z,zs[i2]? =some z->z=(nm,y.1,y.2):=by
      rw[ezs]
      match i2,hx with
      |0,hx=>cases hx;exact⟨x1,pr.1,rfl,hx1,fun z h=>by cases h;rfl⟩
      |1,hx=>cases hx;exact⟨x2,pr.2,rfl,hx2,fun z h=>by cases h;rfl⟩
     refine⟨_,rfl,F4,fun t0 ht0=>⟨_,rfl,t0,xa,_,_,rfl,rfl,qc,(Ge.upd ht0) _ _ (s8 _ _ hxa),F6,fun pp H9 s9 hpp=>?_⟩⟩
     have S9:=(Ge.upd (o:= .tup [.str nm]) ht0).trans s9
     refine⟨s8.trans S9,as++[pp],by simp,by simp [la],fun j a z h1 h2=>?_⟩
     by_cases hj:j<as.length
     ·rw[D8 hj]at h1
      exact S9 _ _ (has j a z h1 h2)
     ·rw[DY (by lia)]at h1
      cases ej:j-as.length with
      |succ k=>rw[ej]at h1;cases h1
      |zero=>
       rw[ej]at h1;cases h1
       obtain rfl:j=i2:=by lia
       rw[hzy z h2];exact hpp
    ·rintro ys H8 hyl ⟨s8,as,rfl,la,has⟩ l8 hl8
     have u8:=Ge.upd (o:= .lst (as.map V.ref)) hl8
     refine⟨l8,_,rfl,.inl ⟨Gq.of qc,fun r hr9=>?_⟩⟩
     have u9:=Ge.upd (o:= .tup (as.map V.ref)) hr9
     have e1:ns.findSome? (ZW D D')=some zs:=eW (f:=ZW D D') hnm (show ZW D D' nm=some zs by rw[ezs];unfold ZW;rw[ep];rfl) no
     have:=q (.ref r) _ (((S7.trans s8).trans u8).trans u9)
     rw[e1]at this;exact this ⟨r,as,rfl,qc,by rw[ezs];exact la,fun j a z h1 h2=>u9 _ _ (u8 _ _ (has j a z h1 h2))⟩
  ·rintro σ H6 ⟨s6,e6,no,o3,o4,o5,rfl⟩
   have e1:ns.findSome? (ZW D D')=none:=ab fun x hx=>by
    obtain⟨j,hj,rfl⟩:=List.mem_iff_getElem.mp hx;exact no j _ (by rw[Je];exact hj) (Jj hj)
   have:=q .non _ s6
   rw[e1]at this;exact this rfl
theorem wJ(a:At K mg "agree" gN ["one","other"])(T:GJ K mg tk)(dL:Df P w K mg base "telling" ["one","other"] 6 (kj K C)):Df P w K mg base "agree" ["one","other"] 7 (mY K C):=by
 refine a.dq wG fun f _ A _ s H vs Q E hr h=>?_
 ·obtain⟨p,ta,hk,bd,lg,n,D,p',ta',hk',bd',lg',n',D',rfl,b,b',td,td',q⟩:=h
  refine⟨_,(qf (qp (zj zP (qr dL hr.mo (qd (qv 0) (qd (qv 1) qb))) qM (qu _)))),?_⟩
  refine⟨_,rfl,_,rfl,p,ta,hk,bd,lg,n,D,p',ta',hk',bd',lg',n',D',rfl,b,b',td,td',fun u ns H1 s1 nd mem so tl=>⟨rfl,?_⟩⟩
  have:=q ns H1 s1 nd mem so
  cases e:zO D D' ns with
  |none=>
   rw[e]at this tl;have tl:u= .non:=tl
   subst tl;exact this
  |some r=>
   rw[e]at this tl;obtain⟨t,as,rfl,_⟩:=tl;exact this
end
section
variable{P:Program}{w:World}{K:Frag}{mg:Gc}{base:Heap}{tk:Nat->Tok}
theorem j0(a:At K mg "_law_model" bw ["_law_near","_law_far","_law_keys"])(T:GJ K mg tk):Df P w K mg base "_law_model" ["_law_near","_law_far","_law_keys"] 1 nB:=by
 refine a.dq lu fun f _ A _ s H vs Q E hr h=>?_
 ·obtain⟨D,rfl,hl,hk,q⟩:=h
  refine⟨_,(qf (qp (yW (aC qB (qv 0) (aC qB (qv 1) (aC qB (qv 2) (aC qB qg (aC qB fJ Af)))))))),?_⟩
  refine fun m hm=>⟨_,rfl,_,rfl,_,rfl,fun kd hkd=>⟨?_,?_⟩⟩
  ·rw[qi (qo qc hkd)];exact qc
  refine⟨cI D kd,by unfold cI;rw[hl];rfl,by show 5<=15;decide,?_⟩
  rw[va];have nk:kd≠m:=(qo qc hkd).symm
  refine q m kd _ (fun c o e=>?_) hm ?_ ⟨qc,⟨([],fun _=>0),?_,?_,?_,?_⟩,nk.symm⟩
  ·have nm:c≠m:=qo e hm
   have nkd:c≠kd:=qo (by rw[qi nm];exact e) hkd
   rw[qi nm,qi nkd,qi nm];exact e
  ·rw[qi nk]at hkd;exact hkd
  ·rw[qi nk];exact qc
  ·rw[hk];exact fun e h=>nomatch h
  ·rw[hk]
  ·rw[hk];exact FB
theorem mP(a:At K mg "_law_word" b9 ["_law_own","_law_plain"])(T:GJ K mg tk):Df P w K mg base "_law_word" ["_law_own","_law_plain"] 1 gH:=by
 refine a.dq GI fun f _ A _ s H vs Q E hr h=>?_
 ·obtain⟨m,kd,p,D,nm,age,c,rfl,md,hp,q⟩:=h
  refine⟨_,(qe (zb (qv 1) (zi rfl (qq (qh (i:=2) GI.nd rfl (Or.inl rfl)) (qq (qh (i:=3) GI.nd rfl (Or.inl rfl)) (qq (qh (i:=4) GI.nd rfl (Or.inl rfl)) qO)))))
   (qe (qA (i:=5) GI.nd rfl (Or.inl rfl) (lO hr (Qc hr (qv 0) qB) (qv 2)))
   (qe (qG (QW.pt (zF (qx zP (qv 5) qM (qu _)) (zA (Qh (lZ ZI eZ (qm (ZS rfl) T.b_max FC (qd (Qc hr (qv 0) qB) (qd (qE qP (qv 5) qg) qb))) (qv 3) (Qc hr (qv 0) qB)))))) (qf (qp qB)) qy)
   (qe (qA (i:=6) GI.nd rfl (Or.inl rfl) (qw Qf (qv 4) (qE qP (qv 5) qg)))
   (qe (qG (QW.pt (zF (qx eZ (qv 6) qg (qu _)) (zA (qx wM (qv 6) (Qc hr (qv 0) qB) (qu _))))) (qf (qp qB)) qy)
   (qf (qp (wg (QW.pt (zF (qx ZI (qv 6) (Qc hr (qv 0) qB) (qu _)) (zA (qx (uv hr) (qE qP (qv 5) qg) (qz (qd (qv 3) (qd (qw Qf (qv 4) qg) qb))) (qu _))))) qB qB)))))))),?_⟩
  refine⟨_,rfl,p,_,rfl,.tup hp,rfl,_,_,rfl,_,_,rfl,_,_,rfl,rfl,?_⟩
  obtain⟨f0,hd,_⟩:=id md.kn;unfold qS at q;rcases md.kn.get nm with⟨e1,g⟩|⟨e,x,e1,g,v,hx,hw⟩
  ·rw[e1]at q
   refine⟨_,rfl,m,_,rfl,md.g_known,kd,rfl,.inl ⟨_,.inl hd⟩,_,rfl,_,g,?_⟩
   exact⟨_,rfl,rfl,_,rfl,zR (Jg rfl) (zf (q _ (Ge.refl H)))⟩
  ·rw[e1]at q
   simp only at q
   refine⟨_,rfl,m,_,rfl,md.g_known,kd,rfl,.inl ⟨_,.inl hd⟩,_,rfl,_,g,?_⟩
   refine⟨_,rfl,rfl,_,rfl,q9 (fun y=>nomatch (Jx y)) (fun _=>?_)⟩
   refine⟨_,rfl,m,_,rfl,md.g_closed,_,rfl,x,_,_,_,rfl,rfl,Gu.of hx,rfl,_,_,rfl,_,rfl,_,_,rfl,rfl,_,rfl,?_⟩
   have et:qT D e age=(decide ((if D.least<e.age then e.age else D.least)<=age)&&decide (age<(D.kss.length:Int))):=by
    have hm:((if D.least<e.age then e.age else D.least)<=age)↔(D.least<=age/\e.age<=age):=by split<;>omega
    unfold qT QX;rw[show decide ((if D.least<e.age then e.age else D.least)<=age)=(decide (D.least<=age)&&decide (e.age<=age))from by rw[<- Bool.decide_and];exact decide_eq_decide.mpr hm]
    cases decide (D.least<=age)<;>cases decide (e.age<=age)<;>cases decide (age<(D.kss.length:Int))<;>rfl
   rw[et]at q
   by_cases h1:(if D.least<e.age then e.age else D.least)<=age
   case neg=>
    rw[Jn h1,Eb,Jd (by intro z;cases z)]at q
    exact zW (Jn h1) ⟨_,rfl,zf (q _ (Ge.refl H))⟩
   rw[Jg h1,ES]at q;refine zR (Jg h1) ?_
   refine⟨_,rfl,m,_,rfl,md.g_keys,_,_,rfl,rfl,_,rfl,?_⟩
   by_cases h2:age<(D.kss.length:Int)
   case neg=>
    rw[Jn h2,Jd (by intro z;cases z)]at q
    rw[Jn h2];exact zf (q _ (Ge.refl H))
   rw[Jg h2,Jc rfl]at q;rw[Jg h2];refine qW ?_
   refine⟨_,rfl,_,rfl,x,_,_,_,rfl,rfl,Gu.of hx,rfl,_,_,rfl,rfl,?_⟩
   refine⟨_,rfl,_,_,rfl,rfl,_,rfl,?_⟩
   by_cases h3:c-e.last<1
   ·rw[Jc (.inl h3)]at q
    exact zR (Jg h3) (zf (q _ (Ge.refl H)))
   refine zW (Jn h3) ?_
   refine⟨_,rfl,_,rfl,m,_,rfl,md.g_far,_,_,rfl,rfl,_,rfl,?_⟩
   by_cases h4:c-e.last>D.far
   ·rw[Jc (.inr h4)]at q
    exact zR (Jg h4) (q _ (Ge.refl H))
   refine zW (Jn h4) ?_
   rw[Jd (show¬(c-e.last<1\/c-e.last>D.far)from fun z=>z.elim h3 h4)]at q
   refine⟨_,rfl,_,rfl,m,_,rfl,md.g_near,_,_,rfl,rfl,_,rfl,?_⟩
   by_cases h5:c-e.last<=D.near
   ·rw[Jc (.inl h5)]at q
    exact zR (Jg h5) (zf (q _ (Ge.refl H)))
   refine zW (Jn h5) ?_
   refine⟨_,rfl,x,_,_,_,rfl,rfl,Gu.of hx,rfl,_,rfl,_,rfl,_,_,rfl,rfl,F5,fun t ht=>?_⟩
   have u:=Ge.upd (o:= .tup [.int age,.int (c-1)]) ht
   refine⟨e.wt,t,age,c-1,hw.same u,rfl,.inl qc,_,rfl,?_⟩
   by_cases h6:e.wt=some (age,c-1)
   ·rw[Jc (.inr h6)]at q
    exact zR (Jg h6) (q _ u)
   ·rw[Jd (fun z=>z.elim h5 h6)]at q
    exact zW (Jn h6) (q _ u)
theorem mx(a:At K mg "_law_hear" cv ["_law_own","_law_plain"])(T:GJ K mg tk)(dZ:Df P w K mg base "_law_word" ["_law_own","_law_plain"] 1 gH):Df P w K mg base "_law_hear" ["_law_own","_law_plain"] 2 oo:=by
 refine a.dq G0 fun f _ A _ s H vs Q E hr h=>?_
 ·obtain⟨m,kd,p,D,nm,age,c,rfl,md,hp,ok,nf,q⟩:=h
  refine⟨_,(qe (zb (qz (qd (qr dZ hr.mo (qd (qv 0) (qd (qv 1) qb))) (qd (qv 1) qb))) (zi rfl (qq (qh (i:=2) G0.nd rfl (Or.inl rfl)) (qq (zi rfl (qq (qh (i:=3) G0.nd rfl (Or.inl rfl)) (qq (qh (i:=4) G0.nd rfl (Or.inl rfl)) (qq (qh (i:=5) G0.nd rfl (Or.inl rfl)) qO)))) qO))))
   (qe (qG (qx zt (qv 2) qB (qu _)) (qf (ZC hr (Qc hr (qv 0) qB) (qv 3) (qz (qd (qv 4) (qd (qv 5) (qd qM qb)))))) qy)
   (qe (qG (qx zt (qv 2) qB (qu _)) (qf (ZC hr (Qc hr (qv 0) qB) (qv 3) (qw Z9 (ZB eE (Qc hr (Qc hr (qv 0) qB) (qv 3)) Z8 (ae qg)) (qz (qd (qz (qd (qv 4) (qd (qv 5) qb))) qb))))) qy)
   (qf (qp (zj zt (qv 2) qB (qu _))))))),?_⟩
  refine⟨_,rfl,_,rfl,m,kd,p,D,nm,age,c,rfl,md,hp,fun H1 s1=>⟨_,rfl,F5,fun t ht=>?_⟩⟩
  have u:=Ge.upd (o:= .tup [.str (qS D nm age c),.ref p]) ht
  have S2:=s1.trans u;have md2:=md.same S2;have hp2:=S2 _ _ hp;refine⟨t,_,rfl,.tup qc,rfl,_,_,rfl,_,_,rfl,p,_,rfl,.tup hp2,rfl,_,_,rfl,_,_,rfl,_,_,rfl,rfl,rfl,?_⟩
  have eK:=oW (age:=age) (c:=c) (nm:=nm) ok.nd nf
  generalize Gh H1 t (.tup [.str (qS D nm age c),.ref p])=H2 at *
  refine⟨_,rfl,rfl,_,rfl,?_⟩
  obtain⟨f0,hd,_⟩:=id md2.kn
  by_cases h1:qS D nm age c="open"
  ·refine zR (Jg (by rw[h1])) ?_
   cases e1:D.kn.lookup nm with
   |none=>unfold qS at h1;rw[e1]at h1;exact absurd h1 (show¬(("":Str)="open") by decide)
   |some e=>
   rw[e1]at eK;simp only at eK
   rw[Jc h1]at eK;refine⟨_,rfl,_,rfl,F6,fun t3 ht3=>?_⟩
   have u3:=Ge.upd (o:= .tup [.int age,.int c,.non]) ht3
   have md3:=md2.same u3;obtain⟨H4,dp,m4,kb4⟩:=md3.kn.put nm (a:=t3) (e:=⟨age,c,none⟩) (by have:=ok.nl;omega) ⟨.non,qc,rfl⟩
   refine⟨_,rfl,m,_,rfl,md3.g_known,_,rfl,kd,H4,rfl,dp,?_⟩
   have md4:=md3.putK m4 kb4;refine⟨_,rfl,rfl,_,rfl,zW (Jn (by rw[h1];intro z;injection z with z;exact absurd z (by decide))) ?_⟩
   refine⟨_,rfl,rfl,?_⟩
   rw[<- eK]at md4
   have:=q H4 ((S2.trans u3).mv.trans (m4.mono fun c h z=>h (by rw[Jl.mp z];simp))) md4
   rw[Jg (show V.str (qS D nm age c)=V.str "open" by rw[h1])]
   rw[Jg h1]at this;exact this
  ·refine zW (Jn (by intro z;injection z with z;exact h1 z)) ?_
   refine⟨_,rfl,rfl,_,rfl,?_⟩
   have fin:∀H',Mv [m,kd] H H'->GG H' m kd {D with kn:=zX D nm age c}->Q (.bl (decide (V.str (qS D nm age c)=V.str "open"))) H':=fun H' m' d'=>by
    have:=q H' m' d'
    rw[Jn h1]at this;rw[Jn (show¬V.str (qS D nm age c)=V.str "open" by intro z;injection z with z;exact h1 z)]
    exact this
   by_cases h2:qS D nm age c="wait"
   ·refine zR (Jg (by rw[h2])) ?_
    rcases md2.kn.get nm with⟨e1,g⟩|⟨e,x,e1,g,v,hx,hw⟩
    ·unfold qS at h2;rw[e1]at h2;exact absurd h2 (show¬(("":Str)="wait") by decide)
    rw[e1]at eK;simp only at eK
    rw[Jd h1,Jc h2]at eK;refine⟨_,rfl,m,_,rfl,md2.g_known,_,rfl,kd,_,rfl,g,_,rfl,x,_,rfl,hx,fun y H3 s3 hy _=>?_⟩
    have hy:H3 y=some (.tup [.int e.age,.int e.last]):=hy
    refine⟨_,rfl,_,rfl,F5,fun t4 ht4=>⟨F4,fun t5 ht5=>?_⟩⟩
    have u4:=Ge.upd (o:= .tup [.int age,.int c]) ht4
    have u5:=Ge.upd (o:= .tup [.ref t4]) ht5
    have e4:(Gh (Gh H3 t4 (.tup [.int age,.int c])) t5 (.tup [.ref t4])) t4=some (.tup [.int age,.int c]):=u5 _ _ qc
    refine⟨y,t5,_,_,rfl,rfl,u5 _ _ (u4 _ _ hy),qc,F6,fun t6 H6 s6 ht6=>?_⟩
    have ht6:H6 t6=some (.tup [.int e.age,.int e.last,.ref t4]):=ht6
    have S6:=((s3.trans u4).trans u5).trans s6;have md6:=md2.same S6;obtain⟨H7,dp,m7,kb7⟩:=md6.kn.put nm (a:=t6) (e:=⟨e.age,e.last,some (age,c)⟩) (by have:=ok.nl;omega) ⟨.ref t4,ht6,t4,rfl,s6 _ _ e4⟩
    refine⟨_,rfl,m,_,rfl,md6.g_known,_,rfl,kd,H7,rfl,dp,?_⟩
    have md7:=md6.putK m7 kb7;rw[<- eK]at md7
    exact⟨_,rfl,rfl,fin H7 ((S2.trans S6).mv.trans (m7.mono fun c h z=>h (by rw[Jl.mp z];simp))) md7⟩
   ·refine zW (Jn (by intro z;injection z with z;exact h2 z)) ?_
    refine⟨_,rfl,rfl,fin H2 S2.mv ?_⟩
    have:zX D nm age c=D.kn:=by
     rw[eK];cases D.kn.lookup nm with
     |none=>rfl
     |some e=>simp only;rw[Jd h1,Jd h2]
    rw[this];exact md2
theorem kh(a:At K mg "_law_press" bp ["_law_code","_law_plain","_law_deed"])(T:GJ K mg tk)(x8:Df P w K mg base "press_of" ["table","key","name","age","count","deed"] 3 (nV K)):Df P w K mg base "_law_press" ["_law_code","_law_plain","_law_deed"] 4 fG:=by
 refine a.dq G9 fun f _ A _ s H vs Q E hr h=>?_
 ·obtain⟨cd,tb,kt,p,t,kss,nm,age,c,d,rfl,hc,hp,tp,hn,a0,a1,c0,c1,hd,q⟩:=h
  refine⟨_,(qe (zb (qv 1) (zi rfl (qq (qh (i:=3) G9.nd rfl (Or.inl rfl)) (qq (qh (i:=4) G9.nd rfl (Or.inl rfl)) (qq (qh (i:=5) G9.nd rfl (Or.inl rfl)) qO)))))
   (qf (qp (qr x8 hr.mo (qd (qE qP (qv 0) qg) (qd (qE qP (qE qP (qv 0) qg) (qv 4)) (qd (qv 3) (qd (qv 4) (qd (qv 5) (qd (qv 2) qb)))))))))),?_⟩
  refine⟨_,rfl,p,_,rfl,.tup hp,rfl,_,_,rfl,_,_,rfl,_,_,rfl,rfl,?_⟩
  obtain⟨as,eK,lK,hks⟩:=id hc.ks;obtain⟨ak,hat,hak⟩:=Bh (D:=⟨t,kss,0,0,0,0,[]⟩) lK hks a0 a1
  refine⟨_,rfl,cd,_,_,_,rfl,rfl,Gu.of hc.e,rfl,_,rfl,cd,_,_,_,rfl,rfl,Gu.of hc.e,rfl,_,rfl,kt,_,_,_,rfl,rfl,eK.up,hat,_,rfl,_,rfl,_,rfl,_,rfl,tb,ak,nm,age,c,d,t,_,rfl,.inr (.inl hc.tb),.inr hak.up,hn,by rw[tp.length_eq];rfl,c0,c1,hd,fun pr pc H1 s1 h1 h2=>q pr H1 s1 ⟨pc,h1,h2⟩⟩
end
section
variable{P:Program}{w:World}{K:Frag}{mg:Gc}{base:Heap}{tk:Nat->Tok}{C:Addr}
theorem kP(a:At K mg "_law_heard" bg ["_law_code","_law_pair_here","_law_plain","_law_places"])(T:GJ K mg tk)(U:HG K C)(xY:Mf P w K mg base C "hear" ["self","thing"] 6 (ox K C))(dU:Df P w K mg base "_law_press" ["_law_code","_law_plain","_law_deed"] 4 fG)(dP:Df P w K mg base "_law_hear" ["_law_own","_law_plain"] 2 oo):Df P w K mg base "_law_heard" ["_law_code","_law_pair_here","_law_plain","_law_places"] 7 (ku K C):=by
 refine a.dq Ia fun f _ A _ s H vs Q E hr h=>?_
 ·obtain⟨cd,tb,kt,pl,p,ps,b,c,H0,t,kss,xs,nm,age,n,is,ba,rfl,pw,lx,hc,hn,a0,a1,n0,n1,hp,hps,ndi,hi2,hx,q⟩:=h
  refine⟨_,(qf (zh JM rfl (ax (qv 3)) (qh (i:=4) Ia.nd rfl (Or.inl rfl))
   (qe (zJ (zg xY U.cl hr.mo (qE qP (qE qK (qv 1) (qv 4)) qg) (qd (qr dU hr.mo (qd (qv 0) (qd (qv 2) (qd qg qb)))) qb)))
   (qf (zJ (qr dP hr.mo (qd (qE qP (qE qK (qv 1) (qv 4)) qg) (qd (qv 2) qb)))))))),?_⟩
  refine⟨_,rfl,ps,rfl,⟨_,.inl hps⟩,?_⟩
  have hlen:is.length<=2:=by
   match is,ndi,hi2 with
   | [],_,_=>exact JI _
   | [_],_,_=>exact(by decide:1<=2)
   | [_,_],_,_=>exact Jf 2
   |x::y::z::r,nd,h=>
    have h1:=h x (by simp)
    have h2:=h y (by simp)
    have h3:=h z (by simp)
    simp only[Et,Jk,not_or]at nd;lia
  refine nK (K:=K) (a:=ps) (xs:=is.map fun i:Nat=>V.int (i:Int)) (fun j σ Hx=>∃xs',Pw K C H0 Hx b c pl xs'/\G8 Hx cd tb kt t kss/\Hx p=some (.tup [.str nm,.int age,.int n])/\Rd Hx ps (.tup (is.map fun i:Nat=>V.int (i:Int)))/\Il (fun i D=>if i∈is.take j then{D with kn:=zX D nm age n}else D) j xs xs'/\∃o4,σ=[some (.ref cd),some (.ref pl),some (.ref p),some (.ref ps),o4]) ⟨xs,pw,hc,hp,hps,(Il.refl xs).ext (fun i x hi=>by simp),_,rfl⟩ (fun j σ Hx _ h=>let⟨_,_,_,_,r,_⟩:=h;.inl r) ?_ ?_
  ·rintro j z σ Hx hz ⟨xs',pw1,hc1,hp1,hps1,st,o4,rfl⟩
   rw[Jo]at hz;cases ei:is[j]? with
   |none=>rw[ei]at hz;cases hz
   |some i=>
   rw[ei]at hz;cases hz;have hmem:=DV ei;have hi:=hi2 i hmem;have hj:j<is.length:=(Jv.mp ei).1
   have hix:i<xs.length:=by rw[lx];exact hi
   have ex:=Jj hix;obtain⟨x,rx⟩:∃x,x=xs[i]:=⟨_,rfl⟩
   rw[<- rx]at ex;have nin:i∉is.take j:=fun z=>by
    obtain⟨k,hk,ek⟩:=List.mem_iff_getElem.mp z;rw[List.getElem_take]at ek;rw[Eu]at hk
    exact(List.pairwise_iff_getElem.mp ndi) k j (by lia) hj (by lia) (ek.trans (Jv.mp ei).2.symm)
   obtain⟨L1,ex1,ll⟩:=st.2 i x ex;have ex1:xs'[i]? =some (x.1,x.2.1,L1):=by rw[ex1];show some (x.1,(if i∈is.take j then _ else x.2.1),L1)=_;rw[Jd nin]
   obtain⟨dp,hLl⟩:=hx i x ex;have tp:t.Perm GM:=dp.t▸dp.ok.tp
   have en:=pw1.en i _ ex1;simp only at en
   have atp:QY (xs'.map fun x=>V.ref x.1.e) (i:Int)=some (.ref x.1.e):=pw1.at (x:=(x.1,x.2.1,L1)) ex1
   refine⟨_,rfl,_,rfl,pl,_,_,_,rfl,rfl,Gq.of pw1.pe,atp,x.1.e,_,_,_,rfl,rfl,Gu.of en.tu,rfl,x.1.a.p,rfl,en.dl.dr.no,_,rfl,_,rfl,cd,tb,kt,p,t,kss,nm,age,n,3,rfl,hc1,hp1,tp,hn,a0,a1,n0,n1,⟨by decide,by decide⟩,fun pr H2 s2 hpr=>?_⟩
   have pw2:=pw1.same s2;have en2:=en.same s2;have okP:=cY (kss:=kss) (age:=age) tp hn n0 n1 (d:=3) ⟨by decide,by decide⟩
   refine⟨x.1.a,x.2.1,L1,.ref pr,some (Qv t kss nm age n 3),rfl,en2.dl,by lia,dp.ok,⟨pr,rfl,hpr,okP⟩,(fun z=>by cases z),fun PP hP pr' q' H3 hpr' m3 _ _ d3=>?_⟩
   cases hP;rw[kz dp n0 n1 ⟨by decide,by decide⟩,uA]at d3
   have m3':=sV m3;have en3:=en2.door m3' d3;have pes:Mv (eS x.1) H2 H3:=ii m3'
   have npl:=pw2.np i _ ex1;have pl3:H3 pl=some (.lst (xs'.map fun x=> .ref x.1.e)):=pes _ _ npl pw2.pe
   have N2:NT (eS x.1) H2:=en2.nt
   have hp3:=pes.tup N2 (s2 _ _ hp1);refine⟨_,rfl,_,rfl,pl,_,_,_,rfl,rfl,Gq.of pl3,atp,x.1.e,_,_,_,rfl,rfl,Gu.of en3.tu,rfl,_,rfl,x.1.m,x.1.kd,p,x.2.1,nm,age,n,rfl,en3.md,hp3,dp.ok,dp.f0,fun H4 m4 md4=>?_⟩
   have en4:=en3.model m4 md4;have Mall:Mv (eS x.1) H2 H4:=pes.trans (gS m4)
   refine⟨_,pw2.step ex1 Mall en4,(hc1.same s2).mv Mall N2,Mall.tup N2 (s2 _ _ hp1),Mall.rd N2 (Rd.same s2 hps1),?_,_,rfl⟩
   refine Il.set (x:=x) st ex (by show _=some (x.1,(if i∈is.take j then _ else x.2.1),L1);rw[Jd nin];exact ex1) (by simp) ?_ (fun k hk=>?_)
   ·show(if i∈is.take (j+1)then _ else _)=_
    rw[Jc (by rw[Eh,ei];simp)]
   ·funext D
    have:k∈is.take (j+1)↔k∈is.take j:=by rw[Eh,ei];simp;exact fun z=>absurd z hk
    by_cases z:k∈is.take j
    ·rw[Jc z,Jc (this.mpr z)]
    ·rw[Jd z,Jd (fun w=>z (this.mp w))]
  ·rintro σ Hx ⟨xs',pw1,hc1,hp1,hps1,st,o4,rfl⟩
   refine q Hx xs' pw1 hc1 ?_
   rw[Je,EA]at st;exact st.mono hlen
theorem gQ(a:At K mg "_law_learnt" aH ["_law_code","_law_pair_here","_law_name","_law_told"])(T:GJ K mg tk)(U:HG K C)(xP:Mf P w K mg base C "learn" ["self","one","other"] 7 (iK K C))(dU:Df P w K mg base "_law_press" ["_law_code","_law_plain","_law_deed"] 4 fG):Df P w K mg base "_law_learnt" ["_law_code","_law_pair_here","_law_name","_law_told"] 8 (i6 K C):=by
  refine a.dq GH fun f _ A _ s H vs Q E hr h=>?_
  · obtain⟨cd,tb,kt,pl,tl,b,c,H0,t,kss,xs,nm,os,rfl,pw,lx,hc,hn,ho,lo,ntl,hx,hos,q⟩:=h
    refine⟨_,(qf (zh JM rfl (zN rfl T.b_range (qd qg qb)) (qh (i:=4) GH.nd rfl (Or.inl rfl))
      (qf (qG (qx Zg (qE qK (qv 3) (qv 4)) qM (qu _)) (qe (zb (qE qK (qv 3) (qv 4)) (zi rfl (qq (qh (i:=5) GH.nd rfl (Or.inr rfl)) (qq (qh (i:=6) GH.nd rfl (Or.inl rfl)) qO))))
      (qe (hV (i:=7) GH.nd rfl (Or.inl rfl) (own:=["_law_count"]) (fr:=["_law_name","_law_code","_law_age"]) (js:=[2,0,5]) rfl (ax (qz (qd (qw Qf (qv 6) qg) (qd (qv 6) qb)))) rfl (DG rfl rfl rfl) rfl (DA rfl (by decide +kernel) (by decide +kernel) (by decide +kernel) rfl rfl rfl rfl rfl rfl rfl rfl rfl) (fun _ _ _ _=>qh (i:=0) (show List.Nodup (["_law_count","_law_name","_law_code","_law_age"]:List Str)from by decide +kernel) rfl (Or.inl rfl) (.inr rfl)) (fun _ _ _ _=>(qr dU hr.mo (qd (qv 2) (qd (qz (qd (qv 1) (qd (qv 3) (qd (qv 0) qb)))) (qd qg qb))))))
      (qe (zJ (zg xP U.cl hr.mo (qE qP (qE qK (qv 1) (qv 4)) qg) (qd (qE qK (qv 7) qg) (qd (qE qK (qv 7) qg) qb))))
      (qf (ZC hr (Qc hr (qE qP (qE qK (qv 1) (qv 4)) qg) qB) (qv 2) (qz (qd (qv 5) (qd (qv 6) (qd qM qb))))))))) qy)))),?_⟩
    refine⟨_,rfl,by decide,by decide,?_⟩
    refine Qo (n:=2) (Pv:=fun j σ Hx=>∃xs',Pw K C H0 Hx b c pl xs'/\G8 Hx cd tb kt t kss/\Ie Hx tl os/\(∀c ys,H c=some (.tup ys)->Hx c=some (.tup ys))/\Il (fun i D=>if i<j then c5 nm D (os.getD i none)else D) j xs xs'/\∃o4 o5 o6 o7,σ=[some (.ref cd),some (.ref pl),some (.str nm),some (.ref tl),o4,o5,o6,o7]) ⟨xs,pw,hc,ho,(fun _ _ h=>h),(Il.refl xs).ext (fun i x hi=>by simp),_,_,_,_,rfl⟩ ?_ ?_
    · rintro j σ Hx hj ⟨xs',pw1,hc1,ho1,tps,st,o4,o5,o6,o7,rfl⟩
      have hj2:j<xs.length:=by rw[lx];exact hj
      have ex:=Jj hj2;obtain⟨x,rx⟩:∃x,x=xs[j]:=⟨_,rfl⟩
      rw[<- rx]at ex;obtain⟨L1,ex1,ll⟩:=st.2 j x ex;simp only[JY,JE]at ex1;obtain⟨dp,l0,hno,hkl,hLl⟩:=hx j x ex;have en:=pw1.en j _ ex1;simp only at en
      obtain⟨vs,evs,lvs,rvs⟩:=id ho1;have hv:j<vs.length:=by rw[lvs,lo];exact hj
      have hoj:j<os.length:=by rw[lo];exact hj
      have hat:QY vs (0+(j:Int))=some vs[j]:=by rw[Int.zero_add];exact Zc (Jj hv)
      have hol:=rvs j vs[j] os[j] (Jj hv) (Jj hoj);have eoj:os.getD j none=os[j]:=by rw[JF,Jj hoj];rfl
      have nxt:∀{f:Nat->Dr->Dr} {xs'':List En},Il f (j+1) xs xs''->f j x.2.1=c5 nm x.2.1 os[j]->(∀i,i≠j->f i=fun D=>if i<j then c5 nm D (os.getD i none)else D)->Il (fun i D=>if i<j+1 then c5 nm D (os.getD i none)else D) (j+1) xs xs'':=fun h e1 e2=>h.ext fun i y hi=>by
        by_cases z:i=j
        · subst z
          rw[ex]at hi;cases hi
          rw[e1,Jc (by lia),eoj]
        · rw[e2 i z]
          simp only
          by_cases w:i<j
          · rw[Jc w,Jc (by lia)]
          · rw[Jd w,Jd (by lia)]
      refine⟨_,rfl,_,rfl,tl,vs,_,_,rfl,rfl,Gq.of evs,hat,rfl,_,rfl,?_⟩
      cases eo:os[j]with
      | none=>
        rw[eo]at hol;have hol:vs[j]= .non:=hol
        refine zW (by rw[hol];rfl) ⟨xs',pw1,hc1,ho1,tps,?_,_,_,_,_,rfl⟩
        exact nxt (st.mono (by lia)) (by rw[eo];simp [c5]) (fun i hi=>rfl)
      |some al=>
      obtain⟨ag,la⟩:=al;rw[eo]at hol;obtain⟨tt,ett,htt⟩:=hol;obtain⟨a0,a1,la1,la2⟩:=hos ag la (eo▸Ey hoj)
      refine zR (by rw[ett];rfl) ?_
      refine⟨_,rfl,_,rfl,tl,vs,_,_,rfl,rfl,Gq.of evs,hat,tt,_,ett,.tup htt,rfl,_,_,rfl,_,_,rfl,rfl,?_⟩
      refine⟨_,rfl,_,_,rfl,rfl,_,rfl,F5,fun tq htq=>⟨tq,rfl,⟨_,Gu.of qc⟩,?_⟩⟩
      have uq:=Ge.upd (o:= .tup [.int (la-1),.int la]) htq
      have hcq:=hc1.same uq;have etq:(Gh Hx tq (.tup [.int (la-1),.int la])) tq=some (.tup [.int (la-1),.int la]):=qc
      have pwq:=pw1.same uq;have hoq:=ho1.same uq;generalize Gh Hx tq (.tup [.int (la-1),.int la])=Hq at *
      refine aM (K:=K) (a:=tq) (xs:=[.int (la-1),.int la]) (F5) (fun i ys Hy=>Ge Hq Hy/\∃qs:List Addr,ys=qs.map V.ref/\qs.length=i/\∀(k:Nat) (p:Addr),qs[k]? =some p->HV Hy p (Qv t kss nm ag (la-1+(k:Int)) 0)) ⟨Ge.refl _,[],rfl,rfl,fun k p h=>by cases h⟩ (fun i ys Hy h=>Gu.of (h.1 _ _ etq)) ?_ ?_
      · rintro i ys Hy z hz hyl ⟨sy,qs,rfl,hql,hqs⟩
        have hi2:i<2:=(Jv.mp hz).1
        have ez:z= .int (la-1+(i:Int)):=by
          match i,hi2,hz with
          |0,_,hz=>cases hz;show V.int (la-1)=V.int (la-1+0);rw[Int.add_zero]
          |1,_,hz=>cases hz;show V.int la=V.int (la-1+1);rw[Int.sub_add_cancel]
        subst ez;refine⟨_,rfl,_,rfl,_,rfl,_,rfl,F6,fun p hp=>?_⟩
        have up:=Ge.upd (o:= .tup [.str nm,.int ag,.int (la-1+(i:Int))]) hp
        refine⟨cd,tb,kt,p,t,kss,nm,ag,la-1+(i:Int),0,rfl,(hcq.same sy).same up,qc,(dp.t▸dp.ok.tp),hn,a0,a1,by lia,by lia,⟨by decide,by decide⟩,fun pr Hz sz hps=>⟨(sy.trans up).trans sz,qs++[pr],by simp,by simp [hql],fun k p' hk=>?_⟩⟩
        by_cases hkl':k<qs.length
        · rw[D8 hkl']at hk
          exact GK.same (up.trans sz) (hqs k p' hk)
        · rw[DY (by lia)]at hk
          cases ek:k-qs.length with
          | zero => rw[ek]at hk;cases hk;obtain rfl:k=i:=by lia
                    exact hps
          |succ m=>rw[ek]at hk;cases hk
      rintro ys Hy hyl ⟨sy,qs,rfl,hql,hqs⟩ prl hprl
      obtain⟨q0,q1,rfl⟩:∃q0 q1,qs=[q0,q1]:=by
        match qs,hql with
        | [q0,q1],_=>exact⟨q0,q1,rfl⟩
      have ur:=Ge.upd (o:= .lst (([q0,q1]:List Addr).map V.ref)) hprl
      have Sr:=sy.trans ur;have eprl:(Gh Hy prl (.lst (([q0,q1]:List Addr).map V.ref))) prl=some (.lst [.ref q0,.ref q1]):=qc
      have hp0:=GK.same ur (hqs 0 q0 rfl);have hp1:=GK.same ur (hqs 1 q1 rfl);have pwr:=pwq.same Sr;have hor:=hoq.same Sr;have hcr:=hcq.same Sr;generalize Gh Hy prl (.lst (([q0,q1]:List Addr).map V.ref))=Hr at *
      have er:=pwr.en j _ ex1;simp only at er
      have atp:QY (xs'.map fun x=>V.ref x.1.e) (0+(j:Int))=some (.ref x.1.e):=by rw[Int.zero_add];exact pwr.at (x:=(x.1,x.2.1,L1)) ex1
      refine⟨_,rfl,_,rfl,pl,_,_,_,rfl,rfl,Gq.of pwr.pe,atp,x.1.e,_,_,_,rfl,rfl,Gu.of er.tu,rfl,x.1.a.p,rfl,er.dl.dr.no,_,rfl,prl,_,_,_,rfl,rfl,Gq.of eprl,rfl,_,rfl,prl,_,_,_,rfl,rfl,Gq.of eprl,rfl,?_⟩
      have e10:la-1+((1:Nat):Int)=la-1+1:=rfl
      have e00:la-1+((0:Nat):Int)=la-1:=Int.add_zero _
      rw[e00]at hp0;have rd0:=gf (nm:=nm) (d:=0) dp (l0 ag la (eoj.trans eo)) a1 (show 0<=la-1 by lia) (by lia) ⟨by decide,by decide⟩
      have rd1:=gf (nm:=nm) (c:=la-1+1) (d:=0) dp (l0 ag la (eoj.trans eo)) a1 (by lia) (by lia) ⟨by decide,by decide⟩
      have tp:t.Perm GM:=dp.t▸dp.ok.tp
      refine⟨x.1.a,x.2.1,L1,q0,q1,Qv t kss nm ag (la-1) 0,Qv t kss nm ag (la-1+1) 0,la-1,0,0,rfl,er.dl,by lia,dp.ok,hp0,hp1,cY tp hn (by lia) (by lia) ⟨by decide,by decide⟩,cY tp hn (by lia) (by lia) ⟨by decide,by decide⟩,rd0,rd1,rfl,rfl,hno,dp.rm,fun Hs ms ds=>?_⟩
      have ms':=sV ms;have es:=er.door ms' ds;have pes:Mv (eS x.1) Hr Hs:=ii ms'
      have npl:=pwr.np j _ ex1;have pls:Hs pl=some (.lst (xs'.map fun x=> .ref x.1.e)):=pes _ _ npl pwr.pe
      have Nr:NT (eS x.1) Hr:=er.nt
      refine⟨_,rfl,_,rfl,F6,fun t3 ht3=>?_⟩
      have u3:=Ge.upd (o:= .tup [.int ag,.int la,.non]) ht3
      have e3:=es.same u3;have md3:=e3.md;obtain⟨H4,dp4,m4,kb4⟩:=md3.kn.put nm (a:=t3) (e:=⟨ag,la,none⟩) (by lia) ⟨.non,qc,rfl⟩
      refine⟨_,rfl,_,rfl,pl,_,_,_,rfl,rfl,Gq.of (u3 _ _ pls),atp,x.1.e,_,_,_,rfl,rfl,Gu.of e3.tu,rfl,x.1.m,_,rfl,md3.g_known,_,rfl,x.1.kd,H4,rfl,dp4,?_⟩
      have md4:=md3.putK m4 kb4;have m4':Mv [x.1.m,x.1.kd] _ H4:=m4.mono (fun c h z=>h (by rw[Jl.mp z];simp))
      have e4:=e3.model m4' md4;have Mall:Mv (eS x.1) Hr H4:=(pes.trans u3.mv).trans (gS m4')
      have lae:la-1+1=la:=by lia
      rw[lae]at e4;have e4':Ii K C H4 x.1 {x.2.1 with kn:=ze x.2.1.kn nm ⟨ag,la,none⟩} (L1++[.learn (Qv t kss nm ag (la-1) 0) (Qv t kss nm ag la 0)]) {x.2.1 with kn:=ze x.2.1.kn nm ⟨ag,la,none⟩}:=e4
      refine⟨_,pwr.step ex1 Mall e4',hcr.mv Mall Nr,hor.mv Mall Nr (ntl j x ex),(fun c ys h=>Mall.tup Nr (Sr _ _ (uq _ _ (tps c ys h)))),?_,_,_,_,_,rfl⟩
      exact nxt (Il.set (x:=x) (g:=fun i D=>if i=j then c5 nm D os[j]else if i<j then c5 nm D (os.getD i none)else D) st ex (by simp only[JY,JE];exact ex1) (by simp) (by simp only[Ep];rw[eo];rfl) (fun i hi=>by funext D;rw[Jd hi])) (by simp) (fun i hi=>by funext D;rw[Jd hi])
    · rintro σ Hx ⟨xs',pw1,hc1,ho1,tps,st,o4,o5,o6,o7,rfl⟩
      exact q Hx xs' pw1 hc1 (st.ext fun i x hi=>by
        have:i<2:=by rw[<- lx];exact(Jv.mp hi).1
        rw[Jc this]) tps
end
end Lw
namespace L3
open PySem PySem.Spec PyProof.Rows L2
theorem Zh{t u:TS}{D:Ht}{σ:L2.St}{H:Hp}(h:∀D':Ht,(∀σ' H',u D σ' H'->D'.nx σ' H')->t D' σ H):fL t u D σ H:=h {D with nx:=u D} fun _ _ h=>h
theorem AX{i:Nat}{v:V}{σ:L2.St}{H:Hp}{t u:TS}{D:Ht}(h:∀D':Ht,(∀σ' H',u D σ' H'->D'.nx σ' H')->t D' (σ.set i (some v)) H):QN i v σ H (fun σ2 H2=>fL t u D σ2 H2):=h {D with nx:=u D} fun _ _ h=>h
theorem bq{c:Nat}(k:Nat)(h:c<100000000)(hk:k<900000000:=by decide):c+k<1000000000:=Nat.add_lt_add h hk
end L3
namespace Lw
open PySem L2 L3
section
variable{P:Program}{w:World}{K:Frag}{mg:Gc}{base:Heap}{tk:Nat->Tok}
theorem ju(a:At K mg "_law_bounds" aK ["_law_box_here"])(T:GJ K mg tk)(dA:Df P w K mg base "_law_take" ["_law_box_here","_law_many"] 1 aa):Df P w K mg base "_law_bounds" ["_law_box_here"] 2 jc:=by
 refine a.dq GX fun f _ A _ s H vs Q E hr h=>?_
 ·obtain⟨b,c,rfl,hb,hc,q⟩:=h
  refine⟨_,(qe (qA (i:=1) GX.nd rfl (Or.inl rfl) (qw qJ qg (qr dA hr.mo (qd (qv 0) (qd qg qb)))))
   (qe (qA (i:=2) GX.nd rfl (Or.inl rfl) (qw qJ (qv 1) (qE qK (zz (qd qg (qd qg (qd qg (qd (qr dA hr.mo (qd (qv 0) (qd qg qb))) qb))))) (qr dA hr.mo (qd (qv 0) (qd qg qb))))))
   (qe (qA (i:=3) GX.nd rfl (Or.inl rfl) (qE qK (zz (qd (qv 1) (qd (qv 1) (qd (qw qJ qg (qr dA hr.mo (qd (qv 0) (qd qg qb)))) qb)))) (qr dA hr.mo (qd (qv 0) (qd qg qb)))))
   (qf (qp (zz (qd (qz (qd (qv 1) (qd (qv 2) qb))) (qd (qz (qd (qv 3) (qd (qw qJ (qv 3) (qE qK (zz (qd (qw Qf (qv 2) (qv 1)) (qd qg (qd qg (qd (qr dA hr.mo (qd (qv 0) (qd qg qb))) qb))))) (qr dA hr.mo (qd (qv 0) (qd qg qb))))) qb))) qb)))))))),?_⟩
  refine Zh fun D1 y1=>?_
  refine⟨_,rfl,b,4,c,rfl,hb,bq 0 hc,by decide,by decide,fun r1 H1 r10 r11 g1=>⟨_,_,rfl,rfl,y1 _ _ (Zh fun D2 y2=>?_)⟩⟩
  refine⟨_,rfl,_,rfl,b,9,c+1,rfl,g1.bx,bq 1 hc,by decide,by decide,fun r2 H2 r20 r21 g2=>⟨F7,fun l1 hl1=>?_⟩⟩
  have u2:=Ge.upd (o:= .lst [.int 0,.int 1,.int 2,.int r2]) hl1
  have g2':=(g1.trans g2).same u2;have n1:=zr g2.bx hl1;refine⟨_,rfl,b,4,c+1+1,rfl,g2'.bx,bq 2 hc,by decide,by decide,fun r3 H3 r30 r31 g3=>?_⟩
  obtain⟨x,hx,hm⟩:=Zf (xs:=[V.int 0,.int 1,.int 2,.int r2]) r30 r31
  obtain⟨z,rfl,z0,z1⟩:∃z:Int,x= .int z/\0<=z/\z<=8:=by
   simp only[Jk,Js,Jt]at hm;rcases hm with rfl|rfl|rfl|rfl
   ·exact⟨_,rfl,by decide,by decide⟩
   ·exact⟨_,rfl,by decide,by decide⟩
   ·exact⟨_,rfl,by decide,by decide⟩
   ·exact⟨_,rfl,r20,Int.le_of_lt_add_one r21⟩
  have g3':=g2'.trans g3;refine⟨l1,_,_,_,rfl,rfl,Gq.of (g3.kp _ _ n1 qc),hx,_,_,rfl,rfl,?_⟩
  refine y2 _ _ (Zh fun D3 y3=>?_)
  refine⟨_,rfl,_,rfl,_,rfl,b,4,c+1+1+1,rfl,g3'.bx,bq 3 hc,by decide,by decide,fun r4 H4 r40 r41 g4=>⟨_,_,rfl,rfl,F6,fun l2 hl2=>?_⟩⟩
  have u4:=Ge.upd (o:= .lst [.int (1+r1),.int (1+r1),.int (1+r4)]) hl2
  have g4':=(g3'.trans g4).same u4;have n2:=zr g4.bx hl2;refine⟨_,rfl,b,3,c+1+1+1+1,rfl,g4'.bx,bq 4 hc,by decide,by decide,fun r5 H5 r50 r51 g5=>?_⟩
  obtain⟨x2,hx2,hm2⟩:=Zf (xs:=[V.int (1+r1),.int (1+r1),.int (1+r4)]) r50 r51
  obtain⟨o,rfl,o0,o1⟩:∃o:Int,x2= .int o/\1<=o/\o<=4:=by
   simp only[Jk,Js,Jt]at hm2;rcases hm2 with rfl|rfl|rfl
   ·exact⟨_,rfl,by lia,by lia⟩
   ·exact⟨_,rfl,by lia,by lia⟩
   ·exact⟨_,rfl,by lia,by lia⟩
  have g5':=g4'.trans g5;refine⟨l2,_,_,_,rfl,rfl,Gq.of (g5.kp _ _ n2 qc),hx2,?_⟩
  refine y3 _ _ ?_
  refine⟨_,rfl,_,rfl,F5,fun t1 ht1=>?_⟩
  have u6:=Ge.upd (o:= .tup [.int (1+r1),.int (1+r1+z)]) ht1
  have g6':=g5'.same u6;have nt1:=zr g5'.bx ht1;have et1:(Gh H5 t1 (.tup [.int (1+r1),.int (1+r1+z)])) t1=some (.tup [.int (1+r1),.int (1+r1+z)]):=qc
  generalize Gh H5 t1 (.tup [.int (1+r1),.int (1+r1+z)])=H6 at *
  refine⟨_,rfl,_,rfl,_,rfl,_,rfl,_,_,rfl,rfl,_,rfl,b,9,c+1+1+1+1+1,rfl,g6'.bx,bq 5 hc,by decide,by decide,fun r6 H7 r60 r61 g7=>⟨F7,fun l3 hl3=>?_⟩⟩
  have u7:=Ge.upd (o:= .lst [.int (1+r1+z-(1+r1)),.int 0,.int 1,.int r6]) hl3
  have g7':=(g6'.trans g7).same u7;have n3:=zr g7.bx hl3;refine⟨_,rfl,b,4,c+1+1+1+1+1+1,rfl,g7'.bx,bq 6 hc,by decide,by decide,fun r7 H8 r70 r71 g8=>?_⟩
  obtain⟨x3,hx3,hm3⟩:=Zf (xs:=[V.int (1+r1+z-(1+r1)),.int 0,.int 1,.int r6]) r70 r71
  obtain⟨y,rfl,y0,y1⟩:∃y:Int,x3= .int y/\0<=y/\y<=8:=by
   simp only[Jk,Js,Jt]at hm3;rcases hm3 with rfl|rfl|rfl|rfl
   ·exact⟨_,rfl,by lia,by lia⟩
   ·exact⟨_,rfl,by decide,by decide⟩
   ·exact⟨_,rfl,by decide,by decide⟩
   ·exact⟨_,rfl,r60,Int.le_of_lt_add_one r61⟩
  have g8':=g7'.trans g8;refine⟨l3,_,_,_,rfl,rfl,Gq.of (g8.kp _ _ n3 qc),hx3,_,_,rfl,rfl,F5,fun t2 ht2=>⟨F5,fun l hl=>?_⟩⟩
  have v1:=Ge.upd (o:= .tup [.int o,.int (o+y)]) ht2
  have v2:=Ge.upd (o:= .lst [.ref t1,.ref t2]) hl
  have G:=(g8'.same v1).same v2;have e1:=v2 _ _ (v1 _ _ (g8.kp _ _ nt1 (u7 _ _ (g7.kp _ _ nt1 et1))));exact q l t1 t2 (1+r1) (1+r1+z) o (o+y) _ G qc e1 (v2 _ _ qc) ⟨by lia,by lia,by lia,by lia⟩ ⟨by lia,by lia,by lia,by lia⟩ ((g8'.same v1).fresh (hb.mono (by lia)) hl)
theorem lU(a:At K mg "_law_drawn" bf ["_law_box_here"])(T:GJ K mg tk)(dA:Df P w K mg base "_law_take" ["_law_box_here","_law_many"] 1 aa):Df P w K mg base "_law_drawn" ["_law_box_here"] 2 lT:=by
 refine a.dq Ho fun f _ A _ s H vs Q E hr h=>?_
 ·obtain⟨b,c,rfl,hb,hc,q⟩:=h
  refine⟨_,(qe (qA (i:=1) Ho.nd rfl (Or.inr rfl) (zz (qd qB (qd qB (qd qB (qd qB (qd qB (qd qB (qd qB (qd qB (qd qB qb)))))))))))
   (qe (qA (i:=2) Ho.nd rfl (Or.inl rfl) (qE qK (zz (qd (qw qJ qg (qr dA hr.mo (qd (qv 0) (qd qg qb)))) (qd (qw qJ qg (qr dA hr.mo (qd (qv 0) (qd qg qb)))) qb))) (qH je T.b_int ER (qd (zj zt (qr dA hr.mo (qd (qv 0) (qd qg qb))) qg (qu _)) qb))))
   (qe (hV (i:=3) Ho.nd rfl (Or.inl rfl) (own:=["_law_k"]) (fr:=["_law_some","_law_box_here"]) (js:=[1,0]) rfl (zN rfl T.b_range (qd (qv 2) qb)) rfl (CL rfl rfl) rfl (BW rfl (by decide +kernel) (by decide +kernel) (by decide +kernel) rfl rfl rfl rfl rfl rfl) (fun _ _ _ _=>qh (i:=0) (show List.Nodup (["_law_k","_law_some","_law_box_here"]:List Str)from by decide +kernel) rfl (Or.inl rfl) (.inr rfl)) (fun _ _ _ _=>(uS (K:=K) rfl Ei PySem.F.slot_list_pop PySem.F.type_list_pop kH (qv 1) (qd (qr dA hr.mo (qd (qv 2) (qd (qm (cx (K:=K) rfl) T.b_len J1 (qd (qv 1) qb)) qb))) qb))))
   (qf (qp (qz (qd (qv 3) (qd (qE qK (zz (qd qg (qd qg (qd qg (qd qg (qd qg qb)))))) (qr dA hr.mo (qd (qv 0) (qd qg qb)))) (qd (qE qK (zz (qd qg (qd qg (qd qg (qd qg qb))))) (qr dA hr.mo (qd (qv 0) (qd qg qb)))) qb))))))))),?_⟩
  refine Zh fun D1 y1=>?_
  refine⟨F9,fun l hl=>?_⟩
  have u1:=Ge.upd (o:= .lst (Gy.map V.str)) hl
  have nlb:l≠b:=zr hb hl
  have g1:=u1.grc hb;have el:(Gh H l (.lst (Gy.map V.str))) l=some (.lst (Gy.map V.str)):=qc
  have u1':∀x,H x=none->x≠l->(Gh H l (.lst (Gy.map V.str))) x=none:=fun x hx n=>by rw[qi n];exact hx
  have fr:H l=none:=hl
  have sm:Ge H (Gh H l (.lst (Gy.map V.str))):=u1
  have el2:(Gh H l (HO.lst [.str "a",.str "b",.str "ab",.str "ba",.str "aaaaaaaa",.str "aaaaaaab",.str "door",.str "gate",.str "x"]))=Gh H l (.lst (Gy.map V.str)):=rfl
  rw[el2];generalize Gh H l (.lst (Gy.map V.str))=Ha at *
  refine y1 _ _ (Zh fun D2 y2=>?_)
  refine⟨_,rfl,b,3,c,rfl,g1.bx,bq 0 hc,by decide,by decide,fun r1 H1 r10 r11 g2=>⟨_,_,rfl,rfl,?_⟩⟩
  refine⟨_,rfl,b,3,c+1,rfl,g2.bx,bq 1 hc,by decide,by decide,fun r2 H2 r20 r21 g3=>⟨_,_,rfl,rfl,F5,fun l2 hl2=>?_⟩⟩
  have u3:=Ge.upd (o:= .lst [.int (1+r1),.int (7+r2)]) hl2
  have n2:=zr g3.bx hl2;have g3':=(((g1.trans g2).trans g3).same u3);refine⟨_,rfl,b,8,c+1+1,rfl,g3'.bx,bq 2 hc,by decide,by decide,fun r3 H3 r30 r31 g4=>⟨rfl,.inr ⟨_,rfl,?_⟩⟩⟩
  have el3:H3 l=some (.lst (Gy.map V.str)):=g4.kp _ _ nlb (u3 _ _ (g3.kp _ _ nlb (g2.kp _ _ nlb el)))
  have el4:H3 l2=some (.lst [.int (1+r1),.int (7+r2)]):=g4.kp _ _ n2 qc
  have g4':=g3'.trans g4;generalize decide (V.int r3=V.int 5)=gg
  obtain⟨mm,emm,m1,m9⟩:∃mm:Nat,QY [V.int (1+r1),.int (7+r2)] (if gg=true then 1 else 0)=some (.int (mm:Int))/\1<=mm/\mm<=9:=by
   cases gg with
   |true=>exact⟨(7+r2).toNat,by rw[Int.toNat_of_nonneg (by lia)];rfl,by lia,by lia⟩
   |false=>exact⟨(1+r1).toNat,by rw[Int.toNat_of_nonneg (by lia)];rfl,by lia,by lia⟩
  refine⟨l2,_,_,_,rfl,rfl,Gq.of el4,emm,y2 _ _ (Zh fun D3 y3=>?_)⟩
  refine⟨_,rfl,_,rfl,by lia,by lia,?_⟩
  rw[Ee];refine Z5 (n:=mm) (JK m9 (by decide)) (fun i ys Hx=>Ij b (c+3+i) H Hx/\∃ms zs:List Str,Hx l=some (.lst (ms.map V.str))/\ys=zs.map V.str/\ms.length+i=9/\(zs++ms).Perm Gy) ⟨g4',Gy,[],el3,rfl,rfl,.refl _⟩ ?_ ?_
  ·rintro i ys Hx hi hl2' ⟨G2,ms,zs,hms,rfl,hml,pm⟩
   refine⟨_,rfl,.inl ⟨rfl,_,Gq.of hms⟩,?_⟩
   refine⟨_,rfl,_,rfl,l,_,rfl,.inl (Gq.of hms),b,_,_,rfl,G2.bx,by lia,by rw[Je];lia,by rw[Je];lia,fun x Hy x0 x1 g5=>?_⟩
   rw[Je]at x1;obtain⟨k,rfl⟩:∃k:Nat,x=(k:Int):=⟨x.toNat,by lia⟩
   have hk:k<ms.length:=by lia
   have hm3:=g5.kp _ _ nlb hms;refine⟨l,_,_,k,.str ms[k],rfl,rfl,hm3,by lia,by lia,?_,?_,?_⟩
   ·rw[Je];exact c7 hk
   ·rw[Jo,Jj hk];rfl
   ·refine⟨⟨fun c o hcb e=>?_,?_⟩,ms.eraseIdx k,zs++[ms[k]],?_,by simp,?_,?_⟩
    ·have z:c≠l:=fun z=>by rw[z,fr]at e;cases e
     rw[qi z];exact g5.kp _ _ hcb (G2.kp _ _ hcb e)
    ·obtain⟨n,m,k',e,r⟩:=g5.bx
     exact⟨n,m,k',by rw[qi nlb.symm];exact e,r⟩
    ·rw[qc,pG]
    ·rw[List.length_eraseIdx_of_lt hk];lia
    ·exact(sM hk).trans pm
  rintro ys Hx hyl ⟨G2,ms,zs,hms,rfl,hml,pm⟩ p hp
  rw[Je]at hyl;have nd:(zs++ms).Nodup:=pm.nodup_iff.mpr (by decide +kernel)
  have up:=Ge.upd (o:= .lst (zs.map V.str)) hp
  have G3:=G2.same up;have np:=zr G2.bx hp;have ep:(Gh Hx p (.lst (zs.map V.str))) p=some (.lst (zs.map V.str)):=qc
  have fp:=G2.fresh (hb.mono (by lia)) hp
  generalize Gh Hx p (.lst (zs.map V.str))=Hp1 at *
  refine y3 _ _ ?_
  refine⟨_,rfl,F8,fun l3 hl3=>?_⟩
  have u5:=Ge.upd (o:= .lst [.int 1,.int 2,.int 2,.int 3,.int 8]) hl3
  have n3:=zr G3.bx hl3;have G4:=G3.same u5;refine⟨_,rfl,b,5,c+3+mm,rfl,G4.bx,by lia,by decide,by decide,fun r5 H5 r50 r51 g6=>?_⟩
  obtain⟨x,hx,hm⟩:=Zf (xs:=[V.int 1,.int 2,.int 2,.int 3,.int 8]) r50 r51
  obtain⟨mk,rfl,k1,k8⟩:∃mk:Nat,x= .int (mk:Int)/\1<=mk/\mk<=8:=by
   simp only[Jk,Js,Jt]at hm;rcases hm with rfl|rfl|rfl|rfl|rfl
   ·exact⟨1,rfl,by decide,by decide⟩
   ·exact⟨2,rfl,by decide,by decide⟩
   ·exact⟨2,rfl,by decide,by decide⟩
   ·exact⟨3,rfl,by decide,by decide⟩
   ·exact⟨8,rfl,by decide,by decide⟩
  have G5:=G4.trans g6;have ep5:=g6.kp _ _ np (u5 _ _ ep);refine⟨l3,_,_,_,rfl,rfl,Gq.of (g6.kp _ _ n3 qc),hx,F7,fun l4 hl4=>?_⟩
  have u6:=Ge.upd (o:= .lst [.int 0,.int 0,.int 4076,.int 100]) hl4
  have n4:=zr G5.bx hl4;have G6:=G5.same u6;refine⟨_,rfl,b,4,c+3+mm+1,rfl,G6.bx,by lia,by decide,by decide,fun r6 H6 r60 r61 g7=>?_⟩
  obtain⟨x2,hx2,hm2⟩:=Zf (xs:=[V.int 0,.int 0,.int 4076,.int 100]) r60 r61
  obtain⟨ba,rfl,b0,b1⟩:∃ba:Int,x2= .int ba/\0<=ba/\ba<=4076:=by
   simp only[Jk,Js,Jt]at hm2;rcases hm2 with rfl|rfl|rfl|rfl
   ·exact⟨_,rfl,by decide,by decide⟩
   ·exact⟨_,rfl,by decide,by decide⟩
   ·exact⟨_,rfl,by decide,by decide⟩
   ·exact⟨_,rfl,by decide,by decide⟩
  have G7:=G6.trans g7;refine⟨l4,_,_,_,rfl,rfl,Gq.of (g7.kp _ _ n4 qc),hx2,F6,fun t ht=>?_⟩
  have ut:=Ge.upd (o:= .tup [.ref p,.int (mk:Int),.int ba]) ht
  refine q t p zs mk ba _ ((G7.same ut).mono (by lia)) qc (ut _ _ (g7.kp _ _ np (u6 _ _ ep5))) fp ⟨(Fb.mp nd).1,fun z hz=>?_,by lia,by lia,k1,k8,b0,b1⟩ (fun z hz=>pm.mem_iff.mp (Fe _ hz))
  have hz':=pm.mem_iff.mp (Fe _ hz);simp only[Gy,Jk,Js,Jt]at hz';rcases hz' with rfl|rfl|rfl|rfl|rfl|rfl|rfl|rfl|rfl
  all_goals exact⟨by decide +kernel,by decide +kernel,by decide +kernel⟩
theorem jp(a:At K mg "_law_window" ar ["_law_base"])(T:GJ K mg tk):Df P w K mg base "_law_window" ["_law_base"] 1 i7:=by
 refine a.dq jq fun f _ A _ s H vs Q E hr h=>?_
 ·obtain⟨ba,rfl,b0,b1,q⟩:=h
  refine⟨_,(qf (qp (qH (mQ rfl) T.b_list D7 (qd (qH rT T.b_range PyProof.Rows.boot_range (qd (qv 0) (qd (qw qJ (qm (Qr rfl) T.b_min PyProof.Rows.boot_min (qd qg (qd (qw qJ (qv 0) qg) qb))) qg) qb))) qb)))),?_⟩
  refine⟨_,rfl,_,rfl,_,_,rfl,rfl,_,_,rfl,_,_,rfl,rfl,_,_,rfl,fun r hr0=>⟨r,ba,((if ba+40<4095 then ba+40 else 4095)-ba+1).toNat,rfl,?_,by lia,by lia,?_,fun l hl=>?_⟩⟩
  ·rw[qc]
   congr 2
   rw[Int.toNat_of_nonneg (by split<;>lia)];lia
  ·split<;>lia
  ·exact q l _ ((Ge.upd hr0).trans (Ge.upd hl)) qc
end
section
variable{P:Program}{w:World}{K:Frag}{mg:Gc}{base:Heap}{tk:Nat->Tok}{C:Addr}
theorem mO(a:At K mg "_law_pair" bT ["_law_box_here","_law_drawn_here"])(T:GJ K mg tk)(U:HG K C)(xM:Mi P w K mg base C "Door" ["self","table","keys","near","far","most"] 1 (kJ K C))(dW:Mf P w K mg base C "close_below" ["self","age"] 1 (jV K C))(dA:Df P w K mg base "_law_take" ["_law_box_here","_law_many"] 1 aa)(xX:Df P w K mg base "_law_table" ["_law_box_here"] 2 j7)(yB:Df P w K mg base "_law_key" ["_law_box_here"] 2 om)(xS:Df P w K mg base "_law_bounds" ["_law_box_here"] 2 jc)(xW:Df P w K mg base "_law_model" ["_law_near","_law_far","_law_keys"] 1 nB)(yK:Df P w K mg base "_law_learnt" ["_law_code","_law_pair_here","_law_name","_law_told"] 8 (i6 K C))(xV:Df P w K mg base "_law_heard" ["_law_code","_law_pair_here","_law_plain","_law_places"] 7 (ku K C)):Df P w K mg base "_law_pair" ["_law_box_here","_law_drawn_here"] 9 (nN K C):=by
 refine a.dq Gj fun f _ A _ s H vs Q E hr h=>?_
 ·obtain⟨b,dr,nl,c,nms,many,ba,rfl,hb,hc,hdr,hnl,nlb,ok,q⟩:=h
  have m1:=ok.m1;have m8:=ok.m8;have b0:=ok.b0;have b1:=ok.b1;refine⟨_,(qe (zb (qv 1) (zi rfl (qq (qh (i:=2) Gj.nd rfl (Or.inl rfl)) (qq (qh (i:=3) Gj.nd rfl (Or.inl rfl)) (qq (qh (i:=4) Gj.nd rfl (Or.inl rfl)) qO)))))
   (qe (qA (i:=5) Gj.nd rfl (Or.inl rfl) (qz (qd (qr xX hr.mo (qd (qv 0) qb)) (qd (qH qZ T.b_tuple JG (qd (zT (own:=["_law_k"]) (fr:=["_law_box_here"]) (js:=[0]) rfl (zN rfl T.b_range (qd (qv 3) qb)) rfl (lN rfl) rfl (jZ rfl (by decide +kernel) (by decide +kernel) (by decide +kernel) rfl rfl rfl) (fun _ _ _ _=>qh (i:=0) (show List.Nodup (["_law_k","_law_box_here"]:List Str)from by decide +kernel) rfl (Or.inl rfl) (.inr rfl)) (fun _ _ _ _=>(ZB eE (qr yB hr.mo (qd (qv 1) qb)) Z8 (ae qg)))) qb)) qb))))
   (qe (qA (i:=6) Gj.nd rfl (Or.inl rfl) (zz qb))
   (qe (zh JM rfl (Qd (qr xS hr.mo (qd (qv 0) qb))) (zi rfl (qq (qh (i:=7) Gj.nd rfl (Or.inl rfl)) (qq (qh (i:=8) Gj.nd rfl (Or.inl rfl)) qO)))
   (qf (zJ (ZM Ei EY EZ Qp (qv 6) (qd (qz (qd (nH xM hr.mo (qd (qE qP (qv 5) qg) (qd (qE qP (qv 5) qg) (qd (qv 7) (qd (qv 8) (qd qg qb)))))) (qd (qr xW hr.mo (qd (qv 7) (qd (qv 8) (qd (qv 3) qb)))) qb))) qb)))))
   (qe (zh JM rfl (Qd (qv 2)) (qh (i:=9) Gj.nd rfl (Or.inl rfl))
   (qe (qA (i:=10) Gj.nd rfl (Or.inl rfl) (qr dA hr.mo (qd (qv 0) (qd (qv 3) qb))))
   (qe (qA (i:=11) Gj.nd rfl (Or.inl rfl) (qm (Qr rfl) T.b_min PyProof.Rows.boot_min (qd qg (qd (qw qJ (qw qJ (qv 4) qg) (qr dA hr.mo (qd (qv 0) (qd qg qb)))) qb))))
   (qe (qA (i:=12) Gj.nd rfl (Or.inl rfl) (qz (qd (qr dA hr.mo (qd (qv 0) (qd (qv 3) qb))) (qd (qm (Qr rfl) T.b_min PyProof.Rows.boot_min (qd qg (qd (qw qJ (qw qJ (qv 4) qg) (qr dA hr.mo (qd (qv 0) (qd qg qb)))) qb))) qb))))
   (qe (qA (i:=13) Gj.nd rfl (Or.inl rfl) (qr dA hr.mo (qd (qv 0) (qd qg qb))))
   (qe (qA (i:=14) Gj.nd rfl (Or.inl rfl) (zz (qd (qz (qd (qv 10) (qd (qv 11) qb))) (qd (qz (qd (qv 10) (qd (qE qP (qv 12) qg) qb))) (qd (qz (qd (qE qP (qv 12) qg) (qd (qv 11) qb))) (qd qM qb))))))
   (qe (qA (i:=15) Gj.nd rfl (Or.inl rfl) (zz (qd (qz (qd (qv 10) (qd (qv 11) qb))) (qd (qE qK (qv 14) (qm (ZS rfl) T.b_max FC (qd qg (qd (qw Qf (qv 13) qg) qb)))) qb))))
   (qe (qG (qx zt (qr dA hr.mo (qd (qv 0) (qd qg qb))) qg (qu _)) (qf (zJ (Cu Ei PySem.F.slot_list_reverse PySem.F.type_list_reverse rp (qv 15)))) qy)
   (qf (zJ (qr yK hr.mo (qd (qv 5) (qd (qv 6) (qd (qv 9) (qd (qv 15) qb)))))))))))))))
   (qe (zh JM rfl (zN rfl T.b_range (qd (qr dA hr.mo (qd (qv 0) (qd qg qb))) qb)) (qh (i:=16) Gj.nd rfl (Or.inl rfl))
   (qe (qA (i:=9) Gj.nd rfl (Or.inl rfl) (qE qK (qv 2) (qr dA hr.mo (qd (qv 0) (qd (qm qR T.b_len J1 (qd (qv 2) qb)) qb)))))
   (qe (qA (i:=10) Gj.nd rfl (Or.inl rfl) (qr dA hr.mo (qd (qv 0) (qd (qv 3) qb))))
   (qe (qA (i:=17) Gj.nd rfl (Or.inl rfl) (qz (qd (qv 9) (qd (qv 10) (qd (qm (Qr rfl) T.b_min PyProof.Rows.boot_min (qd qg (qd (qw qJ (qv 4) (qr dA hr.mo (qd (qv 0) (qd qg qb)))) qb))) qb)))))
   (qf (zJ (qr xV hr.mo (qd (qv 5) (qd (qv 6) (qd (qv 17) (qd (qE qK (zz (qd (qz (qd qg (qd qg qb))) (qd (qz (qd qg (qd qg qb))) (qd (qz (qd qg qb)) (qd (qz (qd qg qb)) qb))))) (qr dA hr.mo (qd (qv 0) (qd qg qb)))) qb)))))))))))
   (qe (zh JM rfl (Qd (qv 6)) (zi rfl (qq (qh (i:=18) Gj.nd rfl (Or.inl rfl)) (qq (qh (i:=19) Gj.nd rfl (Or.inl rfl)) qO)))
   (qf (qG (qx zt (qr dA hr.mo (qd (qv 0) (qd qg qb))) qg (qu _)) (qe (qA (i:=10) Gj.nd rfl (Or.inl rfl) (qr dA hr.mo (qd (qv 0) (qd (qv 3) qb))))
   (qe (zJ (zg dW U.cl hr.mo (qv 18) (qd (qv 10) qb)))
   (qf (ZC hr (qv 19) qB (qm (ZS rfl) T.b_max FC (qd (Qc hr (qv 19) qB) (qd (qv 10) qb))))))) qy)))
   (qf (qp (qz (qd (qv 5) (qd (qv 6) qb)))))))))))),?_⟩
  have hm0:(0:Int)<(many:Int):=by lia
  have hm1:(many:Int)<1073741824:=by lia
  refine Zh fun Da ya=>?_
  refine⟨_,rfl,dr,_,rfl,.tup hdr,rfl,_,_,rfl,_,_,rfl,_,_,rfl,rfl,ya _ _ (Zh fun Db yb=>?_)⟩
  refine⟨_,rfl,b,c,rfl,hb,by lia,fun tb t H1 g1 ftb etb tp=>?_⟩
  refine⟨_,rfl,_,rfl,by lia,by lia,?_⟩
  rw[Ee];have ntb:tb≠b:=fun z=>by obtain⟨_,_,_,e,_⟩:=hb;rw[z,e]at ftb;cases ftb
  refine Z5 (n:=many) (JK m8 (by decide)) (fun i ys Hx=>Ij b (c+16+9*i) H Hx/\Hx tb=some (.tup (t.map V.int))/\∃(as:List Addr) (kss:List (List Int)),ys=as.map V.ref/\as.length=i/\kss.length=i/\∀(j:Nat) (x:Addr) (z:List Int),as[j]? =some x->kss[j]? =some z->Hx x=some (.tup (z.map V.int))) ⟨g1,etb,[],[],rfl,rfl,rfl,fun j x z e=>by cases e⟩ ?_ ?_
  ·rintro i ys Hx hi hyl ⟨G,et,as,kss,rfl,lA,lK,hks⟩
   refine⟨_,rfl,b,c+16+9*i,rfl,G.bx,by lia,fun p ks H2 g2 fp ep dk l1 l8=>⟨_,rfl,p,_,rfl,ep,fun y H3 s3 hy _=>?_⟩⟩
   rw[bP]at hy;have kp:∀{x:Addr} {xs:List V},Hx x=some (.tup xs)->H3 x=some (.tup xs):=fun{x xs} e=>s3 _ _ (g2.kp _ _ (fun z=>by obtain⟨_,_,_,eb,_⟩:=G.bx;rw[z,eb]at e;cases e) e)
   refine⟨((G.trans g2).same s3).mono (by lia),kp et,as++[y],kss++[aI ks none (some 3)],by simp,by simp [lA],by simp [lK],fun j x z e1 e2=>?_⟩
   by_cases hj:j<as.length
   ·rw[D8 hj]at e1
    rw[D8 (by lia)]at e2
    exact kp (hks j x z e1 e2)
   ·rw[DY (by lia)]at e1
    rw[DY (by lia)]at e2
    cases ej:j-as.length with
    |zero=>rw[ej]at e1;rw[show j-kss.length=0 by lia]at e2;cases e1;cases e2;exact hy
    |succ k=>rw[ej]at e1;cases e1
  rintro ys Hx hyl ⟨G,et,as,kss,rfl,lA,lK,hks⟩ l0 hl0
  obtain rfl:kss.length=many:=lK
  refine⟨l0,_,rfl,.inl ⟨Gq.of qc,fun kt hkt=>⟨F5,fun cd hcd=>?_⟩⟩⟩
  have u1:=Ge.upd (o:= .lst (as.map V.ref)) hl0
  have u2:=Ge.upd (o:= .tup (as.map V.ref)) hkt
  have u3:=Ge.upd (o:= .tup [.ref tb,.ref kt]) hcd
  have S3:=(u1.trans u2).trans u3;have hC:G8 (Gh (Gh (Gh Hx l0 (.lst (as.map V.ref))) kt (.tup (as.map V.ref))) cd (.tup [.ref tb,.ref kt])) cd tb kt t kss:=⟨qc,.inl (S3 _ _ et),as,.inl (.inl (u3 _ _ qc)),lA,fun j x z e1 e2=> .inl (.inl (S3 _ _ (hks j x z e1 e2)))⟩
  have G3:=G.same S3;generalize Gh (Gh (Gh Hx l0 (.lst (as.map V.ref))) kt (.tup (as.map V.ref))) cd (.tup [.ref tb,.ref kt])=H3 at *
  clear hks et u1 u2 u3 hl0 hkt hcd;refine yb _ _ (Zh fun Dc yc=>?_)
  refine⟨F3,fun pl hpl=>?_⟩
  have u4:=Ge.upd (o:= .lst []) hpl
  have G4:=G3.same u4;have hC4:=hC.same u4;have b0':H b≠none:=fun z=>by obtain⟨_,_,_,e,_⟩:=hb;rw[z]at e;cases e
  have pw0:Pw K C H (Gh H3 pl (.lst [])) b (c+16+9*kss.length) pl []:=⟨fun c o h e=>G4.kp c o (fun z=>h (Jl.mpr z)) e,G4.bx,b0',(fun i x h=>by cases h),(fun i j x y _ h=>by cases h),(fun i x h=>by cases h),qc,(fun i x h=>by cases h),G3.fresh (hb.mono (by lia)) hpl⟩
  generalize Gh H3 pl (.lst [])=H4 at *
  have hk8:kss.length<=8:=m8
  refine yc _ _ (ZD (fun σ' H'=>∃xs o7 o8,Pw K C H H' b (c+95) pl xs/\xs.length=2/\(∀(i:Nat) (x:En),xs[i]? =some x->GO t kss ba x.2.1/\x.2.1.least=0/\x.2.1.kn=[]/\x.2.2=[])/\G8 H' cd tb kt t kss/\σ'=[some (.ref b),some (.ref dr),some (.ref nl),some (.int (kss.length:Int)),some (.int ba),some (.ref cd),some (.ref pl),o7,o8,none,none,none,none,none,none,none,none,none,none,none]) (fun D' hrt hnx=>?_) ?_)
  refine⟨_,rfl,b,c+16+9*kss.length,rfl,pw0.bx,by lia,fun bl bx by' n1 f1 n2 f2 H5 g5 ebl ebx eby bd1 bd2 fbl=>⟨bl,rfl,⟨_,Gq.of ebl⟩,?_⟩⟩
  have pw5:=(pw0.grc g5);have hC5:=hC4.mv (S:=[b]) (fun c o h e=>g5.kp c o (fun z=>h (Jl.mpr z)) e) (Qb pw0.bx)
  have nbl:bl≠pl:=qo pw0.pe fbl |>.symm
  refine Qj (K:=K) (a:=bl) (xs:=[.ref bx,.ref by']) (fun j σ Hy=>∃xs,Pw K C H Hy b (c+16+9*kss.length+7) pl xs/\xs.length=j/\(∀(i:Nat) (x:En),xs[i]? =some x->GO t kss ba x.2.1/\x.2.1.least=0/\x.2.1.kn=[]/\x.2.2=[])/\G8 Hy cd tb kt t kss/\Hy bl=some (.lst [.ref bx,.ref by'])/\Hy bx=some (.tup [.int n1,.int f1])/\Hy by'=some (.tup [.int n2,.int f2])/\∃o7 o8,σ=[some (.ref b),some (.ref dr),some (.ref nl),some (.int (kss.length:Int)),some (.int ba),some (.ref cd),some (.ref pl),o7,o8,none,none,none,none,none,none,none,none,none,none,none]) ⟨[],pw5,rfl,(fun i x h=>by cases h),hC5,ebl,ebx,eby,_,_,rfl⟩ (fun j σ Hy _ h=>let⟨_,_,_,_,_,e,_⟩:=h;Gq.of e) ?_ ?_
  ·rintro j z σ Hy hz ⟨xs,pw,lx,hxs,hCy,el,ex,ey,o7,o8,rfl⟩
   obtain⟨be,n,f,rfl,ebe,bd⟩:∃be n f,z= .ref be/\Hy be=some (.tup [.int n,.int f])/\vS n f:=by
    match j,hz with
    |0,hz=>cases hz;exact⟨bx,n1,f1,rfl,ex,bd1⟩
    |1,hz=>cases hz;exact⟨by',n2,f2,rfl,ey,bd2⟩
   obtain⟨bn0,bn1,bf0,bf1⟩:=bd;refine⟨be,_,rfl,.tup ebe,rfl,_,_,rfl,_,_,rfl,rfl,?_⟩
   refine⟨_,rfl,.inl ⟨rfl,_,Gq.of pw.pe⟩,?_⟩
   refine⟨_,rfl,cd,_,_,_,rfl,rfl,Gu.of hCy.e,rfl,_,rfl,cd,_,_,_,rfl,rfl,Gu.of hCy.e,rfl,_,rfl,_,rfl,fun x dx nx ndx nex=>?_⟩
   have sJ:Ge Hy (Gh (Gh Hy dx (.own x)) x (.ins C dx [])):=(Ge.upd ndx).trans (Ge.upd (by rw[qi nex.symm];exact nx))
   refine⟨x,tb,kt,dx,n,f,12,t,kss,rfl,qc,.inr (.inl (Rd.same sJ hCy.tb)),hCy.ks.same sJ,m8,fun ta hk bd' lg H2 h1 h2 h3 mv dr' kr=>⟨rfl,?_⟩⟩
   have sK:Ge Hy H2:=fun c o e=>mv c o (qX (qo e nx)) (sJ c o e)
   have dl:GN K C H2 ⟨x,ta,hk,bd',lg⟩ ⟨t,kss,n,f,12,0,[]⟩ []:=Gg.dl dr' kr
   have fz:∀z∈dS ⟨x,ta,hk,bd',lg⟩,Hy z=none:=fun z hz=>by
    rcases Cp hz with rfl|rfl|rfl|rfl
    ·exact nx
    ·exact aL h1 sJ
    ·exact aL h2 sJ
    ·exact aL h3 sJ
   refine⟨_,rfl,_,rfl,_,rfl,⟨t,kss,n,f,12,0,[]⟩,rfl,rfl,rfl,fun m kd H6 s6 fm fkd md=>⟨F5,fun e he=>?_⟩⟩
   have u7:=Ge.upd (o:= .tup [.ref x,.ref m]) he
   have S7:=(sK.trans s6).trans u7;obtain⟨f0,ebd,_⟩:=id dl.dr.kb;have ent:Ii K C (Gh H6 e (.tup [.ref x,.ref m])) ⟨e,⟨x,ta,hk,bd',lg⟩,m,kd⟩ ⟨t,kss,n,f,12,0,[]⟩ [] ⟨t,kss,n,f,12,0,[]⟩:=⟨qc,(dl.same s6).same u7,md.same u7,(qo ebd fm).symm,(qo ebd fkd).symm⟩
   have fe:∀z∈eS ⟨e,⟨x,ta,hk,bd',lg⟩,m,kd⟩,Hy z=none:=fun z hz=>by
    rcases rK hz with hz|rfl|rfl
    ·exact fz z hz
    ·exact aL fm sK
    ·exact aL fkd sK
   refine⟨pl,_,_,rfl,rfl,S7 _ _ pw.pe,by rw[Je,lx,JA];have:j<2:=(Jv.mp hz).1;lia,?_⟩
   have mp:Mv [pl] (Gh H6 e (.tup [.ref x,.ref m])) (Gh (Gh H6 e (.tup [.ref x,.ref m])) pl (.lst ((xs.map fun x=>V.ref x.1.e)++[.ref e]))):=Mv.upd1
   have np:NT [pl] (Gh H6 e (.tup [.ref x,.ref m])):=NT.one (S7 _ _ pw.pe) trivial
   refine⟨xs++[(⟨e,⟨x,ta,hk,bd',lg⟩,m,kd⟩,⟨t,kss,n,f,12,0,[]⟩,[])],pw.add S7 ent fe,by simp [lx],fun i y hy=>?_,(hCy.same S7).mv mp np,by rw[qi nbl];exact S7 _ _ el,mp.tup np (S7 _ _ ex),mp.tup np (S7 _ _ ey),_,_,rfl⟩
   by_cases hi:i<xs.length
   ·rw[D8 hi]at hy;exact hxs i y hy
   ·rw[DY (by lia)]at hy
    cases ei:i-xs.length with
    |succ k=>rw[ei]at hy;cases hy
    |zero=>
     rw[ei]at hy;cases hy
     exact⟨⟨⟨tp,EC _,m8,JI _,FB⟩,rfl,rfl,m1,bn0,bn1,bf0,bf1,rfl,(by show(0:Int)<(kss.length:Int);lia),(fun e h=>nomatch h),(fun e h=>nomatch h)⟩,rfl,rfl,rfl⟩
  ·rintro σ Hy ⟨xs,pw,lx,hxs,hCy,el,ex,ey,o7,o8,rfl⟩
   exact hnx _ _ ⟨xs,_,_,pw.mono (by lia),lx,hxs,hCy,rfl⟩
  clear pw0 hC4 G4 G3 hC u4 hpl
  rintro σ Hy ⟨xs,o7,o8,pw,lx2,hxs,hCy,rfl⟩
  refine ZD (fun σ' H'=>∃xs o9 oa ob oc od oe og,Pw K C H H' b (c+160) pl xs/\xs.length=2/\(∀(i:Nat) (x:En),xs[i]? =some x->Ib t kss ba nms x.2.1/\x.2.2.length<=18)/\G8 H' cd tb kt t kss/\σ'=[some (.ref b),some (.ref dr),some (.ref nl),some (.int (kss.length:Int)),some (.int ba),some (.ref cd),some (.ref pl),o7,o8,o9,oa,ob,oc,od,oe,og,none,none,none,none]) (fun D' hrt hnx=>?_) ?_
  refine⟨_,rfl,nl,rfl,⟨_,Gq.of (pw.s _ _ (qX nlb) hnl)⟩,?_⟩
  refine Qj (K:=K) (a:=nl) (xs:=nms.map V.str) (fun j σ Hz=>∃xs,Pw K C H Hz b (c+95+7*j) pl xs/\xs.length=2/\(∀(i:Nat) (x:En),xs[i]? =some x->(GO t kss ba x.2.1/\x.2.1.least=0/\(∀z∈x.2.1.kn.map (·.1),z∈nms.take j)/\x.2.1.kn.length<=j)/\x.2.2.length<=2*j)/\G8 Hz cd tb kt t kss/\∃o9 oa ob oc od oe og,σ=[some (.ref b),some (.ref dr),some (.ref nl),some (.int (kss.length:Int)),some (.int ba),some (.ref cd),some (.ref pl),o7,o8,o9,oa,ob,oc,od,oe,og,none,none,none,none]) ⟨xs,pw,lx2,fun i x hx=>?_,hCy,_,_,_,_,_,_,_,rfl⟩ (fun j σ Hz _ h=>let⟨_,p,_⟩:=h;Gq.of (p.s _ _ (qX nlb) hnl)) ?_ ?_
  ·obtain⟨h1,h2,h3,h4⟩:=hxs i x hx
   rw[h3,h4]
   exact⟨⟨h1,h2,(fun z h=>nomatch h),Jf _⟩,Jf _⟩
  ·rintro j z σ Hz hz ⟨xs,pw,lx,hxs,hCz,o9,oa,ob,oc,od,oe,og,rfl⟩
   rw[Jo]at hz;cases en:nms[j]? with
   |none=>rw[en]at hz;cases hz
   |some nm=>
   rw[en]at hz;cases hz;have hj:j<nms.length:=(Jv.mp en).1
   have j9:j<9:=JJ hj ok.l9
   have hnm:=ok.nm nm (DV en);have hn5:c+95+7*j<100000000:=by lia
   refine AX fun D1 y1=>?_
   refine⟨_,rfl,_,rfl,b,_,_,rfl,pw.bx,bq 0 hn5,hm0,hm1,fun ag H1' ag0 ag1 g1'=>y1 _ _ (Zh fun D2 y2=>?_)⟩
   have pwa:=pw.grc g1';refine⟨_,rfl,_,_,rfl,rfl,_,rfl,b,9,_,rfl,pwa.bx,bq 1 hn5,by decide,by decide,fun r2 H2' r20 r21 g2'=>⟨_,_,rfl,rfl,_,_,rfl,?_⟩⟩
   have pwb:=pwa.grc g2';obtain⟨la,ela⟩:∃la,la=(if ba+1+r2<4095 then ba+1+r2 else 4095):=⟨_,rfl⟩
   have la0:1<=la/\la<4096/\ba<la/\la<=ba+23:=by rw[ela];split<;>lia
   rw[<- ela];refine y2 _ _ (Zh fun D3 y3=>?_)
   refine⟨_,rfl,_,rfl,b,_,_,rfl,pwb.bx,bq 2 hn5,hm0,hm1,fun ag2 H3' ag20 ag21 g3'=>?_⟩
   have pwc:=pwb.grc g3';refine⟨_,rfl,_,_,rfl,rfl,_,rfl,b,9,_,rfl,pwc.bx,bq 3 hn5,by decide,by decide,fun r4 H4' r40 r41 g4'=>⟨_,_,rfl,rfl,_,_,rfl,F5,fun t0 ht0=>?_⟩⟩
   obtain⟨la2,ela2⟩:∃la2,la2=(if ba+1+r4<4095 then ba+1+r4 else 4095):=⟨_,rfl⟩
   have la20:1<=la2/\la2<4096/\ba<la2/\la2<=ba+23:=by rw[ela2];split<;>lia
   rw[<- ela2];have v0:=Ge.upd (o:= .tup [.int ag2,.int la2]) ht0
   have pwd:=(pwc.grc g4').same v0;have e0:(Gh H4' t0 (.tup [.int ag2,.int la2])) t0=some (.tup [.int ag2,.int la2]):=qc
   generalize Gh H4' t0 (.tup [.int ag2,.int la2])=H5' at *
   refine y3 _ _ (Zh fun D4 y4=>?_)
   refine⟨_,rfl,b,8,_,rfl,pwd.bx,bq 4 hn5,by decide,by decide,fun wy H6' wy0 wy1 g6'=>y4 _ _ (Zh fun D5 y5=>?_)⟩
   have pwe:=pwd.grc g6';have e0:=g6'.kp _ _ (fun z=>by obtain⟨_,_,_,eb,_⟩:=pwd.bx;rw[z,eb]at e0;cases e0) e0
   refine⟨_,rfl,_,rfl,F5,fun t1 ht1=>?_⟩
   have v1:=Ge.upd (o:= .tup [.int ag,.int la]) ht1
   refine⟨_,rfl,_,rfl,t0,_,_,_,rfl,rfl,Gu.of (v1 _ _ e0),rfl,F5,fun t2 ht2=>?_⟩
   have v2:=Ge.upd (o:= .tup [.int ag,.int la2]) ht2
   refine⟨_,rfl,t0,_,_,_,rfl,rfl,Gu.of (v2 _ _ (v1 _ _ e0)),rfl,_,rfl,F5,fun t3 ht3=>⟨F7,fun l4 hl4=>?_⟩⟩
   have v3:=Ge.upd (o:= .tup [.int ag2,.int la]) ht3
   have v4:=Ge.upd (o:= .lst [.ref t1,.ref t2,.ref t3,.non]) hl4
   have d1:=v4 _ _ (v3 _ _ (v2 _ _ (show(Gh H6' t1 (.tup [.int ag,.int la])) t1=some (.tup [.int ag,.int la])from qc)))
   have d2:=v4 _ _ (v3 _ _ (show(Gh (Gh H6' t1 (.tup [.int ag,.int la])) t2 (.tup [.int ag,.int la2])) t2=some (.tup [.int ag,.int la2])from qc))
   have d3:=v4 _ _ (show(Gh (Gh (Gh H6' t1 (.tup [.int ag,.int la])) t2 (.tup [.int ag,.int la2])) t3 (.tup [.int ag2,.int la])) t3=some (.tup [.int ag2,.int la])from qc)
   have d4:(Gh (Gh (Gh (Gh H6' t1 (.tup [.int ag,.int la])) t2 (.tup [.int ag,.int la2])) t3 (.tup [.int ag2,.int la])) l4 (.lst [.ref t1,.ref t2,.ref t3,.non])) l4=some (.lst [.ref t1,.ref t2,.ref t3,.non]):=qc
   have S4:=((v1.trans v2).trans v3).trans v4;have pwf:=pwe.same S4;have kp4:∀{x:Addr} {xs:List V},Hz x=some (.tup xs)->H6' x=some (.tup xs):=fun{x xs} e=>by
    have nb:x≠b:=fun z=>by obtain⟨_,_,_,eb,_⟩:=pw.bx;rw[z,eb]at e;cases e
    exact g6'.kp _ _ nb (v0 _ _ (g4'.kp _ _ nb (g3'.kp _ _ nb (g2'.kp _ _ nb (g1'.kp _ _ nb e)))))
   have hCf:G8 _ cd tb kt t kss:=G8.same (H:=H6') ⟨kp4 hCz.e,?_,?_⟩ S4
   rotate_left
   ·exact(fun h=>by exact h) (by
     have:Mv [b] Hz H6':=fun x o h e=>by
      have nb:x≠b:=fun z=>h (Jl.mpr z)
      exact g6'.kp _ _ nb (v0 _ _ (g4'.kp _ _ nb (g3'.kp _ _ nb (g2'.kp _ _ nb (g1'.kp _ _ nb e)))))
     exact(hCz.mv this (Qb pw.bx)).tb)
   ·exact(by
     have:Mv [b] Hz H6':=fun x o h e=>by
      have nb:x≠b:=fun z=>h (Jl.mpr z)
      exact g6'.kp _ _ nb (v0 _ _ (g4'.kp _ _ nb (g3'.kp _ _ nb (g2'.kp _ _ nb (g1'.kp _ _ nb e)))))
     exact(hCz.mv this (Qb pw.bx)).ks)
   generalize Gh (Gh (Gh (Gh H6' t1 (.tup [.int ag,.int la])) t2 (.tup [.int ag,.int la2])) t3 (.tup [.int ag2,.int la])) l4 (.lst [.ref t1,.ref t2,.ref t3,.non])=H7' at *
   have ix0:0<=(if 0<wy-4 then wy-4 else 0):=by split<;>lia
   have ix1:(if 0<wy-4 then wy-4 else 0)<(([V.ref t1,.ref t2,.ref t3,.non]:List V).length:Int):=by show _<(4:Int);split<;>lia
   obtain⟨v,hv,hvm⟩:=Zf ix0 ix1;obtain⟨o,ho,hob⟩:∃o:Option (Int×Int),La H7' v o/\∀a l,o=some (a,l)->0<=a/\a<(kss.length:Int)/\1<=l/\l<4096/\ba<l/\l<=ba+23:=by
    simp only[Jk,Js,Jt]at hvm;rcases hvm with rfl|rfl|rfl|rfl
    ·exact⟨some (ag,la),⟨t1,rfl,d1⟩,fun a l e=>by cases e;exact⟨ag0,ag1,la0⟩⟩
    ·exact⟨some (ag,la2),⟨t2,rfl,d2⟩,fun a l e=>by cases e;exact⟨ag0,ag1,la20⟩⟩
    ·exact⟨some (ag2,la),⟨t3,rfl,d3⟩,fun a l e=>by cases e;exact⟨ag20,ag21,la0⟩⟩
    ·exact⟨none,rfl,fun a l e=>by cases e⟩
   refine y5 _ _ (Zh fun D6 y6=>?_)
   refine⟨_,rfl,_,rfl,F5,fun t5 ht5=>?_⟩
   have v5:=Ge.upd (o:= .tup [.int ag,.int la]) ht5
   have d5:(Gh H7' t5 (.tup [.int ag,.int la])) t5=some (.tup [.int ag,.int la]):=qc
   have ho5:=ho.mv (S:=[]) v5.mv dh
   refine⟨_,rfl,_,rfl,_,_,rfl,rfl,_,_,rfl,l4,_,_,_,rfl,rfl,Gq.of (v5 _ _ d4),hv,F5,fun tl htl=>?_⟩
   have v6:=Ge.upd (o:= .lst [.ref t5,v]) htl
   have pwg:=(pwf.same v5).same v6;have hCg:=(hCf.same v5).same v6;have etl:(Gh (Gh H7' t5 (.tup [.int ag,.int la])) tl (.lst [.ref t5,v])) tl=some (.lst [.ref t5,v]):=qc
   have ho6:=ho5.mv (S:=[]) v6.mv dh
   have d6:=v6 _ _ d5;have ntl:∀(i:Nat) (x:En),xs[i]? =some x->tl∉eS x.1:=fun i x hx z=>((pwf.same v5).en i x hx).some z htl
   have ntb':tl≠b:=zr (pwf.same v5).bx htl
   have ntp:tl≠pl:=(qo (pwf.same v5).pe htl).symm
   generalize Gh (Gh H7' t5 (.tup [.int ag,.int la])) tl (.lst [.ref t5,v])=H8' at *
   refine y6 _ _ (ZD (fun σ' H'=>∃(os:List (Option (Int×Int))),Pw K C H H' b (c+95+7*j+6) pl xs/\G8 H' cd tb kt t kss/\Ie H' tl os/\os.length=2/\(∀a l,some (a,l)∈os->0<=a/\a<(kss.length:Int)/\1<=l/\l<4096/\ba<l/\l<=ba+23)/\∃oa ob oc od oe,σ'=[some (.ref b),some (.ref dr),some (.ref nl),some (.int (kss.length:Int)),some (.int ba),some (.ref cd),some (.ref pl),o7,o8,some (.str nm),oa,ob,oc,od,oe,some (.ref tl),none,none,none,none]) (fun D' hrt hnx=>?_) ?_)
   ·refine⟨_,rfl,b,2,_,rfl,pwg.bx,bq 5 hn5,by decide,by decide,fun r9 H9 r90 r91 g9=>⟨rfl,_,rfl,?_⟩⟩
    have pwh:=(pwg.grc g9).mono (c':=c+95+7*j+6) (Jf _)
    have m9:Mv [b] H8' H9:=fun c o h e=>g9.kp c o (fun z=>h (Jl.mpr z)) e
    have hCh:=hCg.mv m9 (Qb pwg.bx);have etl9:=g9.kp _ _ ntb' etl;have d9:=m9.tup (Qb pwg.bx) d6;have ho9:=ho6.mv m9 (Qb pwg.bx);have ob':∀a l,some (a,l)∈[some (ag,la),o]->0<=a/\a<(kss.length:Int)/\1<=l/\l<4096/\ba<l/\l<=ba+23:=fun a l h=>by
     simp only[Jk,Js,Jt]at h;rcases h with h|h
     ·injection h with h;injection h with h1 h2;subst h1;subst h2;exact⟨ag0,ag1,la0⟩
     ·exact hob a l h.symm
    refine q9 (fun _=>?_) (fun _=>hnx _ _ ⟨[some (ag,la),o],pwh,hCh,Ie.two etl9 ⟨t5,rfl,d9⟩ ho9,rfl,ob',_,_,_,_,_,rfl⟩)
    refine⟨_,rfl,.inl ⟨rfl,_,Gq.of etl9⟩,tl,_,rfl,rfl,etl9,?_⟩
    have mr:Mv [tl] H9 (Gh H9 tl (.lst [v,.ref t5])):=Mv.upd1
    have nr:NT [tl] H9:=NT.one etl9 trivial
    have fl0:H tl=none:=(pwf.same v5).fresh htl
    refine hnx _ _ ⟨[o,some (ag,la)],pwh.out mr nr (qX ntb'.symm) (qX ntp.symm) (fun i x hx z hz w=>ntl i x hx (Jl.mp w▸hz)) (fun z hz=>by rw[Jl.mp hz];exact fl0),hCh.mv mr nr,Ie.two qc (ho9.mv mr nr) ⟨t5,rfl,mr.tup nr d9⟩,rfl,fun a l h=>ob' a l (by
     simp only[Jk,Js,Jt]at h⊢;exact h.symm),_,_,_,_,_,rfl⟩
   rintro _ H9 ⟨os,pwh,hCh,hol,los,hos,oa,ob,oc,od,oe,rfl⟩
   have pre:∀(i:Nat) (x:En),xs[i]? =some x->(GO t kss ba x.2.1/\x.2.1.least=0/\(∀z∈x.2.1.kn.map (·.1),z∈nms.take j)/\x.2.1.kn.length<=j/\x.2.1.kn.lookup nm=none)/\x.2.2.length<=2*j:=fun i x hx=>by
    obtain⟨⟨h1,h2,h3,h4⟩,h5⟩:=hxs i x hx
    exact⟨⟨h1,h2,h3,h4,rq fun z=>tZ ok.nd en (h3 nm z)⟩,h5⟩
   refine⟨_,rfl,_,rfl,_,rfl,_,rfl,cd,tb,kt,pl,tl,b,_,H,t,kss,xs,nm,os,rfl,pwh,lx,hCh,hnm,hol,los,ntl,fun i x hx=>?_,fun a l h=>?_,fun Hn xs' pwn hCn st _=>?_⟩
   ·obtain⟨⟨h1,h2,h3,h4,h6⟩,h5⟩:=pre i x hx
    refine⟨⟨h1.ok,h1.t,h1.ks,by rw[h1.ms];lia⟩,fun a l e=>?_,h6,by lia,by lia⟩
    rw[h2];rw[JF]at e;cases q:os[i]? with
    |none=>rw[q]at e;cases e
    |some y=>rw[q]at e;have:y=some (a,l):=e;rw[this]at q;exact(hos a l (DV q)).1
   ·obtain⟨h1,h2,h3,h4,_⟩:=hos a l h
    exact⟨h1,h2,h3,h4⟩
   ·refine⟨xs',pwn.mono (by lia),st.1.trans lx,?_,hCn,_,_,_,_,_,_,_,rfl⟩
    have:=st.all (p:=fun D=>GO t kss ba D/\D.least=0/\(∀z∈D.kn.map (·.1),z∈nms.take j)/\D.kn.length<=j/\D.kn.lookup nm=none) (q:=fun D=>GO t kss ba D/\D.least=0/\(∀z∈D.kn.map (·.1),z∈nms.take (j+1))/\D.kn.length<=j+1) pre (fun i D hD=>?_)
    ·intro i x hx
     obtain⟨h1,h2⟩:=this i x hx
     exact⟨h1,by lia⟩
    ·obtain⟨h1,h2,h3,h4,h6⟩:=hD
     have sub:∀z∈nms.take j,z∈nms.take (j+1):=fun z hz=>List.take_subset_take_left nms (Eo j) hz
     cases eo:os.getD i none with
     |none=>exact⟨h1,h2,fun z hz=>sub z (h3 z hz),by show D.kn.length<=j+1;lia⟩
     |some al=>
      obtain⟨a,l⟩:=al;have hm:some (a,l)∈os:=by
       rw[JF]at eo;cases q:os[i]? with
       |none=>rw[q]at eo;cases eo
       |some y=>rw[q]at eo;have:y=some (a,l):=eo;rw[this]at q;exact DV q
      obtain⟨q1,q2,q3,q4,q5,q6⟩:=hos a l hm;refine⟨h1.learn hnm (by lia) q1 q2 q3 q4 q5 q6,h2,fun z hz=>?_,JK (jQ _ _ _) (by lia)⟩
      have hz:z∈(ze D.kn nm ⟨a,l,none⟩).map (·.1):=hz
      rw[aR]at hz;split at hz
      ·exact sub z (h3 z hz)
      ·rcases JW.mp hz with hz|hz
       ·exact sub z (h3 z hz)
       ·rw[Jl.mp hz,Eh,en];simp
  ·rintro σ Hz ⟨xs,pw,lx,hxs,hCz,o9,oa,ob,oc,od,oe,og,rfl⟩
   have l9:(nms.map V.str).length<=9:=by rw[Je];exact ok.l9
   have lnm:(nms.map V.str).length=nms.length:=Je _
   refine hnx _ _ ⟨xs,_,_,_,_,_,_,_,pw.mono (by lia),lx,fun i x hx=>?_,hCz,rfl⟩
   obtain⟨⟨h1,_,h3,h4⟩,h2⟩:=hxs i x hx;rw[lnm]at h3 h4;rw[EA]at h3
   exact⟨⟨h1,h3,h4⟩,by lia⟩
  clear pw lx2 hxs hCy
  rintro σ Hz ⟨xs,o9,oa,ob,oc,od,oe,og,pw,lx,hxs2,hCz,rfl⟩
  obtain⟨C0,C0e⟩:∃C0,C0=c+160:=⟨_,rfl⟩
  have C0b:C0<=c+170:=by lia
  rw[<- C0e]at pw;clear C0e;have l9:(nms.map V.str).length<=9:=by rw[Je];exact ok.l9
  have lnm:(nms.map V.str).length=nms.length:=Je _
  refine ZD (fun σ' H'=>∃xs p9 pa pg ph pi,Pw K C H H' b (C0+13) pl xs/\xs.length=2/\(∀(i:Nat) (x:En),xs[i]? =some x->Ib t kss ba nms x.2.1/\x.2.2.length<=24)/\G8 H' cd tb kt t kss/\σ'=[some (.ref b),some (.ref dr),some (.ref nl),some (.int (kss.length:Int)),some (.int ba),some (.ref cd),some (.ref pl),o7,o8,p9,pa,ob,oc,od,oe,pg,ph,pi,none,none]) (fun D' hrt hnx=>?_) ?_
  refine⟨_,rfl,b,4,_,rfl,pw.bx,by lia,by decide,by decide,fun rn Hh rn0 rn1 gh=>⟨_,rfl,by lia,by lia,?_⟩⟩
  have pwx:=pw.grc gh;have mh:Mv [b] Hz Hh:=fun c o h e=>gh.kp c o (fun z=>h (Jl.mpr z)) e
  have hCx:=hCz.mv mh (Qb pw.bx);refine Qo (n:=rn.toNat) (Pv:=fun j σ Hx=>∃xs,Pw K C H Hx b (C0+1+4*j) pl xs/\xs.length=2/\(∀(i:Nat) (x:En),xs[i]? =some x->Ib t kss ba nms x.2.1/\x.2.2.length<=18+2*j)/\G8 Hx cd tb kt t kss/\∃o9 oa og oh,σ=[some (.ref b),some (.ref dr),some (.ref nl),some (.int (kss.length:Int)),some (.int ba),some (.ref cd),some (.ref pl),o7,o8,o9,oa,ob,oc,od,oe,og,oh,none,none,none]\/∃oi,σ=[some (.ref b),some (.ref dr),some (.ref nl),some (.int (kss.length:Int)),some (.int ba),some (.ref cd),some (.ref pl),o7,o8,o9,oa,ob,oc,od,oe,og,oh,oi,none,none]) ⟨xs,pwx,lx,hxs2,hCx,_,_,_,_,.inl rfl⟩ ?_ ?_
  ·rintro j σ Hx hj ⟨xs,pw,lx,hxs,hCy,p9,pa,pg,ph,hσ⟩
   obtain⟨pi,rfl⟩:∃pi,σ=[some (.ref b),some (.ref dr),some (.ref nl),some (.int (kss.length:Int)),some (.int ba),some (.ref cd),some (.ref pl),o7,o8,p9,pa,ob,oc,od,oe,pg,ph,pi,none,none]:=by
    rcases hσ with rfl|⟨oi,rfl⟩
    ·exact⟨none,rfl⟩
    ·exact⟨oi,rfl⟩
   have j3:j<3:=by lia
   have enl:=pw.s _ _ (qX nlb) hnl;have hn6:C0+1+4*j<100000000:=by lia
   refine AX fun D1 y1=>?_
   refine⟨_,rfl,_,rfl,_,rfl,nl,_,rfl,.inl (Gq.of enl),b,_,_,rfl,pw.bx,bq 0 hn6,by have:=ok.l1;lia,by lia,fun r H2 r0 r1 g2=>?_⟩
   have pw2:=pw.grc g2;obtain⟨nm,hat,hnm⟩:=yv r0 r1 ok.nm;refine⟨nl,_,_,_,rfl,rfl,Gq.of (pw2.s _ _ (qX nlb) hnl),hat,y1 _ _ (Zh fun D2 y2=>?_)⟩
   refine⟨_,rfl,_,rfl,b,_,_,rfl,pw2.bx,bq 1 hn6,hm0,hm1,fun ag H3' ag0 ag1 g3=>y2 _ _ (Zh fun D3 y3=>?_)⟩
   have pw3:=pw2.grc g3;refine⟨_,rfl,_,rfl,_,rfl,_,rfl,b,24,_,rfl,pw3.bx,bq 2 hn6,by decide,by decide,fun r4 H4' r40 r41 g4=>⟨_,_,rfl,rfl,_,_,rfl,F6,fun p hp=>?_⟩⟩
   obtain⟨n,en⟩:∃n,n=(if ba+r4<4095 then ba+r4 else 4095):=⟨_,rfl⟩
   have n0:0<=n/\n<4096/\n<=ba+23:=by rw[en];split<;>lia
   rw[<- en];have pw4:=pw3.grc g4;have v0:=Ge.upd (o:= .tup [.str nm,.int ag,.int n]) hp
   have M4:Mv [b] Hx H4':=fun c o h e=>by
    have nb:c≠b:=fun z=>h (Jl.mpr z)
    exact g4.kp _ _ nb (g3.kp _ _ nb (g2.kp _ _ nb e))
   have hC4:=(hCy.mv M4 (Qb pw.bx)).same v0;have pw5:=pw4.same v0;have ep:(Gh H4' p (.tup [.str nm,.int ag,.int n])) p=some (.tup [.str nm,.int ag,.int n]):=qc
   generalize Gh H4' p (.tup [.str nm,.int ag,.int n])=H5' at *
   refine y3 _ _ ?_
   refine⟨_,rfl,_,rfl,_,rfl,F5,fun q1 hq1=>⟨F5,fun q2 hq2=>⟨F4,fun q3 hq3=>⟨F4,fun q4 hq4=>⟨F7,fun l5 hl5=>?_⟩⟩⟩⟩⟩
   have w1:=Ge.upd (o:= .tup [.int 0,.int 1]) hq1
   have w2:=Ge.upd (o:= .tup [.int 0,.int 1]) hq2
   have w3:=Ge.upd (o:= .tup [.int 0]) hq3
   have w4:=Ge.upd (o:= .tup [.int 1]) hq4
   have w5:=Ge.upd (o:= .lst [.ref q1,.ref q2,.ref q3,.ref q4]) hl5
   have z1:=w5 _ _ (w4 _ _ (w3 _ _ (w2 _ _ (show(Gh H5' q1 (.tup [.int 0,.int 1])) q1=some (.tup [.int 0,.int 1])from qc))))
   have z2:=w5 _ _ (w4 _ _ (w3 _ _ (show(Gh (Gh H5' q1 (.tup [.int 0,.int 1])) q2 (.tup [.int 0,.int 1])) q2=some (.tup [.int 0,.int 1])from qc)))
   have z3:=w5 _ _ (w4 _ _ (show(Gh (Gh (Gh H5' q1 (.tup [.int 0,.int 1])) q2 (.tup [.int 0,.int 1])) q3 (.tup [.int 0])) q3=some (.tup [.int 0])from qc))
   have z4:=w5 _ _ (show(Gh (Gh (Gh (Gh H5' q1 (.tup [.int 0,.int 1])) q2 (.tup [.int 0,.int 1])) q3 (.tup [.int 0])) q4 (.tup [.int 1])) q4=some (.tup [.int 1])from qc)
   have z5:(Gh (Gh (Gh (Gh (Gh H5' q1 (.tup [.int 0,.int 1])) q2 (.tup [.int 0,.int 1])) q3 (.tup [.int 0])) q4 (.tup [.int 1])) l5 (.lst [.ref q1,.ref q2,.ref q3,.ref q4])) l5=some (.lst [.ref q1,.ref q2,.ref q3,.ref q4]):=qc
   have SW:=(((w1.trans w2).trans w3).trans w4).trans w5;have pw6:=pw5.same SW;have hC6:=hC4.same SW;have ep6:=SW _ _ ep;have nl5:=zr ((pw5.same (((w1.trans w2).trans w3).trans w4)).bx) hl5;generalize Gh (Gh (Gh (Gh (Gh H5' q1 (.tup [.int 0,.int 1])) q2 (.tup [.int 0,.int 1])) q3 (.tup [.int 0])) q4 (.tup [.int 1])) l5 (.lst [.ref q1,.ref q2,.ref q3,.ref q4])=H6' at *
   refine⟨_,rfl,b,4,_,rfl,pw6.bx,bq 3 hn6,by decide,by decide,fun r7 H7' r70 r71 g7=>?_⟩
   have pw7:=pw6.grc g7;have M7:Mv [b] H6' H7':=fun c o h e=>g7.kp c o (fun z=>h (Jl.mpr z)) e
   have N6:=Qb pw6.bx;obtain⟨v,hv,hvm⟩:=Zf (xs:=[V.ref q1,.ref q2,.ref q3,.ref q4]) r70 r71
   obtain⟨ps,is,rfl,eps,ndi,hi2⟩:∃(ps:Addr) (is:List Nat),v= .ref ps/\H6' ps=some (.tup (is.map fun i:Nat=>V.int (i:Int)))/\is.Nodup/\∀i∈is,i<2:=by
    simp only[Jk,Js,Jt]at hvm;rcases hvm with rfl|rfl|rfl|rfl
    ·exact⟨q1,[0,1],rfl,z1,by decide,by decide⟩
    ·exact⟨q2,[0,1],rfl,z2,by decide,by decide⟩
    ·exact⟨q3,[0],rfl,z3,by decide,by decide⟩
    ·exact⟨q4,[1],rfl,z4,by decide,by decide⟩
   refine⟨l5,_,_,_,rfl,rfl,Gq.of (g7.kp _ _ nl5 z5),hv,?_⟩
   refine⟨cd,tb,kt,pl,p,ps,b,_,H,t,kss,xs,nm,ag,n,is,ba,rfl,pw7,lx,hC6.mv M7 N6,hnm,ag0,ag1,n0.1,n0.2.1,M7.tup N6 ep6,.inl (M7.tup N6 eps),ndi,hi2,fun i x hx=>?_,fun Hn xs' pwn hCn st=>?_⟩
   ·obtain⟨h1,h2⟩:=hxs i x hx
    exact⟨h1.1,by lia⟩
   ·refine⟨xs',pwn.mono (by lia),st.1.trans lx,?_,hCn,_,_,_,_,.inr ⟨_,rfl⟩⟩
    have:=st.all (p:=Ib t kss ba nms) (q:=Ib t kss ba nms) hxs (fun i D hD=>?_)
    ·intro i x hx
     obtain⟨h1,h2⟩:=this i x hx
     exact⟨h1,by lia⟩
    ·show Ib t kss ba nms (if i∈is then _ else _)
     split
     ·exact hD.hear n0.1 n0.2.1 n0.2.2
     ·exact hD
  ·rintro σ Hx ⟨xs,pw,lx,hxs,hCy,p9,pa,pg,ph,hσ⟩
   obtain⟨pi,rfl⟩:∃pi,σ=[some (.ref b),some (.ref dr),some (.ref nl),some (.int (kss.length:Int)),some (.int ba),some (.ref cd),some (.ref pl),o7,o8,p9,pa,ob,oc,od,oe,pg,ph,pi,none,none]:=by
    rcases hσ with rfl|⟨oi,rfl⟩
    ·exact⟨none,rfl⟩
    ·exact⟨oi,rfl⟩
   have rn3:rn.toNat<=3:=by lia
   exact hnx _ _ ⟨xs,_,_,_,_,_,pw.mono (by lia),lx,fun i x hx=>⟨(hxs i x hx).1,by have h2:=(hxs i x hx).2;lia⟩,hCy,rfl⟩
  clear pw lx hxs2 hCz l9 lnm
  rintro σ Hx ⟨xs,p9,pa,pg,ph,pi,pw,lx,hxs,hCy,rfl⟩
  obtain⟨es,ees⟩:∃es:List V,es=xs.map fun x=>V.ref x.1.e:=⟨_,rfl⟩
  have les:es.length=2:=by rw[ees,Je];exact lx
  refine⟨_,rfl,pl,rfl,⟨_,Gq.of pw.pe⟩,?_⟩
  refine Qj (K:=K) (a:=pl) (xs:=es) (fun j σ Hx=>∃xs,Pw K C H Hx b (C0+13+2*j) pl xs/\(xs.map fun x=>V.ref x.1.e)=es/\xs.length=2/\(∀(i:Nat) (x:En),xs[i]? =some x->Ib t kss ba nms x.2.1/\x.2.2.length<=24+j)/\G8 Hx cd tb kt t kss/\∃oa oj ok',σ=[some (.ref b),some (.ref dr),some (.ref nl),some (.int (kss.length:Int)),some (.int ba),some (.ref cd),some (.ref pl),o7,o8,p9,oa,ob,oc,od,oe,pg,ph,pi,oj,ok']) ⟨xs,pw,ees.symm,lx,fun i x hx=>?_,hCy,_,_,_,rfl⟩ (fun j σ Hx _ h=>let⟨_,p,e,_⟩:=h;Gq.of (by rw[<- e];exact p.pe)) ?_ ?_
  ·obtain⟨h1,h2⟩:=hxs i x hx
   exact⟨h1,by lia⟩
  ·rintro j z σ Hx' hz ⟨xs,pw,exs,lx,hxs,hCy,qa,qj,qk,rfl⟩
   have j2:j<2:=by rw[<- les];exact(Jv.mp hz).1
   have ex:=Jj (show j<xs.length by rw[lx];exact j2)
   obtain⟨x,rx⟩:∃x,x=xs[j]:=⟨_,rfl⟩
   rw[<- rx]at ex
   obtain rfl:z= .ref x.1.e:=by
    rw[<- exs,Jo,ex]at hz;injection hz with hz;exact hz.symm
   have en:=pw.en j x ex;obtain⟨dp,hl⟩:=hxs j x ex;refine⟨x.1.e,_,rfl,.tup en.tu,rfl,_,_,rfl,_,_,rfl,rfl,?_⟩
   refine⟨_,rfl,b,5,_,rfl,pw.bx,by lia,by decide,by decide,fun r H2 r0 r1 g2=>⟨rfl,_,rfl,?_⟩⟩
   have pw2:=pw.grc g2;have M2:Mv [b] Hx' H2:=fun c o h e=>g2.kp c o (fun z=>h (Jl.mpr z)) e
   have hC2:=hCy.mv M2 (Qb pw.bx);refine q9 (fun _=>?_) (fun _=>⟨xs,pw2.mono (by lia),exs,lx,fun i y hy=>?_,hC2,_,_,_,rfl⟩)
   case refine_2=>obtain⟨h1,h2⟩:=hxs i y hy;exact⟨h1,by lia⟩
   refine⟨_,rfl,_,rfl,b,_,_,rfl,pw2.bx,by lia,hm0,hm1,fun ag H3' ag0 ag1 g3=>?_⟩
   have pw3:=pw2.grc g3;have M3:Mv [b] H2 H3':=fun c o h e=>g3.kp c o (fun z=>h (Jl.mpr z)) e
   have hC3:=hC2.mv M3 (Qb pw2.bx);have en3:=pw3.en j x ex;refine⟨_,rfl,x.1.a.p,rfl,en3.dl.dr.no,_,rfl,x.1.a,x.2.1,x.2.2,ag,rfl,en3.dl,by lia,fun D' rw' hd Hs ms ds=>?_⟩
   cases hd;have ms':=DP ms;have es':=en3.door ms' ds;have pes:Mv (eS x.1) H3' Hs:=ii ms'
   have md3:=es'.md;obtain⟨H4',dp4,m4,md4⟩:=md3.close (if ag>x.2.1.least then ag else x.2.1.least)
   refine⟨_,rfl,x.1.m,_,rfl,md3.g_closed,_,rfl,_,_,rfl,_,rfl,x.1.m,H4',rfl,dp4,?_⟩
   have m4':Mv [x.1.m,x.1.kd] Hs H4':=m4.mono (fun c h z=>h (by rw[Jl.mp z];simp))
   have en4:=es'.model m4' md4;have Mall:Mv (eS x.1) H3' H4':=pes.trans (gS m4')
   have N3:=en3.nt;refine⟨_,(pw3.step ex Mall en4).mono (by lia),?_,by rw[E3];exact lx,fun i y hy=>?_,hC3.mv Mall N3,_,_,_,rfl⟩
   ·rw[<- exs]
    refine List.ext_getElem? fun k=>?_
    rw[Jo,Jo,List.getElem?_set];split
    ·rename_i z
     subst z;rw[Jc (by rw[lx];exact j2),ex];rfl
    ·rfl
   ·rw[List.getElem?_set]at hy
    split at hy
    ·rename_i z
     subst z;rw[Jc (by rw[lx];exact j2)]at hy
     cases hy;refine⟨dp.close ag1,?_⟩
     show(x.2.2++[_]).length<=24+(j+1)
     rw[JD];simp;lia
    ·obtain⟨h1,h2⟩:=hxs i y hy
     exact⟨h1,by lia⟩
  rintro σ Hx' ⟨xs,pw,exs,lx,hxs,hCy,qa,qj,qk,rfl⟩
  refine⟨_,rfl,_,rfl,F5,fun t1 ht1=>?_⟩
  have u:=Ge.upd (o:= .tup [.ref cd,.ref pl]) ht1
  refine q t1 cd tb kt pl t kss xs _ ((pw.same u).mono (by rw[les];lia)) lx qc (hCy.same u) rfl fun i x hx=>?_
  obtain⟨h1,h2⟩:=hxs i x hx
  exact⟨h1,by rw[les]at h2;lia⟩
end
section
variable{P:Program}{w:World}{K:Frag}{mg:Gc}{base:Heap}{tk:Nat->Tok}
theorem da(a:At K mg "_law_alike" bz ["_law_found","_law_due"])(T:GJ K mg tk):∀n:Nat,n<=8->Df P w K mg base "_law_alike" ["_law_found","_law_due"] (n+1) (Ce n)
 |0,_=>by
  refine a.dq cW fun f _ A _ s H vs Q E hr h=>?_
  ·obtain⟨x,y,rfl,e,q⟩:=h
   refine⟨_,(qe (qG (zc (qm Zb T.b_isinstance Ju (qd (qv 1) (qd (qz (qd (qF (v:= .ty "list") rfl T.b_list D7 rfl) (qd (qF (v:= .ty "tuple") rfl T.b_tuple JG rfl) qb))) qb)))) Qq qy)
   (qe (qG (QW.pt (zF (zc (qm qI T.b_isinstance Ju (qd (qv 1) (qd (qF (v:= .ty "str") rfl T.b_str Fd rfl) qb)))) (zA (qx zP (qv 1) qM (qu _))))) (qf (qp (zj zt (qv 0) (qv 1) (qu _)))) qy)
   (qf (qp (zG (qm qI T.b_isinstance Ju (qd (qv 0) (qd (qF (v:= .ty "int") rfl T.b_int ER rfl) qb))) (zG (av (qm qI T.b_isinstance Ju (qd (qv 0) (qd (qF (v:= .ty "bool") rfl T.b_bool Fc rfl) qb)))) (QB (zj zt (qv 0) (qv 1) (qu _))))))))),?_⟩
   cases e with
   |int _ i=>
    refine⟨_,rfl,F5,fun p hp=>⟨_,p,["list","tuple"],"int",rfl,qc,.int i,by simp,_,rfl,?_⟩⟩
    rw[show(["list","tuple"].any (zk "int"))=false from by decide]
    refine qW ⟨_,rfl,_,"str","int",rfl,.int i,by simp,_,rfl,?_⟩
    rw[show zk "int" "str"=false from by decide]
    refine qW ⟨_,rfl,rfl,_,rfl,?_⟩
    refine q9 (fun z=>nomatch (Jx z)) (fun _=>⟨_,rfl,_,"int","int",rfl,.int i,by simp,_,rfl,?_⟩)
    rw[show zk "int" "int"=true from by decide]
    refine zf ⟨_,rfl,_,"bool","int",rfl,.int i,by simp,_,rfl,?_⟩
    rw[show zk "int" "bool"=false from by decide]
    refine⟨_,rfl,zf ⟨_,rfl,_,rfl,rfl,?_⟩⟩
    rw[Jg rfl];exact q _ (Ge.upd hp)
   |str _ z=>
    refine⟨_,rfl,F5,fun p hp=>⟨_,p,["list","tuple"],"str",rfl,qc,.str z,by simp,_,rfl,?_⟩⟩
    rw[show(["list","tuple"].any (zk "str"))=false from by decide]
    refine qW ⟨_,rfl,_,"str","str",rfl,.str z,by simp,_,rfl,?_⟩
    rw[show zk "str" "str"=true from by decide]
    refine zf (zf ⟨_,rfl,_,rfl,rfl,?_⟩)
    rw[Jg rfl];exact q _ (Ge.upd hp)
   |non _=>
    refine⟨_,rfl,F5,fun p hp=>⟨_,p,["list","tuple"],"NoneType",rfl,qc,.non,by simp,_,rfl,?_⟩⟩
    rw[show(["list","tuple"].any (zk "NoneType"))=false from by decide]
    refine qW ⟨_,rfl,_,"str","NoneType",rfl,.non,by simp,_,rfl,?_⟩
    rw[show zk "NoneType" "str"=false from by decide]
    refine qW ⟨_,rfl,rfl,_,rfl,?_⟩
    refine q9 (fun _=>⟨_,rfl,_,rfl,rfl,?_⟩) (fun z=>absurd (Jg rfl) z)
    rw[Jg rfl];exact q _ (Ge.upd hp)
 |n+1,hn=>by
  have dQ:=da a T n (by lia)
  refine a.dq cW fun f _ A _ s H vs Q E hr h=>?_
  ·obtain⟨x,y,rfl,e,q⟩:=h
   cases e with
   |int _ i=>
    refine⟨_,(qe (qG (zc (qm Zb T.b_isinstance Ju (qd (qv 1) (qd (qz (qd (qF (v:= .ty "list") rfl T.b_list D7 rfl) (qd (qF (v:= .ty "tuple") rfl T.b_tuple JG rfl) qb))) qb)))) Qq qy)
   (qe (qG (QW.pt (zF (zc (qm qI T.b_isinstance Ju (qd (qv 1) (qd (qF (v:= .ty "str") rfl T.b_str Fd rfl) qb)))) (zA (qx zP (qv 1) qM (qu _))))) (qf (qp (zj zt (qv 0) (qv 1) (qu _)))) qy)
   (qf (qp (zG (qm qI T.b_isinstance Ju (qd (qv 0) (qd (qF (v:= .ty "int") rfl T.b_int ER rfl) qb))) (zG (av (qm qI T.b_isinstance Ju (qd (qv 0) (qd (qF (v:= .ty "bool") rfl T.b_bool Fc rfl) qb)))) (QB (zj zt (qv 0) (qv 1) (qu _))))))))),?_⟩
    refine⟨_,rfl,F5,fun p hp=>⟨_,p,["list","tuple"],"int",rfl,qc,.int i,by simp,_,rfl,?_⟩⟩
    rw[show(["list","tuple"].any (zk "int"))=false from by decide]
    refine qW ⟨_,rfl,_,"str","int",rfl,.int i,by simp,_,rfl,?_⟩
    rw[show zk "int" "str"=false from by decide]
    refine qW ⟨_,rfl,rfl,_,rfl,?_⟩
    refine q9 (fun z=>nomatch (Jx z)) (fun _=>⟨_,rfl,_,"int","int",rfl,.int i,by simp,_,rfl,?_⟩)
    rw[show zk "int" "int"=true from by decide]
    refine zf ⟨_,rfl,_,"bool","int",rfl,.int i,by simp,_,rfl,?_⟩
    rw[show zk "int" "bool"=false from by decide]
    refine⟨_,rfl,zf ⟨_,rfl,_,rfl,rfl,?_⟩⟩
    rw[Jg rfl];exact q _ (Ge.upd hp)
   |str _ z=>
    refine⟨_,(qe (qG (zc (qm Zb T.b_isinstance Ju (qd (qv 1) (qd (qz (qd (qF (v:= .ty "list") rfl T.b_list D7 rfl) (qd (qF (v:= .ty "tuple") rfl T.b_tuple JG rfl) qb))) qb)))) Qq qy)
   (qe (qG (QW.pt (zF (zc (qm qI T.b_isinstance Ju (qd (qv 1) (qd (qF (v:= .ty "str") rfl T.b_str Fd rfl) qb)))) (zA (qx zP (qv 1) qM (qu _))))) (qf (qp (zj zt (qv 0) (qv 1) (qu _)))) qy)
   (qf (qp (zG (qm qI T.b_isinstance Ju (qd (qv 0) (qd (qF (v:= .ty "int") rfl T.b_int ER rfl) qb))) (zG (av (qm qI T.b_isinstance Ju (qd (qv 0) (qd (qF (v:= .ty "bool") rfl T.b_bool Fc rfl) qb)))) (QB (zj zt (qv 0) (qv 1) (qu _))))))))),?_⟩
    refine⟨_,rfl,F5,fun p hp=>⟨_,p,["list","tuple"],"str",rfl,qc,.str z,by simp,_,rfl,?_⟩⟩
    rw[show(["list","tuple"].any (zk "str"))=false from by decide]
    refine qW ⟨_,rfl,_,"str","str",rfl,.str z,by simp,_,rfl,?_⟩
    rw[show zk "str" "str"=true from by decide]
    refine zf (zf ⟨_,rfl,_,rfl,rfl,?_⟩)
    rw[Jg rfl];exact q _ (Ge.upd hp)
   |non _=>
    refine⟨_,(qe (qG (zc (qm Zb T.b_isinstance Ju (qd (qv 1) (qd (qz (qd (qF (v:= .ty "list") rfl T.b_list D7 rfl) (qd (qF (v:= .ty "tuple") rfl T.b_tuple JG rfl) qb))) qb)))) Qq qy)
   (qe (qG (QW.pt (zF (zc (qm qI T.b_isinstance Ju (qd (qv 1) (qd (qF (v:= .ty "str") rfl T.b_str Fd rfl) qb)))) (zA (qx zP (qv 1) qM (qu _))))) (qf (qp (zj zt (qv 0) (qv 1) (qu _)))) qy)
   (qf (qp (zG (qm qI T.b_isinstance Ju (qd (qv 0) (qd (qF (v:= .ty "int") rfl T.b_int ER rfl) qb))) (zG (av (qm qI T.b_isinstance Ju (qd (qv 0) (qd (qF (v:= .ty "bool") rfl T.b_bool Fc rfl) qb)))) (QB (zj zt (qv 0) (qv 1) (qu _))))))))),?_⟩
    refine⟨_,rfl,F5,fun p hp=>⟨_,p,["list","tuple"],"NoneType",rfl,qc,.non,by simp,_,rfl,?_⟩⟩
    rw[show(["list","tuple"].any (zk "NoneType"))=false from by decide]
    refine qW ⟨_,rfl,_,"str","NoneType",rfl,.non,by simp,_,rfl,?_⟩
    rw[show zk "NoneType" "str"=false from by decide]
    refine qW ⟨_,rfl,rfl,_,rfl,?_⟩
    refine q9 (fun _=>⟨_,rfl,_,rfl,rfl,?_⟩) (fun z=>absurd (Jg rfl) z)
    rw[Jg rfl];exact q _ (Ge.upd hp)
   | @tup _ c d xs ys h1 h2 hl hz hi=>
    refine⟨_,(qe (qG (zc (qm Zb T.b_isinstance Ju (qd (qv 1) (qd (qz (qd (qF (v:= .ty "list") rfl T.b_list D7 rfl) (qd (qF (v:= .ty "tuple") rfl T.b_tuple JG rfl) qb))) qb)))) (qe (qG (QW.pt (zF (qx ZJ (qm qI T.b_isinstance Ju (qd (qv 0) (qd (qF (v:= .ty "list") rfl T.b_list D7 rfl) qb))) (qm qI T.b_isinstance Ju (qd (qv 1) (qd (qF (v:= .ty "list") rfl T.b_list D7 rfl) qb))) (qu _)) (zA (qx ZJ (qm qI T.b_isinstance Ju (qd (qv 0) (qd (qF (v:= .ty "tuple") rfl T.b_tuple JG rfl) qb))) (qm qI T.b_isinstance Ju (qd (qv 1) (qd (qF (v:= .ty "tuple") rfl T.b_tuple JG rfl) qb))) (qu _))))) (qf (qp QM)) qy)
   (qe (qG (qx ZJ (qm qR T.b_len J1 (qd (qv 0) qb)) (qm qR T.b_len J1 (qd (qv 1) qb)) (qu _)) (qf (qp QM)) qy)
   (qf (qp (qm (aY rfl) T.b_all FS (qd (zT (own:=["_law_part","_law_more"]) (fr:=[]) (js:=[]) rfl (B8 rfl T.b_zip (qd (qv 0) (qd (qv 1) qb))) rfl (fun _ _ h=>nomatch h) rfl (cq rfl (by decide +kernel) (by decide +kernel) (by decide +kernel)) (fun _ _ _ _=>hJ (K:=K) rfl 2 rfl (qq (qh (i:=0) (show List.Nodup (["_law_part","_law_more"]:List Str)from by decide +kernel) rfl (Or.inl rfl) (.inr rfl)) (qq (qh (i:=1) (show List.Nodup (["_law_part","_law_more"]:List Str)from by decide +kernel) rfl (Or.inl rfl) (.inr rfl)) qO))) (fun _ _ _ _=>(qr dQ hr.mo (qd (qv 0) (qd (qv 1) qb))))) qb)))))) qy)
   (qe (qG (QW.pt (zF (zc (qm qI T.b_isinstance Ju (qd (qv 1) (qd (qF (v:= .ty "str") rfl T.b_str Fd rfl) qb)))) (zA (qx zP (qv 1) qM (qu _))))) (qf (qp (zj zt (qv 0) (qv 1) (qu _)))) qy)
   (qf (qp (zG (qm qI T.b_isinstance Ju (qd (qv 0) (qd (qF (v:= .ty "int") rfl T.b_int ER rfl) qb))) (zG (av (qm qI T.b_isinstance Ju (qd (qv 0) (qd (qF (v:= .ty "bool") rfl T.b_bool Fc rfl) qb)))) (QB (zj zt (qv 0) (qv 1) (qu _))))))))),?_⟩
    refine⟨_,rfl,F5,fun p hp=>⟨_,p,["list","tuple"],"tuple",rfl,qc,.tup (Rd.same (Ge.upd hp) h2),by simp,_,rfl,?_⟩⟩
    rw[show(["list","tuple"].any (zk "tuple"))=true from by decide]
    have s1:Ge H _:=Ge.upd (o:= .tup (["list","tuple"].map V.ty)) hp
    have k1:=Rd.same s1 h1;have k2:=Rd.same s1 h2;refine zf ⟨_,rfl,_,"list","tuple",rfl,.tup k1,by simp,_,rfl,_,"list","tuple",rfl,.tup k2,by simp,rfl,_,rfl,?_⟩
    refine Z6 rfl ⟨_,rfl,_,"tuple","tuple",rfl,.tup k1,by simp,_,rfl,_,"tuple","tuple",rfl,.tup k2,by simp,rfl,_,rfl,?_⟩
    refine Z6 rfl ?_
    refine⟨_,rfl,c,_,rfl,.inr (.inl k1),_,rfl,d,_,rfl,.inr (.inl k2),rfl,_,rfl,?_⟩
    refine Z6 (by rw[hl]) ?_
    refine⟨_,rfl,_,rfl,c,d,xs,ys,rfl,k1,k2,wv hl hz (fun i zs H2=>zs=(List.replicate i true).map V.bl/\Ge H H2) ⟨rfl,s1⟩ (fun i zs H2 ⟨_,s2⟩=>⟨Rd.same s2 h1,Rd.same s2 h2⟩) ?_ ?_⟩
    ·rintro i zs H2 pp x y hx hy hzl ⟨rfl,s2⟩ hpp
     have s3:=s2.trans (Ge.upd (o:= .tup [x,y]) hpp)
     refine⟨_,rfl,_,rfl,x,y,rfl,(hi i x y hx hy).same s3,fun H4 s4=>⟨?_,s3.trans s4⟩⟩
     rw[List.replicate_succ',JN];rfl
    ·rintro zs H2 hzl ⟨rfl,s2⟩ p2 hp2
     refine⟨p2,_,rfl,Gq.of qc,?_⟩
     rw[show(List.replicate xs.length true).all id=true from by simp]
     exact q _ (s2.trans (Ge.upd hp2))
   | @lst _ c d xs ys h1 h2 hl hz hi=>
    refine⟨_,(qe (qG (zc (qm Zb T.b_isinstance Ju (qd (qv 1) (qd (qz (qd (qF (v:= .ty "list") rfl T.b_list D7 rfl) (qd (qF (v:= .ty "tuple") rfl T.b_tuple JG rfl) qb))) qb)))) (qe (qG (QW.pt (zF (qx ZJ (qm qI T.b_isinstance Ju (qd (qv 0) (qd (qF (v:= .ty "list") rfl T.b_list D7 rfl) qb))) (qm qI T.b_isinstance Ju (qd (qv 1) (qd (qF (v:= .ty "list") rfl T.b_list D7 rfl) qb))) (qu _)) (zA (qx ZJ (qm qI T.b_isinstance Ju (qd (qv 0) (qd (qF (v:= .ty "tuple") rfl T.b_tuple JG rfl) qb))) (qm qI T.b_isinstance Ju (qd (qv 1) (qd (qF (v:= .ty "tuple") rfl T.b_tuple JG rfl) qb))) (qu _))))) (qf (qp QM)) qy)
   (qe (qG (qx ZJ (qm qR T.b_len J1 (qd (qv 0) qb)) (qm qR T.b_len J1 (qd (qv 1) qb)) (qu _)) (qf (qp QM)) qy)
   (qf (qp (qm (aY rfl) T.b_all FS (qd (zT (own:=["_law_part","_law_more"]) (fr:=[]) (js:=[]) rfl (Ay rfl T.b_zip (qd (qv 0) (qd (qv 1) qb))) rfl (fun _ _ h=>nomatch h) rfl (cq rfl (by decide +kernel) (by decide +kernel) (by decide +kernel)) (fun _ _ _ _=>hJ (K:=K) rfl 2 rfl (qq (qh (i:=0) (show List.Nodup (["_law_part","_law_more"]:List Str)from by decide +kernel) rfl (Or.inl rfl) (.inr rfl)) (qq (qh (i:=1) (show List.Nodup (["_law_part","_law_more"]:List Str)from by decide +kernel) rfl (Or.inl rfl) (.inr rfl)) qO))) (fun _ _ _ _=>(qr dQ hr.mo (qd (qv 0) (qd (qv 1) qb))))) qb)))))) qy)
   (qe (qG (QW.pt (zF (zc (qm qI T.b_isinstance Ju (qd (qv 1) (qd (qF (v:= .ty "str") rfl T.b_str Fd rfl) qb)))) (zA (qx zP (qv 1) qM (qu _))))) (qf (qp (zj zt (qv 0) (qv 1) (qu _)))) qy)
   (qf (qp (zG (qm qI T.b_isinstance Ju (qd (qv 0) (qd (qF (v:= .ty "int") rfl T.b_int ER rfl) qb))) (zG (av (qm qI T.b_isinstance Ju (qd (qv 0) (qd (qF (v:= .ty "bool") rfl T.b_bool Fc rfl) qb)))) (QB (zj zt (qv 0) (qv 1) (qu _))))))))),?_⟩
    refine⟨_,rfl,F5,fun p hp=>⟨_,p,["list","tuple"],"list",rfl,qc,.lst (Ge.upd hp _ _ h2),by simp,_,rfl,?_⟩⟩
    rw[show(["list","tuple"].any (zk "list"))=true from by decide]
    have s1:Ge H _:=Ge.upd (o:= .tup (["list","tuple"].map V.ty)) hp
    have k1:=s1 _ _ h1;have k2:=s1 _ _ h2;refine zf ⟨_,rfl,_,"list","list",rfl,.lst k1,by simp,_,rfl,_,"list","list",rfl,.lst k2,by simp,rfl,_,rfl,?_⟩
    refine Z6 rfl ⟨_,rfl,_,"tuple","list",rfl,.lst k1,by simp,_,rfl,_,"tuple","list",rfl,.lst k2,by simp,rfl,_,rfl,?_⟩
    refine Z6 rfl ?_
    refine⟨_,rfl,c,_,rfl,.inl (Gq.of k1),_,rfl,d,_,rfl,.inl (Gq.of k2),rfl,_,rfl,?_⟩
    refine Z6 (by rw[hl]) ?_
    refine⟨_,rfl,_,rfl,c,d,xs,ys,rfl,.inl k1,.inl k2,rN hl hz (fun i zs H2=>zs=(List.replicate i true).map V.bl/\Ge H H2) ⟨rfl,s1⟩ (fun i zs H2 ⟨_,s2⟩=>⟨.inl (s2 _ _ h1),.inl (s2 _ _ h2)⟩) ?_ ?_⟩
    ·rintro i zs H2 pp x y hx hy hzl ⟨rfl,s2⟩ hpp
     have s3:=s2.trans (Ge.upd (o:= .tup [x,y]) hpp)
     refine⟨_,rfl,_,rfl,x,y,rfl,(hi i x y hx hy).same s3,fun H4 s4=>⟨?_,s3.trans s4⟩⟩
     rw[List.replicate_succ',JN];rfl
    ·rintro zs H2 hzl ⟨rfl,s2⟩ p2 hp2
     refine⟨p2,_,rfl,Gq.of qc,?_⟩
     rw[show(List.replicate xs.length true).all id=true from by simp]
     exact q _ (s2.trans (Ge.upd hp2))
end
end Lw
namespace L3
open PySem PySem.Spec PyProof.Rows L2
open PySem.W (kdl_dict kdl_call)
section
variable{X:Cx}
theorem jk:∀{us:List Value} {ss:List Str},Gk (ss.map V.str) us->StrsAre us ss
 | [],[],_=> .nil
 | [],_::_,h=>by cases h
 |_::_,[],h=>by cases h
 |u::us,x::ss,h=>by
  cases h with
  |cons r t=>obtain⟨t',rfl⟩:=r;exact .cons _ _ (jk t)
theorem lv:qY X (.builtin "sorted") (fun xs H Q=>∃(p:Addr) (ss:List Str),xs=[.ref p]/\H p=some (.lst (ss.map V.str))/\ss.length<64/\
  ∀l ss',H l=none->ss'.Perm ss->sortedS ss'=true->Q (.ref l) (Gh H l (.lst (ss'.map V.str)))):=by
 intro tx s σ H xs us Q I r h;obtain⟨p,ss,rfl,hp,h64,q⟩:=h;obtain⟨u,rfl,ru⟩:=zL r;cases ru;obtain⟨its,r1,p1,_⟩:=I.list (Gq.of hp)
 have hl:=r1.length;rw[Je]at hl;refine sorted_strs p1.isList (jk r1) (by lia) fun out ss' a1 a2 a3=>?_
 obtain⟨e,he⟩:=sortedAll_at s.heap its out;refine⟨.ref (s.heap.objs.size+1),_,I.laid (t':=s.toks) (o:= .lst (ss'.map V.str)) (fun b o q=>sortedAll_old q) (Eo _) ?_,rfl,q _ ss' (I.hok.fresh (Eo _)) a2 a3⟩
 have hm:ss'.length=ss.length:=a2.length_eq
 exact⟨by rw[Je,JA];lia,out.toList,e,aV a1,he⟩
end
end L3
namespace Lw
open PySem L2 L3
section
variable{P:Program}{w:World}{K:Frag}{mg:Gc}{base:Heap}{tk:Nat->Tok}
theorem pE(a:At K mg "_law_one" eu ["_law_owns","_law_drawn_here"])(T:GJ K mg tk)(dZ:Df P w K mg base "_law_word" ["_law_own","_law_plain"] 1 gH)(xR:Df P w K mg base "_law_window" ["_law_base"] 1 i7):Df P w K mg base "_law_one" ["_law_owns","_law_drawn_here"] 2 uj:=by
 refine a.dq GU fun f _ A _ s H vs Q E hr h=>?_
 ·obtain⟨ol,m1,kd1,m2,kd2,dr,nl,D,D',nms,many,ba,rfl,hol,md,md',hdr,hnl,l64,m8,b0,b1,q⟩:=h
  refine⟨_,(qe (zh JM rfl (Qd (qm lv T.b_sorted PyProof.Rows.boot_sorted (qd (qE qP (qv 1) qg) qb))) (qh (i:=2) GU.nd rfl (Or.inl rfl))
   (qf (zh JM rfl (zN rfl T.b_range (qd (qE qP (qv 1) qg) qb)) (qh (i:=3) GU.nd rfl (Or.inl rfl))
   (qf (zh JM rfl (Qd (qr xR hr.mo (qd (qE qP (qv 1) qg) qb))) (qh (i:=4) GU.nd rfl (Or.inl rfl))
   (qe (qA (i:=5) GU.nd rfl (Or.inr rfl) (qz (qd (qv 2) (qd (qv 3) (qd (qv 4) qb)))))
   (qe (hV (i:=6) GU.nd rfl (Or.inl rfl) (own:=["_law_own"]) (fr:=["_law_plain"]) (js:=[5]) rfl (Qd (qv 0)) rfl (lN rfl) rfl (jZ rfl (by decide +kernel) (by decide +kernel) (by decide +kernel) rfl rfl rfl) (fun _ _ _ _=>qh (i:=0) (show List.Nodup (["_law_own","_law_plain"]:List Str)from by decide +kernel) rfl (Or.inl rfl) (.inr rfl)) (fun _ _ _ _=>(qr dZ hr.mo (qd (qv 0) (qd (qv 1) qb)))))
   (qf (qG (qx zt (ZM Ei PySem.F.slot_list_count PySem.F.type_list_count uJ (qv 6) (qd qB qb)) qg (qu _)) (qf (qp (qz (qd (qv 5) qb)))) qy)))))))))
   (qf (qp qM))),?_⟩
  refine⟨_,rfl,dr,_,_,_,rfl,rfl,Gu.of hdr,rfl,nl,nms,rfl,hnl,l64,fun l5 ms hl5 pm so=>⟨l5,rfl,⟨_,Gq.of qc⟩,?_⟩⟩
  have u5:=Ge.upd (o:= .lst (ms.map V.str)) hl5
  have q:∀u H',Ge H H'->Iz H' u (ms.findSome? (aO D D' many ba (Qn ba)))->Q u H':=fun u H' s t=>q u ms H' s pm so t
  have lm:ms.length<64:=by rw[pm.length_eq];exact l64
  have wn:Qn ba<=41:=by unfold Qn;split<;>lia
  refine Qj (K:=K) (a:=l5) (xs:=ms.map V.str) (fun i σ Hx=>Ge H Hx/\Hx l5=some (.lst (ms.map V.str))/\(∀j z,j<i->ms[j]? =some z->aO D D' many ba (Qn ba) z=none)/\∃o2 o3 o4 o5 o6,σ=[some (.ref ol),some (.ref dr),o2,o3,o4,o5,o6]) ⟨u5,qc,fun j z hj _=>absurd hj (Nat.not_lt_zero _),_,_,_,_,_,rfl⟩ (fun i σ Hx _ h=>Gq.of h.2.1) ?_ ?_
  ·rintro i z σ H6 hz ⟨s6,e6,no,o2,o3,o4,o5,o6,rfl⟩
   rw[Jo]at hz;obtain⟨nm,hnm,rfl⟩:=DZ.mp hz;refine⟨_,rfl,dr,_,_,_,rfl,rfl,Gu.of (s6 _ _ hdr),rfl,_,rfl,by lia,by lia,?_⟩
   rw[Ee];refine Qo (n:=many) (Pv:=fun k σ Hx=>Ge H Hx/\Hx l5=some (.lst (ms.map V.str))/\(∀x:Int,0<=x->x<0+(k:Int)->nM D D' ba (Qn ba) nm x=none)/\∃o3 o4 o5 o6,σ=[some (.ref ol),some (.ref dr),some (.str nm),o3,o4,o5,o6]) ⟨s6,e6,fun x h1 h2=>by lia,_,_,_,_,rfl⟩ ?_ ?_
   ·rintro k σ H7 hk ⟨s7,e7,no7,o3,o4,o5,o6,rfl⟩
    obtain⟨Ag,eA⟩:∃Ag:Int,Ag=0+(k:Int):=⟨_,rfl⟩
    rw[<- eA]at no7⊢;refine⟨_,rfl,dr,_,_,_,rfl,rfl,Gu.of (s7 _ _ hdr),rfl,ba,rfl,b0,b1,fun wl H8 s8 e8=>⟨wl,rfl,⟨_,Gq.of e8⟩,?_⟩⟩
    have e8:H8 wl=some (.lst (az ba (Qn ba))):=e8
    refine Qj (K:=K) (a:=wl) (xs:=az ba (Qn ba)) (fun c σ Hx=>Ge H8 Hx/\(∀x:Int,ba<=x->x<ba+(c:Int)->am D nm Ag x=am D' nm Ag x)/\∃o4 o5 o6,σ=[some (.ref ol),some (.ref dr),some (.str nm),some (.int Ag),o4,o5,o6]) ⟨Ge.refl _,fun x h1 h2=>by lia,_,_,_,rfl⟩ (fun c σ Hx _ h=>Gq.of (h.1 _ _ e8)) ?_ ?_
    ·rintro c z σ H9 hc ⟨s9,no9,o4,o5,o6,rfl⟩
     obtain⟨rfl,hcn⟩:=AM hc;obtain⟨X,eX⟩:∃X:Int,X=ba+(c:Int):=⟨_,rfl⟩
     rw[<- eX]at no9⊢;have S9:=(s7.trans s8).trans s9;refine⟨_,rfl,_,rfl,_,rfl,F6,fun pp hpp=>?_⟩
     have up:=Ge.upd (o:= .tup [.str nm,.int Ag,.int X]) hpp
     have epp:(Gh H9 pp (.tup [.str nm,.int Ag,.int X])) pp=some (.tup [.str nm,.int Ag,.int X]):=qc
     have Sa:=S9.trans up;refine⟨_,rfl,ol,rfl,⟨_,Gq.of (Sa _ _ hol)⟩,?_⟩
     generalize Gh H9 pp (.tup [.str nm,.int Ag,.int X])=Ha at *
     refine aX (K:=K) (a:=ol) (xs:=[.ref m1,.ref m2]) (F5) (fun i ys Hx=>Ge Ha Hx/\ys=([qS D nm Ag X,qS D' nm Ag X].take i).map V.str) ⟨Ge.refl _,rfl⟩ (fun i ys Hx h=>Gq.of (h.1 _ _ (Sa _ _ hol))) ?_ ?_
     ·rintro j ys Hb x hx hyl ⟨sb,rfl⟩
      have Sb:=Sa.trans sb
      match j,hx with
      |0,hx=>
       cases hx
       exact⟨_,rfl,_,rfl,m1,kd1,pp,D,nm,Ag,X,rfl,md.same Sb,sb _ _ epp,fun Hc sc=>⟨sb.trans sc,rfl⟩⟩
      |1,hx=>
       cases hx
       exact⟨_,rfl,_,rfl,m2,kd2,pp,D',nm,Ag,X,rfl,md'.same Sb,sb _ _ epp,fun Hc sc=>⟨sb.trans sc,rfl⟩⟩
     ·rintro ys Hb hyl ⟨sb,rfl⟩ wl2 hwl2
      have uw:=Ge.upd (o:= .lst (([qS D nm Ag X,qS D' nm Ag X].take 2).map V.str)) hwl2
      refine⟨_,rfl,.inl ⟨rfl,_,Gq.of qc⟩,wl2,[qS D nm Ag X,qS D' nm Ag X],"open",rfl,rfl,qc,rfl,_,rfl,?_⟩
      have cnt:([qS D nm Ag X,qS D' nm Ag X].count ("open":Str)=1)↔¬(am D nm Ag X=am D' nm Ag X):=by
       unfold am;rw[List.count_cons,List.count_cons,List.count_nil]
       by_cases z1:qS D nm Ag X="open"<;>by_cases z2:qS D' nm Ag X="open"<;>simp [z1,z2]
      refine q9 (fun y=>?_) (fun y=>?_)
      ·have hne:¬(am D nm Ag X=am D' nm Ag X):=cnt.mp (by have:=Jx y;injection this with this;lia)
       refine⟨_,rfl,F4,fun r hr9=>?_⟩
       have ur:=Ge.upd (o:= .tup [.ref pp]) hr9
       have e1:nM D D' ba (Qn ba) nm Ag=some [(nm,Ag,X)]:=by
        unfold nM;exact bL hcn (by rw[<- eX];exact Jd hne) fun x x0 x1=>Jc (no9 x x0 (by lia))
       have e2:aO D D' many ba (Qn ba) nm=some [(nm,Ag,X)]:=by
        unfold aO;exact bL hk (by rw[<- eA];exact e1) fun x x0 x1=>no7 x x0 (by lia)
       have:=q (.ref r) _ (((Sa.trans sb).trans uw).trans ur)
       rw[eW (f:=aO D D' many ba (Qn ba)) hnm e2 no]at this
       exact this (Iz.one (z:=(nm,Ag,X)) qc (ur _ _ (uw _ _ (sb _ _ epp))))
      ·have heq:am D nm Ag X=am D' nm Ag X:=Decidable.not_not.mp fun z=>y (Jg (by rw[cnt.mpr z];rfl))
       refine⟨((s9.trans up).trans sb).trans uw,fun x x0 x1=>?_,_,_,_,rfl⟩
       by_cases hx:x<X
       ·exact no9 x x0 hx
       ·obtain rfl:x=X:=by lia
        exact heq
    ·rintro σ H9 ⟨s9,no9,o4,o5,o6,rfl⟩
     refine⟨(s7.trans s8).trans s9,s9 _ _ (s8 _ _ e7),fun x x0 x1=>?_,_,_,_,_,rfl⟩
     by_cases hx:x<Ag
     ·exact no7 x x0 hx
     ·obtain rfl:x=Ag:=by lia
      unfold nM;exact QL fun y y0 y1=>Jc (no9 y y0 (by rw[vi];exact y1))
   ·rintro σ H7 ⟨s7,e7,no7,o3,o4,o5,o6,rfl⟩
    refine⟨s7,e7,fun j z hj hz2=>?_,_,_,_,_,_,rfl⟩
    by_cases hji:j<i
    ·exact no j z hji hz2
    ·obtain rfl:j=i:=by lia
     have ez:z=nm:=Jy (hz2.symm.trans hnm)
     rw[ez];unfold aO;exact QL no7
  ·rintro σ H6 ⟨s6,e6,no,o2,o3,o4,o5,o6,rfl⟩
   have e1:ms.findSome? (aO D D' many ba (Qn ba))=none:=ab fun x hx=>by
    obtain⟨j,hj,rfl⟩:=List.mem_iff_getElem.mp hx;exact no j _ (by rw[Je];exact hj) (Jj hj)
   have:=q .non _ s6
   rw[e1]at this;exact this rfl
end
end Lw
namespace L3
open PySem PySem.Spec PyProof.Rows L2
theorem BR{α:Type}{xs:List α}(h:xs.length=2):∃x y,xs=[x,y]:=by
 cases xs with
 |nil=>cases h
 |cons x r=>cases r with
  |nil=>cases h
  |cons y r=>cases r with
   |nil=>exact⟨x,y,rfl⟩
   |cons z r=>cases h
end L3
namespace Lw
open PySem L2 L3
section
variable{P:Program}{w:World}{K:Frag}{mg:Gc}{base:Heap}{tk:Nat->Tok}{C:Addr}
theorem BB{f:Addr}{fd:FuncData}(F:IM K "law" "law" Z3 f fd)(T:GJ K mg tk)(U:HG K C)(dC:Mf P w K mg base C "known_now" ["self"] 1 (fF K C))(dI:Mf P w K mg base C "log_now" ["self"] 1 (t7 K C))(xC:Mf P w K mg base C "twin_door" ["self"] 3 (nR K C))(yA:Df P w K mg base "_law_box" ["_law_script","_law_k"] 1 (tO K))(xU:Df P w K mg base "_law_drawn" ["_law_box_here"] 2 lT)(x6:Df P w K mg base "_law_pair" ["_law_box_here","_law_drawn_here"] 9 (nN K C))(x9:Df P w K mg base "_law_one" ["_law_owns","_law_drawn_here"] 2 uj)(dL:Df P w K mg base "telling" ["one","other"] 6 (kj K C))(yI:Df P w K mg base "agree" ["one","other"] 7 (mY K C))(yM:∀n:Nat,n<=8->Df P w K mg base "_law_alike" ["_law_found","_law_due"] (n+1) (Ce n)):HS P w K mg base aJ 10 f fd ["_law_script"] (jH K):=by
 have dQ:=yM 2 (by decide)
 refine F.dq GV (fun vs H Q E h=>?_) (fun cdv A outer s H vs Q E hr h=>?_)
 ·obtain⟨x,ns,rfl,_⟩:=h
  rfl
 ·obtain⟨sc,ns,rfl,hS,hlen,q⟩:=h
  refine⟨_,(qe (zh JM rfl (zN rfl T.b_range (qd (qw qJ qg (qm qR T.b_len J1 (qd (ZB mV (qv 0) Z8 (ae qg)) qb))) qb)) (qh (i:=1) GV.nd rfl (Or.inl rfl))
   (qe (qA (i:=2) GV.nd rfl (Or.inl rfl) (qr yA hr.mo (qd (qv 0) (qd (qv 1) qb))))
   (qe (qA (i:=3) GV.nd rfl (Or.inl rfl) (qr xU hr.mo (qd (qv 2) qb)))
   (qe (zb (qr x6 hr.mo (qd (qv 2) (qd (qv 3) qb))) (zi rfl (qq (qh (i:=4) GV.nd rfl (Or.inl rfl)) (qq (qh (i:=5) GV.nd rfl (Or.inl rfl)) qO))))
   (qe (zb (qv 5) (zi rfl (qq (zi rfl (qq (qh (i:=6) GV.nd rfl (Or.inl rfl)) (qq (qh (i:=7) GV.nd rfl (Or.inl rfl)) qO))) (qq (zi rfl (qq (qh (i:=8) GV.nd rfl (Or.inl rfl)) (qq (qh (i:=9) GV.nd rfl (Or.inl rfl)) qO))) qO))))
   (qe (qA (i:=10) GV.nd rfl (Or.inl rfl) (qz (qd (zm dC U.cl hr.mo (qv 6)) (qd (zm dI U.cl hr.mo (qv 6)) (qd (zm dC U.cl hr.mo (qv 8)) (qd (zm dI U.cl hr.mo (qv 8)) qb))))))
   (qe (qA (i:=11) GV.nd rfl (Or.inl rfl) (qr x9 hr.mo (qd (zz (qd (qv 7) (qd (qv 9) qb))) (qd (qv 3) qb))))
   (qe (qA (i:=12) GV.nd rfl (Or.inl rfl) (qr dL hr.mo (qd (qv 6) (qd (qv 8) qb))))
   (qe (qG (QW.pt (cV (qx zP (qv 11) qM (qu _)) (cV (qx Zg (qv 12) qM (qu _)) (eC (QW.pt (zF (Qh (zc (qm tJ T.b_isinstance Ju (qd (qv 12) (qd (qF (v:= .ty "tuple") rfl T.b_tuple JG rfl) qb))))) (zA (qx ZJ (qm qR T.b_len J1 (qd (qv 12) qb)) qg (qu _))))))))) (qf (qp QM)) qy)
   (qe (qG (QW.pt (cV (qx Zg (qv 11) qM (qu _)) (eC (QW.pt (zF (Qh (zc (qr dQ hr.mo (qd (qv 12) (qd (qv 11) qb))))) (zA (qx mK (qr yI hr.mo (qd (qv 6) (qd (qv 8) qb))) QM (qu _)))))))) (qf (qp QM)) qy)
   (qe (qG (QW.pt (zF (qx (lB hr) (qr dL hr.mo (qd (qv 8) (qd (qv 6) qb))) (qv 12) (qu _)) (zF (qx (lB hr) (qr dL hr.mo (qd (qv 6) (qd (qv 8) qb))) (qv 12) (qu _)) (zA (qx Zg (qr dL hr.mo (qd (qv 6) (qd (zm xC U.cl hr.mo (qv 6)) qb))) qM (qu _)))))) (qf (qp QM)) qy)
   (qf (qG (qx (lB hr) (qz (qd (zm dC U.cl hr.mo (qv 6)) (qd (zm dI U.cl hr.mo (qv 6)) (qd (zm dC U.cl hr.mo (qv 8)) (qd (zm dI U.cl hr.mo (qv 8)) qb))))) (qv 10) (qu _)) (qf (qp QM)) qy)))))))))))))
   (qf (qp QM))),?_⟩
  refine⟨_,rfl,_,rfl,sc,_,rfl,hS,fun l0 hl0=>⟨l0,_,rfl,.inl (Gq.of qc),_,_,rfl,rfl,_,rfl,?_,?_,?_⟩⟩
  ·omega
  ·rw[bP,Je]
   have:(aI ns none (some 3)).length<=ns.length:=by unfold aI;rw[Eu,FI];omega
   omega
  have u0:=Ge.upd (o:= .lst (ZF (ns.map V.int) none (some 3))) hl0
  have hS0:=u0.seq hS;generalize Gh H l0 (.lst (ZF (ns.map V.int) none (some 3)))=Ha at *
  refine Qo (Pv:=fun k σ Hx=>Ge Ha Hx/\∃(o1 o2 o3 o4 o5 o6 o7 o8 o9 oa ob oc:Option V),σ=[some (.ref sc),o1,o2,o3,o4,o5,o6,o7,o8,o9,oa,ob,oc]) ⟨Ge.refl _,none,none,none,none,none,none,none,none,none,none,none,none,rfl⟩ ?_ ?_
  ·rintro k σ H1 hk ⟨s1,o1,o2,o3,o4,o5,o6,o7,o8,o9,oa,ob,oc,rfl⟩
   refine⟨_,rfl,_,rfl,sc,ns,k,by simp,s1.seq hS0,fun b H2 fb s2 bx2=>?_⟩
   refine⟨_,rfl,b,0,rfl,bx2,by decide,fun dr nl nms many ba H3 g3 edr enl fnl ok _=>?_⟩
   have nlb:nl≠b:=fun z=>by obtain⟨_,_,_,e,_⟩:=bx2;rw[z,e]at fnl;cases fnl
   have drb:dr≠b:=fun z=>by obtain⟨_,_,_,e,_⟩:=g3.bx;rw[z,e]at edr;cases edr
   refine⟨_,rfl,_,rfl,b,dr,nl,_,nms,many,ba,rfl,g3.bx,by decide,edr,enl,nlb,ok,fun qt cd tb kt pl t kss xs H4 pw lx eqt hC hkm hxs=>⟨qt,_,rfl,.tup eqt,rfl,_,_,rfl,_,_,rfl,rfl,?_⟩⟩
   subst hkm;obtain⟨x0,x1,rfl⟩:=BR lx;have en0:=pw.en 0 x0 rfl;have en1:=pw.en 1 x1 rfl;have dq0:=(hxs 0 x0 rfl).1;have dq1:=(hxs 1 x1 rfl).1;have lL0:=(hxs 0 x0 rfl).2;have lL1:=(hxs 1 x1 rfl).2;have l9:=ok.l9;have td0:=dq0.dp.td (JK dq0.few (by omega))
   have td1:=dq1.dp.td (JK dq1.few (by omega))
   have edr4:=pw.s _ _ (qX drb) edr;have enl4:=pw.s _ _ (qX nlb) enl;have base4:∀c o,Ha c=some o->H4 c=some o:=fun c o e=>by
    have nb:c≠b:=fun z=>by rw[z]at e;rw[s1 _ _ e]at fb;cases fb
    exact pw.s c o (qX nb) (g3.kp c o nb (s2 _ _ (s1 _ _ e)))
   refine⟨_,rfl,pl,_,rfl,.lst pw.pe,rfl,_,_,rfl,?_⟩
   refine⟨x0.1.e,_,rfl,.tup en0.tu,rfl,_,_,rfl,_,_,rfl,rfl,?_⟩
   refine⟨_,_,rfl,x1.1.e,_,rfl,.tup en1.tu,rfl,_,_,rfl,_,_,rfl,rfl,rfl,?_⟩
   clear hxs lx hC eqt pw hS hS0 u0 hl0 s1 s2 g3 fb bx2;refine⟨_,rfl,x0.1.a.p,rfl,en0.dl.dr.no,x0.1.a.p,x0.1.a.ta,x0.1.a.hk,x0.1.a.bd,x0.1.a.lg,x0.2.2.length,x0.2.1,rfl,en0.dl.dr,dq0.dp.ok,fun k1 ss1 H6 s6 pm1 so1 sh1=>?_⟩
   have en0a:=en0.same s6;refine⟨_,rfl,x0.1.a.p,rfl,en0a.dl.dr.no,x0.1.a,x0.2.1,x0.2.2,rfl,en0a.dl,fun t1 H7 s7 lt1=>?_⟩
   have en1a:=(en1.same s6).same s7;refine⟨_,rfl,x1.1.a.p,rfl,en1a.dl.dr.no,x1.1.a.p,x1.1.a.ta,x1.1.a.hk,x1.1.a.bd,x1.1.a.lg,x1.2.2.length,x1.2.1,rfl,en1a.dl.dr,dq1.dp.ok,fun k2 ss2 H8 s8 pm2 so2 sh2=>?_⟩
   have en1b:=en1a.same s8;refine⟨_,rfl,x1.1.a.p,rfl,en1b.dl.dr.no,x1.1.a,x1.2.1,x1.2.2,rfl,en1b.dl,fun t2 H9a s9a lt2=>⟨F7,fun hd hhd=>?_⟩⟩
   have uh:=Ge.upd (o:= .tup [.ref k1,.ref t1,.ref k2,.ref t2]) hhd
   have Sh:=(((s6.trans s7).trans s8).trans s9a).trans uh;have en0h:=en0.same Sh;have en1h:=en1.same Sh;have sh1h:=sh1.same (((s7.trans s8).trans s9a).trans uh);have lt1h:=lt1.same ((s8.trans s9a).trans uh);have sh2h:=sh2.same (s9a.trans uh);have lt2h:=lt2.same uh;have ehd:(Gh H9a hd (.tup [.ref k1,.ref t1,.ref k2,.ref t2])) hd=some (.tup [.ref k1,.ref t1,.ref k2,.ref t2]):=qc
   have baseh:∀c o,Ha c=some o->(Gh H9a hd (.tup [.ref k1,.ref t1,.ref k2,.ref t2])) c=some o:=fun c o e=>Sh _ _ (base4 c o e)
   have edrh:=Sh _ _ edr4;have enlh:=Sh _ _ enl4;generalize Gh H9a hd (.tup [.ref k1,.ref t1,.ref k2,.ref t2])=Hh at *
   clear Sh uh sh1 lt1 sh2 lt2 en1b en1a en0a s6 s7 s8 s9a en0 en1 base4 edr4 enl4 edr enl hhd;refine⟨_,rfl,_,rfl,F5,fun ol hol=>?_⟩
   have uo:=Ge.upd (o:= .lst [.ref x0.1.m,.ref x1.1.m]) hol
   refine⟨_,rfl,ol,x0.1.m,x0.1.kd,x1.1.m,x1.1.kd,dr,nl,x0.2.1,x1.2.1,nms,kss.length,ba,rfl,qc,(en0h.same uo).md,(en1h.same uo).md,uo _ _ edrh,uo _ _ enlh,by omega,ok.m8,ok.b0,ok.b1,fun u ms Hd sd pm so tl=>?_⟩
   have Sd:=uo.trans sd;have en0d:=en0h.same Sd;have en1d:=en1h.same Sd;refine⟨_,rfl,_,rfl,x0.1.a.p,x0.1.a.ta,x0.1.a.hk,x0.1.a.bd,x0.1.a.lg,_,x0.2.1,x1.1.a.p,x1.1.a.ta,x1.1.a.hk,x1.1.a.bd,x1.1.a.lg,_,x1.2.1,rfl,en0d.dl.dr,en1d.dl.dr,td0,td1,fun v ns He se nd mem sn tv=>?_⟩
   have eF:ms.findSome? (aO x0.2.1 x1.2.1 kss.length ba (Qn ba))=ns.findSome? (zS x0.2.1 x1.2.1):=by
    rw[fR fun nm _=>wB dq0.dp dq1.dp ok.b0 ok.b1 nm]
    exact(uN nd sn mem (pm.nodup_iff.mpr ok.nd) so (fun z hz=>pm.mem_iff.mpr (dq0.sub z hz)) (fun z hz=>pm.mem_iff.mpr (dq1.sub z hz))).symm
   rw[eF]at tl;have tl:=tl.same se;have Se:=Sd.trans se;have uq:∀{ns2:List Str},ns2.Nodup->PyProof.Rows.sortedS ns2=true->(∀k,k∈ns2↔k∈x0.2.1.kn.map (·.1)\/k∈x1.2.1.kn.map (·.1))->ns2=ns:=fun n2 s2 m2=>p6 n2 nd s2 sn fun k=>(m2 k).trans (mem k).symm
   have hkk:x1.2.1.kss.length=x0.2.1.kss.length:=by rw[dq0.dp.ks,dq1.dp.ks]
   have e0:=en0h.same Se;have e1:=en1h.same Se;refine fU (fun σ' H'=>Ge He H'/\σ'=[some (.ref sc),some (.int (0+(k:Int))),some (.ref b),some (.ref dr),some (.ref cd),some (.ref pl),some (.ref x0.1.a.p),some (.ref x0.1.m),some (.ref x1.1.a.p),some (.ref x1.1.m),some (.ref hd),some u,some v]) (fun D0 hrt hnx=>?_) ?_
   ·cases ef:ns.findSome? (zS x0.2.1 x1.2.1)with
    |some r=>
     rw[ef]at tl;obtain⟨t,as,rfl,_⟩:=tl
     exact⟨_,rfl,rfl,_,rfl,zW rfl (qW (hnx _ _ ⟨Ge.refl _,rfl⟩))⟩
    |none=>
     rw[ef]at tl;have tl:u= .non:=tl
     subst tl;refine⟨_,rfl,rfl,_,rfl,zR (Jg rfl) ?_⟩
     cases et:zO x0.2.1 x1.2.1 ns with
     |none=>
      rw[et]at tv;have tv:v= .non:=tv
      subst tv
      exact⟨_,rfl,rfl,_,rfl,zW rfl (qW (hnx _ _ ⟨Ge.refl _,rfl⟩))⟩
     |some r=>
      have hr2:=vp ef et;rw[et]at tv;obtain⟨t,as,rfl,ht,la,_⟩:=tv;refine⟨_,rfl,rfl,_,rfl,zR rfl ?_⟩
      refine⟨_,rfl,t,"tuple",_,rfl,Gu.of ht,by simp [cZ],_,rfl,qW ?_⟩
      refine⟨_,rfl,t,_,rfl,.inr (Gu.of ht),rfl,_,rfl,zW ?_ (hnx _ _ ⟨Ge.refl _,rfl⟩)⟩
      rw[Je,la,hr2];rfl
   rintro σ Hf ⟨sf,rfl⟩
   have Sf:=Se.trans sf;have tl:=tl.same sf;have tv:=tv.same sf;have e0:=e0.same sf;have e1:=e1.same sf;refine ZD (fun σ' H'=>Ge Hf H'/\σ'=[some (.ref sc),some (.int (0+(k:Int))),some (.ref b),some (.ref dr),some (.ref cd),some (.ref pl),some (.ref x0.1.a.p),some (.ref x0.1.m),some (.ref x1.1.a.p),some (.ref x1.1.m),some (.ref hd),some u,some v]) (fun D0 hrt hnx=>?_) ?_
   ·cases ef:ns.findSome? (zS x0.2.1 x1.2.1)with
    |none=>
     rw[ef]at tl;have tl:u= .non:=tl
     subst tl
     exact⟨_,rfl,rfl,_,rfl,zW rfl (qW (hnx _ _ ⟨Ge.refl _,rfl⟩))⟩
    |some r=>
     have et:zO x0.2.1 x1.2.1 ns=some r:=by unfold zO;rw[ef]
     have r1:r.length=1:=by
      obtain⟨nm,_,e⟩:=List.exists_of_findSome?_eq_some ef
      unfold zS at e;obtain⟨p,_,rfl⟩:=DZ.mp e;rfl
     rw[ef]at tl;rw[et]at tv;have ew:=tv.eqw tl fun r' e=>by cases e;omega
     obtain⟨t,as,rfl,_⟩:=tl;refine⟨_,rfl,rfl,_,rfl,zR rfl ?_⟩
     refine⟨_,rfl,_,rfl,_,_,rfl,ew,fun Hg sg=>⟨_,rfl,qW ?_⟩⟩
     have e0g:=e0.same sg;have e1g:=e1.same sg;refine⟨_,rfl,_,rfl,x0.1.a.p,x0.1.a.ta,x0.1.a.hk,x0.1.a.bd,x0.1.a.lg,_,x0.2.1,x1.1.a.p,x1.1.a.ta,x1.1.a.hk,x1.1.a.bd,x1.1.a.lg,_,x1.2.1,rfl,e0g.dl.dr,e1g.dl.dr,td0,td1,fun ns2 Hi si nd2 mem2 sn2=>⟨_,_,rfl,rfl,_,rfl,zW ?_ (hnx _ _ ⟨sg.trans si,rfl⟩)⟩⟩
     rw[uq nd2 sn2 mem2,et];rfl
   rintro σ Hg ⟨sg,rfl⟩
   have Sg:=Sf.trans sg;have tv:=tv.same sg;have e0:=e0.same sg;have e1:=e1.same sg;have comm:∀{ns2:List Str},zO x1.2.1 x0.2.1 ns2=zO x0.2.1 x1.2.1 ns2:=fun{ns2}=>rY td1.dn td0.dn td1.kn td0.kn hkk ns2
   refine ZD (fun σ' H'=>Ge Hg H'/\σ'=[some (.ref sc),some (.int (0+(k:Int))),some (.ref b),some (.ref dr),some (.ref cd),some (.ref pl),some (.ref x0.1.a.p),some (.ref x0.1.m),some (.ref x1.1.a.p),some (.ref x1.1.m),some (.ref hd),some u,some v]) (fun D0 hrt hnx=>?_) ?_
   ·refine⟨_,rfl,_,rfl,x1.1.a.p,x1.1.a.ta,x1.1.a.hk,x1.1.a.bd,x1.1.a.lg,_,x1.2.1,x0.1.a.p,x0.1.a.ta,x0.1.a.hk,x0.1.a.bd,x0.1.a.lg,_,x0.2.1,rfl,e1.dl.dr,e0.dl.dr,td1,td0,fun v2 ns2 Hi si nd2 mem2 sn2 tv2=>?_⟩
    rw[uq nd2 sn2 fun k=>(mem2 k).trans Or.comm,comm]at tv2
    refine⟨_,rfl,2,by decide,tv2.eqk (tv.same si),_,rfl,qW ?_⟩
    have e0i:=e0.same si;have e1i:=e1.same si;refine⟨_,rfl,_,rfl,x0.1.a.p,x0.1.a.ta,x0.1.a.hk,x0.1.a.bd,x0.1.a.lg,_,x0.2.1,x1.1.a.p,x1.1.a.ta,x1.1.a.hk,x1.1.a.bd,x1.1.a.lg,_,x1.2.1,rfl,e0i.dl.dr,e1i.dl.dr,td0,td1,fun v3 ns3 Hj sj nd3 mem3 sn3 tv3=>?_⟩
    rw[uq nd3 sn3 mem3]at tv3;refine⟨_,rfl,2,by decide,tv3.eqk ((tv.same si).same sj),_,rfl,qW ?_⟩
    have e0j:=e0i.same sj;refine⟨_,rfl,_,rfl,x0.1.a.p,rfl,e0j.dl.dr.no,x0.1.a,x0.2.1,x0.2.2,rfl,e0j.dl,dq0.dp.ok.kl,fun a' Hk sk f1 f2 f3 f4 dl'=>?_⟩
    have e0k:=e0j.same sk;refine⟨x0.1.a.p,x0.1.a.ta,x0.1.a.hk,x0.1.a.bd,x0.1.a.lg,_,x0.2.1,a'.p,a'.ta,a'.hk,a'.bd,a'.lg,_,x0.2.1,rfl,e0k.dl.dr,dl'.dr,td0,td0,fun v4 ns4 Hl sl nd4 mem4 sn4 tv4=>?_⟩
    rw[rL]at tv4;have tv4:v4= .non:=tv4
    subst tv4
    exact⟨rfl,_,rfl,qW (hnx _ _ ⟨((si.trans sj).trans sk).trans sl,rfl⟩)⟩
   rintro σ Hz ⟨sz,rfl⟩
   have SZ:=Sg.trans sz;have en0z:=en0h.same SZ;have en1z:=en1h.same SZ;have sh1z:=sh1h.same SZ;have lt1z:=lt1h.same SZ;have sh2z:=sh2h.same SZ;have lt2z:=lt2h.same SZ;have ehz:=SZ _ _ ehd;refine⟨_,rfl,x0.1.a.p,rfl,en0z.dl.dr.no,x0.1.a.p,x0.1.a.ta,x0.1.a.hk,x0.1.a.bd,x0.1.a.lg,x0.2.2.length,x0.2.1,rfl,en0z.dl.dr,dq0.dp.ok,fun k3' ss3 J6 r6 pm3 so3 sh3=>?_⟩
   have fn0:=en0z.same r6;refine⟨_,rfl,x0.1.a.p,rfl,fn0.dl.dr.no,x0.1.a,x0.2.1,x0.2.2,rfl,fn0.dl,fun t3 J7 r7 lt3=>?_⟩
   have fn1:=(en1z.same r6).same r7;refine⟨_,rfl,x1.1.a.p,rfl,fn1.dl.dr.no,x1.1.a.p,x1.1.a.ta,x1.1.a.hk,x1.1.a.bd,x1.1.a.lg,x1.2.2.length,x1.2.1,rfl,fn1.dl.dr,dq1.dp.ok,fun k4 ss4 J8 r8 pm4 so4 sh4=>?_⟩
   have fn1b:=fn1.same r8;refine⟨_,rfl,x1.1.a.p,rfl,fn1b.dl.dr.no,x1.1.a,x1.2.1,x1.2.2,rfl,fn1b.dl,fun t4 J9 r9 lt4=>⟨F7,fun h2 hh2=>?_⟩⟩
   have uz:=Ge.upd (o:= .tup [.ref k3',.ref t3,.ref k4,.ref t4]) hh2
   have R:=(((r6.trans r7).trans r8).trans r9).trans uz
   obtain rfl:ss1=ss3:=bu pm1 so1 pm3 so3
   obtain rfl:ss2=ss4:=bu pm2 so2 pm4 so4
   refine⟨_,rfl,5,by decide,.tup (n:=4) (Gu.of qc) (Gu.of (R _ _ ehz)) rfl (fun i y z ey ez=>?_),_,rfl,qW ⟨fun c o e=>R _ _ (SZ _ _ (baseh c o e)),_,_,_,_,_,_,_,_,_,_,_,_,rfl⟩⟩
   match i,ey,ez with
   |0,ey,ez=>cases ey;cases ez;exact(iX (sh3.same (((r7.trans r8).trans r9).trans uz)) (sh1z.same R) (fun nm h=>pm1.mem_iff.mp h) (fun nm=>rfl)).up
   |1,ey,ez=>cases ey;cases ez;exact((lt3.same ((r8.trans r9).trans uz)).eqv (lt1z.same R) (by omega)).eqk
   |2,ey,ez=>cases ey;cases ez;exact(iX (sh4.same (r9.trans uz)) (sh2z.same R) (fun nm h=>pm2.mem_iff.mp h) (fun nm=>rfl)).up
   |3,ey,ez=>cases ey;cases ez;exact((lt4.same uz).eqv (lt2z.same R) (by omega)).eqk
   |i+4,ey,ez=>cases ey
  rintro σ Hx ⟨_,o1,o2,o3,o4,o5,o6,o7,o8,o9,oa,ob,oc,rfl⟩
  exact q _
end
theorem BS{l:W.OpenLaw}{w:World}{K:Frag}{h:Heap}{mg:Gc}{fa:Addr}(X:K.In h)(G:h.Ns mainGlobals mg)(hfa:mg "law"=some (.ref fa))
  {C:Addr}
  (aCD:W.nsIn K mainGlobals "Door"=some (some (.ref C)))
  (pgD:W.plainGet K C Str.empty=true)
  (hdD:W.hasDictIn K C=true)
  (poD:W.plainOver K C=true)
  (saD:W.findIn K (.ref C) "__setattr__"=some (some (.builtin "object.__setattr__")))
  (mkD:W.makesIn K C=true)
  (kcD:W.keepIn K (.ref C)=true)
  (n_D_table:W.findIn K (.ref C) "table"=some none)
  (n_D_house_keys:W.findIn K (.ref C) "house_keys"=some none)
  (n_D_near:W.findIn K (.ref C) "near"=some none)
  (n_D_far:W.findIn K (.ref C) "far"=some none)
  (n_D_most:W.findIn K (.ref C) "most"=some none)
  (n_D_least_age:W.findIn K (.ref C) "least_age"=some none)
  (n_D_buttons:W.findIn K (.ref C) "buttons"=some none)
  (n_D_log:W.findIn K (.ref C) "log"=some none)
  (A0:Ac K mg "is_number" bj)
  (A1:Ac K mg "is_digit" bO)
  (A2:Ac K mg "are_digits" au)
  (A3:Ac K mg "back_table" aD)
  (A4:Ac K mg "coded" gV)
  (A5:Ac K mg "decoded" cM)
  (A6:Ac K mg "is_name" cQ)
  (A7:Ac K mg "is_code" cT)
  (A8:Ac K mg "is_press" bK)
  (A9:Ac K mg "letter_digits" Zp)
  (A10:Ac K mg "key_of" f6)
  (A11:Ac K mg "count_digits" Zx)
  (A12:Ac K mg "press_of" bZ)
  (A13:Ac K mg "read_press" aG)
  (A14:Ac K mg "word_of" dc)
  (A15:Ac K mg "step_by" c6)
  (A16:Iu K C "__init__" "Door.__init__" Q0)
  (A17:Iu K C "is_full" "Door.is_full" ZA)
  (A18:Iu K C "button_of" "Door.button_of" Q6)
  (A19:Iu K C "takes_age" "Door.takes_age" Q5)
  (A20:Iu K C "takes_from" "Door.takes_from" QR)
  (A21:Iu K C "plain_step" "Door.plain_step" Qk)
  (A22:Iu K C "answer_to" "Door.answer_to" Q7)
  (A23:Iu K C "hear" "Door.hear" bv)
  (A24:Iu K C "read_right" "Door.read_right" QU)
  (A25:Iu K C "learn" "Door.learn" aq)
  (A26:Iu K C "close_below" "Door.close_below" QH)
  (A27:Iu K C "known_now" "Door.known_now" Q4)
  (A28:Iu K C "keys_now" "Door.keys_now" Zm)
  (A29:Iu K C "closed_now" "Door.closed_now" QQ)
  (A30:Iu K C "bounds_told" "Door.bounds_told" QD)
  (A31:Iu K C "log_now" "Door.log_now" Zy)
  (A32:Iu K C "twin_door" "Door.twin_door" Za)
  (A33:Ac K mg "stretches_of" Zw)
  (A34:Ac K mg "names_known" ZU)
  (A35:Ac K mg "lesser_end" aF)
  (A36:Ac K mg "counts_in" bi)
  (A37:Ac K mg "least_apart" ZY)
  (A38:Ac K mg "press_apart" ZT)
  (A39:Ac K mg "pair_apart" aN)
  (A40:Ac K mg "telling" db)
  (A41:Ac K mg "agree" gN)
  (A42:Ac K mg "_law_box" dv)
  (A43:Ac K mg "_law_take" cg)
  (A44:Ac K mg "_law_table" bt)
  (A45:Ac K mg "_law_key" cN)
  (A46:Ac K mg "_law_model" bw)
  (A47:Ac K mg "_law_word" b9)
  (A48:Ac K mg "_law_hear" cv)
  (A49:Ac K mg "_law_press" bp)
  (A50:Ac K mg "_law_learnt" aH)
  (A51:Ac K mg "_law_heard" bg)
  (A52:Ac K mg "_law_bounds" aK)
  (A53:Ac K mg "_law_pair" bT)
  (A54:Ac K mg "_law_drawn" bf)
  (A55:Ac K mg "_law_window" ar)
  (A56:Ac K mg "_law_alike" bz)
  (A57:Ac K mg "_law_one" eu)
  {f58:Addr}{od58 an58:Option Addr}{sl58:Array (Option Value)}{oc58 kV58 dc58 pm58 cd58 ct58:Value}
  (a58:W.nsIn K mainGlobals "law"=some (some (.ref f58)))
  (l58:K.lookup f58=some ⟨oc58,od58,.func (W.fnOf "law" "law" (Qw Z3) (zH Z3) (ql Z3) .none kV58 dc58 pm58 an58 cd58 ct58),sl58⟩)
  (c58:W.codeIn K cd58 "law"=true)
  (k58:W.keepIn K (.ref f58)=true)
  {t0:Tok}
  (yg0:W.nsIn K mainGlobals "DIGITS"=some (some (.int 16 t0)))
  {t1:Tok}
  (yg1:W.nsIn K mainGlobals "KEY_PLACES"=some (some (.int 4 t1)))
  {t2:Tok}
  (yg2:W.nsIn K mainGlobals "LONGEST_NAME"=some (some (.int 8 t2)))
  {t3:Tok}
  (yg3:W.nsIn K mainGlobals "CODE_DIGITS"=some (some (.int 5 t3)))
  {t4:Tok}
  (yg4:W.nsIn K mainGlobals "COUNTS"=some (some (.int 4096 t4)))
  (z0:W.nsIn K mainGlobals "isinstance"=some none)
  (z1:W.nsIn K mainGlobals "bool"=some none)
  (z2:W.nsIn K mainGlobals "int"=some none)
  (z3:W.nsIn K mainGlobals "tuple"=some none)
  (z4:W.nsIn K mainGlobals "all"=some none)
  (z5:W.nsIn K mainGlobals "any"=some none)
  (z6:W.nsIn K mainGlobals "len"=some none)
  (z7:W.nsIn K mainGlobals "abs"=some none)
  (z8:W.nsIn K mainGlobals "list"=some none)
  (z9:W.nsIn K mainGlobals "enumerate"=some none)
  (z10:W.nsIn K mainGlobals "range"=some none)
  (z11:W.nsIn K mainGlobals "max"=some none)
  (z12:W.nsIn K mainGlobals "min"=some none)
  (z13:W.nsIn K mainGlobals "str"=some none)
  (z14:W.nsIn K mainGlobals "zip"=some none)
  (z15:W.nsIn K mainGlobals "ord"=some none)
  (z16:W.nsIn K mainGlobals "sum"=some none)
  (z17:W.nsIn K mainGlobals "reversed"=some none)
  (z18:W.nsIn K mainGlobals "sorted"=some none)
  (z19:W.nsIn K mainGlobals "dict"=some none)
  (z20:W.nsIn K mainGlobals "set"=some none):
  ∃fd:FuncData,(∀(s:Shared) (v:Value),BindsTo s fd ⟨[v],[]⟩ [("_law_script",v)])/\∀base:Heap,K.In base->base.Ns mainGlobals mg->HS l.prog w K mg base aJ 10 fa fd ["_law_script"] (jH K):=by
 have e:=hfa.symm.trans (EO X G a58);cases e;have T:GJ K mg (fun i=>if i=0 then t0 else if i=1 then t1 else if i=2 then t2 else if i=3 then t3 else if i=4 then t4 else 0):=⟨EO X G yg0,EO X G yg1,EO X G yg2,EO X G yg3,EO X G yg4,JT X G z0,JT X G z1,JT X G z2,JT X G z3,JT X G z4,JT X G z5,JT X G z6,JT X G z7,JT X G z8,JT X G z9,JT X G z10,JT X G z11,JT X G z12,JT X G z13,JT X G z14,JT X G z15,JT X G z16,JT X G z17,JT X G z18,JT X G z19,JT X G z20⟩
 refine⟨W.fnOf "law" "law" (Qw Z3) (zH Z3) (ql Z3) .none kV58 dc58 pm58 an58 cd58 ct58,fun s v=> .of_eq rfl,fun base _ _=>?_⟩
 have U:HG K C:=⟨⟨pgD,hdD,poD,saD⟩,n_D_table,n_D_house_keys,n_D_near,n_D_far,n_D_most,n_D_least_age,n_D_buttons,n_D_log⟩
 have dR:=lw (P:=l.prog) (w:=w) (base:=base) (A0.at fun _ _ _ _ _ _=>Qz fun _=>rfl) T
 have xZ:=mF (A1.at fun _ _ _ _ _ _=>Qz fun _=>rfl) T dR
 have xQ:=jB (A2.at fun _ _ _ _ _ _=>Qz fun _=>rfl) T xZ
 have xN:=jA (P:=l.prog) (w:=w) (base:=base) (A3.at fun _ _ _ _ _ _=>Qz fun _=>rfl) T
 have xL:=vj (P:=l.prog) (w:=w) (base:=base) (A4.at fun _ _ _ _ _ _=>fx fun _ _ _=>rfl) T
 have yG:=oK (A5.at fun _ _ _ _ _ _=>fx fun _ _ _=>rfl) T xN
 have yD:=oJ (P:=l.prog) (w:=w) (base:=base) (A6.at fun _ _ _ _ _ _=>Qz fun _=>rfl) T
 have yE:=pD (A7.at fun _ _ _ _ _ _=>Qz fun _=>rfl) T xQ
 have dX:=mR (A8.at fun _ _ _ _ _ _=>Qz fun _=>rfl) T yD dR yE
 have xF:=fD (P:=l.prog) (w:=w) (base:=base) (A9.at fun _ _ _ _ _ _=>Qz fun _=>rfl) T
 have xH:=tY (A10.at fun _ _ _ _ _ _=>fx fun _ _ _=>rfl) T xF xL
 have xG:=gk (P:=l.prog) (w:=w) (base:=base) (A11.at fun _ _ _ _ _ _=>Qz fun _=>rfl) T
 have x8:=mf (A12.at fun _ _ _ _ _ _=>Do fun _ _ _ _ _ _=>rfl) T xG xH xL
 have dO:=jy (A13.at fun _ _ _ _ _ _=>fx fun _ _ _=>rfl) T xH yG
 have yF:=re (P:=l.prog) (w:=w) (base:=base) (A14.at fun _ _ _ _ _ _=>iL fun _ _ _ _=>rfl) T
 have xD:=oX (A15.at fun _ _ _ _ _ _=>Dk fun _ _ _ _ _=>rfl) T yF
 have A16:=A16.at (ps:=["self","table","keys","near","far","most"]) fun _ _ _ _ _ _=>Do fun _ _ _ _ _ _=>rfl
 have yJ:=ia (P:=l.prog) (w:=w) (base:=base) A16 T U
 have xM:=yJ.mi mkD kcD (EO X G aCD);have yL:=(gp (P:=l.prog) (w:=w) (base:=base) A16 T U).mi mkD kcD (EO X G aCD)
 have xI:=gl (P:=l.prog) (w:=w) (base:=base) (A17.at fun _ _ _ _ _ _=>Qz fun _=>rfl) T U
 have dD:=ff (P:=l.prog) (w:=w) (base:=base) (A18.at fun _ _ _ _ _ _=>ZP fun _ _=>rfl) T U
 have dH:=fj (P:=l.prog) (w:=w) (base:=base) (A19.at fun _ _ _ _ _ _=>ZP fun _ _=>rfl) T U
 have dB:=cK (A20.at fun _ _ _ _ _ _=>fx fun _ _ _=>rfl) T U dH
 have A21:=A21.at (ps:=["self","button","age","count"]) fun _ _ _ _ _ _=>iL fun _ _ _ _=>rfl
 have dG:=dy A21 T U dB xD;have G_Door_plain_step:=cE A21 T U dB xD;have xB:=fi (A22.at fun _ _ _ _ _ _=>ZP fun _ _=>rfl) T U dD dB dG dO
 have xY:=kL (A23.at fun _ _ _ _ _ _=>ZP fun _ _=>rfl) T U dX xB
 have dM:=cU (A24.at fun _ _ _ _ _ _=>ZP fun _ _=>rfl) T U dX dH dO
 have xP:=jv (A25.at fun _ _ _ _ _ _=>fx fun _ _ _=>rfl) T U dM xI
 have dW:=cC (P:=l.prog) (w:=w) (base:=base) (A26.at fun _ _ _ _ _ _=>ZP fun _ _=>rfl) T U
 have dC:=fo (P:=l.prog) (w:=w) (base:=base) (A27.at fun _ _ _ _ _ _=>Qz fun _=>rfl) T U
 have xE:=f7 (P:=l.prog) (w:=w) (base:=base) (A28.at fun _ _ _ _ _ _=>Qz fun _=>rfl) T U
 have d0:=dz (P:=l.prog) (w:=w) (base:=base) (A29.at fun _ _ _ _ _ _=>Qz fun _=>rfl) T U
 have dE:=cD (P:=l.prog) (w:=w) (base:=base) (A30.at fun _ _ _ _ _ _=>Qz fun _=>rfl) T U
 have dI:=gw (P:=l.prog) (w:=w) (base:=base) (A31.at fun _ _ _ _ _ _=>Qz fun _=>rfl) T U
 have xC:=fq (A32.at fun _ _ _ _ _ _=>Qz fun _=>rfl) T U xM
 have dY:=ga (A33.at fun _ _ _ _ _ _=>fx fun _ _ _=>rfl) T U dB dE
 have xA:=ij (A34.at fun _ _ _ _ _ _=>Qz fun _=>rfl) T U dC
 have xO:=jt (A35.at fun _ _ _ _ _ _=>iL fun _ _ _ _=>rfl) T U dE
 have xJ:=lI (P:=l.prog) (w:=w) (base:=base) (A36.at fun _ _ _ _ _ _=>Qz fun _=>rfl) T
 have xK:=gP (A37.at fun _ _ _ _ _ _=>ZP fun _ _=>rfl) T xJ
 have dJ:=hU (A38.at fun _ _ _ _ _ _=>iL fun _ _ _ _=>rfl) T U xE dY xK
 have xT:=jz (A39.at fun _ _ _ _ _ _=>iL fun _ _ _ _=>rfl) T U d0 G_Door_plain_step xO dJ
 have dL:=rB (A40.at fun _ _ _ _ _ _=>ZP fun _ _=>rfl) T U dD xA dJ xT
 have yI:=wJ (A41.at fun _ _ _ _ _ _=>ZP fun _ _=>rfl) T dL
 have yA:=pM (P:=l.prog) (w:=w) (base:=base) (A42.at fun _ _ _ _ _ _=>ZP fun _ _=>rfl) T
 have dA:=mN (P:=l.prog) (w:=w) (base:=base) (A43.at fun _ _ _ _ _ _=>ZP fun _ _=>rfl) T
 have xX:=lr (A44.at fun _ _ _ _ _ _=>Qz fun _=>rfl) T dA
 have yB:=pj (A45.at fun _ _ _ _ _ _=>Qz fun _=>rfl) T dA
 have xW:=j0 (P:=l.prog) (w:=w) (base:=base) (A46.at fun _ _ _ _ _ _=>fx fun _ _ _=>rfl) T
 have dZ:=mP (P:=l.prog) (w:=w) (base:=base) (A47.at fun _ _ _ _ _ _=>ZP fun _ _=>rfl) T
 have dP:=mx (A48.at fun _ _ _ _ _ _=>ZP fun _ _=>rfl) T dZ
 have dU:=kh (A49.at fun _ _ _ _ _ _=>fx fun _ _ _=>rfl) T x8
 have N_law_learnt:=gQ (A50.at fun _ _ _ _ _ _=>iL fun _ _ _ _=>rfl) T U xP dU
 have xV:=kP (A51.at fun _ _ _ _ _ _=>iL fun _ _ _ _=>rfl) T U xY dU dP
 have xS:=ju (A52.at fun _ _ _ _ _ _=>Qz fun _=>rfl) T dA
 have x6:=mO (A53.at fun _ _ _ _ _ _=>ZP fun _ _=>rfl) T U yL dW dA xX yB xS xW N_law_learnt xV
 have xU:=lU (A54.at fun _ _ _ _ _ _=>Qz fun _=>rfl) T dA
 have xR:=jp (P:=l.prog) (w:=w) (base:=base) (A55.at fun _ _ _ _ _ _=>Qz fun _=>rfl) T
 have dQ:=da (P:=l.prog) (w:=w) (base:=base) (A56.at fun _ _ _ _ _ _=>ZP fun _ _=>rfl) T
 have x9:=pE (A57.at fun _ _ _ _ _ _=>ZP fun _ _=>rfl) T dZ xR
 exact BB (lh (st:=Z3) l58 c58 k58) T U dC dI xC yA xU x6 x9 dL yI dQ
theorem vC{l:W.OpenLaw}{q:Program}{loose:List Str}{XP:(Str->Option Value)->Heap->Prop}{YP:World->Heap->Prop}{d:DefRec}{K:Params->Frag}(hn:l.most=some 63)(hdf:d.params.defaults=[])
  (hY:∀(w:World) (h:Heap),YP w h->(K w.params).In h)
  (F:∀(w:World) (mg:Gc) (fa:Addr) (h:Heap),(K w.params).In h->h.Ns mainGlobals mg->mg d.name=some (.ref fa)->
   ∃fd:FuncData,(∀(s:Shared) (u:Value),BindsTo s fd ⟨[u],[]⟩ [("_law_script",u)])/\∀base:Heap,(K w.params).In base->base.Ns mainGlobals mg->HS l.prog w (K w.params) mg base aJ 10 fa fd ["_law_script"] (jH (K w.params))):
  W.WalkO q loose XP YP l.row.toRowW d [] (fun f vs=>PySem.call f vs):=
 L2.yT (n:=63) (k:=10) (x:="_law_script") (CX:=fun _=>aJ) (sp:=fun w=>jH (K w.params)) hn (by decide) hdf ⟨rfl,by decide,by decide⟩ hY F (fun _ _ a ns hl _ hS=>⟨a,ns,rfl,hS,hl,fun _=>rfl⟩) fun _ _ _ _ _ z=>z
end Lw
namespace PySem.W.Fast
def tw1469774931718962244:=()
def tw7833485580748397242:=()
def tw11731737934231266724:=()
def tw1863078402287051401:=()
def tw8598534052655644319:=()
def tw2592574512401337161:=()
def tw4843740782901224685:=()
def tw1376571508380830307:=()
def tw17450533733209466931:=()
def tw3853221882651902824:=()
def tw15151443275976735784:=()
def tw3732551947558453377:=()
def tw1745427056039671290:=()
def tw18338587287100151440:=()
def tw2757417416577585237:=()
def tw1762613016555578172:=()
def tw2318693552304953400:=()
def tw6507906211905677731:=()
def tw1737805679043616873:=()
def tw10966563586194038459:=()
def tw2511681900284627040:=()
def tw7781964322386590555:=()
def tw11188486170171548541:=()
def tw18297715098313644724:=()
def tw17151949969562097583:=()
def tw1830660494605825026:=()
def tw688877138728001158:=()
def tw8928010370465589679:=()
def tw6012420276428290798:=()
def tw2011276254499948675:=()
def tw14595022515219525799:=()
def tw11013362667146563212:=()
def tw2622492706096246405:=()
def tw12600261664426067884:=()
def tw17632285122798685722:=()
def tw11465069787176794174:=()
def tw18106782814664067674:=()
def tw1424667605731712792:=()
def tw8536732977235426577:=()
def tw16883473650167767631:=()
def tw12856241012160951316:=()
def tw12438183645145274606:=()
def tw13051117067595571492:=()
def tw2471418911851387063:=()
def tw18255183699734612310:=()
def tw4883486005899177881:=()
def tw13113427570039763527:=()
def tw17311323332713928532:=()
def tw1731102839791646420:=()
def tw3511284150833103054:=()
def tw4628527620861084792:=()
def tw14304361849794187766:=()
def tw6605429906728328562:=()
def tw8560625667259226242:=()
def tw5193810487219053442:=()
def tw12078772634972363070:=()
def tw17018256960403528082:=()
def tw7618224560107166287:=()
def tw8349289079817563239:=()
def tw471983080469127839:=()
def tw5138519930001231791:=()
def tw9719602823722716713:=()
def tw8382167169622857370:=()
def tw8531087410355925444:=()
def tw16255493306880075107:=()
def tw2679783888811994706:=()
def tw14236815731086168111:=()
def tw6532358566666228701:=()
def tw14884030644367909283:=()
def tw1748942322199188852:=()
def tw13593572013912152373:=()
def tw10917700220673988760:=()
def tw5740891369356236473:=()
def tw275599641310137910:=()
def tw16251453368955187977:=()
def tw11685174967329094754:=()
def tw10887406519965402127:=()
def tw12650660574256683850:=()
def tw7368058141981138211:=()
def tw7428462074046504657:=()
def tw2982403483943483640:=()
def tw1511165881113404755:=()
def tw5013309537962730804:=()
def tw8443062303069424342:=()
def tw14086205923508402519:=()
def tw4684619119464301917:=()
def tw4358061605186938648:=()
def tw12174325186591197253:=()
def tw9479087347671381504:=()
def tw15405528675991165847:=()
def tw5985541859542143875:=()
def tw8490343067859565617:=()
def tw6984278987381139550:=()
def tw9121032843261951452:=()
def tw3652379174529811126:=()
def tw18205215299461245912:=()
def tw2188510698552873849:=()
def tw1307355746417552899:=()
def tw18277164625189592537:=()
def tw11250136432729441023:=()
def tw3769167498402704468:=()
def tw16341164081217934058:=()
def tw9738574855099838917:=()
def tw18202084438483214363:=()
def tw2148874503981533409:=()
def tw10765080657515074114:=()
def tw6091648583271910338:=()
def tw7327339982204064363:=()
def tw17588600202812137640:=()
def tw15984869066733543059:=()
def tw2244357606314844399:=()
def tw12587491440090268259:=()
def tw4044600473459298676:=()
def tw356907843113840619:=()
def tw15112577436307442591:=()
def tw5091866913326554023:=()
def tw10139923091988101347:=()
def tw8360312895141294714:=()
def tw4665840162437673847:=()
def tw16167394906381984628:=()
def tw9796952823550046057:=()
def tw12734791205827560829:=()
def tw7807584222812313862:=()
def tw3679552720188643638:=()
def tw1812690247479438248:=()
def tw1372093946804443655:=()
def tw610422520277028283:=()
def tw1430155461865684418:=()
def tw335240210193979309:=()
def tw15998780336517594452:=()
def tw5881544521126675027:=()
def tw1381582978428513158:=()
def tw7333843783823781934:=()
def tw3243792320070572515:=()
def tw14825755929429837339:=()
def tw2787847757706026327:=()
def tw6356405786959039656:=()
def tw1464081628844473963:=()
def tw14091098934839058939:=()
def tw9639592104913674440:=()
def tw7777865128269871111:=()
def tw1767970955854726761:=()
def tw3536776365356393152:=()
def tw7452519678292908590:=()
def tw9607684096571858016:=()
def tw8095613030927063141:=()
def tw10794538702492860410:=()
def tw9482435213539696892:=()
def tw13757129421959478012:=()
def tw5179207736814254406:=()
def tw11561491593347313328:=()
def tw7225188578337269656:=()
def tw7119584408005140472:=()
def tw18236399424628096554:=()
def tw18224515474966475069:=()
def tw2851615547506645727:=()
def tw4166465782371769167:=()
def tw4209526718642873650:=()
def tw7785160898618525989:=()
def tw2569228781459553239:=()
def tw2563289031223210260:=()
def tw17694369505518719575:=()
def tw5992989470759690648:=()
def tw3500889501687091614:=()
def tw1276829274009554084:=()
def tw9855887301305063011:=()
def tw11734315141927446592:=()
def tw10687895696546432143:=()
def tw9579165928680084137:=()
def tw1873975065487896582:=()
def tw714816023731327483:=()
def tw10788660480385476140:=()
def tw6560631451286850846:=()
def tw15179241984919574390:=()
def tw1738290611884715108:=()
def tw4293977261957247768:=()
def tw8290059650701985161:=()
def tw12849624720832594684:=()
def tw16411660848034223778:=()
def tw18114548075771155459:=()
def tw5569679635974380841:=()
def tw510326860401592873:=()
def tw5564303780870291193:=()
def tw16664949441798905966:=()
def tw9454819093820346625:=()
def tw6175761207390759277:=()
def tw15274732133252506960:=()
def tw16402663984628856584:=()
def tw4848531284719483607:=()
def tw2544787552391150122:=()
def tw8498152242846811694:=()
def tw12388855880630638872:=()
def tw11520189881356224658:=()
def tw6975177341955197995:=()
def tw5975026344963464892:=()
def tw6868719144099044073:=()
def tw15836118120681622130:=()
def tw9605918678353127099:=()
def tw9373695206953045770:=()
def tw11187096924106449998:=()
def tw9278704901540824796:=()
def tw1454445616492045493:=()
def tw7681364713007389820:=()
def tw7348628204127696377:=()
def tw2083870285311242928:=()
def tw3563318667574334473:=()
def tw10533926411767788071:=()
def tw10111309085054204294:=()
def tw13451604251713521046:=()
def tw8729696082582114330:=()
def tw14150146458559876707:=()
def tw14073476348317079101:=()
def tw8738205385185648612:=()
def tw2737725237129614726:=()
def tw7716552749625975438:=()
def tw6299220344023923019:=()
def tw2262159685923556208:=()
def tw8349385254469784807:=()
def tw9156635204776936614:=()
def tw4859029138905997625:=()
def tw7159347267915657126:=()
def tw14806301386066775157:=()
def tw12382087344438102939:=()
def tw4304458407906141259:=()
def tw10061899907926779187:=()
def tw8477983794224044393:=()
def tw2098650145211902486:=()
def tw16236312472662693094:=()
def tw5086643500335299100:=()
def tw1313902473226091257:=()
def tw10395872640533272534:=()
def tw16412338409612137976:=()
def tw11887063240163735790:=()
def tw10256502832494071663:=()
def tw7847228281337866886:=()
def tw18185590191786309064:=()
def tw4292097929100905244:=()
def tw2168786617701181226:=()
def tw12921305195028855873:=()
def tw4336056732704575617:=()
def tw17778783244551492417:=()
def tw7086233604806055134:=()
def tw4662171263815555999:=()
def tw8377573722487635506:=()
def tw13482677432488661289:=()
def tw11740843854228289544:=()
def tw4385598486824586592:=()
def tw3804900772379902026:=()
def tw16533695274372613227:=()
def tw15143495485188113743:=()
def tw14679516619760900851:=()
def tw4795095654672156180:=()
def tw11196916149616000647:=()
def tw2744502205617692335:=()
def tw7198077441268243344:=()
def tw16041385709874185603:=()
def tw17611895741323049344:=()
def tw1561146196266624883:=()
def tw1318452079094546822:=()
def tw9481314550049118795:=()
def tw8726979965003749085:=()
def tw3832531689797375978:=()
def tw17203418239063078837:=()
def tw14708041138938989660:=()
def tw3400206354015075349:=()
def tw17518697309247804385:=()
def tw11224152537686653004:=()
def tw6711333065646552857:=()
def tw14029392395884998578:=()
def tw12624691759796729337:=()
def tw11109559989795801967:=()
def tw3441280492613559469:=()
def tw2648538956619676134:=()
def tw2012656916321126886:=()
def tw15684745894981978762:=()
def tw12791245163030200297:=()
def tw17719529363410212783:=()
def tw2742553912344940506:=()
def tw1495908010143612174:=()
def tw10783692554091918660:=()
def tw15532748158273746145:=()
def tw17668699014437363655:=()
def tw13507982874411282712:=()
def tw13239563514761684637:=()
def tw17184433863962291262:=()
def tw14455472198203777687:=()
def tw3456832406294067152:=()
def tw12882794211401217483:=()
def tw6430763935351082828:=()
def tw14439717688461334094:=()
def tw12264744694412366382:=()
def tw7332483408699098281:=()
def tw8263560114195881274:=()
def tw5727102609179491729:=()
def tw3978022537470112537:=()
def tw3897775256374479652:=()
def tw8809909403214394258:=()
def tw6231244093635666333:=()
def tw578856744851109762:=()
def tw5601855620972604137:=()
def tw11057141487698963152:=()
def tw441066219670300572:=()
def tw8917740169683367325:=()
def tw1670929536301180513:=()
def tw3251880155482278277:=()
def tw6913613591982378814:=()
def tw14008367584129942728:=()
def tw11120967098982186136:=()
def tw11251010096326675144:=()
def tw9209059992631159996:=()
def tw18166946843151065427:=()
def tw2364899210285184290:=()
def tw12305214409338230686:=()
def tw10682909829129414662:=()
def tw822230049083328647:=()
def tw17733659930218538295:=()
def tw5918709208084162258:=()
def tw14709917145015688197:=()
def tw12106065598514376720:=()
def tw15783918200451081995:=()
def tw1578353142656781405:=()
def tw8278378807043359650:=()
def tw7153592861422365242:=()
def tw2504766928544032844:=()
def tw2978453488767166159:=()
def tw12875349444385434720:=()
def tw5600864625582333742:=()
def tw5319627471043724279:=()
def tw3434910391714378122:=()
def tw16646751067786087610:=()
def tw5677070276892249109:=()
def tw5103951725638526497:=()
def tw4120704894761988943:=()
def tw1794197852124698544:=()
def tw6734852176112210000:=()
def tw6491229804474679500:=()
def tw15817115613952191161:=()
def tw8293843679648381576:=()
def tw6078564405658103575:=()
def tw3988292505985137647:=()
def tw14755986368681547331:=()
def tw12788591994321328612:=()
def tw15525462329267824113:=()
def tw15888162750921878837:=()
def tw7317868749422622906:=()
def tw5495035272189442928:=()
def tw12302817690528858093:=()
def tw681478402651141004:=()
def tw6565440412450829113:=()
def tw2366513961449062825:=()
def tw17364556021520474074:=()
def tw16023523852613858286:=()
def tw7337106254047932559:=()
def tw4242057922482321860:=()
def tw3995042872614111057:=()
def tw18094540073687622799:=()
def tw17442779106351080675:=()
def tw15250507598025664407:=()
def tw14776927002166105944:=()
def tw25537108384507022:=()
def tw7407375795869524524:=()
def tw4061802773362643789:=()
def tw2166149842534442332:=()
def tw17611229563913848381:=()
def tw15696283366576712630:=()
def tw14015041320470903931:=()
def tw11067022216567068239:=()
def tw16628589065829381184:=()
def tw15460793585469004068:=()
def tw15105030490510901718:=()
def tw1339223776308941519:=()
def tw10260342526300157981:=()
def tw12579017401795938650:=()
def tw15899548770709054019:=()
def tw15720890646053373373:=()
def tw14612005813158947349:=()
def tw9785216497038065111:=()
def tw8304433360927630013:=()
def tw7340790994573571499:=()
def tw16975225963430352723:=()
def tw11350994984504621372:=()
def tw9955528634997041365:=()
def tw9836668450319442366:=()
def tw9718120273692879618:=()
def tw9542517533011985134:=()
def tw9538532436438628397:=()
def tw943881006284304421:=()
def tw9412309048633979087:=()
def tw9385064790152537716:=()
def tw9383129233181079742:=()
def tw8971271432482111002:=()
def tw8714018762187925057:=()
def tw8686340964641595891:=()
def tw8666414624751527822:=()
def tw8603415782228931036:=()
def tw8493615361891416697:=()
def tw8327878932480805439:=()
def tw7425618908672348637:=()
def tw7141376242584231762:=()
def tw7117786719173809783:=()
def tw69640940017678149:=()
def tw6814780968898519871:=()
def tw6813507332003538682:=()
def tw6660577705387205996:=()
def tw6556743879221626175:=()
def tw6433057828222440964:=()
def tw6422307960172721234:=()
def tw6201694865189633792:=()
def tw614340545713876031:=()
def tw6049727104011904026:=()
def tw5912754701804163277:=()
def tw5814081193213282575:=()
def tw566924137187111203:=()
def tw5500078183252486373:=()
def tw5491917618869183021:=()
def tw5486792836302565927:=()
def tw5415322199268064933:=()
def tw528348456024272461:=()
def tw5063866735840561427:=()
def tw5003183034988760785:=()
def tw4951041614692891275:=()
def tw4913419820303558923:=()
def tw4526953542847855460:=()
def tw4168736836509217917:=()
def tw4123655560932371996:=()
def tw4050742753361811636:=()
def tw4001810463730293367:=()
def tw3979492602203624992:=()
def tw3717731766461939811:=()
def tw3651737904802364960:=()
def tw3633038927163736873:=()
def tw3501514493040266:=()
def tw3405806832043368952:=()
def tw3218501961173503783:=()
def tw3150944677127296461:=()
def tw3084456382131805101:=()
def tw3035259915164828881:=()
def tw2942748334317177923:=()
def tw2816614840828995852:=()
def tw2785639999517282618:=()
def tw2783495591396736930:=()
def tw2743844137948137305:=()
def tw2640670776041166177:=()
def tw2606310975957844714:=()
def tw2575194231339948682:=()
def tw2547841281870289958:=()
def tw2474808544069304438:=()
def tw2400881306377936885:=()
def tw235145247407071908:=()
def tw2223132158076245514:=()
def tw2062393374424089582:=()
def tw2003850749322834929:=()
def tw1966313546843240356:=()
def tw18176240362751254501:=()
def tw17880894144188462718:=()
def tw17760797806849376014:=()
def tw17721285244882992020:=()
def tw17455868952641968524:=()
def tw17431182112950117764:=()
def tw17298383321044461804:=()
def tw1719982301738051751:=()
def tw17181837561627919246:=()
def tw1713614306666438510:=()
def tw1713181162490389680:=()
def tw16969537405764891518:=()
def tw16682536414024485278:=()
def tw16471426670230150080:=()
def tw16323558189972511412:=()
def tw16309122002864362333:=()
def tw16226548163807526921:=()
def tw16137657399817860233:=()
def tw16024683634592825382:=()
def tw15971887065393963951:=()
def tw1583479346331266700:=()
def tw1543518632971797076:=()
def tw15278076425706319949:=()
def tw15227966529207778537:=()
def tw15167856023152929708:=()
def tw15103294413972210122:=()
def tw15043469060994799239:=()
def tw1500840527455608669:=()
def tw14881463488556880282:=()
def tw1482250364041535210:=()
def tw14776606651882038377:=()
def tw14679463786183951698:=()
def tw14479844413351599986:=()
def tw14323203071207865480:=()
def tw1423027392473459770:=()
def tw14208061940976901365:=()
def tw13992862891231505567:=()
def tw1397078496123610939:=()
def tw13960253457361292604:=()
def tw13870341239204330580:=()
def tw13771043995181462743:=()
def tw13765070630661080097:=()
def tw13697043131159002309:=()
def tw13482387832536258905:=()
def tw13460452079742201722:=()
def tw13451470718735770888:=()
def tw13431024862947450711:=()
def tw1336317186106115318:=()
def tw13240497724380423421:=()
def tw12829842260782428519:=()
def tw12393577118651338823:=()
def tw1222210060151944070:=()
def tw1220548280789261910:=()
def tw12103198577751271360:=()
def tw1204664434504069599:=()
def tw11973116973292298339:=()
def tw11730429129864071158:=()
def tw11690172585104565502:=()
def tw11493558114463057233:=()
def tw11416296527540584071:=()
def tw11365130745168260301:=()
def tw11240301021971717778:=()
def tw11197712642988206997:=()
def tw11164294877912442496:=()
def tw11018503039931081217:=()
def tw10931732855514338306:=()
def tw10794886906141264035:=()
def tw10711729287399811185:=()
def tw10585459531563744870:=()
def tw10501504096944719594:=()
def tw10456819001778719449:=()
def tw10335190165906255234:=()
def tw1033272940058745629:=()
def tw10111314858322296566:=()
def tw1002806218240725447:=()
def tw10022323056760843998:=()
end PySem.W.Fast
open PySem PySem.W PyProof.Rows
set_option maxRecDepth 100000 in
set_option maxHeartbeats 0 in
theorem PySem.Challenge.cw_rollcode_k32_told_apart_by_one_holds : PySem.Challenge.rw_rollcode_k32_told_apart_by_one.Holds := by
 w_on;o_law;k_head;(case hw=>w_witness2)
 k_fill
 refine Lw.vC (l:=PySem.Challenge.rw_rollcode_k32_told_apart_by_one) rfl rfl (fun w h Y=>PySem.W.kIn_of Y) ?F
 case F=>
  intro w mg fa h KX G hmg;refine' Lw.BS KX G hmg ?aCD ?pgD ?hdD ?poD ?saD ?mkD ?kcD ?n_D_table ?n_D_house_keys ?n_D_near ?n_D_far ?n_D_most ?n_D_least_age ?n_D_buttons ?n_D_log ?A0 ?A1 ?A2 ?A3 ?A4 ?A5 ?A6 ?A7 ?A8 ?A9 ?A10 ?A11 ?A12 ?A13 ?A14 ?A15 ?A16 ?A17 ?A18 ?A19 ?A20 ?A21 ?A22 ?A23 ?A24 ?A25 ?A26 ?A27 ?A28 ?A29 ?A30 ?A31 ?A32 ?A33 ?A34 ?A35 ?A36 ?A37 ?A38 ?A39 ?A40 ?A41 ?A42 ?A43 ?A44 ?A45 ?A46 ?A47 ?A48 ?A49 ?A50 ?A51 ?A52 ?A53 ?A54 ?A55 ?A56 ?A57 ?a58 ?l58 ?c58 ?k58 ?yg0 ?yg1 ?yg2 ?yg3 ?yg4 ?z0 ?z1 ?z2 ?z3 ?z4 ?z5 ?z6 ?z7 ?z8 ?z9 ?z10 ?z11 ?z12 ?z13 ?z14 ?z15 ?z16 ?z17 ?z18 ?z19 ?z20
  (case aCD|pgD|hdD|poD|saD|mkD|kcD|n_D_table|n_D_house_keys|n_D_near|n_D_far|n_D_most|n_D_least_age|n_D_buttons|n_D_log=>k_is)
  (case A0|A1|A2|A3|A4|A5|A6|A7|A8|A9|A10|A11|A12|A13|A14|A15=>refine' L3.yd KX G ?ya ?yl ?yc ?yk;case ya|yl|yc|yk=>k_is)
  (case A16|A17|A18|A19|A20|A21|A22|A23|A24|A25|A26|A27|A28|A29|A30|A31|A32=>refine' L3.AW ?ya ?yi ?yl ?yc ?yk;case ya|yi|yl|yc|yk=>k_is)
  (case A33|A34|A35|A36|A37|A38|A39|A40|A41|A42|A43|A44|A45|A46|A47|A48|A49|A50|A51|A52|A53|A54|A55|A56|A57=>refine' L3.yd KX G ?ya ?yl ?yc ?yk;case ya|yl|yc|yk=>k_is)
  (case a58|l58|c58|k58|yg0|yg1|yg2|yg3|yg4|z0|z1|z2|z3|z4|z5|z6|z7|z8|z9|z10|z11|z12|z13|z14|z15|z16|z17|z18|z19|z20=>k_is)