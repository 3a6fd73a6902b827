import PyProof.Rows.All
import Wide.All
import OpenK.AllK
import Wide.FinOn
import Lean
import PyProof.EqAt
import PyProof.EqKinds
import PyProof.TupleCall
import PySem.Challenge.RW_rollcode_k33_told_apart_by_two
import PyProof.StationsW
import PyProof.ExcClass2
import OpenK.KOwn
import PyProof.ExcBaseAll.ValueError
import PyProof.RulesAs
import PyProof.NsDelKeeps
import PyProof.Rows.Catch
import KE.KIsAll
import PyProof.ExcArgsOwn
import PyProof.Rows.CatchOwn
import PyProof.ExcAttrAll.ValueError
import PyProof.AttrMissHeap
import PyProof.Rows.SetFrom
import KE.KDictOf
import PyProof.DictWalks
import PyProof.Rows.DictUnroll
import PyProof.ExcInit
import PyProof.InstStoreFacts
import PyProof.FString
import OpenK.KCls
import PyProof.ListMulRoad
import PyProof.FactsAll.tuple_2
import PyProof.FactsAll.set
import PyProof.CollectWalk
import KE.KDictList
import PyProof.FactsAll.set_1
import PyProof.FactsAll.set_2
import PyProof.SetNew
import PyProof.MeetsSeq2
import PyProof.DictValues
import PyProof.AutoSeq1
import PyProof.FactsAll.list_3
import PyProof.DictItems
set_option Elab.async false
set_option maxRecDepth 100000
set_option maxHeartbeats 4000000
set_option linter.unusedVariables false
set_option linter.all false
open PySem.W (Frag)
namespace L0
abbrev Ja:=@PySem.wpAny_bind
abbrev Jb:=@if_neg
abbrev Jc:=@if_pos
abbrev Jd:=@PySem.wpAny_pure
abbrev Je:=@Nat.le_refl
abbrev Jf:=@List.length_map
abbrev Jg:=@decide_eq_true
abbrev Jh:=@PySem.Heap.lt_size
abbrev Ji:=@PySem.Heap.get?_push_of_some
abbrev Jj:=@List.getElem?_eq_getElem
abbrev Jk:=@List.mem_cons
abbrev Jl:=@List.mem_singleton
abbrev Jm:=@Nat.ne_of_lt
abbrev Jn:=@decide_eq_false
abbrev Jo:=@PySem.Heap.get?_push_size
abbrev Jp:=@Array.length_toList
abbrev Jq:=@List.getElem?_map
abbrev Jr:=@List.size_toArray
abbrev Js:=@List.not_mem_nil
abbrev Jt:=@or_false
abbrev Ju:=@PyProof.Rows.boot_isinstance
abbrev Jv:=@of_decide_eq_true
abbrev Jw:=@List.getElem?_eq_some_iff
abbrev Jx:=@Bool.and_eq_true
abbrev Jy:=@Option.some.inj
abbrev Jz:=@List.mem_cons_self
abbrev JA:=@List.mem_map
abbrev JB:=@Nat.zero_le
abbrev JC:=@List.length_append
abbrev JD:=@if_false
abbrev JE:=@List.getD_eq_getElem?_getD
abbrev JF:=@PySem.wpAny_mono
abbrev JG:=@List.mem_cons_of_mem
abbrev JH:=@PySem.sizeLine_eq
abbrev JI:=@PyProof.Rows.boot_tuple
abbrev JJ:=@PySem.PassesOwn.never
abbrev JK:=@Nat.lt_of_lt_of_le
abbrev JL:=@PySem.wpAny_holding
abbrev JM:=@Nat.le_trans
abbrev JN:=@List.length_cons
abbrev JO:=@Int.le_refl
abbrev JP:=@List.filterMap_cons
abbrev JQ:=@Bool.false_ne_true
abbrev JR:=@List.map_cons
abbrev JS:=@PySem.wpAny_field
abbrev JT:=@PySem.wpAny_call_entry
abbrev JU:=@List.map_append
abbrev JV:=@PySem.W.mg_none_of
abbrev JW:=@List.mem_append
abbrev JX:=@PySem.Heap.size_push
abbrev JY:=@Nat.ne_of_gt
abbrev JZ:=@Nat.lt_irrefl
abbrev J0:=@congrArg
abbrev J1:=@List.mem_append_right
abbrev J3:=@beq_iff_eq
abbrev J4:=@List.mem_range
abbrev J5:=@PySem.W.kia_one
abbrev J6:=@PySem.Heap.SameBut.update
abbrev J7:=@List.any_cons
abbrev J8:=@PySem.boot_len
abbrev J9:=@List.getElem?_append_right
abbrev DQ:=@Option.map_eq_some_iff
abbrev DR:=@List.getElem?_append_left
abbrev DS:=@PySem.wpAny_newObj_type
abbrev DT:=@PyProof.Rows.boot_list
abbrev DU:=@Bool.false_and
abbrev DV:=@PySem.wpAny_rule
abbrev DW:=@List.length_take
abbrev DX:=@List.mem_of_getElem?
abbrev DY:=@List.lookup_cons
abbrev DZ:=@Int.toNat_natCast
abbrev D3:=@PySem.wpAny_of_eq
abbrev D4:=@List.take_add_one
abbrev D5:=@Bool.eq_iff_iff
abbrev D6:=@Nat.lt_succ_self
abbrev D7:=@List.append_nil
abbrev D8:=@if_true
abbrev D9:=@PySem.wpAny_setField
abbrev Eb:=@Nat.le_succ
abbrev Ec:=@Nat.lt_succ_of_lt
abbrev Ed:=@PySem.wpAny_attempt
abbrev Ee:=@List.take_length
abbrev Eg:=@List.map_map
abbrev Eh:=@beq_eq_false_iff_ne
abbrev Ei:=@PySem.wpAny_truthy_bool
abbrev Ej:=@PySem.wpAny_standAt
abbrev Ek:=@List.nodup_cons
abbrev El:=@List.append_assoc
abbrev Eo:=@List.length_singleton
abbrev Ep:=@Option.getD_some
abbrev Er:=@List.getElem_mem
abbrev Es:=@PySem.wpAny_seqItems
abbrev Et:=@PySem.wpAny_isInstance
abbrev Eu:=@Nat.le_add_right
abbrev Ew:=@PySem.codeAny_builtin
abbrev Ex:=@Int.emod_nonneg
abbrev Ey:=@Int.emod_lt_of_pos
abbrev Ez:=@PySem.W.mg_of
abbrev EA:=@Bool.true_and
abbrev EB:=@PySem.F.plainAttrs_list
abbrev EC:=@PySem.wpAny_pyIter_tuple
abbrev ED:=@PyProof.Rows.callWith_type1
abbrev EE:=@PySem.Heap.get?_update_self
abbrev EF:=@List.all_eq_true
abbrev EG:=@PySem.F.slot_zip_next
abbrev EH:=@PySem.isSubtype_type
abbrev EI:=@beq_self_eq_true
abbrev EJ:=@PyProof.Rows.boot_int
abbrev EK:=@PyProof.Rows.boot_bool
abbrev EL:=@List.mem_append_left
abbrev EM:=@PySem.codeAny_mono
abbrev EN:=@PySem.mem_of_lookup
abbrev EO:=@PySem.Obj.data_mapFields
abbrev ER:=@PySem.wpAny_specialOf
abbrev ES:=@List.find?_cons
abbrev ET:=@Bool.eq_false_iff
abbrev EU:=@PyProof.Rows.boot_str
abbrev EV:=@PySem.F.slot_list_append
abbrev EW:=@PySem.F.type_list_append
abbrev EX:=@PySem.wpAny_pyIter_list
abbrev EY:=@PySem.wpAny_typeOf
abbrev EZ:=@PySem.Heap.get?_update_other
abbrev E1:=@List.length_set
abbrev E2:=@List.replicate_succ
abbrev E3:=@PySem.call_meets
abbrev E4:=@PySem.wpAny_loadPart'
abbrev E5:=@PySem.W.kia_tup
abbrev E6:=@PySem.typeLookup_type
abbrev E7:=@PySem.builtinLookup_eq_fast
abbrev E8:=@beq_false_of_ne
abbrev E9:=@List.nodup_append
abbrev Fb:=@Nat.le_of_lt
abbrev Fc:=@PySem.wpAny_passesOwn
abbrev Fd:=@List.map_nil
abbrev Fe:=@Nat.le_of_not_lt
abbrev Ff:=@PySem.wpAny_pyIter_enum
abbrev Fg:=@decide_eq_true_iff
abbrev Fh:=@PySem.isSubtype_stop
abbrev Fi:=@PySem.wpAny_setField_rec
abbrev Fj:=@List.map_congr_left
abbrev Fk:=@PySem.Around.in1_units
abbrev Fl:=@List.nodup_nil
abbrev Fn:=@List.getElem?_range
abbrev Fo:=@List.getElem?_set_self
abbrev Fp:=@List.getElem?_set_ne
abbrev Fq:=@Nat.le_of_eq
abbrev Ft:=@PySem.wpAny_Call_Name_kw
abbrev Fu:=@List.length_drop
abbrev Fv:=@PyProof.Rows.slot_tuple_getitem
abbrev Fw:=@List.flatten_cons
abbrev Fx:=@PySem.F.slot_tuple_iterator_next
abbrev Fy:=@PySem.Obj.isFreed_of_fields
abbrev FA:=@PySem.F.entry_zip_next
abbrev FB:=@PySem.F.args_zip_next_1
abbrev FC:=@PySem.wpAny_pyIter_zip
abbrev FD:=@PySem.tupleKind_room_in1
abbrev FE:=@PyProof.Rows.boot_all
abbrev FF:=@PySem.wpAny_pyIter_rangeiter
abbrev FG:=@Option.isSome_iff_exists
abbrev FH:=@List.length_replicate
abbrev FI:=@PySem.F.slot_tuple_add
abbrev FJ:=@PySem.F.entry_tuple_add
abbrev FK:=@PySem.F.args_tuple_add_2
abbrev FL:=@List.getElem?_eq_none
abbrev FM:=@PySem.F.slot_dict_get
abbrev FN:=@Bool.not_eq_true'
abbrev FO:=@List.getElem?_append
end L0
open L0
namespace L0
open PySem
abbrev FW:=Value->Shared->Prop
abbrev FX:=Str->Option Value
abbrev FY:=List (Addr×Obj)
end L0
open L0
namespace L2
open PySem PySem.Spec PyProof.Rows
abbrev qL:=Sum Int Str
def fo:qL->Value->Bool
 | .inl k,v=>Value.isInt k v
 | .inr x,v=>Value.isStrOf x v
def DI(w:World):qL->Int
 | .inl k=>hashInt k
 | .inr x=>hashStr w x
theorem zK:∀{k:qL} {v:Value},fo k v=true->(∃i t,k=Sum.inl i/\v=Value.int i t)\/(∃x t,k=Sum.inr x/\v=Value.str x t)
 | .inl i,v,h=>by
  obtain⟨t,e⟩:=Value.isInt_shape (k:=i) (v:=v) h
  exact .inl ⟨i,t,rfl,e⟩
 | .inr x,v,h=>by
  obtain⟨t,e⟩:=Value.isStrOf_shape (x:=x) (v:=v) h
  exact .inr ⟨x,t,rfl,e⟩
theorem tI(i:Int)(t:Tok):fo (.inl i) (.int i t)=true:=by simp [fo,Value.isInt]
theorem uD(x:Str)(t:Tok):fo (.inr x) (.str x t)=true:=by simp [fo,Value.isStrOf]
theorem BA(a b:Int):decide ((Sum.inl a:qL)=Sum.inl b)=(a==b):=by
 by_cases e:a=b
 ·subst e;simp
 ·have h:¬(Sum.inl a:qL)=Sum.inl b:=fun q=>e (Sum.inl.inj q)
  rw[Jn h]
  exact(Eh.mpr e).symm
theorem Ct(a b:Str):decide ((Sum.inr a:qL)=Sum.inr b)=decide (a=b):=by
 by_cases e:a=b
 ·subst e;simp
 ·have h:¬(Sum.inr a:qL)=Sum.inr b:=fun q=>e (Sum.inr.inj q)
  rw[Jn h,Jn e]
theorem Cv(a:Int)(b:Str):decide ((Sum.inl a:qL)=Sum.inr b)=false:=Jn (fun q=>nomatch q)
theorem Bk(a:Str)(b:Int):decide ((Sum.inr a:qL)=Sum.inl b)=false:=Jn (fun q=>nomatch q)
def qX(prog:Program)(w:World):PySem.KeyKind prog w qL where
 is:=fo
 hash:=DI w
 inj:=fun v a b ha hb=>by
  rcases zK ha with⟨i,t,rfl,rfl⟩|⟨x,t,rfl,rfl⟩
  ·rcases zK hb with⟨j,u,rfl,e⟩|⟨y,u,rfl,e⟩
   ·injection e with e1 _;rw[e1]
   ·exact nomatch e
  ·rcases zK hb with⟨j,u,rfl,e⟩|⟨y,u,rfl,e⟩
   ·exact nomatch e
   ·injection e with e1 _;rw[e1]
 byValue:=fun k v h=>by
  rcases zK h with⟨i,t,rfl,rfl⟩|⟨x,t,rfl,rfl⟩<;>rfl
 pyHash:=fun hv h=>by
  rcases zK hv with⟨i,t,rfl,rfl⟩|⟨x,t,rfl,rfl⟩
  ·exact wpAny_pyHash_int h
  ·exact wpAny_pyHash_str h
 eqBool:=fun hu hv h=>by
  rcases zK hu with⟨i,t,rfl,rfl⟩|⟨x,t,rfl,rfl⟩
  ·rcases zK hv with⟨j,u,rfl,rfl⟩|⟨y,u,rfl,rfl⟩
   ·rw[BA]at h;exact wpAny_eqBool_int h
   ·rw[Cv]at h;exact SeqAt.EqAt.int_str i t y u _ _ _ _ h
  ·rcases zK hv with⟨j,u,rfl,rfl⟩|⟨y,u,rfl,rfl⟩
   ·rw[Bk]at h;exact SeqAt.EqAt.str_int x t j u _ _ _ _ h
   ·rw[Ct]at h;exact wpAny_eqBool_str h
 «strs»:=fun k x t v h=>by
  rcases zK h with⟨i,u,rfl,e⟩|⟨y,u,rfl,e⟩
  ·exact nomatch e
  ·injection e with e1 _
   subst e1;cases v<;>rfl
theorem mU(prog:Program)(w:World)(i:Int)(t:Tok):(qX prog w).is (.inl i) (.int i t)=true:=tI i t
theorem mO(prog:Program)(w:World)(x:Str)(t:Tok):(qX prog w).is (.inr x) (.str x t)=true:=uD x t
inductive V where
 |non|bl (b:Bool)|int (i:Int)|str (x:Str)|byt (b:Array UInt8)|flt (b:UInt64)|ref (a:Addr)|ty (n:String)
 deriving DecidableEq
def F9:V->Value->Prop
 | .non,u=>u=Value.none
 | .bl b,u=>u=Value.bool b
 | .int i,u=>∃t,u=Value.int i t
 | .str x,u=>∃t,u=Value.str x t
 | .byt b,u=>∃t,u=Value.bytes b t
 | .flt b,u=>∃t,u=Value.float b t
 | .ref a,u=>u=Value.ref a
 | .ty n,u=>u=Value.type n
abbrev F6:List V->List Value->Prop:=Paired F9
theorem F6.length{xs:List V}{us:List Value}(r:F6 xs us):xs.length=us.length:=Paired.length r
theorem F6.get:∀{xs:List V} {us:List Value} {i:Nat} {x:V},F6 xs us->xs[i]? =some x->∃u,us[i]? =some u/\F9 x u
 |_,_,_,_,.nil,e=>by simp at e
 |_,_,0,_,.cons r _,e=>by simp at e;subst e;exact⟨_,rfl,r⟩
 |_,_,i+1,x,.cons _ t,e=>by
  obtain⟨u,h1,h2⟩:=F6.get (i:=i) (x:=x) t (by simpa using e)
  exact⟨u,by simpa using h1,h2⟩
theorem F6.set{x:V}{u:Value}(r:F9 x u):∀{xs:List V} {us:List Value} (i:Nat),F6 xs us->F6 (xs.set i x) (us.set i u)
 |_,_,_,.nil=> .nil
 |_,_,0,.cons _ t=> .cons r t
 |_,_,i+1,.cons q t=> .cons q (F6.set r i t)
theorem F6.append:∀{xs ys:List V} {us ws:List Value},F6 xs us->F6 ys ws->F6 (xs++ys) (us++ws)
 |_,_,_,_,.nil,s=>s
 |_,_,_,_,.cons r t,s=> .cons r (F6.append t s)
theorem F6.take:∀{xs:List V} {us:List Value} (n:Nat),F6 xs us->F6 (xs.take n) (us.take n)
 |_,_,0,_=> .nil
 |_,_,_+1,.nil=> .nil
 |_,_,n+1,.cons r t=> .cons r (F6.take n t)
theorem F6.drop:∀{xs:List V} {us:List Value} (n:Nat),F6 xs us->F6 (xs.drop n) (us.drop n)
 |_,_,0,r=>r
 |_,_,_+1,.nil=> .nil
 |_,_,n+1,.cons _ t=>F6.drop n t
def GY:Option V->Option Value->Prop
 |some v,some u=>F9 v u
 |none,none=>True
 |_,_=>False
def KV{κ:Type}:List (κ×V)->List (κ×Value)->Prop:=Paired fun(p:κ×V) (q:κ×Value)=>p.1=q.1/\F9 p.2 q.2
def kV:qL->V
 | .inl i=> .int i
 | .inr x=> .str x
inductive HO where
 |lst (xs:List V)
 |tup (xs:List V)
 |dK (kvs:List (qL×V))|dT (kvs:List (List qL×V))
 |set (S:Int->Bool) (n:Nat)
 |ins (C dx:Addr) (fs:List (Str×V))
 |own (x:Addr)
 |xd (fs:List (Str×V))
 |met (f x:Addr)
 |rng (lo hi:Int)
 |frz (o:Obj) (u:HO)
 |tbl (ps:Array Value)
 |ext (φ:Heap->Prop)
abbrev Hp:=Addr->Option HO
def F5(H:Hp)(a:Addr)(o:HO):Hp:=fun b=>if b=a then some o else H b
theorem qb{H:Hp}{a:Addr}{o:HO}:F5 H a o a=some o:=by unfold F5;rw[Jc rfl]
theorem qj{H:Hp}{a b:Addr}{o:HO}(h:b≠a):F5 H a o b=H b:=by unfold F5;rw[Jb h]
theorem Q5{H:Hp}{a b:Addr}{o u:HO}(h:H a=some o)(h':H b=some u)(d:o≠u):a≠b:=by
 intro e;subst e;rw[h]at h';exact d (Jy h')
theorem qi{H:Hp}{a b:Addr}{o:HO}(h:H a=some o)(h':H b=none):a≠b:=by
 intro e;subst e;rw[h]at h';cases h'
section
variable(P:Program)(w:World)
def Gg(H:Hp)(h:Heap)(a:Addr):HO->Prop
 | .lst xs=>xs.length<=sizeLine/\∃(its:List Value) (n:Nat),F6 xs its/\h.get? a=some {cls:= .type "list",data:= .seq its.toArray n}
 | .tup xs=>xs.length<=sizeLine/\∃its:List Value,F6 xs its/\IsTup h a its.toArray
 | .dK kvs=>kvs.length<=sizeLine/\(a==sysModules)=false/\∃vs,KV kvs vs/\h.DictOf (qX P w) a vs
 | .dT kvs=>kvs.length<=sizeLine/\(a==sysModules)=false/\∃xs:List (List qL×Addr×Value),
   Paired (fun(p:List qL×V) (q:List qL×Addr×Value)=>p.1=q.1/\H q.2.1=some (.tup (p.1.map kV))/\F9 p.2 q.2.2) kvs xs/\
   ∃o es ep,h.get? a=some o/\o.ExactDict/\o.data= .dict es ep/\es.toList=xs.map (entryOfKey (tupleKind (qX P w)))/\(xs.map (·.1)).Nodup
 | .set S n=>h.SetOf (intKind P w) a S n
 | .ins C dx fs=>H dx=some (.own a)/\fs.length<=1000/\dx≠a/\h.get? a=some (PySem.W.instObj C dx)/\
   ∃mA,h.Ns1 dx mA/\(∀f,GY (fs.lookup f) (mA f))/\PySem.Within mA (fs.map (·.1))
 | .own _=>∃o,h.get? a=some o
 | .xd fs=>∃mA,h.Ns1 a mA/\∀f,GY (fs.lookup f) (mA f)
 | .rng lo hi=>∃t u v,h.get? a=some {cls:= .type "range",data:= .fields #[.int lo t,.int hi u,.int 1 v]}
 | .frz o u=>h.get? a=some o/\Gg H h a u
 | .tbl ps=>h.get? a=some {cls:= .none,data:= .fields ps}
 | .met f x=>h.get? a=some (PySem.W.methodObj (.ref f) (.ref x))
 | .ext φ=>φ h/\(∃o,h.get? a=some o)/\∀h1 h2:Heap,φ h1->(∀o,h1.get? a=some o->h2.get? a=some o)->φ h2
def Ht(H:Hp)(h:Heap):Prop:=∀a o,H a=some o->Gg P w H h a o
end
section
variable{P:Program}{w:World}{H H':Hp}{h h':Heap}{a:Addr}{o:HO}
theorem Gg.lt(x:Gg P w H h a o):a<h.objs.size:=by
 cases o with
 |lst xs=>obtain⟨_,_,_,_,e⟩:=x;exact Jh e
 |tup xs=>obtain⟨_,_,_,p⟩:=x;exact p.lt
 |dK kvs=>obtain⟨_,_,_,_,o,_,_,e,_⟩:=x;exact Jh e
 |dT kvs=>obtain⟨_,_,_,_,o,_,_,e,_⟩:=x;exact Jh e
 |set S n=>obtain⟨o,_,_,_,e,_⟩:=x;exact Jh e
 |ins C dx fs=>obtain⟨_,_,_,e,_⟩:=x;exact Jh e
 |own y=>obtain⟨_,e⟩:=x;exact Jh e
 |xd fs=>obtain⟨_,⟨_,_,_,e,_⟩,_⟩:=x;exact Jh e
 |rng lo hi=>obtain⟨_,_,_,e⟩:=x;exact Jh e
 |frz ob u=>obtain⟨e,_⟩:=x;exact Jh e
 |tbl ps=>exact Jh (show h.get? a=some _ from x)
 |met f y=>exact Jh (show h.get? a=some _ from x)
 |ext φ=>obtain⟨_,⟨_,e⟩,_⟩:=x;exact Jh e
theorem Paired.mapP{α β:Type}{F G:α->β->Prop}:∀{l₁:List α} {l₂:List β},Paired F l₁ l₂->(∀a b,F a b->G a b)->Paired G l₁ l₂
 |_,_,.nil,_=> .nil
 |_,_,.cons r t,f=> .cons (f _ _ r) (Paired.mapP t f)
theorem Gg.stay(x:Gg P w H h a o)(k:∀b u,(b=a\/H b=some (.own a))->h.get? b=some u->h'.get? b=some u)
  (ho:∀b,H b=some (.own a)->H' b=some (.own a))(ht:∀b xs,H b=some (.tup xs)->H' b=some (.tup xs)):Gg P w H' h' a o:=by
 induction o with
 |lst xs=>obtain⟨z,its,n,r,e⟩:=x;exact⟨z,its,n,r,k _ _ (.inl rfl) e⟩
 |tup xs=>obtain⟨z,its,r,ob,e,c⟩:=x;exact⟨z,its,r,ob,k _ _ (.inl rfl) e,c⟩
 |dK kvs=>obtain⟨z,y,vs,r,ob,es,ep,e,c⟩:=x;exact⟨z,y,vs,r,ob,es,ep,k _ _ (.inl rfl) e,c⟩
 |dT kvs=>
  obtain⟨z,y,xs,r,ob,es,ep,e,c⟩:=x
  exact⟨z,y,xs,Paired.mapP r fun p q z=>⟨z.1,ht _ _ z.2.1,z.2.2⟩,ob,es,ep,k _ _ (.inl rfl) e,c⟩
 |set S n=>obtain⟨ob,es,ep,t,e,c⟩:=x;exact⟨ob,es,ep,t,k _ _ (.inl rfl) e,c⟩
 |ins C dx fs=>
  obtain⟨d,z,ne,e,mA,⟨od,es,ep,e2,c⟩,r⟩:=x
  exact⟨ho _ d,z,ne,k _ _ (.inl rfl) e,mA,⟨od,es,ep,k _ _ (.inr d) e2,c⟩,r⟩
 |own y=>obtain⟨ob,e⟩:=x;exact⟨ob,k _ _ (.inl rfl) e⟩
 |xd fs=>obtain⟨mA,⟨od,es,ep,e,c⟩,r⟩:=x;exact⟨mA,⟨od,es,ep,k _ _ (.inl rfl) e,c⟩,r⟩
 |rng lo hi=>obtain⟨t,u,v,e⟩:=x;exact⟨t,u,v,k _ _ (.inl rfl) e⟩
 |frz ob u ih=>obtain⟨e,q⟩:=x;exact⟨k _ _ (.inl rfl) e,ih q⟩
 |tbl ps=>
  have e:h.get? a=some {cls:= .none,data:= .fields ps}:=x
  show h'.get? a=some {cls:= .none,data:= .fields ps}
  exact k a _ (.inl rfl) e
 |met f y=>
  have e:h.get? a=some (W.methodObj (.ref f) (.ref y)):=x
  show h'.get? a=some (W.methodObj (.ref f) (.ref y))
  exact k a _ (.inl rfl) e
 |ext φ=>obtain⟨p,⟨o,e⟩,st⟩:=x;exact⟨st _ _ p fun o q=>k _ _ (.inl rfl) q,⟨o,k _ _ (.inl rfl) e⟩,st⟩
theorem Ht.lt(x:Ht P w H h)(e:H a=some o):a<h.objs.size:=(x a o e).lt
theorem Ht.fresh(x:Ht P w H h)(e:h.objs.size<=a):H a=none:=by
 cases q:H a with
 |none=>rfl
 |some u=>exact absurd (JK (x.lt q) e) (JZ _)
theorem Ht.kept(x:Ht P w H h)(k:∀b u,h.get? b=some u->h'.get? b=some u):Ht P w H h':=fun a o e=>
 (x a o e).stay (fun b u _ q=>k b u q) (fun _ q=>q) fun _ _ q=>q
theorem Ht.laid(x:Ht P w H h)(k:∀b u,h.get? b=some u->h'.get? b=some u)(hp:h.objs.size<=a)(new:Gg P w (F5 H a o) h' a o):Ht P w (F5 H a o) h':=fun b u e=>by
 have hn:=x.fresh hp
 by_cases hb:b=a
 ·subst hb;rw[qb]at e;cases e;exact new
 ·rw[qj hb]at e
  exact(x b u e).stay (fun c v _ q=>k c v q) (fun c q=>by rw[qj (qi q hn)];exact q) fun c xs q=>by rw[qj (qi q hn)];exact q
end
def Rd(H:Hp)(a:Addr)(u:HO):Prop:=H a=some u\/∃o,H a=some (.frz o u)
theorem Rd.of{H:Hp}{a:Addr}{u:HO}(h:H a=some u):Rd H a u:= .inl h
theorem Rd.ok{P:Program}{w:World}{H:Hp}{h:Heap}{a:Addr}{u:HO}(r:Rd H a u)(x:Ht P w H h):Gg P w H h a u:=by
 rcases r with r|⟨o,r⟩
 ·exact x a u r
 ·obtain⟨_,q⟩:=x a _ r
  exact q
def sM:Option HO->Prop
 |some (.lst _)=>True
 |some (.dK _)=>True
 |some (.dT _)=>True
 |some (.set _ _)=>True
 |some (.ins _ _ _)=>True
 |some (.ext _)=>True
 |_=>False
section
variable{P:Program}{w:World}{H:Hp}{h h':Heap}{x e:Addr}{o':HO}
theorem Ht.write(ok:Ht P w H h)(mu:sM (H x))(he:e=x\/H e=some (.own x))(k:∀b u,b≠e->h.get? b=some u->h'.get? b=some u)(heo:∃u,h'.get? e=some u)
  (new:Gg P w (F5 H x o') h' x o'):Ht P w (F5 H x o') h':=fun b u q=>by
 have nown:∀c y,H c=some (.own y)->c≠x:=fun c y r z=>by subst z;rw[r]at mu;exact mu
 have ntup:∀c xs,H c=some (.tup xs)->c≠x:=fun c xs r z=>by subst z;rw[r]at mu;exact mu
 by_cases hb:b=x
 ·subst hb;rw[qb]at q;cases q;exact new
 ·rw[qj hb]at q
  by_cases hbe:b=e
  ·have q':H b=some (.own x):=by
    rcases he with z|z
    ·exact absurd (hbe.trans z) hb
    ·rw[hbe];exact z
   rw[q]at q';cases q'
   obtain⟨v,hv⟩:=heo
   exact⟨v,by rw[hbe];exact hv⟩
  ·refine(ok b u q).stay (fun c v hc r=>k c v ?_ r) (fun c r=>by rw[qj (nown c b r)];exact r) fun c xs r=>by rw[qj (ntup c xs r)];exact r
   rcases hc with rfl|hc
   ·exact hbe
   ·rintro rfl
    rcases he with z|z
    ·exact nown c b hc z
    ·rw[hc]at z;cases z;exact hb rfl
end
structure Un(fs ex:List Addr)(H H':Hp)(h h':Heap):Prop where
 keep:∀b o,h.get? b=some o->H b=none->b∉fs->b∉ex->h'.get? b=some o
 slot:∀b o,h.get? b=some o->H b=none->b∈fs->b∉ex->∃sl,h'.get? b=some {o with slots:=sl}
 free:∀b o,h.get? b=some o->H b=none->b∉ex->H' b=none
 there:∀b o,h.get? b=some o->b∉ex->∃o',h'.get? b=some o'
 tups:∀b xs,H b=some (.tup xs)->H' b=some (.tup xs)
 frzs:∀b o u,H b=some (.frz o u)->H' b=some (.frz o u)
 tbls:∀b ps,H b=some (.tbl ps)->∃more,H' b=some (.tbl (ps++more))
section
variable{fs ex:List Addr}{H H1:Hp}{h h1 h':Heap}{a x e:Addr}{o:HO}
theorem Un.any(u:Un fs ex H H1 h h1){b:Addr}{ob:Obj}(q:h.get? b=some ob)(n:H b=none)(hx:b∉ex):∃sl,h1.get? b=some {ob with slots:=sl}:=by
 by_cases hb:b∈fs
 ·exact u.slot b ob q n hb hx
 ·exact⟨ob.slots,u.keep b ob q n hb hx⟩
theorem Un.kept(k:∀b u,h.get? b=some u->h'.get? b=some u):Un fs ex H H h h':=
 ⟨fun b ob q _ _ _=>k b ob q,fun b ob q _ _ _=>⟨ob.slots,k b ob q⟩,fun _ _ _ n _=>n,fun b ob q _=>⟨ob,k b ob q⟩,fun _ _ q=>q,fun _ _ _ q=>q,fun _ ps q=>⟨#[],by rw[q];simp⟩⟩
theorem Un.refl:Un fs ex H H h h:=Un.kept fun _ _ q=>q
theorem Un.laid(k:∀b u,h.get? b=some u->h'.get? b=some u)(hp:h.objs.size<=a)(hn:H a=none):Un fs ex H (F5 H a o) h h' where
 keep:=fun b u q _ _ _=>k b u q
 slot:=fun b u q _ _ _=>⟨u.slots,k b u q⟩
 free:=fun b u q n _=>by rw[qj (Jm (JK (Jh q) hp))];exact n
 there:=fun b u q _=>⟨u,k b u q⟩
 tups:=fun b xs q=>by rw[qj (qi q hn)];exact q
 frzs:=fun b u xs q=>by rw[qj (qi q hn)];exact q
 tbls:=fun b ps q=>⟨#[],by rw[qj (qi q hn),q];simp⟩
theorem Un.write(mu:sM (H x))(he:e=x\/H e=some (.own x))(k:∀b u,b≠e->h.get? b=some u->h'.get? b=some u)(heo:∃u,h'.get? e=some u):Un fs ex H (F5 H x o) h h':=by
 have hx:∀b,H b=none->b≠x:=fun b n z=>by subst z;rw[n]at mu;exact mu
 have hb:∀b,H b=none->b≠e:=fun b n z=>by
  subst z;rcases he with r|r
  ·exact hx b n r
  ·rw[n]at r;cases r
 have hm:∀b u,H b=some u->¬sM (some u)->b≠x:=fun b u q nm z=>by subst z;rw[q]at mu;exact nm mu
 refine⟨fun b u q n _ _=>k b u (hb b n) q,fun b u q n _ _=>⟨u.slots,k b u (hb b n) q⟩,fun b u q n _=>by rw[qj (hx b n)];exact n,fun b u q _=>?_,
  fun b xs q=>by rw[qj (hm b _ q fun z=>z)];exact q,fun b u xs q=>by rw[qj (hm b _ q fun z=>z)];exact q,fun b ps q=>⟨#[],by rw[qj (hm b _ q fun z=>z),q];simp⟩⟩
 by_cases hbe:b=e
 ·subst hbe;exact heo
 ·exact⟨u,k b u hbe q⟩
end
def xy(h:Heap)(H:Hp):List Addr:=(List.range h.objs.size).filter fun a=>(H a).isSome
def cD(h:Heap)(H:Hp):Heap:=PySem.W.hideAll h (xy h H)
theorem sI(h:Heap)(H:Hp):(cD h H).objs.size=h.objs.size:=W.hideAll_size _ _
theorem vV{h:Heap}{H:Hp}{b:Addr}{o:Obj}(e:h.get? b=some o)(n:H b=none):(cD h H).get? b=some o:=
 W.hideAll_get _ e fun hm=>by
  have q:(H b).isSome=true:=(List.mem_filter.mp hm).2
  rw[n]at q;simp at q
theorem yZ{h:Heap}{H:Hp}{b:Addr}{o:Obj}(e:(cD h H).get? b=some o):h.get? b=some o/\H b=none:=by
 have e':h.get? b=some o:=W.of_hideAll (xy h H) e
 refine⟨e',?_⟩
 cases q:H b with
 |none=>rfl
 |some x=>
  have hm:b∈xy h H:=List.mem_filter.mpr ⟨J4.mpr (Jh e'),by simp [q]⟩
  have z:(cD h H).get? b=none:=W.hideAll_none (xy h H) hm
  rw[z]at e;cases e
structure IU(K:Frag)(mg:FX)(base:Heap):Prop where
 kin:K.In base
 glob:base.Ns mainGlobals mg
 blt:∃mb,base.Ns builtinsNs mb/\∀x:Str,x≠"__name__"->mb x=bootBuiltins x
 nolimit:base.NoLimit
structure Cx where
 prog:Program
 w:World
 K:Frag
 mg:Str->Option Value
 base:Heap
 A:Around
 N:List Str
 s₀:Shared
 H₀:Hp
 env:Env
 outer:List Env
 stack:List Env
 ex:List Addr
 fn:Str->Bool
 calm:Bool
 pn:List (Addr×Obj)
 xe:Value->Shared->Prop
def bJ(l:List Env):List Addr:=l.filterMap (·.frame)
abbrev Cx.fs(X:Cx):List Addr:=bJ X.outer
def Bb(sc:Scope)(x:Str):Prop:=sc.names.lookup x=some .local\/sc.names.lookup x=some .cell\/sc.names.lookup x=some .free
def ju(sc:Scope)(x:Str):Prop:=sc.names.lookup x=some .local\/sc.names.lookup x=some .cell
def DA(env:Env)(h:Heap)(m:FX)(x:Str)(u:Value):Prop:=
 (env.kindOf x=some .local/\m x=some u)\/((env.kindOf x=some .cell\/env.kindOf x=some .free)/\∃c,env.cells.lookup x=some c/\h.IsCell c (some u))
structure Cx.Ok(X:Cx):Prop where
 mod:IU X.K X.mg X.base
 kind:X.env.scope.kind= .function
 glob:X.env.globals=mainGlobals
 blt:X.env.builtins=builtinsNs
 above:X.s₀.heap.objs.size<=X.env.locals
 inj:∀x y c,X.env.cells.lookup x=some c->X.env.cells.lookup y=some c->x=y
 has:∀x,(X.env.kindOf x=some .cell\/X.env.kindOf x=some .free)->∃c,X.env.cells.lookup x=some c
 cab:∀x c,X.fn x=true->X.env.cells.lookup x=some c->X.s₀.heap.objs.size<=c
 hd:X.calm=true->X.A.handled=none
 frames:X.A.frames=some X.stack
 stk:X.stack=X.outer\/(X.stack=X.env::X.outer/\X.env.frame=some X.env.locals)
 exf:∀b∈X.ex,b≠X.env.locals/\∀x c,X.env.cells.lookup x=some c->c≠b
 bs:∀b o,X.base.get? b=some o->X.s₀.heap.get? b=some o/\X.H₀ b=none
 bsz:X.base.objs.size<=X.s₀.heap.objs.size
 noex:∀b o,X.base.get? b=some o->b∉X.ex
 exfs:∀b∈X.ex,b∉X.fs
 funs:X.s₀.heap.FunFrames X.base X.outer
 frf:∀b∈X.fs,X.H₀ b=none
structure F3(X:Cx)(tx:FY)(σ:List (Option V))(H:Hp)(s:Shared):Prop where
 ok:X.Ok
 os:s.os=X.s₀.os
 bare:AllBare s.gens
 base:Un X.fs X.ex X.H₀ H X.s₀.heap s.heap
 loc:∃m,s.heap.Ns X.env.locals m/\∀(i:Nat) (x:Str) (v:V),X.N[i]? =some x->σ[i]? =some (some v)->Bb X.env.scope x->∃u,F9 v u/\DA X.env s.heap m x u
 cell:∀x c,X.env.cells.lookup x=some c->∃v,s.heap.IsCell c v
 free:H X.env.locals=none
 freeC:∀x c,X.env.cells.lookup x=some c->H c=none
 pin:∀p∈X.pn++tx,s.heap.get? p.1=some p.2/\H p.1=none/\p.1≠X.env.locals/\p.1∉X.fs/\∀v,p.2.data≠ .cell v
 hok:Ht X.prog X.w H s.heap
 len:σ.length=X.N.length
section
variable{X:Cx}{tx:FY}{σ:List (Option V)}{H H':Hp}{s:Shared}{h':Heap}
theorem Cx.Ok.nofr(ok:X.Ok){b:Addr}{o:Obj}(e:X.base.get? b=some o):b∉X.fs:=fun hb=>by
 have:=(ok.funs.mem hb).1
 rw[e]at this;cases this
theorem F3.bs(I:F3 X tx σ H s):∀b o,X.base.get? b=some o->s.heap.get? b=some o/\H b=none:=fun b o e=>
 ⟨I.base.keep b o (I.ok.bs b o e).1 (I.ok.bs b o e).2 (I.ok.nofr e) (I.ok.noex b o e),I.base.free b o (I.ok.bs b o e).1 (I.ok.bs b o e).2 (I.ok.noex b o e)⟩
theorem F3.bk(I:F3 X tx σ H s):∀b o,X.base.get? b=some o->s.heap.get? b=some o:=fun b o e=>(I.bs b o e).1
theorem F3.mod(I:F3 X tx σ H s):IU X.K X.mg X.base:=I.ok.mod
theorem F3.kIn(I:F3 X tx σ H s):X.K.In s.heap:=I.ok.mod.kin.keeps I.bk
theorem F3.lt(I:F3 X tx σ H s):X.env.locals<s.heap.objs.size:=let⟨_,hn,_⟩:=I.loc;hn.lt
theorem F3.sz(I:F3 X tx σ H s):X.s₀.heap.objs.size<=s.heap.objs.size:=JM I.ok.above (Fb I.lt)
theorem F3.nofs(I:F3 X tx σ H s){a:Addr}(h:s.heap.objs.size<=a):a∉X.fs:=fun hb=>by
 obtain⟨_,o,ho,_⟩:=I.ok.funs.mem hb;exact absurd (JK (Jh ho) (JM I.sz h)) (JZ _)
theorem F3.cne(I:F3 X tx σ H s):∀x c,X.env.cells.lookup x=some c->c≠X.env.locals:=fun x c e z=>by
 obtain⟨v,o,ho,hd⟩:=I.cell x c e;obtain⟨m,⟨o',es,ep,ho',hd',_⟩,_⟩:=I.loc;rw[z,ho']at ho;cases ho;rw[hd']at hd;cases hd
theorem F3.funs(I:F3 X tx σ H s):s.heap.FunFrames X.base X.outer:=by
 have all:∀(l:List Env),(∀b∈bJ l,b∈X.fs)->X.s₀.heap.FunFrames X.base l->s.heap.FunFrames X.base l:=by
  intro l
  induction l with
  |nil=>intro _ _;trivial
  |cons env r ih=>
   intro hs hl;obtain⟨hk,⟨L,o,hf,hn,ho,hd⟩,hr⟩:=hl;have hL:L∈X.fs:=hs L (by unfold bJ;rw[JP,hf];exact Jz)
   obtain⟨sl,e⟩:=I.base.slot L o ho (I.ok.frf L hL) hL fun z=>I.ok.exfs L z hL
   exact⟨hk,⟨L,_,hf,hn,e,hd⟩,ih (fun b hb=>hs b (by unfold bJ;rw[JP,hf];exact JG _ hb)) hr⟩
 exact all X.outer (fun _ hb=>hb) I.ok.funs
theorem F3.stack(I:F3 X tx σ H s):s.heap.FunFrames X.base X.stack:=by
 rcases I.ok.stk with e|⟨e,hf⟩
 ·rw[e];exact I.funs
 ·rw[e]
  obtain⟨m,hn,_⟩:=I.loc;refine .cons (by rw[I.ok.kind];decide) hf hn ?_ I.funs
  exact Heap.get?_none_of_le (JM I.ok.bsz I.ok.above)
theorem F3.stkSub(I:F3 X tx σ H s):∀b∈bJ X.stack,b∈X.env.locals::X.fs:=fun b hb=>by
 rcases I.ok.stk with e|⟨e,hf⟩
 ·rw[e]at hb;exact JG _ hb
 ·rw[e]at hb
  unfold bJ at hb;rw[JP,hf]at hb;exact hb
theorem F3.stkFree(I:F3 X tx σ H s):∀b∈bJ X.stack,H b=none:=fun b hb=>by
 rcases Jk.mp (I.stkSub b hb)with e|hb
 ·rw[e];exact I.free
 ·obtain⟨_,o,ho,_⟩:=I.ok.funs.mem hb
  exact I.base.free b o ho (I.ok.frf b hb) fun z=>I.ok.exfs b z hb
theorem F3.step{g':Array GenState}{t':Nat}{d':Drawn}{ch:List Addr}(I:F3 X tx σ H s)
  (hch:∀b∈ch,(b∈X.ex\/X.s₀.heap.objs.size<=b)/\b≠X.env.locals/\(∀x c,X.env.cells.lookup x=some c->c≠b)/\∀p∈X.pn++tx,p.1≠b)
  (keep:∀b o,b≠X.env.locals->b∉X.fs->b∉ch->s.heap.get? b=some o->H b=none->h'.get? b=some o)
  (slot:∀b o,b≠X.env.locals->b∈X.fs->b∉ch->s.heap.get? b=some o->H b=none->∃sl,h'.get? b=some {o with slots:=sl})(free:∀b o,b∉ch->s.heap.get? b=some o->H b=none->H' b=none)
  (there:∀b o,b∉ch->s.heap.get? b=some o->∃o',h'.get? b=some o')
  (tups:∀b xs,H b=some (.tup xs)->H' b=some (.tup xs))(frzs:∀b o u,H b=some (.frz o u)->H' b=some (.frz o u))(tbls:∀b ps,H b=some (.tbl ps)->∃more,H' b=some (.tbl (ps++more)))
  (ns:∀m,s.heap.Ns X.env.locals m->h'.Ns X.env.locals m)(hok:Ht X.prog X.w H' h')(hg:AllBare g'):
  F3 X tx σ H' {s with heap:=h',gens:=g',drawn:=d',toks:=t'}:=by
 have neL:∀b o,X.s₀.heap.get? b=some o->b≠X.env.locals:=fun b o e=>Jm (JK (Jh e) I.ok.above)
 have neC:∀b o,X.s₀.heap.get? b=some o->b∉X.ex->b∉ch:=fun b o e hx hb=>by
  rcases(hch b hb).1 with z|z
  ·exact hx z
  ·exact absurd (JK (Jh e) z) (JZ _)
 have cellK:∀x c,X.env.cells.lookup x=some c->∀v,s.heap.IsCell c v->h'.IsCell c v:=fun x c e v ⟨o,ho,hd⟩=>by
  have nch:c∉ch:=fun z=>(hch c z).2.2.1 x c e rfl
  by_cases hc:c∈X.fs
  ·obtain⟨sl,q⟩:=slot c o (I.cne x c e) hc nch ho (I.freeC x c e)
   exact⟨_,q,hd⟩
  ·exact⟨o,keep c o (I.cne x c e) hc nch ho (I.freeC x c e),hd⟩
 refine⟨I.ok,I.os,hg,⟨fun b o e n hb hx=>?_,fun b o e n hb hx=>?_,fun b o e n hx=>?_,fun b o e hx=>?_,fun b xs e=>tups b xs (I.base.tups b xs e),fun b o xs e=>frzs b o xs (I.base.frzs b o xs e),fun b ps e=>?_⟩,?_,fun x c e=>?_,?_,fun x c e=>?_,fun p hp=>?_,hok,I.len⟩
 ·exact keep b o (neL b o e) hb (neC b o e hx) (I.base.keep b o e n hb hx) (I.base.free b o e n hx)
 ·obtain⟨sl,e1⟩:=I.base.slot b o e n hb hx
  obtain⟨sl',e2⟩:=slot b _ (neL b o e) hb (neC b o e hx) e1 (I.base.free b o e n hx)
  exact⟨sl',e2⟩
 ·obtain⟨o',e1⟩:=I.base.there b o e hx
  exact free b o' (neC b o e hx) e1 (I.base.free b o e n hx)
 ·obtain⟨o',e1⟩:=I.base.there b o e hx
  exact there b o' (neC b o e hx) e1
 ·obtain⟨m1,e1⟩:=I.base.tbls b ps e
  obtain⟨m2,e2⟩:=tbls b _ e1
  exact⟨m1++m2,by rw[e2,Array.append_assoc]⟩
 ·obtain⟨m,hn,hl⟩:=I.loc
  refine⟨m,ns m hn,fun i x v e1 e2 e3=>?_⟩
  obtain⟨u,r,l⟩:=hl i x v e1 e2 e3;refine⟨u,r,?_⟩
  rcases l with l|⟨k,c,e,z⟩
  ·exact .inl l
  ·exact .inr ⟨k,c,e,cellK x c e _ z⟩
 ·obtain⟨v,z⟩:=I.cell x c e
  exact⟨v,cellK x c e v z⟩
 ·obtain⟨m,⟨o,_,_,ho,_⟩,_⟩:=I.loc
  exact free _ o (fun z=>(hch _ z).2.1 rfl) ho I.free
 ·obtain⟨v,o,ho,hd⟩:=I.cell x c e
  exact free c o (fun z=>(hch c z).2.2.1 x c e rfl) ho (I.freeC x c e)
 ·obtain⟨e,n,ne,nf,d⟩:=I.pin p hp
  have nch:p.1∉ch:=fun z=>(hch p.1 z).2.2.2 p hp rfl
  exact⟨keep p.1 p.2 ne nf nch e n,free p.1 p.2 nch e n,ne,nf,d⟩
theorem F3.un{t':Nat}(I:F3 X tx σ H s)(u:Un X.fs [] H H' s.heap h')(hok:Ht X.prog X.w H' h'):F3 X tx σ H' {s with heap:=h',toks:=t'}:=by
 obtain⟨m,⟨o,es,ep,ho,r⟩,_⟩:=id I.loc;obtain⟨sl,hL⟩:=u.any ho I.free (by simp)
 exact I.step (g':=s.gens) (d':=s.drawn) (ch:=[]) (fun _ z=>nomatch z) (fun b o _ hb _ e n=>u.keep b o e n hb (by simp)) (fun b o _ hb _ e n=>u.slot b o e n hb (by simp)) (fun b o _ e n=>u.free b o e n (by simp)) (fun b o _ e=>u.there b o e (by simp)) u.tups u.frzs u.tbls (fun m' hm=>by
  obtain⟨o',es',ep',ho',r'⟩:=hm;rw[ho]at ho';cases ho'
  exact⟨_,es',ep',hL,r'⟩) hok I.bare
theorem F3.call{g':Array GenState}{t':Nat}{d':Drawn}{ch:List Addr}(I:F3 X tx σ H s)(u:Un (bJ X.stack) ch H H' s.heap h')(hok:Ht X.prog X.w H' h')(hg:AllBare g')
  (hch:∀b∈ch,(b∈X.ex\/X.s₀.heap.objs.size<=b)/\b≠X.env.locals/\(∀x c,X.env.cells.lookup x=some c->c≠b)/\∀p∈X.pn++tx,p.1≠b):
  F3 X tx σ H' {s with heap:=h',gens:=g',drawn:=d',toks:=t'}:=by
 obtain⟨m,⟨o,es,ep,ho,r⟩,_⟩:=id I.loc;obtain⟨sl,hL⟩:=u.any ho I.free fun z=>(hch _ z).2.1 rfl
 exact I.step (ch:=ch) hch (fun b o hL hb hc e n=>u.keep b o e n (fun z=>(Jk.mp (I.stkSub b z)).elim hL hb) hc) (fun b o _ _ hc e n=>u.any e n hc) (fun b o hc e n=>u.free b o e n hc) (fun b o hc e=>u.there b o e hc) u.tups u.frzs u.tbls (fun m' hm=>by
  obtain⟨o',es',ep',ho',r'⟩:=hm;rw[ho]at ho';cases ho'
  exact⟨_,es',ep',hL,r'⟩) hok hg
theorem F3.turned{t':Nat}{it:Addr}(I:F3 X tx σ H s)(k:∀b o,b≠it->s.heap.get? b=some o->h'.get? b=some o)(hn:H it=none)(hL:it≠X.env.locals)
  (h1:it∈X.ex\/X.s₀.heap.objs.size<=it)(h2:∀x c,X.env.cells.lookup x=some c->c≠it)(h3:∀p∈X.pn++tx,p.1≠it):F3 X tx σ H {s with heap:=h',toks:=t'}:=by
 have nit:∀b u,H b=some u->b≠it:=fun b u e z=>by rw[z,hn]at e;cases e
 refine I.step (g':=s.gens) (d':=s.drawn) (ch:=[it]) (fun b hb=>?_) (fun b o _ _ hc e _=>k b o (fun z=>hc (by simp [z])) e) (fun b o _ _ hc e _=>⟨o.slots,k b o (fun z=>hc (by simp [z])) e⟩) (fun _ _ _ _ n=>n)
  (fun b o hc e=>⟨o,k b o (fun z=>hc (by simp [z])) e⟩) (fun _ _ e=>e) (fun _ _ _ e=>e) (fun b ps e=>⟨#[],by rw[e];simp⟩) (fun m hm=>?_) (fun b u e=>?_) I.bare
 ·have e:b=it:=by simpa using hb
  subst e
  exact⟨h1,hL,h2,h3⟩
 ·obtain⟨o,es,ep,ho,r⟩:=hm
  exact⟨o,es,ep,k _ o (Ne.symm hL) ho,r⟩
 ·refine(I.hok b u e).stay (fun c v hc q=>k c v ?_ q) (fun _ q=>q) fun _ _ q=>q
  rcases hc with z|z
  ·rw[z];exact nit b u e
  ·exact nit c _ z
theorem F3.tok(I:F3 X tx σ H s)(t:Nat):F3 X tx σ H {s with toks:=t}:=I.un (h':=s.heap) (t':=t) Un.refl I.hok
theorem F3.kept{t':Nat}(I:F3 X tx σ H s)(k:∀b u,s.heap.get? b=some u->h'.get? b=some u):F3 X tx σ H {s with heap:=h',toks:=t'}:=I.un (Un.kept k) (I.hok.kept k)
theorem F3.laid{a:Addr}{o:HO}{t':Nat}(I:F3 X tx σ H s)(k:∀b u,s.heap.get? b=some u->h'.get? b=some u)(hp:s.heap.objs.size<=a)(new:Gg X.prog X.w (F5 H a o) h' a o):
  F3 X tx σ (F5 H a o) {s with heap:=h',toks:=t'}:=I.un (Un.laid k hp (I.hok.fresh hp)) (I.hok.laid k hp new)
theorem F3.write{x e:Addr}{o:HO}{t':Nat}(I:F3 X tx σ H s)(mu:sM (H x))(he:e=x\/H e=some (.own x))(k:∀b u,b≠e->s.heap.get? b=some u->h'.get? b=some u)(heo:∃u,h'.get? e=some u)
  (new:Gg X.prog X.w (F5 H x o) h' x o):F3 X tx σ (F5 H x o) {s with heap:=h',toks:=t'}:=I.un (Un.write mu he k heo) (I.hok.write mu he k heo new)
theorem F3.pins_of{pins':FY}(I:F3 X tx σ H s)(h:∀p∈pins',s.heap.get? p.1=some p.2/\H p.1=none/\p.1≠X.env.locals/\p.1∉X.fs/\∀v,p.2.data≠ .cell v):F3 X pins' σ H s:=
 ⟨I.ok,I.os,I.bare,I.base,I.loc,I.cell,I.free,I.freeC,fun p hp=>(JW.mp hp).elim (fun z=>I.pin p (EL _ z)) (h p),I.hok,I.len⟩
theorem lU{N:List Str}(hN:N.Nodup){i j:Nat}{x:Str}(a:N[i]? =some x)(b:N[j]? =some x):i=j:=by
 obtain⟨h1,e1⟩:=Jw.mp a;obtain⟨h2,e2⟩:=Jw.mp b
 exact(List.getElem_inj hN).mp (e1.trans e2.symm)
theorem jz{M:Model}{A:Around}{E:FW}{i:Nat}{x:Str}{v:V}{u:Value}{Q:Unit->Shared->Prop}(I:F3 X tx σ H s)(hN:X.N.Nodup)(hi:X.N[i]? =some x)(hx:ju X.env.scope x)(r:F9 v u)
  (h:∀s',F3 X tx (σ.set i (some v)) H s'->(∃a,Heap.SameBut a s.heap s'.heap/\(a=X.env.locals\/X.env.cells.lookup x=some a))->Q () s')(hf:X.fn x=true\/X.env.scope.names.lookup x=some .local:=by first|exact .inl rfl|exact .inr rfl|assumption):wpAny M A (storeName X.env x u) Q E s:=by
 obtain⟨m,hn,hl⟩:=id I.loc;have hcls:(X.env.scope.kind== .class||(X.env.scope.kind== .module&&X.env.locals != X.env.globals))=false:=by rw[I.ok.kind];rfl
 have hiσ:i<σ.length:=by rw[I.len];exact(Jw.mp hi).1
 have cne:=I.cne;have tracked:∀{a:Addr} {h':Heap},(∃o,s.heap.get? a=some o/\H a=none)->Heap.SameBut a s.heap h'->Ht X.prog X.w H h':=fun{a h'} ha hs b ob e=>by
  obtain⟨_,_,hfree⟩:=ha;refine(I.hok b ob e).stay (fun c w' hc q=>(hs.2 c ?_).trans q) (fun _ q=>q) fun _ _ q=>q
  rintro rfl
  rcases hc with rfl|hc
  ·rw[hfree]at e;cases e
  ·rw[hfree]at hc;cases hc
 rcases hx with hk|hk
 ·refine wpAny_storeName_local hk hn (fun h' hn' hs=>?_) hcls
  obtain⟨oL,_,_,hoL,_⟩:=id hn;refine h _ ⟨I.ok,I.os,I.bare,⟨fun b o e n hb hx=>?_,fun b o e n hb hx=>?_,I.base.free,fun b o e hx=>?_,I.base.tups,I.base.frzs,I.base.tbls⟩,⟨_,hn',fun j y v' e1 e2 e3=>?_⟩,fun y c e=>?_,I.free,I.freeC,fun p hp=>?_,tracked ⟨oL,hoL,I.free⟩ hs,by simpa using I.len⟩ ⟨_,hs,.inl rfl⟩
  ·exact(hs.2 b (Jm (JK (Jh e) I.ok.above))).trans (I.base.keep b o e n hb hx)
  ·obtain⟨sl,e1⟩:=I.base.slot b o e n hb hx
   exact⟨sl,(hs.2 b (Jm (JK (Jh e) I.ok.above))).trans e1⟩
  ·obtain⟨o',e1⟩:=I.base.there b o e hx
   exact⟨o',(hs.2 b (Jm (JK (Jh e) I.ok.above))).trans e1⟩
  ·by_cases hj:j=i
   ·subst hj
    rw[hi]at e1;cases e1
    rw[Fo hiσ]at e2;cases e2
    exact⟨u,r,.inl ⟨hk,by simp⟩⟩
   ·rw[Fp (Ne.symm hj)]at e2
    obtain⟨u',r',q⟩:=hl j y v' e1 e2 e3;refine⟨u',r',?_⟩
    rcases q with⟨k,e⟩|⟨k,c,e,z⟩
    ·refine .inl ⟨k,?_⟩
     have:y≠x:=fun e=>hj (lU hN e1 (e▸hi))
     simp [this,e]
    ·exact .inr ⟨k,c,e,z.sameBut hs (cne y c e)⟩
  ·obtain⟨w',z⟩:=I.cell y c e
   exact⟨w',z.sameBut hs (cne y c e)⟩
  ·obtain⟨e,n,ne,nf,d⟩:=I.pin p hp
   exact⟨(hs.2 p.1 ne).trans e,n,ne,nf,d⟩
 ·have hfn:X.fn x=true:=by
   rcases hf with z|z
   ·exact z
   ·rw[z]at hk;cases hk
  obtain⟨c,hc⟩:=I.ok.has x (.inl hk)
  obtain⟨w',z⟩:=I.cell x c hc;refine wpAny_storeName_cell I.ok.kind hk hc z (fun h' hc' hs=>?_)
  obtain⟨oc,hoc,hocd⟩:=id z;refine h {s with heap:=h'} ⟨I.ok,I.os,I.bare,⟨fun b o e n hb hx=>?_,fun b o e n hb hx=>?_,I.base.free,fun b o e hx=>?_,I.base.tups,I.base.frzs,I.base.tbls⟩,⟨m,hn.sameBut hs (Ne.symm (cne x c hc)),fun j y v' e1 e2 e3=>?_⟩,fun y c' e=>?_,I.free,I.freeC,fun p hp=>?_,tracked ⟨oc,hoc,I.freeC x c hc⟩ hs,by simpa using I.len⟩ ⟨c,hs,.inr hc⟩
  ·exact(hs.2 b (Jm (JK (Jh e) (I.ok.cab x c hfn hc)))).trans (I.base.keep b o e n hb hx)
  ·obtain⟨sl,e1⟩:=I.base.slot b o e n hb hx
   exact⟨sl,(hs.2 b (Jm (JK (Jh e) (I.ok.cab x c hfn hc)))).trans e1⟩
  ·obtain⟨o',e1⟩:=I.base.there b o e hx
   exact⟨o',(hs.2 b (Jm (JK (Jh e) (I.ok.cab x c hfn hc)))).trans e1⟩
  ·by_cases hj:j=i
   ·subst hj
    rw[hi]at e1;cases e1
    rw[Fo hiσ]at e2;cases e2
    exact⟨u,r,.inr ⟨.inl hk,c,hc,hc'⟩⟩
   ·rw[Fp (Ne.symm hj)]at e2
    obtain⟨u',r',q⟩:=hl j y v' e1 e2 e3;refine⟨u',r',?_⟩
    rcases q with q|⟨k,c',e,z'⟩
    ·exact .inl q
    ·refine .inr ⟨k,c',e,z'.sameBut hs ?_⟩
     rintro rfl
     exact hj (lU hN e1 (I.ok.inj _ _ _ e hc▸hi))
  ·by_cases hcc:c'=c
   ·subst hcc;exact⟨_,hc'⟩
   ·obtain⟨w2,z2⟩:=I.cell y c' e
    exact⟨w2,z2.sameBut hs hcc⟩
  ·obtain⟨e,n,ne,nf,d⟩:=I.pin p hp
   refine⟨(hs.2 p.1 ?_).trans e,n,ne,nf,d⟩
   intro q;rw[q,hoc]at e;have q':oc=p.2:=Jy e
   exact d w' (by rw[<- q'];exact hocd)
theorem j8{M:Model}{A:Around}{E:FW}{i:Nat}{x:Str}{v:V}{u:Value}{Q:Unit->Shared->Prop}(I:F3 X tx σ H s)(hN:X.N.Nodup)(hi:X.N[i]? =some x)(hx:ju X.env.scope x)(r:F9 v u)
  (h:∀s',F3 X tx (σ.set i (some v)) H s'->Q () s')(hf:X.fn x=true\/X.env.scope.names.lookup x=some .local:=by first|exact .inl rfl|exact .inr rfl|assumption):wpAny M A (storeName X.env x u) Q E s:=
 jz I hN hi hx r (fun s' I' _=>h s' I') hf
theorem F3.call'{s':Shared}{ch:List Addr}(I:F3 X tx σ H s)(ho:s'.os=s.os)(u:Un (bJ X.stack) ch H H' s.heap s'.heap)(hok:Ht X.prog X.w H' s'.heap)(hg:AllBare s'.gens)
  (hch:∀b∈ch,(b∈X.ex\/X.s₀.heap.objs.size<=b)/\b≠X.env.locals/\(∀x c,X.env.cells.lookup x=some c->c≠b)/\∀p∈X.pn++tx,p.1≠b):F3 X tx σ H' s':=by
 obtain⟨h',g',d',t',o'⟩:=s';have e:o'=s.os:=ho
 subst e;exact I.call (g':=g') (t':=t') (d':=d') u hok hg hch
end
abbrev XK:=Value->Option Addr->Hp->Prop
abbrev St:=List (Option V)
abbrev VK:=V->Hp->Prop
abbrev TE:=St->Hp->VK->Prop
abbrev TT:=St->Hp->(Bool->Hp->Prop)->Prop
abbrev TA:=St->Hp->(List V->Hp->Prop)->Prop
structure GX where
 nx:St->Hp->Prop
 rt:VK
 bk:St->Hp->Prop:=fun _ _=>False
 ct:St->Hp->Prop:=fun _ _=>False
abbrev TS:=GX->St->Hp->Prop
def EP(X:Cx)(tx:FY)(σ:St)(Q:VK)(u:Value)(s':Shared):Prop:=∃v H',F3 X tx σ H' s'/\F9 v u/\Q v H'
def TP(X:Cx)(tx:FY)(σ:St)(Q:Bool->Hp->Prop)(b:Bool)(s':Shared):Prop:=∃H',F3 X tx σ H' s'/\Q b H'
def AP(X:Cx)(tx:FY)(σ:St)(Q:List V->Hp->Prop)(us:List Value)(s':Shared):Prop:=∃vs H',F3 X tx σ H' s'/\F6 vs us/\Q vs H'
def SP(X:Cx)(tx:FY)(D:GX)(f:Flow)(s':Shared):Prop:=
 match f with
 | .next=>∃σ' H',F3 X tx σ' H' s'/\D.nx σ' H'
 | .brk=>∃σ' H',F3 X tx σ' H' s'/\D.bk σ' H'
 | .cont=>∃σ' H',F3 X tx σ' H' s'/\D.ct σ' H'
 | .ret u=>∃v σ' H',F3 X tx σ' H' s'/\F9 v u/\D.rt v H'
def PE(X:Cx)(e:Expr)(t:TE):Prop:=
 ∀(tx:FY) (s:Shared) (σ:St) (H:Hp) (Q:VK),F3 X tx σ H s->t σ H Q->wpAny (model X.prog X.w) X.A (eval e X.env) (EP X tx σ Q) X.xe s
def PT(X:Cx)(e:Expr)(t:TT):Prop:=
 ∀(tx:FY) (s:Shared) (σ:St) (H:Hp) (Q:Bool->Hp->Prop),F3 X tx σ H s->t σ H Q->wpAny (model X.prog X.w) X.A (isTrue e X.env (eval e X.env)) (TP X tx σ Q) X.xe s
def PW(X:Cx)(e:Expr)(t:TT):Prop:=
 ∀(whole:Sem Value) (tx:FY) (s:Shared) (σ:St) (H:Hp) (Q:Bool->Hp->Prop),F3 X tx σ H s->t σ H Q->wpAny (model X.prog X.w) X.A (isTrue e X.env whole) (TP X tx σ Q) X.xe s
theorem PW.pt{X:Cx}{e:Expr}{t:TT}(h:PW X e t):PT X e t:=h _
def PA(X:Cx)(es:List Expr)(t:TA):Prop:=
 ∀(pos:Pos) (tx:FY) (s:Shared) (σ:St) (H:Hp) (Q:List V->Hp->Prop),F3 X tx σ H s->t σ H Q->wpAny (model X.prog X.w) X.A (spliced (backTo pos (starEach es X.env))) (AP X tx σ Q) X.xe s
def PS(X:Cx)(st:Stmt)(t:TS):Prop:=
 ∀(tx:FY) (s:Shared) (σ:St) (H:Hp) (D:GX),F3 X tx σ H s->t D σ H->wpAny (model X.prog X.w) X.A (exec st X.env) (SP X tx D) X.xe s
def Ie(X:Cx)(st:List Stmt)(t:TS):Prop:=
 ∀(tx:FY) (s:Shared) (σ:St) (H:Hp) (D:GX),F3 X tx σ H s->t D σ H->wpAny (model X.prog X.w) X.A (execs st X.env) (SP X tx D) X.xe s
theorem qz{α:Type}{t:Sem α}{Q Q':α->Shared->Prop}{M:Model}{A:Around}{E:FW}{s:Shared}(h:wpAny M A t Q E s)(hQ:∀a s,Q a s->Q' a s):wpAny M A t Q' E s:=JF h hQ fun _ _ x=>x
section
variable{X:Cx}
def B5(i:Nat):TE:=fun σ H Q=>∃v,σ[i]? =some (some v)/\Q v H
def tC(v:V):TE:=fun _ H Q=>Q v H
theorem CB{i:Nat}{x:Str}{pos:Pos}(hN:X.N[i]? =some x)(hv:Bb X.env.scope x)(hd:(x==("__debug__":Str))=false:=by decide)(hcd:(x==("__classdict__":Str))=false:=by decide):PE X (.Name x pos) (B5 i):=by
 intro tx s σ H Q I h;obtain⟨v,e,h⟩:=h;obtain⟨m,hn,hl⟩:=I.loc;obtain⟨u,r,l⟩:=hl i x v hN e hv;have fin:EP X tx σ Q u s:=⟨v,H,I,r,h⟩
 rcases l with⟨hk,hm⟩|⟨hk,c,hc,hcell⟩
 ·exact wpAny_Name (wpAny_loadName_local I.ok.kind hk hn hm fin) hd
 ·rcases hk with hk|hk
  ·exact wpAny_Name (wpAny_loadName_cell I.ok.kind hk hc hcell fin) hd
  ·exact wpAny_Name (wpAny_loadName_free I.ok.kind hk hc hcell fin hcd) hd
theorem BV{i j pos}:PE X (.Constant (.int i) j pos) (tC (.int i)):=fun _ _ _ H _ I h=>wpAny_Constant_int ⟨.int i,H,I.tok _,⟨_,rfl⟩,h⟩
theorem CP{b j pos}:PE X (.Constant (.bool b) j pos) (tC (.bl b)):=fun _ _ _ H _ I h=>Constant_bool ⟨.bl b,H,I,rfl,h⟩
theorem Cl{j pos}:PE X (.Constant .none j pos) (tC .non):=fun _ _ _ H _ I h=>Constant_none ⟨.non,H,I,rfl,h⟩
theorem Cp{x j pos}:PE X (.Constant (.str x) j pos) (tC (.str x)):=fun _ _ _ H _ I h=>Calls.Constant_str ⟨.str x,H,I.tok _,⟨_,rfl⟩,h⟩
def Gl(X:Cx)(x:Str):Prop:=X.env.kindOf x=some .globalImplicit
theorem iz{E:FW}{tx:FY}{s:Shared}{σ:St}{H:Hp}{x:Str}{u:Value}{pos:Pos}{Q:FW}(I:F3 X tx σ H s)(hg:Gl X x)(hm:X.mg x=some u)(h:Q u s)
  (hd:(x==("__debug__":Str))=false:=by decide):wpAny (model X.prog X.w) X.A (eval (.Name x pos) X.env) Q E s:=
 Calls.Name_function_global I.ok.kind hg (Calls.loadGlobal_global (by rw[I.ok.glob];exact I.mod.glob.keeps I.bk) hm h) hd
theorem Q1{E:FW}{tx:FY}{s:Shared}{σ:St}{H:Hp}{x:Str}{u:Value}{pos:Pos}{Q:FW}(I:F3 X tx σ H s)(hg:Gl X x)(hm:X.mg x=none)(hv:bootBuiltins x=some u)(h:Q u s)
  (hn:x≠"__name__":=by decide)(hd:(x==("__debug__":Str))=false:=by decide):wpAny (model X.prog X.w) X.A (eval (.Name x pos) X.env) Q E s:=by
 obtain⟨mb,h1,h2⟩:=I.mod.blt;exact Calls.Name_function_global I.ok.kind hg (Calls.loadGlobal_builtin (by rw[I.ok.glob];exact I.mod.glob.keeps I.bk) hm (by rw[I.ok.blt];exact h1.keeps I.bk) ((h2 x hn).trans hv) h) hd
theorem AL{x:Str}{v:V}{u:Value}{pos:Pos}(hg:Gl X x)(hm:X.mg x=some u)(r:F9 v u)(hd:(x==("__debug__":Str))=false:=by decide):PE X (.Name x pos) (tC v):=
 fun _ _ _ H _ I h=>iz I hg hm ⟨v,H,I,r,h⟩ hd
theorem yP{x:Str}{v:V}{u:Value}{pos:Pos}(hg:Gl X x)(hm:X.mg x=none)(hv:bootBuiltins x=some u)(r:F9 v u)(hn:x≠"__name__":=by decide)(hd:(x==("__debug__":Str))=false:=by decide):PE X (.Name x pos) (tC v):=
 fun _ _ _ H _ I h=>Q1 I hg hm hv ⟨v,H,I,r,h⟩ hn hd
variable{a b:Expr}{ta tb:TE}{pos:Pos}
def PC(X:Cx)(op:CmpOp)(a b:Expr)(t:TE):Prop:=
 ∀(tx:FY) (s:Shared) (σ:St) (H:Hp) (Q:VK),F3 X tx σ H s->t σ H Q->
  wpAny (model X.prog X.w) X.A (eval a X.env) (fun v s₁=>wpAny (model X.prog X.w) X.A (eval b X.env) (fun u s₂=>wpAny (model X.prog X.w) X.A (compareOp op v u) (EP X tx σ Q) X.xe s₂) X.xe s₁) X.xe s
def tB(t:TE):TT:=fun σ H Q=>t σ H fun x H1=>∃c,x= .bl c/\Q c H1
theorem Cf{op:CmpOp}{t:TE}(h:PC X op a b t)(h1:behindInMarks op b=false:=by first|exact nobehind _ (by decide) (by decide)|rfl):PT X (.Compare a [op] [b] pos) (tB t):=by
 intro tx s σ H Q I hw;refine wpAny_isTrue_Compare1 (qz (h tx s σ H _ I hw) fun v s1 h1=>qz h1 fun u s2 h2=>qz h2 fun c s3 zq=>?_) h1
 obtain⟨x,H1,I1,r1,q1⟩:=zq;obtain⟨d,rfl,q⟩:=q1;cases r1;exact Ei ⟨H1,I1,q⟩
theorem BW{e:Expr}{t:TE}(h:PE X e t)(he:∀whole,isTrue e X.env whole=(do let v <- whole;standAt e.pos;holding [v] (truthy v)):=by intro _;rfl):PT X e (tB t):=by
 intro tx s σ H Q I hw;refine isTrue_plain (qz (h tx s σ H _ I hw) fun v s1 zq=>?_) (he _)
 obtain⟨x,H1,I1,r1,q1⟩:=zq;obtain⟨d,rfl,q⟩:=q1;cases r1;exact Ei ⟨H1,I1,q⟩
variable{tA tB':TT}{rest:List Expr}
def By(t u:TT):TT:=fun σ H Q=>t σ H fun c H1=>if c=true then u σ H1 Q else Q false H1
def Dd(t u:TT):TT:=fun σ H Q=>t σ H fun c H1=>if c=true then Q true H1 else u σ H1 Q
def Ca(t:TT):TT:=fun σ H Q=>t σ H fun c H1=>Q (!c) H1
theorem Ab(ha:PT X a tA):PW X (.BoolOp .And [a] pos) tA:=by
 intro wh tx s σ H Q I h;refine isTrue_and (qz (ha tx s σ H Q I h) fun c s1 e=>?_)
 cases c with
 |true=>exact isTrue_and_nil e
 |false=>exact e
theorem Bp(ha:PT X a tA):PW X (.BoolOp .Or [a] pos) tA:=by
 intro wh tx s σ H Q I h;refine isTrue_or (qz (ha tx s σ H Q I h) fun c s1 e=>?_)
 cases c with
 |false=>exact isTrue_or_nil e
 |true=>exact e
theorem Bd(ha:PT X a tA)(hb:PW X (.BoolOp .And (b::rest) pos) tB'):PW X (.BoolOp .And (a::b::rest) pos) (By tA tB'):=by
 intro wh tx s σ H Q I h;refine isTrue_and (qz (ha tx s σ H _ I h) fun c s1 zq=>?_)
 obtain⟨H1,I1,q1⟩:=zq;cases c with
 |true=>exact hb wh tx s1 σ H1 Q I1 q1
 |false=>exact⟨H1,I1,q1⟩
theorem CT(ha:PT X a tA)(hb:PW X (.BoolOp .Or (b::rest) pos) tB'):PW X (.BoolOp .Or (a::b::rest) pos) (Dd tA tB'):=by
 intro wh tx s σ H Q I h;refine isTrue_or (qz (ha tx s σ H _ I h) fun c s1 zq=>?_)
 obtain⟨H1,I1,q1⟩:=zq;cases c with
 |true=>exact⟨H1,I1,q1⟩
 |false=>exact hb wh tx s1 σ H1 Q I1 q1
theorem Cg(ha:PT X a tA):PT X (.UnaryOp .Not a pos) (Ca tA):=by
 intro tx s σ H Q I h;exact isTrue_not (ha tx s σ H (fun c H1=>Q (!c) H1) I h)
def xc(ta tb:TE):TE:=fun σ H Q=>ta σ H fun x H1=>∃c,x= .bl c/\if c=true then tb σ H1 Q else Q (.bl false) H1
def yj(ta:TE):TE:=fun σ H Q=>ta σ H fun x H1=>∃c,x= .bl c/\Q (.bl (!c)) H1
theorem B6{op}{t:TE}(h:PE X a t):PE X (.BoolOp op [a] pos) t:=fun tx s σ H Q I hw=>BoolOp_one (h tx s σ H Q I hw)
theorem BJ(ha:PE X a ta)(hb:PE X (.BoolOp .And (b::rest) pos) tb):PE X (.BoolOp .And (a::b::rest) pos) (xc ta tb):=by
 intro tx s σ H Q I h;refine BoolOp_and (qz (ha tx s σ H _ I h) fun v s1 zq=>?_)
 obtain⟨x,H1,I1,r1,q1⟩:=zq;obtain⟨c,rfl,q1⟩:=q1;cases r1;refine Ei ?_
 cases c with
 |true=>exact hb tx s1 σ H1 Q I1 q1
 |false=>exact⟨.bl false,H1,I1,rfl,q1⟩
theorem CA(ha:PE X a ta):PE X (.UnaryOp .Not a pos) (yj ta):=by
 intro tx s σ H Q I h;refine UnaryOp_ (qz (ha tx s σ H _ I h) fun v s1 zq=>?_)
 obtain⟨x,H1,I1,r1,q1⟩:=zq;obtain⟨c,rfl,q1⟩:=q1;cases r1;exact not_of (Ei ⟨.bl (!c),H1,I1,rfl,q1⟩)
def Dh(t:TT)(ta tb:TE):TE:=fun σ H Q=>t σ H fun c H1=>if c=true then ta σ H1 Q else tb σ H1 Q
theorem wk{c:Expr}(hc:PT X c tA)(ha:PE X a ta)(hb:PE X b tb):PE X (.IfExp c a b pos) (Dh tA ta tb):=by
 intro tx s σ H Q I h;refine wpAny_IfExp (qz (hc tx s σ H _ I h) fun d s1 zq=>?_)
 obtain⟨H1,I1,q1⟩:=zq;cases d with
 |true=>exact ha tx s1 σ H1 Q I1 q1
 |false=>exact hb tx s1 σ H1 Q I1 q1
end
def F8(K:Frag)(H:Hp)(a:Addr)(xs:List V):Prop:=
 Rd H a (.lst xs)\/
  ∃(o:Obj) (its:Array Value) (n:Nat),K.lookup a=some o/\o.cls= .type "list"/\o.dict=none/\o.data= .seq its n/\its.size<=sizeLine/\F6 xs its.toList
def Ga(K:Frag)(H:Hp)(a:Addr)(xs:List V):Prop:=
 Rd H a (.tup xs)\/
  ∃(o:Obj) (its:Array Value) (n:Nat),K.lookup a=some o/\o.cls= .type "tuple"/\o.data= .seq its n/\its.size<=sizeLine/\F6 xs its.toList
def Dq:Value->Option V
 | .none=>some .non
 | .bool b=>some (.bl b)
 | .int i _=>some (.int i)
 | .str x _=>some (.str x)
 | .bytes b _=>some (.byt b)
 | .float b _=>some (.flt b)
 | .ref a=>some (.ref a)
 | .type n=>some (.ty n)
 |_=>none
theorem F9.abs{x:V}{u:Value}(r:F9 x u):Dq u=some x:=by
 cases x with
 |non=>cases r;rfl
 |bl _=>cases r;rfl
 |int _=>obtain⟨t,rfl⟩:=r;rfl
 |str _=>obtain⟨t,rfl⟩:=r;rfl
 |byt _=>obtain⟨t,rfl⟩:=r;rfl
 |flt _=>obtain⟨t,rfl⟩:=r;rfl
 |ref _=>cases r;rfl
 |ty _=>cases r;rfl
theorem F9.inj{x y:V}{u:Value}(r:F9 x u)(q:F9 y u):x=y:=Jy (r.abs.symm.trans q.abs)
theorem F6.inj:∀{xs ys:List V} {us:List Value},F6 xs us->F6 ys us->xs=ys
 :=by
 intro xs ys us h
 induction h generalizing ys with
 |nil=>intro g;cases g;rfl
 |cons r t ih=>intro g;cases g with
  |cons r' t'=>rw[r.inj r',ih t']
section
variable{X:Cx}{tx:FY}{σ:St}{H:Hp}{s:Shared}{a:Addr}{xs ys:List V}
theorem F8.of{K:Frag}(h:H a=some (.lst xs)):F8 K H a xs:= .inl (.inl h)
theorem Ga.of{K:Frag}(h:H a=some (.tup xs)):Ga K H a xs:= .inl (.inl h)
theorem F3.list(I:F3 X tx σ H s)(h:F8 X.K H a xs):∃its:List Value,F6 xs its/\PlainL s.heap a its.toArray/\xs.length<=sizeLine:=by
 rcases h with h|⟨o,its,n,hk,hc,hd,hs,hz,r⟩
 ·obtain⟨z,its,n,r,e⟩:=h.ok I.hok
  exact⟨its,r,⟨_,n,e,rfl,rfl,rfl⟩,z⟩
 ·refine⟨its.toList,r,⟨o,n,I.kIn a o hk,hc,hd,by simpa using hs⟩,?_⟩
  have e:=r.length;simp only[Jp]at e;omega
theorem F3.tuple(I:F3 X tx σ H s)(h:Ga X.K H a xs):∃its:List Value,F6 xs its/\IsTup s.heap a its.toArray/\xs.length<=sizeLine:=by
 rcases h with h|⟨o,its,n,hk,hc,hs,hz,r⟩
 ·obtain⟨z,its,r,p⟩:=h.ok I.hok
  exact⟨its,r,p,z⟩
 ·refine⟨its.toList,r,⟨o,I.kIn a o hk,hc,n,by simpa using hs⟩,?_⟩
  have e:=r.length;simp only[Jp]at e;omega
theorem F3.list_inj(I:F3 X tx σ H s)(h:F8 X.K H a xs)(h':F8 X.K H a ys):xs=ys:=by
 obtain⟨its,r,⟨o,n,e,_,_,d⟩,_⟩:=I.list h;obtain⟨its',r',⟨o',n',e',_,_,d'⟩,_⟩:=I.list h';rw[e]at e';cases e'
 rw[d]at d';injection d' with d1 _
 have:its=its':=by simpa using J0 Array.toList d1
 subst this;exact r.inj r'
theorem F3.tuple_inj(I:F3 X tx σ H s)(h:Ga X.K H a xs)(h':Ga X.K H a ys):xs=ys:=by
 obtain⟨its,r,⟨o,e,_,n,d⟩,_⟩:=I.tuple h;obtain⟨its',r',⟨o',e',_,n',d'⟩,_⟩:=I.tuple h';rw[e]at e';cases e'
 rw[d]at d';injection d' with d1 _
 have:its=its':=by simpa using J0 Array.toList d1
 subst this;exact r.inj r'
end
abbrev Cx.wish(X:Cx)(E:FW):Cx:={X with xe:=E}
abbrev Cx.nox(X:Cx):Cx:=X.wish fun _ _=>False
theorem Cx.Ok.wish{X:Cx}(ok:X.Ok)(E:FW):(X.wish E).Ok:=
 ⟨ok.mod,ok.kind,ok.glob,ok.blt,ok.above,ok.inj,ok.has,ok.cab,ok.hd,ok.frames,ok.stk,ok.exf,ok.bs,ok.bsz,ok.noex,ok.exfs,ok.funs,ok.frf⟩
theorem Cx.Ok.unwish{X:Cx}{E:FW}(ok:(X.wish E).Ok):X.Ok:=
 ⟨ok.mod,ok.kind,ok.glob,ok.blt,ok.above,ok.inj,ok.has,ok.cab,ok.hd,ok.frames,ok.stk,ok.exf,ok.bs,ok.bsz,ok.noex,ok.exfs,ok.funs,ok.frf⟩
section
variable{X:Cx}{tx:FY}{σ:St}{H:Hp}{s:Shared}{E:FW}
theorem F3.wish(I:F3 X tx σ H s)(E:FW):F3 (X.wish E) tx σ H s:=⟨I.ok.wish E,I.os,I.bare,I.base,I.loc,I.cell,I.free,I.freeC,I.pin,I.hok,I.len⟩
theorem F3.unwish(I:F3 (X.wish E) tx σ H s):F3 X tx σ H s:=⟨I.ok.unwish,I.os,I.bare,I.base,I.loc,I.cell,I.free,I.freeC,I.pin,I.hok,I.len⟩
theorem SP.unwish{D:GX}{f:Flow}{s':Shared}(h:SP (X.wish E) tx D f s'):SP X tx D f s':=by
 cases f with
 |next=>obtain⟨σ',H',I,q⟩:=h;exact⟨σ',H',I.unwish,q⟩
 |brk=>obtain⟨σ',H',I,q⟩:=h;exact⟨σ',H',I.unwish,q⟩
 |cont=>obtain⟨σ',H',I,q⟩:=h;exact⟨σ',H',I.unwish,q⟩
 |ret u=>obtain⟨v,σ',H',I,r,q⟩:=h;exact⟨v,σ',H',I.unwish,r,q⟩
theorem Ie.nox{st:List Stmt}{t:TS}(h:Ie X.nox st t):Ie X st t:=fun tx s σ H D I hw=>
 JF (h tx s σ H D (I.wish _) hw) (fun _ _ q=>q.unwish) fun _ _ z=>False.elim z
end
section
variable{X:Cx}{st:Stmt}{rest:List Stmt}{t u:TS}{e:Expr}{te:TE}{pos:Pos}
def wX:TS:=fun D σ H=>D.nx σ H
def kS(t u:TS):TS:=fun D σ H=>t {D with nx:=u D} σ H
theorem Ax:Ie X [] wX:=fun _ _ σ H _ I h=>wpAny_execs_nil ⟨σ,H,I,h⟩
theorem vn(h1:PS X st t)(h2:Ie X rest u):Ie X (st::rest) (kS t u):=by
 intro tx s σ H D I h;refine wpAny_execs_cons (qz (h1 tx s σ H {D with nx:=u D} I h) fun f s1 q=>?_)
 cases f with
 |next=>
  obtain⟨σ',H',I',q⟩:=q;exact h2 tx s1 σ' H' D I' q
 |ret v=>exact q
 |brk=>exact q
 |cont=>exact q
theorem ym(h1:PS X st t):Ie X [st] t:=by
 intro tx s σ H D I h;refine wpAny_execs_cons (qz (h1 tx s σ H D I h) fun f s1 q=>?_)
 cases f with
 |next=>exact wpAny_execs_nil q
 |ret v=>exact q
 |brk=>exact q
 |cont=>exact q
theorem F3.quiet{tx:FY}{σ:St}{H:Hp}{s:Shared}(I:F3 X tx σ H s):interactive X.env=false:=by simp [interactive,I.ok.kind]
def xb(te:TE):TS:=fun D σ H=>te σ H fun _ H1=>D.nx σ H1
theorem Ae(he:PE X e te)(hs:swapsWith e none pos.line X.env=pure false:=by rfl):PS X (.Expr e pos) (xb te):=by
 intro tx s σ H D I h;exact wpAny_Expr_any (qz (he tx s σ H _ I h) fun v s1 ⟨x,H1,I1,r1,q1⟩=>⟨σ,H1,I1,q1⟩) I.quiet hs
def Cn(te:TE):TS:=fun D σ H=>te σ H D.rt
theorem Cb(he:PE X e te):PS X (.Return (some e) pos) (Cn te):=by
 intro tx s σ H D I h;exact wpAny_Return_some (qz (he tx s σ H _ I h) fun v s1 ⟨x,H1,I1,r1,q1⟩=>⟨x,σ,H1,I1,r1,q1⟩)
def BH(c:TT)(t u:TS):TS:=fun D σ H=>c σ H fun b H1=>if b=true then t D σ H1 else u D σ H1
theorem CH{c:Expr}{a b:List Stmt}{tc:TT}(hc:PT X c tc)(ha:Ie X a t)(hb:Ie X b u):PS X (.If c a b pos) (BH tc t u):=by
 intro tx s σ H D I h;refine wpAny_If (qz (hc tx s σ H _ I h) fun d s1 zq=>?_)
 obtain⟨H1,I1,q1⟩:=zq;cases d with
 |true=>exact ha tx s1 σ H1 D I1 q1
 |false=>exact hb tx s1 σ H1 D I1 q1
def uc:TS:=fun _ _ _=>False
theorem uZ{sts:List Stmt}:Ie X sts uc:=fun _ _ _ _ _ _ h=>h.elim
end
abbrev TG:=V->St->Hp->(St->Hp->Prop)->Prop
abbrev a9:=List V->St->Hp->(St->Hp->Prop)->Prop
def PG(X:Cx)(target:Expr)(t:TG):Prop:=
 ∀(tx:FY) (s:Shared) (σ:St) (H:Hp) (v:V) (u:Value) (Q:St->Hp->Prop),F3 X tx σ H s->F9 v u->t v σ H Q->
  wpAny (model X.prog X.w) X.A (assign target X.env u) (fun _ s'=>∃σ' H',F3 X tx σ' H' s'/\Q σ' H') X.xe s
def oJ(X:Cx)(ts:List Expr)(t:a9):Prop:=
 ∀(tx:FY) (s:Shared) (σ:St) (H:Hp) (vs:List V) (us:List Value) (Q:St->Hp->Prop),F3 X tx σ H s->F6 vs us->t vs σ H Q->
  wpAny (model X.prog X.w) X.A (assignInOrder ((assignEach ts X.env).map (·.2)) us) (fun _ s'=>∃σ' H',F3 X tx σ' H' s'/\Q σ' H') X.xe s
abbrev gi:=V->V->V->Hp->(Hp->Prop)->Prop
def mn(X:Cx)(t:gi):Prop:=
 ∀(tx:FY) (s:Shared) (σ:St) (H:Hp) (o i v:V) (ov iv u:Value) (Q:Hp->Prop),F3 X tx σ H s->F9 o ov->F9 i iv->F9 v u->t o i v H Q->
  wpAny (model X.prog X.w) X.A (setItem ov iv u) (fun _ s'=>∃H',F3 X tx σ H' s'/\Q H') X.xe s
abbrev tD:=V->V->Hp->VK->Prop
def BK(X:Cx)(op:Operator)(t:tD):Prop:=
 ∀(tx:FY) (s:Shared) (σ:St) (H:Hp) (x y:V) (v u:Value) (Q:VK),F3 X tx σ H s->F9 x v->F9 y u->t x y H Q->
  wpAny (model X.prog X.w) X.A (inplaceOp op v u) (EP X tx σ Q) X.xe s
section
variable{X:Cx}{pos:Pos}
def Q2(i:Nat):TG:=fun v σ H Q=>Q (σ.set i (some v)) H
theorem AD{i:Nat}{x:Str}(hN:X.N.Nodup)(hi:X.N[i]? =some x)(hx:ju X.env.scope x)(hf:X.fn x=true\/X.env.scope.names.lookup x=some .local:=by first|exact .inl rfl|exact .inr rfl|assumption):PG X (.Name x pos) (Q2 i):=by
 intro tx s σ H v u Q I r h;exact wpAny_assign_Name (j8 I hN hi hx r (fun s' I'=>⟨_,H,I',h⟩) hf)
def rJ:a9:=fun vs σ H Q=>vs=[]/\Q σ H
def fv(t:TG)(u:a9):a9:=fun vs σ H Q=>∃v r,vs=v::r/\t v σ H fun σ' H'=>u r σ' H' Q
theorem Av:oJ X [] rJ:=by
 intro tx s σ H vs us Q I r h;obtain⟨e,h⟩:=h;subst e;cases r;exact assignInOrder_nil ⟨σ,H,I,h⟩
theorem ww{e:Expr}{es:List Expr}{t:TG}{u:a9}(h1:PG X e t)(h2:oJ X es u)
  (hs:(assignEach (e::es) X.env).map (·.2)=assign e X.env::(assignEach es X.env).map (·.2):=by rfl):oJ X (e::es) (fv t u):=by
 intro tx s σ H vs us Q I r h;obtain⟨v,vr,e1,h⟩:=h;subst e1;cases r with
 |cons r rr=>
  rw[hs];refine assignInOrder_cons (qz (h1 tx s σ H _ _ _ I r h) fun _ s1 zq=>?_)
  obtain⟨σ1,H1,I1,q1⟩:=zq;exact h2 tx s1 σ1 H1 _ _ Q I1 rr q1
def mJ(K:Frag)(n:Nat)(t:a9):TG:=fun v σ H Q=>∃a xs,v= .ref a/\Ga K H a xs/\xs.length=n/\t xs σ H Q
theorem km{es:List Expr}{k:Nat}{t:a9}{n:Nat}(hc:X.calm=true)(h:oJ X es t)
  (hn:(assignEach es X.env).length=n:=by rfl)(hst:(assignEach es X.env).findIdx? (·.1)=none:=by rfl):PG X (.Tuple es k pos) (mJ X.K n t):=by
 intro tx s σ H v u Q I r hw;obtain⟨a,xs,e1,hq,hl,hw⟩:=hw;subst e1;cases r;obtain⟨its,rv,ht,hz⟩:=I.tuple hq;refine assign_Tuple_tuple (I.ok.hd hc) ht (by simp [hn,<- hl,rv.length]) hst fun h' hx=>?_
 have I1:F3 X tx σ H {s with heap:=h'}:=I.kept (t':=s.toks) fun b o e=>hx b o (Jm (Jh e)) e
 exact h tx _ σ H xs _ Q I1 (by simpa using rv) hw
def B3(to ti:TE)(t:gi):TG:=fun v σ H Q=>to σ H fun o H1=>ti σ H1 fun i H2=>t o i v H2 fun H3=>Q σ H3
theorem Bc{o i:Expr}{to ti:TE}{t:gi}(ho:PE X o to)(hi:PE X i ti)(hs:mn X t)
  (ha:∀v,assign (.Subscript o i pos) X.env v=(do
   let ov <- holding [v] (eval o X.env)
   let iv <- holding [v,ov] (eval i X.env)
   standAt pos
   holding [v,ov,iv] (setItem ov iv v)
   release [v,ov,iv] []):=by intro _;rfl):PG X (.Subscript o i pos) (B3 to ti t):=by
 intro tx s σ H v u Q I r h;rw[ha];refine Ja (JL (qz (ho tx s σ H _ I h) fun ov s1 zq=>?_))
 obtain⟨x,H1,I1,r1,q1⟩:=zq;refine Ja (JL (qz (hi tx s1 σ H1 _ I1 q1) fun iv s2 zq=>?_))
 obtain⟨y,H2,I2,r2,q2⟩:=zq;refine Ja (Ej (Ja (JL (qz (hs tx s2 σ H2 x y v ov iv u _ I2 r1 r2 r q2) fun _ s3 zq=>?_))))
 obtain⟨H3,I3,q3⟩:=zq;exact wpAny_release ⟨σ,H3,I3,q3⟩
def hX(te:TE)(g:TG):TS:=fun D σ H=>te σ H fun x H1=>g x σ H1 D.nx
theorem Bj{tg e:Expr}{te:TE}{g:TG}(he:PE X e te)(hg:PG X tg g)(hs:swapsWithSole [tg] e pos.line X.env=pure false:=by rfl)(hw:swappedStores [tg] e X.env=pure none:=by rfl)
  (h1:(assignEach [tg] X.env).map (·.2)=[assign tg X.env]:=by rfl):PS X (.Assign [tg] e pos) (hX te g):=by
 intro tx s σ H D I h;refine wpAny_Assign_stores (qz (he tx s σ H _ I h) fun v s1 zq=>?_) hs hw
 obtain⟨x,H1,I1,r1,q1⟩:=zq;rw[h1];exact qz (hg tx s1 σ H1 x v _ I1 r1 q1) fun _ s2 q=>q
theorem BX{i:Nat}{x:Str}{e:Expr}{te:TE}{pos':Pos}(hN:X.N.Nodup)(hi:X.N[i]? =some x)(hx:ju X.env.scope x)(he:PE X e te)(hs:swapsWith e (some (.Name x pos')) pos.line X.env=pure false:=by rfl)(hf:X.fn x=true\/X.env.scope.names.lookup x=some .local:=by first|exact .inl rfl|exact .inr rfl|assumption):
  PS X (.Assign [.Name x pos'] e pos) (hX te (Q2 i)):=by
 intro tx s σ H D I h;refine wpAny_Assign_Name (qz (he tx s σ H _ I h) fun v s1 zq=>?_) hs
 obtain⟨y,H1,I1,r1,q1⟩:=zq;exact j8 I1 hN hi hx r1 (fun s2 I2=>⟨_,H1,I2,q1⟩) hf
def wU(to ti te:TE)(tget:V->V->Hp->VK->Prop)(tip:tD)(tset:gi):TS:=fun D σ H=>to σ H fun o H1=>ti σ H1 fun i H2=>tget o i H2 fun x H3=>te σ H3 fun y H4=>tip x y H4 fun z H5=>tset o i z H5 fun H6=>D.nx σ H6
def wM(X:Cx)(t:V->V->Hp->VK->Prop):Prop:=
 ∀(tx:FY) (s:Shared) (σ:St) (H:Hp) (o i:V) (ov iv:Value) (Q:VK),F3 X tx σ H s->F9 o ov->F9 i iv->t o i H Q->
  wpAny (model X.prog X.w) X.A (getItem ov iv) (EP X tx σ Q) X.xe s
theorem yX{o i e:Expr}{to ti te:TE}{tget:V->V->Hp->VK->Prop}{tip:tD}{tset:gi}{op:Operator}{tpos:Pos}(ho:PE X o to)(hi:PE X i ti)(hg:wM X tget)(he:PE X e te)(hp:BK X op tip)(hs:mn X tset)
  (ha:∀ov iv new,augStore i ov iv new=(do holding [new,ov,iv] (setItem ov iv new);release [new,ov,iv] [];pure .next):=by intros;rfl):PS X (.AugAssign (.Subscript o i tpos) op e pos) (wU to ti te tget tip tset):=by
 intro tx s σ H D I h;refine wpAny_AugAssign_SubscriptAny (qz (ho tx s σ H _ I h) fun ov s1 zq=>?_) ha
 obtain⟨x1,H1,I1,r1,q1⟩:=zq;refine qz (hi tx s1 σ H1 _ I1 q1) fun iv s2 zq=>?_
 obtain⟨x2,H2,I2,r2,q2⟩:=zq;refine qz (hg tx s2 σ H2 x1 x2 ov iv _ I2 r1 r2 q2) fun old s3 zq=>?_
 obtain⟨x3,H3,I3,r3,q3⟩:=zq;refine qz (he tx s3 σ H3 _ I3 q3) fun v s4 zq=>?_
 obtain⟨x4,H4,I4,r4,q4⟩:=zq;refine qz (hp tx s4 σ H4 x3 x4 old v _ I4 r3 r4 q4) fun new s5 zq=>?_
 obtain⟨x5,H5,I5,r5,q5⟩:=zq;exact qz (hs tx s5 σ H5 x1 x2 x5 ov iv new _ I5 r1 r2 r5 q5) fun _ s6 ⟨H6,I6,q6⟩=>⟨σ,H6,I6,q6⟩
def DM(f:Int->Int->Int):tD:=fun x y H Q=>∃i j,x= .int i/\y= .int j/\Q (.int (f i j)) H
theorem BS:BK X .Add (DM fun i j=>i+j):=by
 intro tx s σ H x y v u Q I r1 r2 h;obtain⟨i,j,e1,e2,q⟩:=h;subst e1;subst e2
 obtain⟨t,rfl⟩:=r1;obtain⟨t',rfl⟩:=r2;exact iadd_int ⟨.int _,H,I.tok _,⟨_,rfl⟩,q⟩
end
structure It where
 go:Nat->Hp->Prop
 yld:Nat->Hp->V->Hp->Prop
 stop:Nat->Hp->Prop
def Zs(X:Cx)(tx:FY)(H:Hp)(b:Addr):Prop:=
 H b=none/\b≠X.env.locals/\b∉X.fs/\(b∈X.ex\/X.s₀.heap.objs.size<=b)/\(∀x c,X.env.cells.lookup x=some c->c≠b)/\∀p∈X.pn++tx,p.1≠b
theorem F3.fpOk{X:Cx}{tx:FY}{σ:St}{H H':Hp}{s:Shared}{b:Addr}(I:F3 X tx σ H s)(hb:s.heap.objs.size<=b)(hn:H' b=none):Zs X tx H' b:=by
 refine⟨hn,JY (JK I.lt hb),I.nofs hb,.inr (JM I.sz hb),fun x c e z=>?_,fun p hp z=>?_⟩
 ·obtain⟨v,q⟩:=I.cell x c e
  exact absurd (JK q.lt (by rw[z];exact hb)) (JZ _)
 ·exact absurd (JK (Jh (I.pin p hp).1) (by rw[z];exact hb)) (JZ _)
structure HI(P:Program)(w:World)(K:Frag)(tg:Expr)(J:It)(fp:List Addr)(it:Addr)(tn:Nat->Heap->Prop):Prop where
 mem:it∈fp
 obj:∀i h,tn i h->∀b∈fp,∃o,h.get? b=some o/\∀v,o.data≠ .cell v
 keep:∀i h h',tn i h->(∀b∈fp,∀o,h.get? b=some o->h'.get? b=some o)->tn i h'
 item:∀(X:Cx),X.prog=P->X.w=w->X.K=K->X.calm=true->∀(i:Nat) (tx:FY) (s:Shared) (σ:St) (H:Hp) (E:FW),F3 X tx σ H s->(∀b∈fp,Zs X tx H b)->tn i s.heap->J.go i H->
  wpAny (model P w) X.A (pyNext (.ref it)) (fun r s1=>∃u,r=some u/\
   wpAny (model P w) X.A (letOwnedTupleGo tg (.ref it) u) (fun _ s2=>∃x H',F3 X tx σ H' s2/\F9 x u/\J.yld i H x H'/\tn (i+1) s2.heap/\∀b∈fp,H' b=none) E s1) E s
 done:∀(X:Cx),X.prog=P->X.w=w->X.K=K->X.calm=true->∀(i:Nat) (tx:FY) (s:Shared) (σ:St) (H:Hp) (E:FW),F3 X tx σ H s->(∀b∈fp,Zs X tx H b)->tn i s.heap->J.stop i H->
  wpAny (model P w) X.A (pyNext (.ref it)) (fun r s1=>r=none/\F3 X tx σ H s1) E s
 self:∀(A:Around) (i:Nat) (s:Shared) (Q:FW) (E:FW),tn i s.heap->Q (.ref it) s->wpAny (model P w) A (pyIter (.ref it)) Q E s
abbrev TI:=St->Hp->(It->Hp->Prop)->Prop
def De(X:Cx)(tx:FY)(σ:St)(tg:Expr)(R:It->Hp->Prop)(itv:Value)(s2:Shared):Prop:=
 ∃(it:Addr) (fp:List Addr) (tn:Nat->Heap->Prop) (J:It) (H':Hp),itv= .ref it/\F3 X tx σ H' s2/\HI X.prog X.w X.K tg J fp it tn/\tn 0 s2.heap/\(∀b∈fp,Zs X tx H' b)/\R J H'
def PI(X:Cx)(tg iter:Expr)(wi:TI):Prop:=
 ∀(tx:FY) (s:Shared) (σ:St) (H:Hp) (R:It->Hp->Prop),F3 X tx σ H s->wi σ H R->
  wpAny (model X.prog X.w) X.A (eval iter X.env) (fun v s1=>wpAny (model X.prog X.w) X.A (pyIter v) (De X tx σ tg R) X.xe s1) X.xe s
theorem bX{M:Model}{A:Around}{E:FW}{s:Shared}{tg:Expr}{it:Addr}{u:Value}{o:Obj}{n:String}{vs:Array Value}{Q:Unit->Shared->Prop}(ho:s.heap.get? it=some o)(hc:o.cls= .type n)(hd:o.data= .fields vs)
    (hn:["enumerate","zip","dict_itemiterator","dict_reverseitemiterator","odict_iterator","itertools.zip_longest","itertools.pairwise"].contains n=false)(hQ:Q () s):wpAny M A (letOwnedTupleGo tg (.ref it) u) Q E s:=by
  unfold letOwnedTupleGo;cases tg<;>first
    |exact Jd hQ
    |(cases u<;>first
        |exact Jd hQ
        | (refine Ja (wpAny_load ho ?_)
           rw[hc,hd]
           show wpAny M A (if(["enumerate","zip","dict_itemiterator","dict_reverseitemiterator","odict_iterator","itertools.zip_longest","itertools.pairwise"].contains n&&vs[0]? ==some (rawInt _))=true then _ else _) Q E s
           rw[Jb (by intro h;rw[hn,DU]at h;cases h)]
           exact Jd hQ))
def i3(K:Frag)(a:Addr):It:=
 ⟨fun i H=>∃xs x,F8 K H a xs/\xs[i]? =some x,fun i H x H'=>H'=H/\∀xs,F8 K H a xs->xs[i]? =some x,fun i H=>∃xs,F8 K H a xs/\xs.length<=i⟩
def jo(K:Frag)(a:Addr):It:=
 ⟨fun i H=>∃xs x,Ga K H a xs/\xs[i]? =some x,fun i H x H'=>H'=H/\∀xs,Ga K H a xs->xs[i]? =some x,fun i H=>∃xs,Ga K H a xs/\xs.length<=i⟩
def jb(lo:Int)(n:Nat):It:=⟨fun i _=>i<n,fun i H x H'=>H'=H/\x= .int (lo+i),fun i _=>n<=i⟩
theorem jm{P:Program}{w:World}{K:Frag}{tg:Expr}(a it:Addr):HI P w K tg (i3 K a) [it] it (fun i h=>h.IsListIter it a i) where
 mem:=by simp
 obj:=fun i h st b hb=>by
  have e:b=it:=by simpa using hb
  subst e;obtain⟨o,e,c,d⟩:=st
  exact⟨o,e,fun v z=>by rw[d]at z;cases z⟩
 keep:=fun i h h' st k=>st.at fun o e=>k it (by simp) o e
 item:=by
  intro X hP hw hK hc i tx s σ H E I hf st hg;subst hP hw hK;obtain⟨xs,x,hq,hx⟩:=hg;obtain⟨its,rv,p,hz⟩:=I.list hq;obtain⟨u,hu,ru⟩:=rv.get hx;obtain⟨f0,f1,f2,f3,f4,f5⟩:=hf it (by simp)
  refine wpAny_pyNext_list_item st p.isList (x:=u) (by simpa using hu) fun h' st' sb=>?_
  have I1:F3 X tx σ H {s with heap:=h'}:=I.turned (t':=s.toks) (fun b o hb e=>(sb.2 b hb).trans e) f0 f1 f3 f4 f5
  obtain⟨o,e,c,d⟩:=id st'
  exact⟨u,rfl,bX (s:={s with heap:=h'}) e c d (by decide) ⟨x,H,I1,ru,⟨rfl,fun ys hy=>by rw[I.list_inj hy hq];exact hx⟩,st',fun b hb=>(hf b hb).1⟩⟩
 done:=by
  intro X hP hw hK hc i tx s σ H E I hf st hg;subst hP hw hK;obtain⟨xs,hq,hx⟩:=hg;obtain⟨its,rv,p,hz⟩:=I.list hq;obtain⟨f0,f1,f2,f3,f4,f5⟩:=hf it (by simp)
  have hl:=rv.length;exact wpAny_pyNext_list_end (I.ok.hd hc) st p.isList (by simp;omega) fun h' eb=>⟨rfl,I.turned (t':=s.toks) (fun b o hb e=>eb b o hb e) f0 f1 f3 f4 f5⟩
 self:=fun _ _ _ _ _ st h=>wpAny_pyIter_listiter st h
theorem gL{P:Program}{w:World}{K:Frag}{tg:Expr}(a it:Addr):HI P w K tg (jo K a) [it] it (fun i h=>h.IsTupleIter it a i) where
 mem:=by simp
 obj:=fun i h st b hb=>by
  have e:b=it:=by simpa using hb
  subst e;obtain⟨o,e,c,d⟩:=st
  exact⟨o,e,fun v z=>by rw[d]at z;cases z⟩
 keep:=fun i h h' st k=>st.at fun o e=>k it (by simp) o e
 item:=by
  intro X hP hw hK hc i tx s σ H E I hf st hg;subst hP hw hK;obtain⟨xs,x,hq,hx⟩:=hg;obtain⟨its,rv,p,hz⟩:=I.tuple hq;obtain⟨u,hu,ru⟩:=rv.get hx;obtain⟨f0,f1,f2,f3,f4,f5⟩:=hf it (by simp)
  refine wpAny_pyNext_tuple_item st (show s.heap.IsTuple a its.toArray from p) (x:=u) (by simpa using hu) fun h' st' sb=>?_
  have I1:F3 X tx σ H {s with heap:=h'}:=I.turned (t':=s.toks) (fun b o hb e=>(sb.2 b hb).trans e) f0 f1 f3 f4 f5
  obtain⟨o,e,c,d⟩:=id st'
  exact⟨u,rfl,bX (s:={s with heap:=h'}) e c d (by decide) ⟨x,H,I1,ru,⟨rfl,fun ys hy=>by rw[I.tuple_inj hy hq];exact hx⟩,st',fun b hb=>(hf b hb).1⟩⟩
 done:=by
  intro X hP hw hK hc i tx s σ H E I hf st hg;subst hP hw hK;obtain⟨xs,hq,hx⟩:=hg;obtain⟨its,rv,p,hz⟩:=I.tuple hq;obtain⟨f0,f1,f2,f3,f4,f5⟩:=hf it (by simp)
  have hl:=rv.length;exact wpAny_pyNext_tuple_end (I.ok.hd hc) st (show s.heap.IsTuple a its.toArray from p) (by simp;omega) fun h' eb=>⟨rfl,I.turned (t':=s.toks) (fun b o hb e=>eb b o hb e) f0 f1 f3 f4 f5⟩
 self:=fun _ _ _ _ _ st h=>wpAny_pyIter_tupleiter st h
theorem rA{P:Program}{w:World}{K:Frag}{tg:Expr}(it:Addr)(lo:Int)(n:Nat):HI P w K tg (jb lo n) [it] it (fun i h=>IsRangeIter h it (lo+(i:Nat)*1) ((n:Int)-(i:Nat)) 1) where
 mem:=by simp
 obj:=fun i h st b hb=>by
  have e:b=it:=by simpa using hb
  subst e
  exact⟨_,st,fun v z=>by
   have z':Data.fields _=Data.cell v:=z
   cases z'⟩
 keep:=fun i h h' st k=>k it (by simp) _ st
 item:=by
  intro X hP hw hK hc i tx s σ H E I hf st hg;subst hP hw hK;obtain⟨f0,f1,f2,f3,f4,f5⟩:=hf it (by simp)
  have W:=Walks.range (prog:=X.prog) (w:=X.w) (I.ok.hd hc) it lo 1 n
  refine W.item i s _ _ hg st fun v h' tk hv st' kk=>?_
  obtain⟨t,rfl⟩:=hv;have I1:F3 X tx σ H {s with heap:=h',toks:=tk}:=I.turned (fun b o hb e=>kk b o (by simpa using hb) e) f0 f1 f3 f4 f5
  refine⟨_,rfl,bX (s:={s with heap:=h',toks:=tk}) (n:="range_iterator") st' rfl rfl (by decide) ⟨.int (lo+i),H,I1,⟨t,?_⟩,⟨rfl,rfl⟩,st',fun b hb=>(hf b hb).1⟩⟩
  rw[Int.mul_one]
 done:=by
  intro X hP hw hK hc i tx s σ H E I hf st hg;subst hP hw hK;obtain⟨f0,f1,f2,f3,f4,f5⟩:=hf it (by simp)
  exact wpAny_pyNext_range_end (I.ok.hd hc) st (by have:n<=i:=hg;omega) fun h' eb=>⟨rfl,I.turned (t':=s.toks) (fun b o hb e=>eb b o hb e) f0 f1 f3 f4 f5⟩
 self:=fun _ _ _ _ _ st h=>FF st h
section
variable{X:Cx}{tg:Expr}
def wO(K:Frag)(tl:TE):TI:=fun σ H R=>tl σ H fun x H1=>∃a,x= .ref a/\(∃xs,F8 K H1 a xs)/\R (i3 K a) H1
def Co(K:Frag)(tl:TE):TI:=fun σ H R=>tl σ H fun x H1=>∃a,x= .ref a/\(∃xs,Ga K H1 a xs)/\R (jo K a) H1
theorem yo{l:Expr}{tl:TE}(hl:PE X l tl):PI X tg l (wO X.K tl):=by
 intro tx s σ H R I h;refine qz (hl tx s σ H _ I h) fun v s1 zq=>?_
 obtain⟨x,H1,I1,r1,q1⟩:=zq;obtain⟨a,e,⟨xs,hq⟩,q⟩:=q1;subst e;cases r1;obtain⟨its,rv,p,hz⟩:=I1.list hq;refine EX p.isList ?_
 refine⟨s1.heap.objs.size,[s1.heap.objs.size],_,_,H1,rfl,I1.kept (t':=s1.toks) fun b o e=>Ji _ e,jm a _,⟨_,Jo _ rfl,rfl,rfl⟩,fun b hb=>?_,q⟩
 have e:b=s1.heap.objs.size:=by simpa using hb
 subst e;exact I1.fpOk (Je _) (I1.hok.fresh (Je _))
theorem CC{l:Expr}{tl:TE}(hl:PE X l tl):PI X tg l (Co X.K tl):=by
 intro tx s σ H R I h;refine qz (hl tx s σ H _ I h) fun v s1 zq=>?_
 obtain⟨x,H1,I1,r1,q1⟩:=zq;obtain⟨a,e,⟨xs,hq⟩,q⟩:=q1;subst e;cases r1;obtain⟨its,rv,p,hz⟩:=I1.tuple hq;refine EC (show s1.heap.IsTuple a its.toArray from p) ?_
 refine⟨s1.heap.objs.size,[s1.heap.objs.size],_,_,H1,rfl,I1.kept (t':=s1.toks) fun b o e=>Ji _ e,gL a _,⟨_,Jo _ rfl,rfl,rfl⟩,fun b hb=>?_,q⟩
 have e:b=s1.heap.objs.size:=by simpa using hb
 subst e;exact I1.fpOk (Je _) (I1.hok.fresh (Je _))
theorem lF{tx:FY}{σ:St}{H:Hp}{s:Shared}{R:It->Hp->Prop}{E:FW}{lo hi:Int}{t u v:Tok}{tk:Nat}(I:F3 X tx σ H s)(h1: -(2 ^ 62)<=lo)(h2:lo<2 ^ 62)(h3: -(2 ^ 62)<=hi)(h4:hi<2 ^ 62)
  (q:R (jb lo (hi-lo).toNat) H):wpAny (model X.prog X.w) X.A (pyIter (.ref s.heap.objs.size)) (De X tx σ tg R) E {s with heap:=s.heap.push {cls:= .type "range",data:= .fields #[.int lo t,.int hi u,.int 1 v]},toks:=tk}:=by
 refine wpAny_pyIter_range (IsRange.new ..) (small_one h1 h2 h3 h4) ?_
 have I1:F3 X tx σ H {s with heap:=s.heap.push {cls:= .type "range",data:= .fields #[.int lo t,.int hi u,.int 1 v]},toks:=tk}:=I.kept fun b o e=>Ji _ e
 refine⟨(s.heap.push {cls:= .type "range",data:= .fields #[.int lo t,.int hi u,.int 1 v]}).objs.size,[(s.heap.push {cls:= .type "range",data:= .fields #[.int lo t,.int hi u,.int 1 v]}).objs.size],_,_,H,rfl,
  I1.kept (t':=tk) fun b o e=>Ji _ e,rA _ lo (hi-lo).toNat,?_,fun b hb=>?_,q⟩
 ·have e1:lo+((0:Nat):Int)*1=lo:=by simp
  have e2:(((hi-lo).toNat:Nat):Int)-((0:Nat):Int)=Builtin.Range.rangeSize lo hi 1:=by rw[rangeSize_one];split<;>omega
  show IsRangeIter _ _ (lo+((0:Nat):Int)*1) ((((hi-lo).toNat:Nat):Int)-((0:Nat):Int)) 1
  rw[e1,e2];exact Jo _ rfl
 ·have e:b=(s.heap.push {cls:= .type "range",data:= .fields #[.int lo t,.int hi u,.int 1 v]}).objs.size:=by simpa using hb
  subst e;exact I1.fpOk (Je _) (I1.hok.fresh (Je _))
def wQ(ta:TA):TI:=fun σ H R=>ta σ H fun vs H1=>∃j:Int,vs=[.int j]/\ -(2 ^ 62)<=j/\j<2 ^ 62/\R (jb 0 j.toNat) H1
def yh(ta:TA):TI:=fun σ H R=>ta σ H fun vs H1=>∃i j:Int,vs=[.int i,.int j]/\(-(2 ^ 62)<=i/\i<2 ^ 62/\ -(2 ^ 62)<=j/\j<2 ^ 62)/\R (jb i (j-i).toNat) H1
theorem tz{a:Expr}{ta:TA}{p pos:Pos}(hg:Gl X "range")(hm:X.mg "range"=none)(ha:PA X [a] ta)(hs:starEach [a] X.env=[(false,eval a X.env)]:=by rfl):PI X tg (.Call (.Name "range" p) [a] [] pos) (wQ ta):=by
 intro tx s σ H R I h;refine Call_ (Q1 I hg hm boot_range (ED (qz (ha pos tx s σ H _ I h) fun us s1 zq=>?_) hs rfl))
 obtain⟨vs,H1,I1,r1,q1⟩:=zq;obtain⟨j,e,q1,q2,q⟩:=q1;subst e;cases r1 with
 |cons r rr=>
  cases rr;obtain⟨t,rfl⟩:=r;exact call_range_1 (lF I1 (by omega) (by omega) q1 q2 (by simpa using q))
theorem sP{a b:Expr}{ta:TA}{p pos:Pos}(hg:Gl X "range")(hm:X.mg "range"=none)(ha:PA X [a,b] ta)(hs:starEach [a,b] X.env=[(false,eval a X.env),(false,eval b X.env)]:=by rfl)(hs2:starEach [b] X.env=[(false,eval b X.env)]:=by rfl):
  PI X tg (.Call (.Name "range" p) [a,b] [] pos) (yh ta):=by
 intro tx s σ H R I h;refine Call_ (Q1 I hg hm boot_range (ED (qz (ha pos tx s σ H _ I h) fun us s1 zq=>?_) (by rw[hs,hs2]) (by rw[hs2];rfl)))
 obtain⟨vs,H1,I1,r1,q1⟩:=zq;obtain⟨i,j,e,⟨q1,q2,q3,q4⟩,q⟩:=q1;subst e;cases r1 with
 |cons r rr=>
  cases rr with
  |cons r' rr=>
   cases rr;obtain⟨t,rfl⟩:=r;obtain⟨t',rfl⟩:=r';exact call_range_2 (lF I1 q1 q2 q3 q4 q)
def Br(wi:TI)(g:TG)(tb:TS):TS:=fun D σ H=>wi σ H fun J H1=>∃W:Nat->Nat->St->Hp->Prop,(∃m,W 0 m σ H1)/\∀i m σ H,W i m σ H->
 (J.stop i H/\D.nx σ H)\/(J.go i H/\∃N:St->Hp->Prop,(∀σ' H',N σ' H'->∃m',m'<m/\W (i+1) m' σ' H')/\∀x H',J.yld i H x H'->g x σ H' fun σ2 H2=>tb {D with nx:=N,ct:=N,bk:=D.nx} σ2 H2)
def ZR(fp:List Addr)(h:Heap):List (Addr×Obj):=fp.filterMap fun b=>(h.get? b).map fun o=>(b,o)
theorem Zr{fp:List Addr}{h:Heap}{b:Addr}{o:Obj}(hb:b∈fp)(e:h.get? b=some o):(b,o)∈ZR fp h:=List.mem_filterMap.mpr ⟨b,hb,by rw[e];rfl⟩
theorem jf{fp:List Addr}{h:Heap}{p:Addr×Obj}(hp:p∈ZR fp h):p.1∈fp/\h.get? p.1=some p.2:=by
 obtain⟨b,hb,e⟩:=List.mem_filterMap.mp hp;cases q:h.get? b with
 |none=>rw[q]at e;cases e
 |some o=>
  rw[q]at e;have e':(b,o)=p:=Jy e
  subst e'
  exact⟨hb,q⟩
theorem F3.pinned{tx:FY}{σ:St}{H:Hp}{s:Shared}{fp:List Addr}(I:F3 X tx σ H s)(hf:∀b∈fp,Zs X tx H b)(ho:∀b∈fp,∃o,s.heap.get? b=some o/\∀v,o.data≠ .cell v):F3 X (tx++ZR fp s.heap) σ H s:=
 I.pins_of fun p hp=>(JW.mp hp).elim (fun z=>I.pin p (J1 _ z)) fun z=>by
  obtain⟨hb,e⟩:=jf z;obtain⟨f0,f1,f2,_⟩:=hf p.1 hb;obtain⟨o,e',d⟩:=ho p.1 hb;rw[e]at e';cases e'
  exact⟨e,f0,f1,f2,d⟩
theorem F3.unpinned{tx pl:FY}{σ:St}{H:Hp}{s:Shared}(I:F3 X (tx++pl) σ H s):F3 X tx σ H s:=I.pins_of fun p hp=>I.pin p (J1 _ (EL _ hp))
theorem Cz{iter:Expr}{body:List Stmt}{wi:TI}{g:TG}{tb:TS}{pos:Pos}(hp:PassesOwn (model X.prog X.w) X.A X.env X.xe)(hc:X.calm=true)(hi:PI X tg iter wi)(hg:PG X tg g)(hb:Ie X body tb)
  (hs:∀x,foldedSetIterable iter X.env x=pure x:=by intro _;rfl):PS X (.For tg iter body [] pos) (Br wi g tb):=by
 intro tx s σ H D I h;refine wpAny_For (qz (hi tx s σ H _ I h) fun v s1 h1=>qz h1 fun itv s2 h2=>?_) hs
 obtain⟨it,fp,tn,J,H2,e,I2,T,st2,f2,W,⟨m0,w0⟩,turn⟩:=h2;subst e;have stat:∀{H':Hp},(∀b∈fp,H' b=none)->∀b∈fp,Zs X tx H' b:=fun hn b hb=>⟨hn b hb,(f2 b hb).2⟩
 refine codeAny_forLoop_any (fun n s'=>∃i σ' H',F3 X tx σ' H' s'/\tn i s'.heap/\(∀b∈fp,H' b=none)/\W i n σ' H') ?_ m0 ⟨0,σ,H2,I2,st2,fun b hb=>(f2 b hb).1,w0⟩
 rintro n s3 ⟨i,σ3,H3,I3,st3,fr3,w3⟩
 rcases turn i n σ3 H3 w3 with⟨stop,qn⟩|⟨go,N,hN,step⟩
 ·refine Fc hp (qz (T.done X rfl rfl rfl hc i tx s3 σ3 H3 X.xe I3 (stat fr3) st3 stop) fun r s4 zq=>?_)
  obtain⟨hr,I4⟩:=zq;subst hr;exact wpAny_execs_nil ⟨σ3,H3,I4,qn⟩
 ·refine Fc hp (qz (T.item X rfl rfl rfl hc i tx s3 σ3 H3 X.xe I3 (stat fr3) st3 go) fun r s4 zq=>?_)
  obtain⟨u,hr,h4⟩:=zq;subst hr;refine Fc hp (qz h4 fun _ s5 zq=>?_)
  obtain⟨x,H5,I5,r5,y5,st5,fr5⟩:=zq;have I5':=I5.pinned (stat fr5) (T.obj _ _ st5);refine Fc hp (qz (hg _ s5 σ3 H5 x u _ I5' r5 (step x H5 y5)) fun _ s6 zq=>?_)
  obtain⟨σ6,H6,I6,q6⟩:=zq;refine Fc hp (qz (hb _ s6 σ6 H6 _ I6 q6) fun f s7 q7=>?_)
  have again:∀{σ7:St} {H7:Hp},F3 X (tx++ZR fp s5.heap) σ7 H7 s7->N σ7 H7->∃m,m<n/\∃i σ' H',F3 X tx σ' H' s7/\tn i s7.heap/\(∀b∈fp,H' b=none)/\W i m σ' H':=fun{σ7 H7} I7 n7=>by
   obtain⟨m',hm,w7⟩:=hN σ7 H7 n7;refine⟨m',hm,i+1,σ7,H7,I7.unpinned,T.keep _ _ _ st5 fun b hb o e=>(I7.pin (b,o) (J1 _ (J1 _ (Zr hb e)))).1,fun b hb=>?_,w7⟩
   obtain⟨o,e,d⟩:=T.obj _ _ st5 b hb
   exact(I7.pin (b,o) (J1 _ (J1 _ (Zr hb e)))).2.1
  cases f with
  |next=>obtain⟨σ7,H7,I7,n7⟩:=q7;exact again I7 n7
  |cont=>obtain⟨σ7,H7,I7,n7⟩:=q7;exact again I7 n7
  |brk=>obtain⟨σ7,H7,I7,q7⟩:=q7;exact⟨σ7,H7,I7.unpinned,q7⟩
  |ret v=>obtain⟨x7,σ7,H7,I7,r7,q7⟩:=q7;exact⟨x7,σ7,H7,I7.unpinned,r7,q7⟩
end
theorem Qc{K:Frag}{a:Addr}{xs:List V}{g:TG}{tb:TS}{D:GX}{σ:St}{H:Hp}(Pv:Nat->St->Hp->Prop)(h0:Pv 0 σ H)(hl:∀i σ H,i<=xs.length->Pv i σ H->F8 K H a xs)
  (hs:∀i x σ H,xs[i]? =some x->Pv i σ H->g x σ H fun σ2 H2=>tb {D with nx:=Pv (i+1),ct:=Pv (i+1),bk:=D.nx} σ2 H2)(hd:∀σ H,Pv xs.length σ H->D.nx σ H):
  ∃W:Nat->Nat->St->Hp->Prop,(∃m,W 0 m σ H)/\∀i m σ H,W i m σ H->
   ((i3 K a).stop i H/\D.nx σ H)\/((i3 K a).go i H/\∃N:St->Hp->Prop,(∀σ' H',N σ' H'->∃m',m'<m/\W (i+1) m' σ' H')/\∀x H',(i3 K a).yld i H x H'->g x σ H' fun σ2 H2=>tb {D with nx:=N,ct:=N,bk:=D.nx} σ2 H2):=by
 refine⟨fun i m σ H=>m=xs.length-i/\i<=xs.length/\Pv i σ H,⟨xs.length,by simp,JB _,h0⟩,?_⟩
 rintro i m σ H ⟨rfl,hi,p⟩
 have q:=hl i σ H hi p
 by_cases hlt:i<xs.length
 ·refine .inr ⟨⟨xs,xs[i],q,by simp [hlt]⟩,Pv (i+1),fun σ' H' p'=>⟨xs.length-(i+1),by omega,rfl,hlt,p'⟩,fun x H' y=>?_⟩
  obtain⟨e,y⟩:=y;subst e;exact hs i x σ _ (y xs q) p
 ·have e:i=xs.length:=by omega
  subst e;exact .inl ⟨⟨xs,q,Je _⟩,hd σ H p⟩
theorem nG{K:Frag}{a:Addr}{xs:List V}{g:TG}{tb:TS}{D:GX}{σ:St}{H:Hp}(Pv:Nat->St->Hp->Prop)(h0:Pv 0 σ H)(hl:∀i σ H,i<=xs.length->Pv i σ H->Ga K H a xs)
  (hs:∀i x σ H,xs[i]? =some x->Pv i σ H->g x σ H fun σ2 H2=>tb {D with nx:=Pv (i+1),ct:=Pv (i+1),bk:=D.nx} σ2 H2)(hd:∀σ H,Pv xs.length σ H->D.nx σ H):
  ∃W:Nat->Nat->St->Hp->Prop,(∃m,W 0 m σ H)/\∀i m σ H,W i m σ H->
   ((jo K a).stop i H/\D.nx σ H)\/((jo K a).go i H/\∃N:St->Hp->Prop,(∀σ' H',N σ' H'->∃m',m'<m/\W (i+1) m' σ' H')/\∀x H',(jo K a).yld i H x H'->g x σ H' fun σ2 H2=>tb {D with nx:=N,ct:=N,bk:=D.nx} σ2 H2):=by
 refine⟨fun i m σ H=>m=xs.length-i/\i<=xs.length/\Pv i σ H,⟨xs.length,by simp,JB _,h0⟩,?_⟩
 rintro i m σ H ⟨rfl,hi,p⟩
 have q:=hl i σ H hi p
 by_cases hlt:i<xs.length
 ·refine .inr ⟨⟨xs,xs[i],q,by simp [hlt]⟩,Pv (i+1),fun σ' H' p'=>⟨xs.length-(i+1),by omega,rfl,hlt,p'⟩,fun x H' y=>?_⟩
  obtain⟨e,y⟩:=y;subst e;exact hs i x σ _ (y xs q) p
 ·have e:i=xs.length:=by omega
  subst e;exact .inl ⟨⟨xs,q,Je _⟩,hd σ H p⟩
theorem zY{lo:Int}{n:Nat}{g:TG}{tb:TS}{D:GX}{σ:St}{H:Hp}(Pv:Nat->St->Hp->Prop)(h0:Pv 0 σ H)
  (hs:∀i σ H,i<n->Pv i σ H->g (.int (lo+i)) σ H fun σ2 H2=>tb {D with nx:=Pv (i+1),ct:=Pv (i+1),bk:=D.nx} σ2 H2)(hd:∀σ H,Pv n σ H->D.nx σ H):
  ∃W:Nat->Nat->St->Hp->Prop,(∃m,W 0 m σ H)/\∀i m σ H,W i m σ H->
   ((jb lo n).stop i H/\D.nx σ H)\/((jb lo n).go i H/\∃N:St->Hp->Prop,(∀σ' H',N σ' H'->∃m',m'<m/\W (i+1) m' σ' H')/\∀x H',(jb lo n).yld i H x H'->g x σ H' fun σ2 H2=>tb {D with nx:=N,ct:=N,bk:=D.nx} σ2 H2):=by
 refine⟨fun i m σ H=>m=n-i/\i<=n/\Pv i σ H,⟨n,by simp,JB _,h0⟩,?_⟩
 rintro i m σ H ⟨rfl,hi,p⟩
 by_cases hlt:i<n
 ·refine .inr ⟨hlt,Pv (i+1),fun σ' H' p'=>⟨n-(i+1),by omega,rfl,hlt,p'⟩,fun x H' y=>?_⟩
  obtain⟨e,y⟩:=y;subst e y;exact hs i σ _ hlt p
 ·have e:i=n:=by omega
  subst e;exact .inl ⟨Je _,hd σ H p⟩
abbrev R2:=V->V->Hp->VK->Prop
def zx(X:Cx)(f:Value->Value->Sem Value)(r:R2):Prop:=
 ∀(tx:FY) (s:Shared) (σ:St) (H:Hp) (x y:V) (v u:Value) (Q:VK),F3 X tx σ H s->F9 x v->F9 y u->r x y H Q->
  wpAny (model X.prog X.w) X.A (f v u) (EP X tx σ Q) X.xe s
def qT(X:Cx)(f:Value)(r:List V->Hp->VK->Prop):Prop:=
 ∀(tx:FY) (s:Shared) (σ:St) (H:Hp) (xs:List V) (us:List Value) (Q:VK),F3 X tx σ H s->F6 xs us->r xs H Q->
  wpAny (model X.prog X.w) X.A (call f us) (EP X tx σ Q) X.xe s
def i9(r:R2)(ta tb:TE):TE:=fun σ H Q=>ta σ H fun x H1=>tb σ H1 fun y H2=>r x y H2 Q
def rI(C:Int->Int->Prop)(g:Int->Int->V):R2:=fun x y H Q=>∃i j,x= .int i/\y= .int j/\C i j/\Q (g i j) H
def iR(g:Int->Int->V):R2:=fun x y H Q=>∃i j,x= .int i/\y= .int j/\Q (g i j) H
section
variable{X:Cx}{a b:Expr}{ta tb:TE}{pos:Pos}
theorem wN(ha:PE X a ta)(hb:PE X b tb){tx:FY}{s:Shared}{σ:St}{H:Hp}{R:V->V->Hp->Prop}(I:F3 X tx σ H s)
  (h:ta σ H fun x H1=>tb σ H1 fun y H2=>R x y H2){Q:FW}{f:Value->Value->Sem Value}
  (hf:∀v u s2 x y H2,F3 X tx σ H2 s2->F9 x v->F9 y u->R x y H2->wpAny (model X.prog X.w) X.A (f v u) Q X.xe s2):
  wpAny (model X.prog X.w) X.A (eval a X.env) (fun v s₁=>wpAny (model X.prog X.w) X.A (eval b X.env) (fun u s₂=>wpAny (model X.prog X.w) X.A (f v u) Q X.xe s₂) X.xe s₁) X.xe s:=by
 refine qz (ha tx s σ H _ I h) fun v s1 zq=>?_
 obtain⟨x,H1,I1,r1,q1⟩:=zq;refine qz (hb tx s1 σ H1 _ I1 q1) fun u s2 zq=>?_
 obtain⟨y,H2,I2,r2,q2⟩:=zq;exact hf v u s2 x y H2 I2 r1 r2 q2
theorem C7{op:Operator}{r:R2}(ho:zx X (binaryOp op) r)(ha:PE X a ta)(hb:PE X b tb):PE X (.BinOp a op b pos) (i9 r ta tb):=by
 intro tx s σ H Q I h;exact wpAny_BinOp (wN ha hb I h fun v u s2 x y H2 I2 rx ry q=>ho tx s2 σ H2 x y v u Q I2 rx ry q)
theorem xf{f:Value->Value->Sem Value}{C:Int->Int->Prop}{g:Int->Int->Int}
  (rule:∀(i j:Int) (t u:Tok) (s:Shared) (Q:FW) (E:FW),C i j->Q (.int (g i j) s.toks) {s with toks:=s.toks+1}->wpAny (model X.prog X.w) X.A (f (.int i t) (.int j u)) Q E s):
  zx X f (rI C fun i j=> .int (g i j)):=by
 intro tx s σ H x y v u Q I rx ry h;obtain⟨i,j,rfl,rfl,hc,q⟩:=h;obtain⟨t,rfl⟩:=rx;obtain⟨t',rfl⟩:=ry;exact rule i j t t' s _ _ hc ⟨.int (g i j),H,I.tok _,⟨_,rfl⟩,q⟩
theorem Ch{f:Value->Value->Sem Value}{g:Int->Int->Int}
  (rule:∀(i j:Int) (t u:Tok) (s:Shared) (Q:FW) (E:FW),Q (.int (g i j) s.toks) {s with toks:=s.toks+1}->wpAny (model X.prog X.w) X.A (f (.int i t) (.int j u)) Q E s):
  zx X f (iR fun i j=> .int (g i j)):=by
 intro tx s σ H x y v u Q I rx ry h;obtain⟨i,j,rfl,rfl,q⟩:=h;obtain⟨t,rfl⟩:=rx;obtain⟨t',rfl⟩:=ry;exact rule i j t t' s _ _ ⟨.int (g i j),H,I.tok _,⟨_,rfl⟩,q⟩
theorem pT{f:Value->Value->Sem Value}{g:Int->Int->Bool}
  (rule:∀(i j:Int) (t u:Tok) (s:Shared) (Q:FW) (E:FW),Q (.bool (g i j)) s->wpAny (model X.prog X.w) X.A (f (.int i t) (.int j u)) Q E s):
  zx X f (iR fun i j=> .bl (g i j)):=by
 intro tx s σ H x y v u Q I rx ry h;obtain⟨i,j,rfl,rfl,q⟩:=h;obtain⟨t,rfl⟩:=rx;obtain⟨t',rfl⟩:=ry;exact rule i j t t' s _ _ ⟨.bl (g i j),H,I,rfl,q⟩
def Dt(i j:Int):Prop:=0<j/\j<1073741824
def DC(i j:Int):Prop:=0<=j/\j<=1000000/\i.natAbs<2 ^ 64
def II(i j:Int):Prop:=(-(2 ^ 64)<i/\i<2 ^ 64)\/(-(2 ^ 64)<j/\j<2 ^ 64)
theorem II.ok{i j:Int}(h:II i j):IntMulOk i j:=by
 rcases h with⟨h1,h2⟩|⟨h1,h2⟩
 ·exact .of_left (intBits_le_64 h1 h2)
 ·exact .of_right (intBits_le_64 h1 h2)
theorem qJ:zx X (binaryOp .Add) (iR fun i j=> .int (i+j)):=Ch fun _ _ _ _ _ _ _ q=>add_int q
theorem Qe:zx X (binaryOp .Sub) (iR fun i j=> .int (i-j)):=Ch fun _ _ _ _ _ _ _ q=>sub_int q
theorem Q0:zx X (binaryOp .Mult) (rI II fun i j=> .int (i*j)):=xf fun _ _ _ _ _ _ _ hc q=>mul_int q hc.ok
theorem bB:zx X (binaryOp .FloorDiv) (rI Dt fun i j=> .int (i/j)):=xf fun i j _ _ _ _ _ hc q=>by
 have h1:(0:Int)<j:=hc.1
 have h2:j<1073741824:=hc.2
 exact floordiv_int (by omega) (by rw[Int.fdiv_eq_ediv_of_nonneg i (by omega)];exact q) (.inl (PyProof.noPylong_small (by omega)))
theorem Qi:zx X (binaryOp .Mod) (rI (fun _ j=>0<j) fun i j=> .int (i%j)):=xf fun i j _ _ _ _ _ hc q=>by
 have h1:(0:Int)<j:=hc
 exact mod_int' (by omega) (by rw[Int.fmod_eq_emod_of_nonneg i (by omega)];exact q)
theorem Bx:zx X (binaryOp .Pow) (rI DC fun i j=> .int (i ^ j.toNat)):=xf fun _ _ _ _ _ _ _ hc q=>pow_int_small hc.1 hc.2.1 hc.2.2 q
end
def Bg:V->V->Bool
 | .non,.non=>true| .non,.int _=>true| .int _,.non=>true| .non,.bl _=>true| .bl _,.non=>true| .non,.str _=>true| .str _,.non=>true
 | .int _,.int _=>true| .bl _,.bl _=>true| .str _,.str _=>true| .byt _,.byt _=>true
 | .int _,.str _=>true| .str _,.int _=>true| .bl _,.str _=>true| .str _,.bl _=>true
 |_,_=>false
def DN:R2:=fun x y H Q=>Bg x y=true/\Q (.bl (decide (x=y))) H
def DJ:R2:=fun x y H Q=>Bg x y=true/\Q (.bl (!decide (x=y))) H
theorem oK{i j:Int}:decide (V.int i=V.int j)=(i==j):=by
 rw[D5];simp
theorem ul{i j:Bool}:decide (V.bl i=V.bl j)=(i==j):=by
 rw[D5];simp
theorem oh{i j:Str}:decide (V.str i=V.str j)=(i==j):=by
 rw[D5];simp
theorem nX{i j:Array UInt8}:decide (V.byt i=V.byt j)=(i.toList==j.toList):=by
 rw[D5];cases i;cases j;simp
section
variable{X:Cx}{a b c:Expr}{ta tb tc:TE}{pos:Pos}
theorem qN{tx:FY}{σ:St}{H:Hp}{s:Shared}{Q:VK}{k k':Bool}(I:F3 X tx σ H s)(q:Q (.bl k) H)(e:k=k'):EP X tx σ Q (.bool k') s:=by
 subst e
 exact⟨.bl k,H,I,rfl,q⟩
theorem zz:zx X (compareOp .Eq) DN:=by
 intro tx s σ H x y v u Q I rx ry h;obtain⟨hs,q⟩:=h;cases x with
 |non=>
  cases rx;cases y with
  |non=>cases ry;exact PySem.EqNone.eq_none_none (qN I q (by simp))
  |bl j=>cases ry;exact PySem.EqNone.eq_none_bool (qN I q (by simp))
  |int j=>obtain⟨t',rfl⟩:=ry;exact PySem.EqNone.eq_none_int (qN I q (by simp))
  |str j=>obtain⟨t',rfl⟩:=ry;exact PySem.EqNone.eq_none_str (qN I q (by simp))
  |_=>exact absurd (show false=true from hs) JQ
 |bl i=>
  cases rx;cases y with
  |non=>cases ry;exact PySem.EqNone.eq_bool_none (qN I q (by simp))
  |bl j=>cases ry;exact eq_bool (qN I q ul)
  |str j=>obtain⟨t',rfl⟩:=ry;exact PySem.EqMixed.eq_bool_str (qN I q (by simp))
  |_=>exact absurd (show false=true from hs) JQ
 |int i=>
  obtain⟨t,rfl⟩:=rx;cases y with
  |non=>cases ry;exact PySem.EqNone.eq_int_none (qN I q (by simp))
  |int j=>obtain⟨t',rfl⟩:=ry;exact eq_int (qN I q oK)
  |str j=>obtain⟨t',rfl⟩:=ry;exact PySem.EqMixed.eq_int_str (qN I q (by simp))
  |_=>exact absurd (show false=true from hs) JQ
 |str i=>
  obtain⟨t,rfl⟩:=rx;cases y with
  |non=>cases ry;exact PySem.EqNone.eq_str_none (qN I q (by simp))
  |bl j=>cases ry;exact PySem.EqMixed.eq_str_bool (qN I q (by simp))
  |int j=>obtain⟨t',rfl⟩:=ry;exact PySem.EqMixed.eq_str_int (qN I q (by simp))
  |str j=>obtain⟨t',rfl⟩:=ry;exact eq_str (qN I q oh)
  |_=>exact absurd (show false=true from hs) JQ
 |byt i=>
  obtain⟨t,rfl⟩:=rx;cases y with
  |byt j=>obtain⟨t',rfl⟩:=ry;exact W.eq_bytes (qN I q nX)
  |_=>exact absurd (show false=true from hs) JQ
 |_=>cases y<;>exact absurd (show false=true from hs) JQ
theorem Z9:zx X (compareOp .NotEq) DJ:=by
 intro tx s σ H x y v u Q I rx ry h;obtain⟨hs,q⟩:=h;cases x with
 |non=>
  cases rx;cases y with
  |non=>cases ry;exact PySem.EqNone.ne_none_none (qN I q (by simp))
  |bl j=>cases ry;exact PySem.EqNone.ne_none_bool (qN I q (by simp))
  |int j=>obtain⟨t',rfl⟩:=ry;exact PySem.EqNone.ne_none_int (qN I q (by simp))
  |str j=>obtain⟨t',rfl⟩:=ry;exact PySem.EqNone.ne_none_str (qN I q (by simp))
  |_=>exact absurd (show false=true from hs) JQ
 |bl i=>
  cases rx;cases y with
  |non=>cases ry;exact PySem.EqNone.ne_bool_none (qN I q (by simp))
  |bl j=>cases ry;exact ne_bool (qN I q (J0 not ul))
  |str j=>obtain⟨t',rfl⟩:=ry;exact PySem.EqMixed.ne_bool_str (qN I q (by simp))
  |_=>exact absurd (show false=true from hs) JQ
 |int i=>
  obtain⟨t,rfl⟩:=rx;cases y with
  |non=>cases ry;exact PySem.EqNone.ne_int_none (qN I q (by simp))
  |int j=>obtain⟨t',rfl⟩:=ry;exact ne_int (qN I q (J0 not oK))
  |str j=>obtain⟨t',rfl⟩:=ry;exact PySem.EqMixed.ne_int_str (qN I q (by simp))
  |_=>exact absurd (show false=true from hs) JQ
 |str i=>
  obtain⟨t,rfl⟩:=rx;cases y with
  |non=>cases ry;exact PySem.EqNone.ne_str_none (qN I q (by simp))
  |bl j=>cases ry;exact PySem.EqMixed.ne_str_bool (qN I q (by simp))
  |int j=>obtain⟨t',rfl⟩:=ry;exact PySem.EqMixed.ne_str_int (qN I q (by simp))
  |str j=>obtain⟨t',rfl⟩:=ry;exact ne_str (qN I q (J0 not oh))
  |_=>exact absurd (show false=true from hs) JQ
 |byt i=>
  obtain⟨t,rfl⟩:=rx;cases y with
  |byt j=>obtain⟨t',rfl⟩:=ry;exact W.ne_bytes (qN I q (J0 not nX))
  |_=>exact absurd (show false=true from hs) JQ
 |_=>cases y<;>exact absurd (show false=true from hs) JQ
theorem eW:zx X (compareOp .Lt) (iR fun i j=> .bl (decide (i<j))):=pT fun _ _ _ _ _ _ _ q=>lt_int q
theorem ZP:zx X (compareOp .LtE) (iR fun i j=> .bl (decide (i<=j))):=pT fun _ _ _ _ _ _ _ q=>le_int q
theorem wR:zx X (compareOp .Gt) (iR fun i j=> .bl (decide (j<i))):=pT fun _ _ _ _ _ _ _ q=>gt_int q
theorem rp:zx X (compareOp .GtE) (iR fun i j=> .bl (decide (j<=i))):=pT fun _ _ _ _ _ _ _ q=>ge_int q
theorem zM:zx X (compareOp .Is) (fun x y H Q=>y= .non/\Q (.bl (decide (x= .non))) H):=by
 intro tx s σ H x y v u Q I rx ry h;obtain⟨rfl,q⟩:=h;cases ry;refine is_none_gen (qN I q ?_)
 cases x<;>first
  |(cases rx;rfl)
  |(obtain⟨t,rfl⟩:=rx;rfl)
theorem aj:zx X (compareOp .IsNot) (fun x y H Q=>y= .non/\Q (.bl (!decide (x= .non))) H):=by
 intro tx s σ H x y v u Q I rx ry h;obtain⟨rfl,q⟩:=h;cases ry;refine isnot_none_gen (qN I q ?_)
 cases x<;>first
  |(cases rx;rfl)
  |(obtain⟨t,rfl⟩:=rx;rfl)
theorem qq(b:Expr){op:CmpOp}(h:op≠ .In:=by decide)(h2:op≠ .NotIn:=by decide):behindInMarks op b=false:=by
 have e1:(op==CmpOp.In)=false:=by cases op<;>first|rfl|exact absurd rfl h
 have e2:(op==CmpOp.NotIn)=false:=by cases op<;>first|rfl|exact absurd rfl h2
 cases b<;>simp [behindInMarks,e1,e2]
theorem AH{op:CmpOp}{r:R2}(ho:zx X (compareOp op) r)(ha:PE X a ta)(hb:PE X b tb)(hm:behindInMarks op b=false):PE X (.Compare a [op] [b] pos) (i9 r ta tb):=by
 intro tx s σ H Q I h;exact wpAny_Compare1 (wN ha hb I h fun v u s2 x y H2 I2 rx ry q=>ho tx s2 σ H2 x y v u Q I2 rx ry q) hm
def gY(t:TE):TT:=fun σ H Q=>t σ H fun x H'=>∃k,x= .bl k/\Q k H'
theorem AO{op:CmpOp}{r:R2}(ho:zx X (compareOp op) r)(ha:PE X a ta)(hb:PE X b tb)(hm:behindInMarks op b=false):PT X (.Compare a [op] [b] pos) (gY (i9 r ta tb)):=by
 intro tx s σ H Q I h;refine wpAny_isTrue_Compare1 (qz (ha tx s σ H _ I h) fun v s1 ⟨x,H1,I1,r1,q1⟩=>qz (hb tx s1 σ H1 _ I1 q1) fun u s2 ⟨y,H2,I2,r2,q2⟩=>
  qz (ho tx s2 σ H2 x y v u _ I2 r1 r2 q2) fun c s3 ⟨z,H3,I3,r3,k,e,q3⟩=>?_) hm
 subst e;cases r3;exact Ei ⟨H3,I3,q3⟩
def g8(r r':R2)(ta tb tc:TE):TE:=fun σ H Q=>ta σ H fun x H1=>tb σ H1 fun y H2=>r x y H2 fun z H3=>∃k,z= .bl k/\
 (if k=true then tc σ H3 fun w' H4=>r' y w' H4 Q else Q (.bl false) H3)
theorem ve{op op':CmpOp}{r r':R2}(ho:zx X (compareOp op) r)(ho':zx X (compareOp op') r')(ha:PE X a ta)(hb:PE X b tb)(hc:PE X c tc)
  (hm:lastMarks [op,op'] [b,c]=false:=by with_unfolding_all rfl):PE X (.Compare a [op,op'] [b,c] pos) (g8 r r' ta tb tc):=by
 intro tx s σ H Q I h;refine Compare_chain (qz (ha tx s σ H _ I h) fun v s1 ⟨x,H1,I1,r1,q1⟩=>chain_link (qz (hb tx s1 σ H1 _ I1 q1) fun u s2 ⟨y,H2,I2,r2,q2⟩=>
  qz (ho tx s2 σ H2 x y v u _ I2 r1 r2 q2) fun d s3 ⟨z,H3,I3,r3,k,e,q3⟩=>?_)) hm
 subst e;cases r3;refine Ei ?_
 cases k with
 |false=>exact ite_ff ⟨.bl false,H3,I3,rfl,q3⟩
 |true=>exact ite_tt (chain_last (qz (hc tx s3 σ H3 _ I3 q3) fun w' s4 ⟨z',H4,I4,r4,q4⟩=>ho' tx s4 σ H4 y z' u w' Q I4 r2 r4 q4))
theorem vF{op op':CmpOp}{r r':R2}(ho:zx X (compareOp op) r)(ho':zx X (compareOp op') r')(ha:PE X a ta)(hb:PE X b tb)(hc:PE X c tc)
  (hm:lastMarks [op,op'] [b,c]=false:=by with_unfolding_all rfl):PT X (.Compare a [op,op'] [b,c] pos) (gY (g8 r r' ta tb tc)):=by
 intro tx s σ H Q I h;refine isTrue_chain (qz (ha tx s σ H _ I h) fun v s1 ⟨x,H1,I1,r1,q1⟩=>test_link (qz (hb tx s1 σ H1 _ I1 q1) fun u s2 ⟨y,H2,I2,r2,q2⟩=>
  qz (ho tx s2 σ H2 x y v u _ I2 r1 r2 q2) fun d s3 ⟨z,H3,I3,r3,k,e,q3⟩=>?_)) hm
 subst e;cases r3;refine Ei ?_
 cases k with
 |false=>
  obtain⟨k',e',q'⟩:=q3;cases e';exact ite_ff ⟨H3,I3,q'⟩
 |true=>
  refine ite_tt (test_last (qz (hc tx s3 σ H3 _ I3 q3) fun w' s4 ⟨z',H4,I4,r4,q4⟩=>qz (ho' tx s4 σ H4 y z' u w' _ I4 r2 r4 q4) fun d' s5 zq=>?_))
  obtain⟨z2,H5,I5,r5,k2,e2,q5⟩:=zq;subst e2;cases r5;exact Ei ⟨H5,I5,q5⟩
theorem ZS:(sizeLine:Nat)<2 ^ 63:=by rw[JH];decide
theorem zL{x:V}{us:List Value}(r:F6 [x] us):∃u,us=[u]/\F9 x u:=by
 cases r with
 |cons r1 r2=>cases r2;exact⟨_,rfl,r1⟩
theorem ff{x y:V}{us:List Value}(r:F6 [x,y] us):∃u w',us=[u,w']/\F9 x u/\F9 y w':=by
 cases r with
 |cons r1 r2=>
  cases r2 with
  |cons r3 r4=>cases r4;exact⟨_,_,rfl,r1,r3⟩
theorem ke:qT X (.builtin "abs") (fun xs H Q=>∃i,xs=[.int i]/\Q (.int (if i<0 then -i else i)) H):=by
 intro tx s σ H xs us Q I r h;obtain⟨i,rfl,q⟩:=h;obtain⟨u,rfl,t,rfl⟩:=zL r;exact call_abs_int fun u tk=>⟨.int (if i<0 then -i else i),H,I.tok _,⟨_,rfl⟩,q⟩
theorem ji(hc:X.calm=true):qT X (.builtin "max") (fun xs H Q=>∃i j,xs=[.int i,.int j]/\Q (.int (if j>i then j else i)) H):=by
 intro tx s σ H xs us Q I r h;obtain⟨i,j,rfl,q⟩:=h;obtain⟨u,w',rfl,⟨t,rfl⟩,⟨t',rfl⟩⟩:=ff r;refine max_two_ints (I.ok.hd hc) fun h' tk k=>⟨_,H,I.kept k,?_,q⟩
 by_cases hj:j>i
 ·rw[Jc hj,Jc hj];exact⟨_,rfl⟩
 ·rw[Jb hj,Jb hj];exact⟨_,rfl⟩
theorem zZ(hc:X.calm=true):qT X (.builtin "min") (fun xs H Q=>∃i j,xs=[.int i,.int j]/\Q (.int (if j<i then j else i)) H):=by
 intro tx s σ H xs us Q I r h;obtain⟨i,j,rfl,q⟩:=h;obtain⟨u,w',rfl,⟨t,rfl⟩,⟨t',rfl⟩⟩:=ff r;refine min_two_ints (I.ok.hd hc) fun h' tk k=>⟨_,H,I.kept k,?_,q⟩
 by_cases hj:j<i
 ·rw[Jc hj,Jc hj];exact⟨_,rfl⟩
 ·rw[Jb hj,Jb hj];exact⟨_,rfl⟩
theorem rY:qT X (.type "int") (fun xs H Q=>(∃i,xs=[.int i]/\Q (.int i) H)\/∃k,xs=[.bl k]/\Q (.int (if k then 1 else 0)) H):=by
 intro tx s σ H xs us Q I r h;rcases h with⟨i,rfl,q⟩|⟨k,rfl,q⟩
 ·obtain⟨u,rfl,t,rfl⟩:=zL r
  exact call_int_int ⟨.int i,H,I,⟨_,rfl⟩,q⟩
 ·obtain⟨u,rfl,r1⟩:=zL r
  cases r1;exact call_int_bool ⟨.int (if k then 1 else 0),H,I.tok _,⟨_,rfl⟩,q⟩
theorem ko:qT X (.builtin "ord") (fun xs H Q=>∃x,xs=[.str x]/\x.length=1/\Q (.int (x.cps.getD 0 0:Nat)) H):=by
 intro tx s σ H xs us Q I r h;obtain⟨x,rfl,hz,q⟩:=h;obtain⟨u,rfl,t,rfl⟩:=zL r;exact ord_of_one hz ⟨.int _,H,I.tok _,⟨_,rfl⟩,q⟩
end
structure Ig(h:Heap)(x dx C:Addr)(mA:FX):Prop where
 obj:h.get? x=some (PySem.W.instObj C dx)
 ns:h.Ns1 dx mA
 ne:dx≠x
theorem uK{h:Heap}{dx:Addr}{mA:FX}(n:h.Ns1 dx mA):∃od,h.get? dx=some od/\∀name,W.lookIn name od=some (mA name):=by
 obtain⟨o,es,ep,ho,hd,hk,_,hm⟩:=n;refine⟨o,ho,fun name=>?_⟩
 have e:=hm name;unfold nsFind findBy at e;rw[<- Array.find?_toList]at e;unfold W.lookIn;rw[hd]
 dsimp only
 split
 ·rename_i y q
  rw[q]at e;exact J0 some e
 ·rename_i q
  rw[q]at e;have a:es.toList.any (·.refKey)=false:=by
   rw[List.any_eq_false];intro y hy;obtain⟨z,t,hkey⟩:=hk y (Array.mem_toList_iff.mp hy)
   simp [DictEntry.refKey,hkey]
  have a':¬es.toList.any (·.refKey)=true:=by rw[a];exact JQ
  rw[Jb a'];exact J0 some e
theorem Ig.look{h:Heap}{x dx C:Addr}{mA:FX}(I:Ig h x dx C mA):∃od,W.InstAt h x (W.instObj C dx) C (some od)/\∀name,W.lookIn name od=some (mA name):=
 let⟨od,ho,hl⟩:=uK I.ns
 ⟨od,⟨I.obj,rfl,rfl,ho⟩,hl⟩
section
variable{prog:Program}{w:World}{A:Around}{E:FW}{s:Shared}{K:Frag}{x dx C f:Addr}{mA:FX}{name:Str}{v:Value}
theorem yQ{expr:Bool}{Q:FW}(X:K.In s.heap)(I:Ig s.heap x dx C mA)(hg:W.plainGet K C name=true)(hh:W.hasDictIn K C=true)
  (ha:W.findIn K (.ref C) name=some none)(hv:mA name=some v)(hv':W.handedIn v=true)(h:Q v {s with toks:=s.toks+1}):
  wpAny (model prog w) A (getAttr (.ref x) name expr) Q E s:=by
 obtain⟨od,J,hl⟩:=I.look;exact W.get_value X J (W.plainGet_of hg).1 (W.findObj_own hh ha rfl (by rw[hl,hv])) hv' h
theorem vk{pl:Sem Bool}{Q:Value×List Value->Shared->Prop}(X:K.In s.heap)(I:Ig s.heap x dx C mA)(hg:W.plainGet K C name=true)
  (hf:W.findIn K (.ref C) name=some (some (.ref f)))(ht:W.isFn K (.ref f)=true)(hv:mA name=none)(h:Q (.ref f,[.ref x]) s):
  wpAny (model prog w) A (getMethod (.ref x) name pl) Q E s:=by
 obtain⟨od,J,hl⟩:=I.look;exact W.method_fn X J (W.plainGet_of hg).1 (W.plainGet_of hg).2 hf (J3.mp ht) (by show(W.lookIn name od).map (·.isSome)=some false;rw[hl,hv];rfl) h
theorem AU{ns:List Str}{Q:Unit->Shared->Prop}(X:K.In s.heap)(I:Ig s.heap x dx C mA)
  (hs:W.findIn K (.ref C) "__setattr__"=some (some (.builtin "object.__setattr__")))(hp:W.plainOver K C=true)(ht:W.takerIn K C name=some none)(hh:W.hasDictIn K C=true)
  (hw:PySem.Within mA ns)(hsz:ns.length<=sizeLine)
  (h:∀h',Ig h' x dx C (fun y=>if y=name then some v else mA y)->Heap.SameBut dx s.heap h'->Q () {s with heap:=h',toks:=s.toks+2}):
  wpAny (model prog w) A (setAttr (.ref x) name v) Q E s:=by
 obtain⟨od,J,hl⟩:=I.look;refine W.set_plain X J hs (W.osa_open (s:={s with toks:=s.toks+1}) (r:=none) X J hp ht fun b=>?_)
 obtain⟨cd,hc,hd'⟩:=W.any_some hh;have hx:s.heap.get? x=some ⟨.ref C,some dx,.plain,#[]⟩:=I.obj
 refine Ja (Jd (Ja (Ja (wpAny_loadPart hx (Ja (W.Looks.here (s:={s with toks:=s.toks+1}) (W.looks_clsIn X hc) ?_))))))
 rw[hd'];refine Jd (a:=some dx) (Ja (Jd (Ja ?_)))
 refine wpAny_nsSet1 (s:={s with toks:=s.toks+1}) I.ns fun h' hn2 hs2=>?_
 obtain⟨oD,esD,epD,hoD,hdD,hcD⟩:=hn2.count (PySem.Within.cons name v hw)
 refine Ja (wpAny_lookBehind hoD (by rw[hdD];exact pastItsLine_dict (JM hcD (by rw[JN];omega))) ?_)
 exact Jd (h _ ⟨(hs2.2 _ (Ne.symm I.ne)).trans I.obj,hn2,I.ne⟩ hs2)
theorem wx{R:Result->Shared->Prop}{vs:List Value}{kw:List (Str×Value)}(X:K.In s.heap)(hm:W.makesIn K C=true)
  (hi:W.findIn K (.ref C) "__init__"=some (some (.ref f)))(hf:W.typeIn K (.ref f)=some (.type "function"))
  (h:codeAny (model prog w) (A.under (.builtin "type.__call__" ⟨.ref C::vs,kw⟩)) (.call (.ref f) ⟨.ref (s.heap.objs.size+1)::vs,kw⟩) (W.InitBack (s.heap.objs.size+1) R)
   {s with heap:=(s.heap.push W.emptyDict).push (W.instObj C s.heap.objs.size)}):
  codeAny (model prog w) A (.call (.ref C) ⟨vs,kw⟩) R s:=by
 obtain⟨hh,g,d,t,os⟩:=s;exact W.make_core (W.makes_of X hm) (W.looks_findIn X hi) (fun self=>W.bind_fn X self hf) (.inl rfl) h
end
def Qx(f:Str)(v:V):List (Str×V)->List (Str×V)
 | []=>[(f,v)]
 |(g,x)::r=>if g=f then(g,v)::r else(g,x)::Qx f v r
theorem fQ(f g:Str)(v:V):∀fs:List (Str×V),(Qx f v fs).lookup g=if g=f then some v else fs.lookup g
 | []=>by
  show List.lookup g [(f,v)]=_
  by_cases h:g=f
  ·have hb:(g==f)=true:=J3.mpr h
   simp only[List.lookup,hb,Jc h]
  ·have hb:(g==f)=false:=Eh.mpr h
   simp only[List.lookup,hb,Jb h]
 |(k,x)::r=>by
  have ih:=fQ f g v r;rw[show Qx f v ((k,x)::r)=(if k=f then(k,v)::r else(k,x)::Qx f v r)from rfl]
  by_cases hk:k=f
  ·rw[Jc hk]
   by_cases h:g=k
   ·have hb:(g==k)=true:=J3.mpr h
    simp only[List.lookup,hb,Jc (h.trans hk)]
   ·have hb:(g==k)=false:=Eh.mpr h
    simp only[List.lookup,hb,Jb (fun e:g=f=>h (e.trans hk.symm))]
  ·rw[Jb hk]
   by_cases h:g=k
   ·have hb:(g==k)=true:=J3.mpr h
    simp only[List.lookup,hb,Jb (fun e:g=f=>hk (h.symm.trans e))]
   ·have hb:(g==k)=false:=Eh.mpr h
    simp only[List.lookup,hb];exact ih
theorem cL(f:Str)(v:V):∀fs:List (Str×V),f∈(Qx f v fs).map (·.1)/\∀g,g∈fs.map (·.1)->g∈(Qx f v fs).map (·.1)
 | []=>⟨by simp [Qx],fun g h=>by simp at h⟩
 |(k,x)::r=>by
  obtain⟨i1,i2⟩:=cL f v r;rw[show Qx f v ((k,x)::r)=(if k=f then(k,v)::r else(k,x)::Qx f v r)from rfl]
  by_cases hk:k=f
  ·rw[Jc hk]
   subst hk
   exact⟨by simp,fun g h=>by simpa using h⟩
  ·rw[Jb hk]
   refine⟨?_,fun g h=>?_⟩
   ·rw[JR]
    exact JG _ i1
   ·rw[JR]at h⊢
    rcases Jk.mp h with e|e
    ·exact Jk.mpr (.inl e)
    ·exact JG _ (i2 g e)
theorem fN(f:Str)(v:V):∀fs:List (Str×V),(Qx f v fs).length<=fs.length+1
 | []=>by simp [Qx]
 |(k,x)::r=>by
  have ih:=fN f v r;rw[show Qx f v ((k,x)::r)=(if k=f then(k,v)::r else(k,x)::Qx f v r)from rfl]
  by_cases hk:k=f
  ·rw[Jc hk,JN,JN];omega
  ·rw[Jb hk,JN,JN];omega
theorem GY.some_of{v:V}{o:Option Value}(r:GY (some v) o):∃u,o=some u/\F9 v u:=by
 cases o with
 |none=>exact(show False from r).elim
 |some u=>exact⟨u,rfl,r⟩
theorem GY.none_of{o:Option Value}(r:GY none o):o=none:=by
 cases o with
 |none=>rfl
 |some u=>exact(show False from r).elim
theorem t7{v:V}{u:Value}(r:F9 v u):W.handedIn u=true:=by
 cases v with
 |non=>cases(show u=Value.none from r);rfl
 |bl b=>cases(show u=Value.bool b from r);rfl
 |int i=>obtain⟨t,e⟩:=(show∃t,u=Value.int i t from r);cases e;rfl
 |str x=>obtain⟨t,e⟩:=(show∃t,u=Value.str x t from r);cases e;rfl
 |byt b=>obtain⟨t,e⟩:=(show∃t,u=Value.bytes b t from r);cases e;rfl
 |flt b=>obtain⟨t,e⟩:=(show∃t,u=Value.float b t from r);cases e;rfl
 |ref a=>cases(show u=Value.ref a from r);rfl
 |ty n=>cases(show u=Value.type n from r);rfl
section
variable{P:Program}{w:World}{H:Hp}{h:Heap}{a C dx:Addr}{fs:List (Str×V)}
theorem eV(hok:Ht P w H h)(e:H a=some (.ins C dx fs)):∃mA,Ig h a dx C mA/\(∀f,GY (fs.lookup f) (mA f))/\PySem.Within mA (fs.map (·.1))/\fs.length<=1000/\H dx=some (.own a):=by
 obtain⟨d,z,ne,ob,mA,n,r,q⟩:=(show Gg P w H h a (.ins C dx fs)from hok a _ e)
 exact⟨mA,⟨ob,n,ne⟩,r,q,z,d⟩
end
structure Iq(K:Frag)(C:Addr):Prop where
 pg:PySem.W.plainGet K C Str.empty=true
 hd:PySem.W.hasDictIn K C=true
 po:PySem.W.plainOver K C=true
 sa:PySem.W.findIn K (.ref C) "__setattr__"=some (some (.builtin "object.__setattr__"))
theorem Iq.get{K:Frag}{C:Addr}(c:Iq K C)(f:Str):W.plainGet K C f=true:=c.pg
def Gq(K:Frag)(C:Addr)(f:Str):Prop:=PySem.W.findIn K (.ref C) f=some none
theorem Gq.taker{K:Frag}{C:Addr}{f:Str}(n:Gq K C f):W.takerIn K C f=some none:=by
 unfold W.takerIn;rw[show W.findIn K (.ref C) f=some none from n]
 rfl
structure IG(K:Frag)(C:Addr)(m:Str)(f:Addr):Prop where
 at_:PySem.W.findIn K (.ref C) m=some (some (.ref f))
 fn:PySem.W.isFn K (.ref f)=true
 kp:PySem.W.keepIn K (.ref f)=true
section
variable{X:Cx}{tx:FY}{σ:St}{H:Hp}{s:Shared}{a C dx:Addr}{fs:List (Str×V)}{f:Str}{v:V}{A:Around}{E:FW}
theorem pO{b:Bool}{Q:FW}(I:F3 X tx σ H s)(e:H a=some (.ins C dx fs))(c:Iq X.K C)(n:Gq X.K C f)(l:fs.lookup f=some v)
  (h:∀u s',F3 X tx σ H s'->F9 v u->Q u s'):wpAny (model X.prog X.w) A (getAttr (.ref a) f b) Q E s:=by
 obtain⟨mA,O,r,_,_,_⟩:=eV I.hok e;obtain⟨u,hu,ru⟩:=GY.some_of (v:=v) (o:=mA f) (by rw[<- l];exact r f)
 exact yQ I.kIn O (c.get f) c.hd n hu (t7 ru) (h u _ (I.tok _) ru)
theorem gR{m:Str}{g:Addr}{pl:Sem Bool}{Q:Value×List Value->Shared->Prop}(I:F3 X tx σ H s)(e:H a=some (.ins C dx fs))(c:Iq X.K C)(k:IG X.K C m g)(l:fs.lookup m=none)
  (h:Q (.ref g,[.ref a]) s):wpAny (model X.prog X.w) A (getMethod (.ref a) m pl) Q E s:=by
 obtain⟨mA,O,r,_,_,_⟩:=eV I.hok e;have hn:mA m=none:=GY.none_of (by rw[<- l];exact r m)
 exact vk I.kIn O (c.get m) k.at_ k.fn hn h
theorem pZ{y:V}{u:Value}{Q:Unit->Shared->Prop}(I:F3 X tx σ H s)(e:H a=some (.ins C dx fs))(c:Iq X.K C)(n:Gq X.K C f)(hl:fs.length<1000)(ry:F9 y u)
  (h:∀s',F3 X tx σ (F5 H a (.ins C dx (Qx f y fs))) s'->Q () s'):wpAny (model X.prog X.w) A (setAttr (.ref a) f u) Q E s:=by
 obtain⟨mA,O,r,wi,_,ho⟩:=eV I.hok e;have hz:(fs.map (·.1)).length<=sizeLine:=by rw[Jf,JH];omega
 refine AU I.kIn O c.sa c.po n.taker c.hd wi hz fun h' O' sb=>h _ ?_
 have hd:∃o,h'.get? dx=some o:=let⟨o,_,_,e',_⟩:=O'.ns;⟨o,e'⟩
 refine I.write (x:=a) (e:=dx) (by rw[e];exact True.intro) (.inr ho) (fun b q hb z=>(sb.2 b hb).trans z) hd ?_
 refine⟨by rw[qj O.ne];exact ho,?_,O.ne,O'.obj,_,O'.ns,fun g=>?_,fun g hg=>?_⟩
 ·have:=fN f y fs;omega
 ·show GY ((Qx f y fs).lookup g) (if g=f then some u else mA g)
  rw[fQ]
  by_cases q:g=f
  ·rw[Jc q,Jc q];exact ry
  ·rw[Jb q,Jb q];exact r g
 ·by_cases q:g=f
  ·rw[q];exact(cL f y fs).1
  ·refine(cL f y fs).2 g (wi g fun z=>hg ?_)
   show(if g=f then some u else mA g)=none
   rw[Jb q];exact z
theorem F3.made(I:F3 X tx σ H s):F3 X tx σ (F5 (F5 H s.heap.objs.size (.own (s.heap.objs.size+1))) (s.heap.objs.size+1) (.ins C s.heap.objs.size []))
  {s with heap:=(s.heap.push W.emptyDict).push (W.instObj C s.heap.objs.size)}:=by
 have e1:(s.heap.push W.emptyDict).get? s.heap.objs.size=some W.emptyDict:=Jo s.heap rfl
 have e2:((s.heap.push W.emptyDict).push (W.instObj C s.heap.objs.size)).get? (s.heap.objs.size+1)=some (W.instObj C s.heap.objs.size):=by
  have:=Jo (s.heap.push W.emptyDict) (o:=W.instObj C s.heap.objs.size) rfl
  rwa [JX]at this
 have e3:(s.heap.push W.emptyDict).Ns s.heap.objs.size (fun _=>none):=⟨W.emptyDict,#[],_,e1,rfl,(fun e he=>absurd he (by simp)),fun _=>rfl⟩
 have I1:=I.laid (a:=s.heap.objs.size) (o:= .own (s.heap.objs.size+1)) (h':=s.heap.push W.emptyDict) (t':=s.toks) (fun b u q=>Ji _ q) (Je _) ⟨_,e1⟩
 refine I1.laid (a:=s.heap.objs.size+1) (o:= .ins C s.heap.objs.size []) (t':=s.toks) (fun b u q=>Ji _ q) (Fq (JX _ _)) ?_
 have ne:s.heap.objs.size≠s.heap.objs.size+1:=Jm (D6 _)
 refine⟨by rw[qj ne,qb],JB _,ne,e2,fun _=>none,(Heap.Ns1.of_empty e3).at fun o q=>Ji _ q,fun _=>True.intro,fun y hy=>absurd rfl hy⟩
theorem y7{prog:Program}{w:World}{env:Env}{e:Expr}{f:Str}{pos:Pos}{s:Shared}{Q:FW}(hb:attributeBase e f env (eval e env)=eval e env)
  (h:wpAny (model prog w) A (eval e env) (fun o s₁=>wpAny (model prog w) A (getAttr o f true) Q E s₁) E s):wpAny (model prog w) A (eval (.Attribute e f pos) env) Q E s:=
 Attribute_any_ h (by rw[arm_eval_Attribute,hb])
end
section
variable{X:Cx}{tx:FY}{σ:St}{H:Hp}{s:Shared}{A:Around}{E:FW}{Q:FW}{c:Value}{b:Bool}
inductive Hu (K:Frag) (H:Hp):V->Value->Prop where
 |non:Hu K H .non (.type "NoneType")
 |bl (x:Bool):Hu K H (.bl x) (.type "bool")
 |int (i:Int):Hu K H (.int i) (.type "int")
 |str (x:Str):Hu K H (.str x) (.type "str")
 |flt (x:UInt64):Hu K H (.flt x) (.type "float")
 |lst {a:Addr} {xs:List V} (e:H a=some (.lst xs)):Hu K H (.ref a) (.type "list")
 |frz {a:Addr} {o:Obj} {xs:List V} (e:H a=some (.frz o (.lst xs))):Hu K H (.ref a) (.type "list")
 |tup {a:Addr} {xs:List V} (e:H a=some (.tup xs)):Hu K H (.ref a) (.type "tuple")
 |dK {a:Addr} {kvs:List (qL×V)} (e:H a=some (.dK kvs)):Hu K H (.ref a) (.type "dict")
 |dT {a:Addr} {kvs:List (List qL×V)} (e:H a=some (.dT kvs)):Hu K H (.ref a) (.type "dict")
 | ins {a C dx:Addr} {fs:List (Str×V)} (e:H a=some (.ins C dx fs)) (cl:Iq K C) (ha:PySem.W.findIn K (.ref C) "__class__"=some (some (.builtin "object.__class__")))
   (hn:PySem.W.specialIn K (.builtin "object.__class__") "__get__"=some (some (.builtin "getset_descriptor.__get__"))) (htk:PySem.W.takesIn K (.builtin "object.__class__")=some true)
   (hm:PySem.W.mroIn K C (.type "object")=some true):Hu K H (.ref a) (.ref C)
theorem rO{x:V}{u t:Value}(I:F3 X tx σ H s)(rx:F9 x u)(ty:Hu X.K H x t)(e:W.kitOne X.K t c=some b)(h:∀tk,Q (.bool b) {s with toks:=tk}):
  wpAny (model X.prog X.w) A (call (.builtin "isinstance") [u,c]) Q E s:=by
 cases ty with
 |non=>cases(show u=Value.none from rx);exact J5 W.kitx_none I.kIn True.intro e (fun z=>nomatch z) h
 |bl y=>cases(show u=Value.bool y from rx);exact J5 W.kitx_bool I.kIn True.intro e (fun z=>nomatch z) h
 |int i=>obtain⟨t,q⟩:=(show∃t,u=Value.int i t from rx);cases q;exact J5 W.kitx_int I.kIn True.intro e (fun z=>nomatch z) h
 |str y=>obtain⟨t,q⟩:=(show∃t,u=Value.str y t from rx);cases q;exact J5 W.kitx_str I.kIn True.intro e (fun z=>nomatch z) h
 |flt y=>obtain⟨t,q⟩:=(show∃t,u=Value.float y t from rx);cases q;exact J5 W.kitx_float I.kIn True.intro e (fun z=>nomatch z) h
 | @lst a xs ea=>
  cases(show u=Value.ref a from rx)
  obtain⟨_,_,n,_,h1⟩:=(show Gg X.prog X.w H s.heap a (.lst xs)from I.hok a _ ea)
  exact J5 W.kitx_list I.kIn ⟨_,h1,rfl⟩ e (fun z=>nomatch z) h
 | @frz a ob xs ea=>
  cases(show u=Value.ref a from rx)
  obtain⟨_,_,_,n,_,h1⟩:=(show Gg X.prog X.w H s.heap a (.frz ob (.lst xs))from I.hok a _ ea)
  exact J5 W.kitx_list I.kIn ⟨_,h1,rfl⟩ e (fun z=>nomatch z) h
 | @tup a xs ea=>
  cases(show u=Value.ref a from rx)
  obtain⟨_,_,_,p⟩:=(show Gg X.prog X.w H s.heap a (.tup xs)from I.hok a _ ea)
  obtain⟨o,h1,h2,_⟩:=p;exact J5 W.kitx_tuple I.kIn ⟨o,h1,h2⟩ e (fun z=>nomatch z) h
 | @dK a kvs ea=>
  cases(show u=Value.ref a from rx)
  obtain⟨_,_,vs,_,p⟩:=(show Gg X.prog X.w H s.heap a (.dK kvs)from I.hok a _ ea)
  obtain⟨o,es,ep,h1,h2,_⟩:=p;exact J5 W.kitx_dict I.kIn ⟨o,h1,h2.1⟩ e (fun z=>nomatch z) h
 | @dT a kvs ea=>
  cases(show u=Value.ref a from rx)
  obtain⟨_,_,xs,_,o,es,ep,h1,h2,_⟩:=(show Gg X.prog X.w H s.heap a (.dT kvs)from I.hok a _ ea)
  exact J5 W.kitx_dict I.kIn ⟨o,h1,h2.1⟩ e (fun z=>nomatch z) h
 | @ins a C dx fs ea cl ha hn htk hm=>
  cases(show u=Value.ref a from rx)
  obtain⟨mA,O,_⟩:=eV I.hok ea;obtain⟨od,J,_⟩:=O.look;exact J5 (W.kitx_own (cl.get _) cl.hd ha hn htk hm) I.kIn J e (fun z=>nomatch z) h
end
structure Gh(k:Nat)(A:Around):Prop where
 hd:A.handled=none
 dp:A.depth+3*k+5<recursionLimit
 un:A.units+16*k+200<cLine
theorem Gh.mono{j k:Nat}{A:Around}(r:Gh k A)(h:j<=k):Gh j A:=⟨r.hd,by have:=r.dp;omega,by have:=r.un;omega⟩
theorem Gh.mo{j k:Nat}{A:Around}(r:Gh k A)(h:j<=k:=by first|decide|omega):Gh j A:=r.mono h
theorem Gh.deeper{k:Nat}{A:Around}(r:Gh (k+1) A)(env:Env):Gh k (A.deeper env):=
 ⟨r.hd,by have:=r.dp;show A.depth+1+3*k+5<_;omega,by have:=r.un;show A.units+3+16*k+200<_;omega⟩
theorem p7{A:Around}{C:Addr}{us:List Value}{kw:List (Str×Value)}:(A.under (.builtin "type.__call__" ⟨.ref C::us,kw⟩)).depth=A.depth+1:=by
 first|rfl|simp [Around.under,Code.weight,Code.isCreation,Code.isGuard,Code.isCaller,Code.frames,Code.isFrame,guardIds]
theorem rf{A:Around}{C:Addr}{us:List Value}{kw:List (Str×Value)}:(A.under (.builtin "type.__call__" ⟨.ref C::us,kw⟩)).units=A.units+1:=by
 first|rfl|simp [Around.under,Code.cUnits,Code.frames,Code.isFrame]
theorem Gh.make{k:Nat}{A:Around}(r:Gh (k+1) A)(C:Addr)(us:List Value)(kw:List (Str×Value)):Gh k (A.under (.builtin "type.__call__" ⟨.ref C::us,kw⟩)):=
 ⟨r.hd,by have:=r.dp;rw[p7];omega,by have:=r.un;rw[rf];omega⟩
theorem Gh.depth{k:Nat}{A:Around}(r:Gh k A):A.depth<recursionLimit:=by have:=r.dp;omega
def wF:TA:=fun _ H Q=>Q [] H
def rH(ta:TE)(tr:TA):TA:=fun σ H Q=>ta σ H fun x H1=>tr σ H1 fun xs H2=>Q (x::xs) H2
section
variable{X:Cx}{e:Expr}{es:List Expr}{te:TE}{t:TA}{pos:Pos}
theorem Bv:PA X [] wF:=fun _ _ _ _ H Q I h=>Calls.spliced_nil ⟨[],H,I,.nil,h⟩
theorem yR(ha:PE X e te)(hr:PA X es t)(hs:starEach (e::es) X.env=(false,eval e X.env)::starEach es X.env:=by rfl):PA X (e::es) (rH te t):=by
 intro pos tx s σ H Q I h;rw[hs]
 show wpAny _ _ (spliced ((false,eval e X.env)::backTo pos (starEach es X.env))) _ _ s
 refine Calls.spliced_cons (qz (ha tx s σ H _ I h) fun u s1 zq=>?_)
 obtain⟨x,H1,I1,r1,q1⟩:=zq;exact qz (hr pos tx s1 σ H1 _ I1 q1) fun us s2 ⟨xs,H2,I2,r2,q2⟩=>⟨x::xs,H2,I2,.cons r1 r2,q2⟩
def Bt(t:TA):TE:=fun σ H Q=>t σ H fun xs H1=>xs.length<=sizeLine/\∀p,H1 p=none->Q (.ref p) (F5 H1 p (.tup xs))
def BY(t:TA):TE:=fun σ H Q=>t σ H fun xs H1=>xs.length<=sizeLine/\∀p,H1 p=none->Q (.ref p) (F5 H1 p (.lst xs))
theorem BI{x1}(h:PA X es t):PE X (.Tuple es x1 pos) (Bt t):=by
 intro tx s σ H Q I hq;refine wpAny_Tuple_spliced (qz (h pos tx s σ H _ I hq) fun us s1 ⟨xs,H1,I1,r,z,q⟩=>⟨by rw[<- r.length];exact z,?_⟩)
 have hf:H1 s1.heap.objs.size=none:=I1.hok.fresh (Je _)
 refine⟨.ref s1.heap.objs.size,F5 H1 s1.heap.objs.size (.tup xs),I1.laid (t':=s1.toks) (fun b u e=>Ji _ e) (Je _) ?_,rfl,q _ hf⟩
 exact⟨z,us,r,⟨_,Jo _ rfl,rfl,_,rfl⟩⟩
theorem BB(h:PA X es t):PE X (.List es pos) (BY t):=by
 intro tx s σ H Q I hq;refine wpAny_List_spliced (qz (h pos tx s σ H _ I hq) fun us s1 ⟨xs,H1,I1,r,z,q⟩=>⟨by rw[<- r.length];exact z,?_⟩)
 have hf:H1 s1.heap.objs.size=none:=I1.hok.fresh (Je _)
 refine⟨.ref s1.heap.objs.size,F5 H1 s1.heap.objs.size (.lst xs),I1.laid (t':=s1.toks) (fun b u e=>Ji _ e) (Je _) ?_,rfl,q _ hf⟩
 exact⟨z,us,0,r,Jo _ rfl⟩
end
abbrev Sp:=List V->Hp->VK->XK->Prop
abbrev fR:=List Env->Hp->Shared->XK->Value->Shared->Prop
structure Ih(P:Program)(w:World)(K:Frag)(mg:FX)(base:Heap)(A:Around)(outer:List Env)(s:Shared)(H:Hp):Prop where
 frames:A.frames=some outer
 mod:IU K mg base
 bs:∀b o,base.get? b=some o->s.heap.get? b=some o/\H b=none
 bsz:base.objs.size<=s.heap.objs.size
 funs:s.heap.FunFrames base outer
 frf:∀b∈bJ outer,H b=none
 hok:Ht P w H s.heap
 bare:AllBare s.gens
def CE(outer:List Env)(P:Program)(w:World)(H:Hp)(s:Shared)(Q:VK)(u:Value)(s':Shared):Prop:=
 ∃v H',s'.os=s.os/\AllBare s'.gens/\Un (bJ outer) [] H H' s.heap s'.heap/\Ht P w H' s'.heap/\F9 v u/\Q v H'
def CR(CX:fR)(outer:List Env)(P:Program)(w:World)(H:Hp)(s:Shared)(Q:VK)(E:XK)(r:Result)(s':Shared):Prop:=
 match r with
 | .ok (.ret u)=>CE outer P w H s Q u s'
 | .ok _=>False
 | .error e=>CX outer H s E e s'
structure Hl(P:Program)(w:World)(K:Frag)(mg:FX)(base:Heap)(CX:fR)(k:Nat)(f:Addr)(fd:FuncData)(ps:List Str)(sp:Sp):Prop where
 len:∀vs H Q E,sp vs H Q E->vs.length=ps.length
 run:∀(A:Around) (outer:List Env) (s:Shared) (H:Hp) (args:Args) (us:List Value) (vs:List V) (Q:VK) (E:XK),Gh k A->Ih P w K mg base A outer s H->BindsTo s fd args (ps.zip us)->F6 vs us->sp vs H Q E->
  codeAny (model P w) A (.call (.ref f) args) (CR CX outer P w H s Q E) s
theorem Ih.make{P:Program}{w:World}{K:Frag}{mg:FX}{base:Heap}{A:Around}{outer:List Env}{s:Shared}{H:Hp}(e:Ih P w K mg base A outer s H)(C:Addr)(us:List Value)(kw:List (Str×Value)):
  Ih P w K mg base (A.under (.builtin "type.__call__" ⟨.ref C::us,kw⟩)) outer s H:=⟨by first|exact e.frames|(simpa [Around.under,Code.envs,Code.isFrame,pushEnvs]using e.frames),e.mod,e.bs,e.bsz,e.funs,e.frf,e.hok,e.bare⟩
section
variable{X:Cx}{tx:FY}{σ:St}{H:Hp}{s s':Shared}
theorem F3.env0(I:F3 X tx σ H s):Ih X.prog X.w X.K X.mg X.base X.A X.stack s H:=
 ⟨I.ok.frames,I.ok.mod,I.bs,JM I.ok.bsz I.sz,I.stack,I.stkFree,I.hok,I.bare⟩
theorem F3.after{Q:VK}{u:Value}(I:F3 X tx σ H s)(h:CE X.stack X.prog X.w H s Q u s'):EP X tx σ Q u s':=by
 obtain⟨v,H',os,bare,un,hok,r,q⟩:=h;obtain⟨hh,g,d,t,os'⟩:=s'
 obtain rfl:os'=s.os:=os
 exact⟨v,H',I.call (h':=hh) (g':=g) (d':=d) (t':=t) (ch:=[]) un hok bare (fun b z=>absurd z (by simp)),r,q⟩
end
def pI(sp:Sp)(dvs:List V)(E:XK)(t:TA):TE:=fun σ H Q=>t σ H fun vs H1=>sp (vs++dvs) H1 Q E
def yf(C:Addr)(sp:Sp)(dvs:List V)(E:XK)(t:TA):TE:=fun σ H Q=>t σ H fun vs H1=>∀x dx,H1 x=none->H1 dx=none->dx≠x->
 sp (.ref x::(vs++dvs)) (F5 (F5 H1 dx (.own x)) x (.ins C dx [])) (fun v H2=>v= .non/\Q (.ref x) H2) E
def GU(K:Frag)(fd:FuncData)(ps:List Str)(ds:List Value):Prop:=
 ∀(s:Shared) (us:List Value),K.In s.heap->(us++ds).length=ps.length->BindsTo s fd ⟨us,[]⟩ (ps.zip (us++ds))
theorem GU.all{K:Frag}{fd:FuncData}{ps:List Str}(h:∀us:List Value,us.length=ps.length->bindArgs fd ⟨us,[]⟩=pure (ps.zip us)):GU K fd ps []:=fun s us _ hl=>by
 rw[D7]at hl⊢;exact .of_eq (h us hl)
def c7(CX:fR)(X:Cx)(E:XK):Prop:=∀(tx:FY) (σ:St) (H:Hp) (s:Shared) (e:Value) (s':Shared),F3 X tx σ H s->CX X.stack H s E e s'->X.xe e s'
section
variable{X:Cx}{CX:fR}{k:Nat}{f C:Addr}{fd:FuncData}{ps:List Str}{sp:Sp}{dvs:List V}{ds:List Value}{E:XK}{x:Str}{p pos:Pos}{e:Expr}{es:List Expr}{t:TA}
theorem mM{tx:FY}{σ:St}{H:Hp}{s:Shared}{Q:VK}{us:List Value}{vs:List V}(F:Hl X.prog X.w X.K X.mg X.base CX k f fd ps sp)(hr:Gh k X.A)(hb:GU X.K fd ps ds)(hd:F6 dvs ds)(hx:c7 CX X E)
  (I:F3 X tx σ H s)(r:F6 vs us)(h:sp (vs++dvs) H Q E):wpAny (model X.prog X.w) X.A (call (.ref f) us) (EP X tx σ Q) X.xe s:=by
 have r2:F6 (vs++dvs) (us++ds):=r.append hd
 have hl:(us++ds).length=ps.length:=by rw[<- r2.length];exact F.len _ _ _ _ h
 refine wpAny_call (EM (F.run X.A X.stack s H ⟨us,[]⟩ (us++ds) (vs++dvs) Q E hr I.env0 (hb s us I.kIn hl) r2 h) fun r s' hq=>?_)
 cases r with
 |error e=>exact hx tx σ H s e s' I hq
 |ok fl=>
  cases fl with
  |ret u=>exact I.after hq
  |next=>exact False.elim hq
  |brk=>exact False.elim hq
  |cont=>exact False.elim hq
theorem Ap(F:Hl X.prog X.w X.K X.mg X.base CX k f fd ps sp)(hr:Gh k X.A)(hg:Gl X x)(hm:X.mg x=some (.ref f))(hk:W.keepIn X.K (.ref f)=true)(hb:GU X.K fd ps ds)(hd:F6 dvs ds)(hx:c7 CX X E)
  (ha:PA X (e::es) t)(hdb:(x==("__debug__":Str))=false:=by decide)(he:starEach (e::es) X.env=(false,eval e X.env)::starEach es X.env:=by rfl)(hpl:(backTo pos (starEach es X.env)).any (·.1)=false:=by rfl):
  PE X (.Call (.Name x p) (e::es) [] pos) (pI sp dvs E t):=by
 intro tx s σ H Q I h;refine Ft (iz I hg hm ?_ hdb)
 refine W.callWith_K (h₀:=X.base) I.ok.mod.kin hk (qz (ha pos tx s σ H _ I h) fun us s1 ⟨vs,H1,I1,r,q⟩=>⟨I1.kIn,?_⟩) he hpl
 exact mM F hr hb hd hx I1 r q
structure Mk(K:Frag)(C f:Addr):Prop where
 makes:PySem.W.makesIn K C=true
 init:PySem.W.findIn K (.ref C) "__init__"=some (some (.ref f))
 fn:PySem.W.isFn K (.ref f)=true
 kp:PySem.W.keepIn K (.ref C)=true
theorem vW{tx:FY}{σ:St}{H:Hp}{s:Shared}{Q:VK}{us:List Value}{vs:List V}(M:Mk X.K C f)(F:Hl X.prog X.w X.K X.mg X.base CX k f fd ps sp)(hr:Gh (k+1) X.A)(hb:GU X.K fd ps ds)(hd:F6 dvs ds)
  (hx:c7 CX X E)(I:F3 X tx σ H s)(r:F6 vs us)
  (h:∀x dx,H x=none->H dx=none->dx≠x->sp (.ref x::(vs++dvs)) (F5 (F5 H dx (.own x)) x (.ins C dx [])) (fun v H2=>v= .non/\Q (.ref x) H2) E):
  wpAny (model X.prog X.w) X.A (call (.ref C) us) (EP X tx σ Q) X.xe s:=by
 have hq:=h (s.heap.objs.size+1) s.heap.objs.size (I.hok.fresh (Eb _)) (I.hok.fresh (Je _)) (Jm (D6 _));have I2:=F3.made (C:=C) I
 have r2:F6 (V.ref (s.heap.objs.size+1)::(vs++dvs)) (Value.ref (s.heap.objs.size+1)::(us++ds)):= .cons rfl (r.append hd)
 have hl:(Value.ref (s.heap.objs.size+1)::us++ds).length=ps.length:=by
  have e:=r2.length;rw[F.len _ _ _ _ hq]at e;exact e.symm
 refine wpAny_call (wx (f:=f) I.kIn M.makes M.init (J3.mp M.fn) (EM (F.run _ X.stack _ _ ⟨Value.ref (s.heap.objs.size+1)::us,[]⟩ (Value.ref (s.heap.objs.size+1)::(us++ds)) _ _ E (hr.make C us [])
  (I2.env0.make C us []) (hb _ (Value.ref (s.heap.objs.size+1)::us) I2.kIn hl) r2 hq) fun r s' hq'=>?_))
 cases r with
 |error e=>exact hx tx σ _ _ e s' I2 hq'
 |ok fl=>
  cases fl with
  |ret u=>
   obtain⟨v,H',I3,rv,ev,q3⟩:=I2.after hq';subst ev
   exact⟨rv,⟨V.ref (s.heap.objs.size+1),H',I3,rfl,q3⟩⟩
  |next=>exact False.elim hq'
  |brk=>exact False.elim hq'
  |cont=>exact False.elim hq'
theorem yr(M:Mk X.K C f)(F:Hl X.prog X.w X.K X.mg X.base CX k f fd ps sp)(hr:Gh (k+1) X.A)(hg:Gl X x)(hm:X.mg x=some (.ref C))(hb:GU X.K fd ps ds)(hd:F6 dvs ds)(hx:c7 CX X E)
  (ha:PA X (e::es) t)(hdb:(x==("__debug__":Str))=false:=by decide)(he:starEach (e::es) X.env=(false,eval e X.env)::starEach es X.env:=by rfl)(hpl:(backTo pos (starEach es X.env)).any (·.1)=false:=by rfl):
  PE X (.Call (.Name x p) (e::es) [] pos) (yf C sp dvs E t):=by
 intro tx s σ H Q I h;refine Ft (iz I hg hm ?_ hdb)
 refine W.callWith_K (h₀:=X.base) I.ok.mod.kin M.kp (qz (ha pos tx s σ H _ I h) fun us s1 ⟨vs,H1,I1,r,q⟩=>⟨I1.kIn,?_⟩) he hpl
 exact vW M F hr hb hd hx I1 r q
end
structure F0(N P:List Str)(sc:Scope):Prop where
 kind:sc.kind= .function
 co:sc.isCoroutine=false
 gen:sc.isGenerator=false
 nd:N.Nodup
 pre:N.take P.length=P
 par:∀x∈P,sc.names.lookup x=some .local\/sc.names.lookup x=some .cell
 nofree:∀y∈sc.names,y.2≠ .free
theorem jD{kindOf:Str->Option NameKind}{x:Str}:∀{binds:List (Str×Value)} {m:FX},(∀v,(x,v)∉binds)->bindL kindOf binds m x=m x
 | [],_,_=>rfl
 |(n,v)::r,m,h=>by
  unfold bindL;rw[jD fun w hw=>h w (JG _ hw)]
  split
  ·have:x≠n:=by rintro rfl;exact h v Jz
   simp [this]
  ·rfl
theorem i0{kindOf:Str->Option NameKind}{x:Str}:∀{binds:List (Str×Value)} {m:FX},(∀v,(x,v)∉binds)->bindC kindOf binds m x=m x
 | [],_,_=>rfl
 |(n,v)::r,m,h=>by
  unfold bindC;rw[i0 fun w hw=>h w (JG _ hw)]
  split
  ·rfl
  ·have:x≠n:=by rintro rfl;exact h v Jz
   simp [this]
theorem jl{kindOf:Str->Option NameKind}{x:Str}{v:Value}:∀{P:List Str} {vs:List Value} {i:Nat} {m:FX},P.Nodup->P[i]? =some x->vs[i]? =some v->kindOf x=some .local->
  bindL kindOf (P.zip vs) m x=some v
 | [],_,_,_,_,h,_,_=>by simp at h
 |_::_,[],_,_,_,_,h,_=>by simp at h
 |p::P,w::vs,0,m,nd,h1,h2,hk=>by
  simp at h1 h2;subst h1;subst h2
  show bindL kindOf ((p,w)::P.zip vs) m p=_
  unfold bindL;rw[jD fun v hv=>(Ek.mp nd).1 (List.of_mem_zip hv).1,Jc hk]
  simp
 |p::P,w::vs,i+1,m,nd,h1,h2,hk=>by
  show bindL kindOf ((p,w)::P.zip vs) m x=_
  unfold bindL;exact jl (i:=i) (Ek.mp nd).2 (by simpa using h1) (by simpa using h2) hk
theorem iV{kindOf:Str->Option NameKind}{x:Str}{v:Value}:∀{P:List Str} {vs:List Value} {i:Nat} {m:FX},P.Nodup->P[i]? =some x->vs[i]? =some v->kindOf x≠some .local->
  bindC kindOf (P.zip vs) m x=some v
 | [],_,_,_,_,h,_,_=>by simp at h
 |_::_,[],_,_,_,_,h,_=>by simp at h
 |p::P,w::vs,0,m,nd,h1,h2,hk=>by
  simp at h1 h2;subst h1;subst h2
  show bindC kindOf ((p,w)::P.zip vs) m p=_
  unfold bindC;rw[i0 fun v hv=>(Ek.mp nd).1 (List.of_mem_zip hv).1,Jb hk]
  simp
 |p::P,w::vs,i+1,m,nd,h1,h2,hk=>by
  show bindC kindOf ((p,w)::P.zip vs) m x=_
  unfold bindC;exact iV (i:=i) (Ek.mp nd).2 (by simpa using h1) (by simpa using h2) hk
def Q3(N:List Str)(vs:List V):St:=vs.map some++List.replicate (N.length-vs.length) none
def bj(CX:fR)(P:Program)(w:World)(K:Frag)(mg:FX)(base:Heap)(N:List Str)(IX:Str)(scope:Scope)(f:Addr)(cd:Value)(A:Around)(outer:List Env)(s:Shared)(H:Hp)(E:XK):Cx where
 prog:=P
 w:=w
 K:=K
 mg:=mg
 base:=base
 A:=A.deeper (envOfC IX scope s.heap.objs.size f cd)
 N:=N
 s₀:=s
 H₀:=H
 env:=envOfC IX scope s.heap.objs.size f cd
 outer:=outer
 stack:=envOfC IX scope s.heap.objs.size f cd::outer
 ex:=[]
 calm:=true
 fn:=fun _=>true
 pn:=[]
 xe:=fun e s'=>wpAny (model P w) (A.deeper (envOfC IX scope s.heap.objs.size f cd)) (leaving (envOfC IX scope s.heap.objs.size f cd) e) (fun _ s''=>CX outer H s E e s'') (fun e' s''=>CX outer H s E e' s'') s'
theorem kY{sc:Scope}{n:Nat}{x:Str}(h:sc.names.lookup x=some .cell):∃c,(cellsFrom n sc.names []).lookup x=some c:=by
 have q:=W.cellsFrom_some sc.names n [] (.inl h);exact FG.mp q
theorem sN{CX:fR}{P:Program}{w:World}{K:Frag}{mg:FX}{base:Heap}{N ps:List Str}{IX:Str}{scope:Scope}{f:Addr}{cd:Value}{A:Around}{outer:List Env}{s s1:Shared}{H:Hp}{E:XK}{us:List Value}{vs:List V}
  (S:F0 N ps scope)(hd:A.handled=none)(e0:Ih P w K mg base A outer s H)(hl:vs.length=ps.length)(r:F6 vs us)
  (x:InCallC s s.heap.objs.size (bindL (envOfC IX scope s.heap.objs.size f cd).kindOf (ps.zip us) fun _=>none) (cellsFrom (s.heap.objs.size+1) scope.names []) (bindC (envOfC IX scope s.heap.objs.size f cd).kindOf (ps.zip us) fun _=>none) s1):
  F3 (bj CX P w K mg base N IX scope f cd A outer s H E) [] (Q3 N vs) H s1:=by
 have hpl:ps.length<=N.length:=by have:=J0 List.length S.pre;rw[DW]at this;omega
 obtain⟨h1,tk,rfl,hk⟩:=x.done;have noA:∀b:Addr,b∉(bj CX P w K mg base N IX scope f cd A outer s H E).ex:=fun b z=>absurd (show b∈([]:List Addr)from z) (by simp)
 refine⟨⟨e0.mod,S.kind,rfl,rfl,Je _,fun y z c h1 h2=>?_,fun y hy=>?_,fun y c _ h=>?_,fun _=>hd,Around.frames_deeper e0.frames,.inr ⟨rfl,rfl⟩,fun b z=>absurd z (noA b),e0.bs,e0.bsz,fun b _ _=>noA b,fun b z=>absurd z (noA b),e0.funs,e0.frf⟩,
  rfl,e0.bare,Un.kept hk,⟨_,x.toInCall.ns,fun i y v h1 h2 h3=>?_⟩,fun y c h=>⟨_,x.cell y c h⟩,e0.hok.fresh (Je _),fun y c h=>?_,fun p hp=>absurd (show p∈([]:FY)from hp) (by simp),e0.hok.kept hk,?_⟩
 ·exact name_of_addr x.apart (EN h1) (EN h2)
 ·have hy:scope.names.lookup y=some .cell\/scope.names.lookup y=some .free:=hy
  rcases hy with hy|hy
  ·exact kY hy
  ·exact absurd rfl (S.nofree _ (EN hy))
 ·exact Fb (x.above y c (EN h))
 ·have hi:i<vs.length:=by
   unfold Q3 at h2
   by_cases hi:i<vs.length
   ·exact hi
   ·rw[J9 (by simpa using hi)]at h2
    rw[List.getElem?_replicate]at h2;split at h2<;>cases h2
  have ha:vs[i]? =some v:=by
   unfold Q3 at h2;rw[DR (by simpa using hi),Jq]at h2
   cases e:vs[i]? with
   |none=>rw[e]at h2;cases h2
   |some a=>rw[e]at h2;cases h2;rfl
  obtain⟨u,hu,rv⟩:=r.get ha;have hp:ps[i]? =some y:=by
   rw[<- S.pre,List.getElem?_take_of_lt (by omega)];exact h1
  have ndP:ps.Nodup:=by rw[<- S.pre];exact S.nd.sublist (List.take_sublist _ _)
  refine⟨u,rv,?_⟩
  rcases S.par y (DX hp)with k|k
  ·exact .inl ⟨k,jl ndP hp hu k⟩
  ·obtain⟨c,e⟩:=kY (n:=s.heap.objs.size+1) k
   refine .inr ⟨.inl k,c,e,?_⟩
   have q:=x.cell y c e;rw[iV ndP hp hu (by show scope.names.lookup y≠_;rw[k];decide)]at q
   exact q
 ·exact e0.hok.fresh (Fb (x.above y c (EN h)))
 ·unfold Q3
  show _=N.length
  rw[JC,Jf,FH];omega
theorem CI{CX:fR}{P:Program}{w:World}{K:Frag}{mg:FX}{base:Heap}{k:Nat}{f:Addr}{name IX:Str}{params:Arguments}{body:List Stmt}{scope:Scope}{dV kV doc pm cdv ct oc:Value}{an od:Option Addr}
  {osl:Array (Option Value)}{N ps:List Str}{sp:Sp}(lk:K.lookup f=some ⟨oc,od,.func (W.fnOf name IX params body scope dV kV doc pm an cdv ct),osl⟩)(hcd:W.codeIn K cdv IX=true)(S:F0 N ps scope)
  (len:∀vs H Q E,sp vs H Q E->vs.length=ps.length)
  (hbody:∀(A:Around) (outer:List Env) (s:Shared) (H:Hp) (vs:List V) (Q:VK) (E:XK),Gh k (A.deeper (envOfC IX scope s.heap.objs.size f cdv))->sp vs H Q E->
   ∃t,Ie (bj CX P w K mg base N IX scope f cdv A outer s H E) body t/\t {nx:=fun _ H'=>Q .non H',rt:=Q} (Q3 N vs) H):
  Hl P w K mg base CX (k+1) f (W.fnOf name IX params body scope dV kV doc pm an cdv ct) ps sp:=by
 refine⟨len,fun A outer s H args us vs Q E hr e0 hb r hsp=>?_⟩
 have hl:=len _ _ _ _ hsp;have KX:K.In s.heap:=e0.mod.kin.keeps fun b o e=>(e0.bs b o e).1
 have lim:s.heap.NoLimit:=e0.mod.nolimit.keeps fun b o e=>(e0.bs b o e).1
 have hkind:∀y∈ps.zip us,scope.names.lookup y.1=some .local\/(scope.names.lookup y.1=some .cell/\((cellsFrom (s.heap.objs.size+1) scope.names []).lookup y.1).isSome=true):=fun⟨n,v⟩ hy=>by
  rcases S.par n (List.of_mem_zip hy).1 with q|q
  ·exact .inl q
  ·exact .inr ⟨q,W.cellsFrom_some _ _ _ (.inl q)⟩
 refine codeAny_call_function hr.depth (KX _ _ lk) rfl S.co S.gen rfl (W.codeRec_of KX hcd) (hb _ _ _ _ ?_)
 refine wpAny_newFunctionEnv_cells S.kind hkind fun env he s1 x=>?_
 subst he;refine⟨lim.keeps x.toInCall.keep,codeAny_func ?_⟩
 obtain⟨t,ht,hq⟩:=hbody A outer s H vs Q E (hr.deeper _) hsp
 have I:F3 (bj CX P w K mg base N IX scope f cdv A outer s H E) [] (Q3 N vs) H s1:=sN S hr.hd e0 hl r x
 refine JF (ht [] s1 (Q3 N vs) H _ I hq) (fun fl s' hs=>?_) fun e s' hs=>hs
 have fin:∀{σ':St} {H':Hp} {v:V} {u:Value},F3 (bj CX P w K mg base N IX scope f cdv A outer s H E) [] σ' H' s'->F9 v u->Q v H'->CE outer P w H s Q u s':=
  fun{σ' H' v u} J rv q=>⟨v,H',J.os,J.bare,J.base,J.hok,rv,q⟩
 cases fl with
 |ret u=>
  obtain⟨v,σ',H',J,rv,q⟩:=hs;exact fin J rv q
 |next=>
  obtain⟨σ',H',J,q⟩:=hs;exact fin (v:=V.non) (u:=Value.none) J rfl q
 |brk=>
  obtain⟨_,_,_,q⟩:=hs;exact False.elim q
 |cont=>
  obtain⟨_,_,_,q⟩:=hs;exact False.elim q
section
variable{X:Cx}{x:Str}{p pos:Pos}{e:Expr}{es:List Expr}{t:TA}{id T:String}{r:List V->Hp->VK->Prop}
def xt(r:List V->Hp->VK->Prop)(t:TA):TE:=fun σ H Q=>t σ H fun vs H1=>r vs H1 Q
theorem vA(hc:qT X (.builtin id) r)(hg:Gl X x)(hm:X.mg x=none)(hv:bootBuiltins x=some (.builtin id))(ha:PA X (e::es) t)(hn:x≠"__name__":=by decide)(hdb:(x==("__debug__":Str))=false:=by decide)
  (he:starEach (e::es) X.env=(false,eval e X.env)::starEach es X.env:=by rfl)(hpl:(backTo pos (starEach es X.env)).any (·.1)=false:=by rfl):PE X (.Call (.Name x p) (e::es) [] pos) (xt r t):=by
 intro tx s σ H Q I h;refine Ft (Q1 I hg hm hv ?_ hn hdb)
 exact PyProof.Rows.callWith_builtin1 (qz (ha pos tx s σ H _ I h) fun us s1 ⟨vs,H1,I1,r1,q1⟩=>hc tx s1 σ H1 vs us Q I1 r1 q1) he hpl
theorem uX(hc:qT X (.type T) r)(hg:Gl X x)(hm:X.mg x=none)(hv:bootBuiltins x=some (.type T))(ha:PA X (e::es) t)(hn:x≠"__name__":=by decide)(hdb:(x==("__debug__":Str))=false:=by decide)
  (he:starEach (e::es) X.env=(false,eval e X.env)::starEach es X.env:=by rfl)(hpl:(backTo pos (starEach es X.env)).any (·.1)=false:=by rfl):PE X (.Call (.Name x p) (e::es) [] pos) (xt r t):=by
 intro tx s σ H Q I h;refine Ft (Q1 I hg hm hv ?_ hn hdb)
 exact ED (qz (ha pos tx s σ H _ I h) fun us s1 ⟨vs,H1,I1,r1,q1⟩=>hc tx s1 σ H1 vs us Q I1 r1 q1) he hpl
end
end L2
namespace HT
open PySem PyProof.Rows
section
variable{prog:Program}{w:World}{A:Around}{E:FW}{s:Shared}
theorem cat_tup{t b:Addr}{vs ws:List Value}{Q:FW}(ht:IsTup s.heap t vs.toArray)(hb:IsTup s.heap b ws.toArray)(hv:vs≠[])
  (h1:ws=[]->Q (.ref t) s)(h2:ws≠[]->Q (.ref s.heap.objs.size) {s with heap:=s.heap.push {cls:= .type "tuple",data:= .seq (vs++ws).toArray}})
  (hsz:vs.length+ws.length<=sizeLine):wpAny (model prog w) A (binaryOp .Add (.ref t) (.ref b)) Q E s:=by
 obtain⟨⟨cls,dd,data,sl⟩,ho,hc,n,hd⟩:=id ht;obtain⟨⟨cls2,dd2,data2,sl2⟩,ho2,hc2,n2,hd2⟩:=id hb;simp only at hc hd hc2 hd2
 subst hc hd hc2 hd2;have e:vs.toArray++ws.toArray=(vs++ws).toArray:=by simp
 by_cases hw:ws=[]
 ·exact concat_meets ⟨_,ho,rfl⟩ ⟨_,ho2,rfl⟩ noFill_tuple_add seq_tuple_add FI FJ (FK _ _)
   (tuple_addW1 t b vs.toArray ws.toArray n n2 dd dd2 sl sl2 (by simpa using hv) (by simp [hw])) ⟨ho,ho2,h1 hw⟩
 ·refine concat_meets ⟨_,ho,rfl⟩ ⟨_,ho2,rfl⟩ noFill_tuple_add seq_tuple_add FI FJ (FK _ _)
   (tuple_addW2 t b vs.toArray ws.toArray n n2 dd dd2 sl sl2 (by simpa using hv) (by simpa using hw) (by rw[Jr,Jr];exact hsz)) ⟨ho,ho2,?_⟩
  rw[e];exact h2 hw
def sIx(n d:Nat):Option Int->Nat
 |none=>d
 |some v=>if v<0 then(v+(n:Int)).toNat else min v.toNat n
theorem Cu(n d:Nat)(hd:d<=n)(o:Option Int):sIx n d o<=n:=by
 cases o with
 |none=>exact hd
 |some v=>
  show(if v<0 then(v+(n:Int)).toNat else min v.toNat n)<=n
  by_cases hv:v<0
  ·rw[Jc hv];omega
  ·rw[Jb hv];exact Nat.min_le_right _ _
theorem nO(v:Int)(n d:Nat):(if v<0 then max (v+(n:Int)) 0 else min v (n:Int))=((sIx n d (some v):Nat):Int):=by
 show(if v<0 then max (v+(n:Int)) 0 else min v (n:Int))=(((if v<0 then(v+(n:Int)).toNat else min v.toNat n):Nat):Int)
 by_cases hv:v<0
 ·simp only[Jc hv];omega
 ·simp only[Jb hv];omega
theorem pJ(lo hi:Option Int)(n:Nat):Builtin.Slice.sliceAdjust lo hi 1 (n:Int)=(((sIx n 0 lo:Nat):Int),((sIx n n hi:Nat):Int)):=by
 have h1:¬((1:Int)<0):=by omega
 unfold Builtin.Slice.sliceAdjust;simp only[h1,JD];refine Prod.ext ?_ ?_
 ·cases lo with
  |none=>rfl
  |some v=>exact nO v n 0
 ·cases hi with
  |none=>rfl
  |some v=>exact nO v n n
theorem rc(i j:Nat):Builtin.Slice.slicePlaces (i:Int) (j:Int) 1=j-i:=by
 unfold Builtin.Slice.slicePlaces;have h1:(1:Int)>0:=by omega
 simp only[h1,D8,Int.ediv_one];split<;>omega
theorem gT{v:Value}{o:Option Int}{Q:Option Int->Shared->Prop}(p:IsPart v o)(h:Q o s):wpAny (model prog w) A (Builtin.Slice.slicePartIndex v) Q E s:=by
 cases p with
 |none=>exact slicePart_none h
 |int i t=>exact slicePart_int h
theorem sliceApplied_gen{sl:Addr}{vl vu:Value}{lo hi:Option Int}{n:Nat}{Q:Int×Int×Nat->Shared->Prop}(hs:s.heap.IsSliceOf sl vl vu .none)(pl:IsPart vl lo)(pu:IsPart vu hi)
  (h:Q (((sIx n 0 lo:Nat):Int),1,sIx n n hi-sIx n 0 lo) s):wpAny (model prog w) A (Builtin.Slice.sliceApplied (.ref sl) (pure (n:Int))) Q E s:=by
 obtain⟨os,hos,hcs,hds⟩:=id hs;unfold Builtin.Slice.sliceApplied Builtin.Slice.sliceFields;refine Ja (Ja (JS hos hds (x:=vl) rfl (Ja (JS hos hds (x:=vu) rfl (Ja (JS hos hds (x:= .none) rfl (Jd ?_)))))))
 refine Ja (slicePart_none ?_)
 show wpAny _ _ (if((1:Int)==0)=true then _ else _) _ _ s
 rw[Jb (by decide)]
 refine Ja (gT pl (Ja (gT pu (Ja (Jd ?_)))))
 show wpAny _ _ (match Builtin.Slice.sliceAdjust lo hi 1 (n:Int)with|(lo,hi)=>pure (lo,(1:Int),Builtin.Slice.slicePlaces lo hi 1)) _ _ s
 rw[pJ lo hi n]
 show wpAny _ _ (pure (((sIx n 0 lo:Nat):Int),(1:Int),Builtin.Slice.slicePlaces ((sIx n 0 lo:Nat):Int) ((sIx n n hi:Nat):Int) 1)) _ _ s
 rw[rc];exact Jd h
theorem vM(xs:Array Value)(i k:Nat):((List.range k).filterMap fun(m:Nat)=>xs[((i:Int)+(m:Int)*1).toNat]?).toArray=((xs.toList.drop i).take k).toArray:=by
 have e:(fun(m:Nat)=>xs[((i:Int)+(m:Int)*1).toNat]?)=fun m=>xs[i+m]? :=by
  funext m
  have:((i:Int)+(m:Int)*1).toNat=i+m:=by omega
  rw[this]
 rw[e]
 have:=pick_run xs i k
 rw[List.filterMap_map]at this;have e2:((fun x=>xs[x]?)∘fun x=>i+x)=fun m=>xs[i+m]? :=rfl
 rw[e2]at this;rw[this]
theorem getItem_tuple_cut{t sl:Addr}{items:Array Value}{vl vu:Value}{lo hi:Option Int}{Q:FW}(ht:IsTup s.heap t items)(hs:s.heap.IsSliceOf sl vl vu .none)(pl:IsPart vl lo)(pu:IsPart vu hi)
  (hw:¬(sIx items.size 0 lo=0/\sIx items.size items.size hi=items.size))
  (h:Q (.ref s.heap.objs.size) {s with heap:=s.heap.push {cls:= .type "tuple",data:= .seq ((items.toList.drop (sIx items.size 0 lo)).take (sIx items.size items.size hi-sIx items.size 0 lo)).toArray}})
  (hsz:items.size<=sizeLine):wpAny (model prog w) A (getItem (.ref t) (.ref sl)) Q E s:=by
 have htake:sizeOk (.seq ((items.toList.drop (sIx items.size 0 lo)).take (sIx items.size items.size hi-sIx items.size 0 lo)).toArray):=by
  show((items.toList.drop (sIx items.size 0 lo)).take (sIx items.size items.size hi-sIx items.size 0 lo)).toArray.size<=sizeLine
  rw[Jr,DW,Fu,Jp];omega
 have hj:sIx items.size items.size hi<=items.size:=Cu _ _ (Je _) hi
 obtain⟨os,hos,hcs,hds⟩:=id hs;have hTs:s.TypeIs (.ref sl) "slice":=⟨os,hos,hcs⟩
 unfold getItem
 try with_reducible refine JL ?_
 first|refine Ja (Jd ?_)|skip
 refine Ja (wpAny_sequenceKey ht.typeIs (by decide) ?_)
 refine Ja (wpAny_callSpecial?_slot (name:=Str.ofString "__getitem__") ht.typeIs Fv
  (JT Fv ht.typeIs entry_tuple_getitem ?_ (args_tuple_getitem _ _)))
 show wpAny _ _ (Builtin.Tuple.tupleItemsOf (.ref t) >>= _) _ _ s
 refine Ja (tupleItemsOf_ ht ?_)
 refine Ja (EY hTs ?_)
 rw[Jc (by decide)]
 refine Ja (sliceApplied_gen hs pl pu ?_)
 have hno:¬((((sIx items.size 0 lo:Nat):Int)==0&&(1:Int)==1&&(sIx items.size items.size hi-sIx items.size 0 lo)==items.size)=true):=by
  intro q;rw[Jx,Jx]at q;have q1:((sIx items.size 0 lo:Nat):Int)=0:=eq_of_beq q.1.1
  have q2:sIx items.size items.size hi-sIx items.size 0 lo=items.size:=eq_of_beq q.2
  exact hw ⟨by omega,by omega⟩
 show wpAny _ _ (if(((sIx items.size 0 lo:Nat):Int)==0&&(1:Int)==1&&(sIx items.size items.size hi-sIx items.size 0 lo)==items.size)=true then _ else _) _ _ s
 rw[Jb hno,vM]
 first
  |exact Ja (m:=Builtin.Tuple.tupleExact _) (DS (Jd ⟨_,rfl,Jd h⟩) htake)
  |exact Ja (m:=Builtin.Tuple.tupleExact _) (DS (Ja (Jd (Jd ⟨_,rfl,Jd h⟩))) htake)
  |exact Ja (Ja (m:=Builtin.Tuple.tupleExact _) (DS (Jd (Jd ⟨_,rfl,Jd h⟩)) htake))
  |exact Ja (Ja (m:=Builtin.Tuple.tupleExact _) (DS (Jd ⟨_,rfl,Jd h⟩) htake))
end
end HT
namespace L2
open PySem PySem.Spec PyProof.Rows
abbrev TO:=St->Hp->(Option Int->Hp->Prop)->Prop
def PO(X:Cx)(e:Option Expr)(t:TO):Prop:=
 ∀(tx:FY) (s:Shared) (σ:St) (H:Hp) (Q:Option Int->Hp->Prop),F3 X tx σ H s->t σ H Q->
  wpAny (model X.prog X.w) X.A (evalPart e X.env) (fun u s'=>∃o H',F3 X tx σ H' s'/\IsPart u o/\Q o H') X.xe s
def n5:TO:=fun _ H Q=>Q none H
def xr(t:TE):TO:=fun σ H Q=>t σ H fun x H1=>∃i,x= .int i/\Q (some i) H1
theorem rD{ns:List Int}:∀{us:List Value},F6 (ns.map V.int) us->IntsAre us ns:=by
 induction ns with
 |nil=>intro us r;rw[Fd]at r;cases r;exact .nil
 |cons n ns ih=>
  intro us r;rw[JR]at r;cases r with
  |cons r1 r2=>
   obtain⟨t,e⟩:=r1;subst e;exact .cons n t (ih r2)
section
variable{X:Cx}{e:Expr}{te:TE}{lo hi:Option Expr}{tl th:TO}{pos p2:Pos}
theorem yV:PO X none n5:=by
 intro tx s σ H Q I h;rw[evalPart_none];exact Jd ⟨none,H,I,.none,h⟩
theorem Ar(h:PE X e te):PO X (some e) (xr te):=by
 intro tx s σ H Q I hw;rw[evalPart_some];refine qz (h tx s σ H _ I hw) fun u s1 zq=>?_
 obtain⟨x,H1,I1,r1,q1⟩:=zq;obtain⟨i,rfl,q⟩:=q1;obtain⟨t,rfl⟩:=r1
 exact⟨some i,H1,I1,.int i t,q⟩
def tO(X:Cx)(r:V->Option Int->Option Int->Hp->VK->Prop):Prop:=
 ∀(tx:FY) (s:Shared) (σ:St) (H:Hp) (x:V) (v vl vu:Value) (lo hi:Option Int) (sl:Addr) (Q:VK),F3 X tx σ H s->F9 x v->s.heap.IsSliceOf sl vl vu .none->IsPart vl lo->IsPart vu hi->r x lo hi H Q->
  ∃T id,typeLookup (.type T) "__getitem__"=pure (some (.builtin id))/\s.TypeIs v T/\wpAny (model X.prog X.w) X.A (getItem v (.ref sl)) (EP X tx σ Q) X.xe s
def Di(r:V->Option Int->Option Int->Hp->VK->Prop)(te:TE)(tl th:TO):TE:=fun σ H Q=>te σ H fun x H1=>tl σ H1 fun l H2=>th σ H2 fun u H3=>r x l u H3 Q
theorem vq{r:V->Option Int->Option Int->Hp->VK->Prop}(hr:tO X r)(he:PE X e te)(hl:PO X lo tl)(hu:PO X hi th):PE X (.Subscript e (.Slice lo hi none p2) pos) (Di r te tl th):=by
 intro tx s σ H Q I h;refine Subscript_ (qz (he tx s σ H _ I h) fun v s1 zq=>?_)
 obtain⟨x,H1,I1,r1,q1⟩:=zq;refine wpAny_Slice (qz (hl tx s1 σ H1 _ I1 q1) fun vl s2 ⟨l,H2,I2,pl,q2⟩=>qz (hu tx s2 σ H2 _ I2 q2) fun vu s3 zq=>?_)
 obtain⟨u,H3,I3,pu,q3⟩:=zq;rw[evalPart_none];refine Jd ?_
 have I4:F3 X tx σ H3 {s3 with heap:=s3.heap.push {cls:= .type "slice",data:= .fields #[vl,vu,.none]}}:=I3.kept (t':=s3.toks) fun b ob q=>Ji _ q
 obtain⟨T,id,hT,ht,hg⟩:=hr tx {s3 with heap:=s3.heap.push {cls:= .type "slice",data:= .fields #[vl,vu,.none]}} σ H3 x v vl vu l u s3.heap.objs.size Q I4 r1 (Heap.IsSliceOf.new ..) pl pu q3
 show wpAny (model X.prog X.w) X.A (subscriptTail e (.Slice lo hi none p2) v (.ref s3.heap.objs.size)) (EP X tx σ Q) X.xe {s3 with heap:=s3.heap.push {cls:= .type "slice",data:= .fields #[vl,vu,.none]}}
 exact tail_any (ops:=[.ref s3.heap.objs.size,v]) ht hT hg (by with_unfolding_all rfl)
def Zy(xs:List V)(lo hi:Option Int):List V:=(xs.drop (HT.sIx xs.length 0 lo)).take (HT.sIx xs.length xs.length hi-HT.sIx xs.length 0 lo)
theorem fO(xs:List V)(lo hi:Option Int):(Zy xs lo hi).length<=xs.length:=by
 unfold Zy;rw[DW,Fu];omega
def DB(K:Frag):V->Option Int->Option Int->Hp->VK->Prop:=fun x lo hi H Q=>∃a xs,x= .ref a/\Ga K H a xs/\
 ¬(HT.sIx xs.length 0 lo=0/\HT.sIx xs.length xs.length hi=xs.length)/\∀p,H p=none->Q (.ref p) (F5 H p (.tup (Zy xs lo hi)))
theorem B9:tO X (DB X.K):=by
 intro tx s σ H x v vl vu lo hi sl Q I rx hs pl pu h;obtain⟨a,xs,rfl,hx,hw,q⟩:=h;cases rx;obtain⟨its,r,ht,hz⟩:=I.tuple hx;have hlen:its.toArray.size=xs.length:=by rw[Jr];exact r.length.symm
 refine⟨"tuple",_,PyProof.Rows.slot_tuple_getitem.lookup,ht.typeIs,?_⟩
 refine HT.getItem_tuple_cut ht hs pl pu (by rw[hlen];exact hw) ?_ (by rw[hlen];exact hz)
 rw[hlen];refine⟨.ref s.heap.objs.size,_,I.laid (t':=s.toks) (o:= .tup (Zy xs lo hi)) (fun b ob q=>Ji _ q) (Je _) ?_,rfl,q _ (I.hok.fresh (Je _))⟩
 exact⟨JM (fO xs lo hi) hz,_,(r.drop (HT.sIx xs.length 0 lo)).take (HT.sIx xs.length xs.length hi-HT.sIx xs.length 0 lo),IsTup.new _ _⟩
def CW(K:Frag):R2:=fun x y H Q=>∃a b xs ys,x= .ref a/\y= .ref b/\Ga K H a xs/\Ga K H b ys/\xs≠[]/\xs.length+ys.length<=sizeLine/\
 (ys=[]->Q (.ref a) H)/\(ys≠[]->∀p,H p=none->Q (.ref p) (F5 H p (.tup (xs++ys))))
theorem F6.nil_iff{xs:List V}{us:List Value}(r:F6 xs us):us=[]↔xs=[]:=by
 cases r with
 |nil=>simp
 |cons _ _=>simp
theorem AJ:zx X (binaryOp .Add) (CW X.K):=by
 intro tx s σ H x y v u Q I rx ry h;obtain⟨a,b,xs,ys,rfl,rfl,ha,hb,hx,hz,q1,q2⟩:=h;cases rx;cases ry;obtain⟨its,r1,p1,_⟩:=I.tuple ha;obtain⟨its2,r2,p2,_⟩:=I.tuple hb;refine HT.cat_tup p1 p2 (fun z=>hx (r1.nil_iff.mp z)) (fun z=>⟨.ref a,H,I,rfl,q1 (r2.nil_iff.mp z)⟩) (fun z=>?_) (by rw[<- r1.length,<- r2.length];exact hz)
 refine⟨.ref s.heap.objs.size,_,I.laid (t':=s.toks) (o:= .tup (xs++ys)) (fun b ob q=>Ji _ q) (Je _) ?_,rfl,q2 (fun w=>z (r2.nil_iff.mpr w)) _ (I.hok.fresh (Je _))⟩
 exact⟨by rw[JC];exact hz,_,r1.append r2,IsTup.new _ _⟩
end
def cF(n:Nat)(i:Int):Option Nat:=if 0<=i then(if i<n then some i.toNat else none)else if -(n:Int)<=i then some (i+n).toNat else none
def Zl{α:Type}(xs:List α)(i:Int):Option α:=(cF xs.length i).bind fun j=>xs[j]?
theorem ox{n:Nat}{i:Int}{j:Nat}(h:cF n i=some j):seqIndex? i n=some j/\j<n/\ -(n:Int)<=i/\i<n:=by
 unfold cF at h
 by_cases h0:0<=i
 ·rw[Jc h0]at h
  by_cases h1:i<n
  ·rw[Jc h1]at h
   have e:i.toNat=j:=Jy h
   exact⟨by rw[seqIndex_of h0 h1,e],by omega,by omega,h1⟩
  ·rw[Jb h1]at h;cases h
 ·rw[Jb h0]at h
  by_cases h1: -(n:Int)<=i
  ·rw[Jc h1]at h
   have e:(i+n).toNat=j:=Jy h
   exact⟨by rw[seqIndex_neg (by omega) h1,e],by omega,h1,by omega⟩
  ·rw[Jb h1]at h;cases h
theorem oQ{α:Type}{xs:List α}{i:Int}{v:α}(h:Zl xs i=some v):∃j,seqIndex? i xs.length=some j/\xs[j]? =some v/\j<xs.length/\ -(xs.length:Int)<=i/\i<xs.length:=by
 unfold Zl at h;cases e:cF xs.length i with
 |none=>rw[e]at h;cases h
 |some j=>
  rw[e]at h;obtain⟨h1,h2,h3,h4⟩:=ox e
  exact⟨j,h1,h,h2,h3,h4⟩
theorem Qv{α:Type}{xs:List α}{j:Nat}{v:α}(h:xs[j]? =some v):Zl xs (j:Int)=some v:=by
 have hj:j<xs.length:=(Jw.mp h).1
 have e:cF xs.length (j:Int)=some j:=by
  unfold cF;rw[Jc (by omega),Jc (by omega)];simp
 unfold Zl;rw[e];exact h
def nB(b:Expr):Prop:=∀o i,subscripted b false o i=operate [o,i] (getItem o i)
def Iw(X:Cx)(r:R2):Prop:=
 ∀(value slice:Expr) (tx:FY) (s:Shared) (σ:St) (H:Hp) (x y:V) (v u:Value) (Q:VK),F3 X tx σ H s->F9 x v->F9 y u->r x y H Q->
  subscripted slice false v u=operate [v,u] (getItem v u)->wpAny (model X.prog X.w) X.A (subscriptTail value slice v u) (EP X tx σ Q) X.xe s
def oV(X:Cx)(id:String)(r:V->List V->Hp->VK->Prop):Prop:=
 ∀(tx:FY) (s:Shared) (σ:St) (H:Hp) (x:V) (xs:List V) (v:Value) (us:List Value) (Q:VK),F3 X tx σ H s->F9 x v->F6 xs us->r x xs H Q->
  wpAny (model X.prog X.w) X.A (call (.builtin id) (v::us)) (EP X tx σ Q) X.xe s
section
variable{X:Cx}{a b:Expr}{ta tb:TE}{pos:Pos}
theorem Iw.or{r r':R2}(h:Iw X r)(h':Iw X r'):Iw X (fun x y H Q=>r x y H Q\/r' x y H Q):=by
 intro value slice tx s σ H x y v u Q I rx ry q hs;rcases q with q|q
 ·exact h value slice tx s σ H x y v u Q I rx ry q hs
 ·exact h' value slice tx s σ H x y v u Q I rx ry q hs
theorem C5{r:R2}(hr:Iw X r)(ha:PE X a ta)(hb:PE X b tb)(hs:nB b):PE X (.Subscript a b pos) (i9 r ta tb):=by
 intro tx s σ H Q I h;exact Subscript_ (wN ha hb I h fun v u s2 x y H2 I2 rx ry q=>hr a b tx s2 σ H2 x y v u Q I2 rx ry q (hs _ _))
def BF(K:Frag):R2:=fun x y H Q=>∃p xs i v,x= .ref p/\y= .int i/\F8 K H p xs/\Zl xs i=some v/\Q v H
def vG(K:Frag):R2:=fun x y H Q=>∃p xs i v,x= .ref p/\y= .int i/\Ga K H p xs/\Zl xs i=some v/\Q v H
theorem qK:Iw X (BF X.K):=by
 intro value slice tx s σ H x y v u Q I rx ry h hs;obtain⟨p,xs,i,z,rfl,rfl,hq,he,q⟩:=h;cases rx;obtain⟨t,rfl⟩:=ry;obtain⟨its,r,pl,hz⟩:=I.list hq;obtain⟨j,h1,h2,h3,h4,h5⟩:=oQ he;obtain⟨w,ew,rw'⟩:=r.get h2;have hl:=r.length;have hn:=ZS;have fin:EP X tx σ Q w s:=⟨z,H,I,rw',q⟩
 by_cases h0:0<=i
 ·have hj:i.toNat=j:=by
   rw[seqIndex_of h0 h5]at h1;exact Jy h1
  exact item_listR pl.isList h0 (by omega) (by rw[hj];simpa using ew) fin hs
 ·have hj:(i+(its.toArray.size:Int)).toNat=j:=by
   rw[seqIndex_neg (by omega) h4]at h1
   rw[Jr,<- hl];exact Jy h1
  exact subscriptTail_builtinR (x:=w) pl.isList.typeIs slot_list_getitem.lookup
   (wpAny_getItem_list_neg (Q:=fun r s'=>r=w/\EP X tx σ Q r s') pl.isList (by omega) (by rw[Jr]<;>omega) (by omega) (by rw[hj];simpa using ew) ⟨rfl,fin⟩) hs
theorem qF:Iw X (vG X.K):=by
 intro value slice tx s σ H x y v u Q I rx ry h hs;obtain⟨p,xs,i,z,rfl,rfl,hq,he,q⟩:=h;cases rx;obtain⟨t,rfl⟩:=ry;obtain⟨its,r,pl,hz⟩:=I.tuple hq;obtain⟨j,h1,h2,h3,h4,h5⟩:=oQ he;obtain⟨w,ew,rw'⟩:=r.get h2;have hl:=r.length;have hn:=ZS;have fin:EP X tx σ Q w s:=⟨z,H,I,rw',q⟩
 exact subscriptTail_builtinR (x:=w) pl.typeIs slot_tuple_getitem.lookup
  (getItem_tuple (j:=j) (Q:=fun r s'=>r=w/\EP X tx σ Q r s') pl (by omega) (by omega) (by rw[Jr,<- hl];exact h1) (by simpa using ew) ⟨rfl,fin⟩) hs
theorem pD(its:List Value)(n j:Nat)(u:Value):Obj.mapSeq (·.setIfInBounds j u) {cls:= .type "list",data:= .seq its.toArray n}={cls:= .type "list",data:= .seq (its.set j u).toArray n}:=by
 simp [Obj.mapSeq]
theorem F3.lst{tx:FY}{σ:St}{H:Hp}{s:Shared}{p:Addr}{xs:List V}(I:F3 X tx σ H s)(h:H p=some (.lst xs)):
  ∃(its:List Value) (n:Nat),F6 xs its/\s.heap.get? p=some {cls:= .type "list",data:= .seq its.toArray n}/\xs.length<=sizeLine:=by
 obtain⟨z,its,n,r,e⟩:=I.hok p _ h
 exact⟨its,n,r,e,z⟩
theorem F3.lstUpd{tx:FY}{σ:St}{H:Hp}{s:Shared}{p:Addr}{xs ys:List V}{its its':List Value}{n n':Nat}{f:Obj->Obj}(I:F3 X tx σ H s)(h:H p=some (.lst xs))
  (ho:s.heap.get? p=some {cls:= .type "list",data:= .seq its.toArray n})(hf:f {cls:= .type "list",data:= .seq its.toArray n}={cls:= .type "list",data:= .seq its'.toArray n'})(r:F6 ys its')(hz:ys.length<=sizeLine)(t:Nat):
  F3 X tx σ (F5 H p (.lst ys)) {s with heap:=s.heap.update p f,toks:=t}:=by
 have e:(s.heap.update p f).get? p=some {cls:= .type "list",data:= .seq its'.toArray n'}:=by
  rw[EE f ho (by rw[hf]<;>rfl),hf]
 refine I.write (x:=p) (e:=p) (by rw[h];trivial) (.inl rfl) (fun b u hb q=>(EZ _ _ (Ne.symm hb)).trans q) ⟨_,e⟩ ?_
 exact⟨hz,its',n',r,e⟩
def CG:V->V->V->Hp->(Hp->Prop)->Prop:=fun o i v H Q=>∃p xs k j,o= .ref p/\i= .int k/\H p=some (.lst xs)/\cF xs.length k=some j/\Q (F5 H p (.lst (xs.set j v)))
theorem ZF:mn X CG:=by
 intro tx s σ H o i v ov iv u Q I ro ri rv h;obtain⟨p,xs,k,j,rfl,rfl,hp,hj,q⟩:=h;cases ro;obtain⟨t,rfl⟩:=ri;obtain⟨its,n,r,ho,hz⟩:=I.lst hp;obtain⟨h1,h2,h3,h4⟩:=ox hj;have hl:=r.length;have hn:=ZS;have I':F3 X tx σ (F5 H p (.lst (xs.set j v))) {s with heap:=s.heap.update p (Obj.mapSeq (·.setIfInBounds j u))}:=
  I.lstUpd hp ho (pD its n j u) (r.set rv j) (by rw[E1];exact hz) s.toks
 by_cases h0:0<=k
 ·have hk:k.toNat=j:=by
   rw[seqIndex_of h0 h4]at h1;exact Jy h1
  exact W.ki_setAt ho h0 (by omega) (by rw[Jr,<- hl];exact h4) (by rw[hk];exact⟨_,I',q⟩)
 ·have hk:(k+(its.toArray.size:Int)).toNat=j:=by
   rw[seqIndex_neg (by omega) h3]at h1
   rw[Jr,<- hl];exact Jy h1
  exact W.ki_setBack ho (by omega) (by rw[Jr,<- hl];exact h3) (by omega) (by rw[hk];exact⟨_,I',q⟩)
theorem lE(lo hi:Option Int)(n:Nat):(sliceBounds lo hi none n).1=((HT.sIx n 0 lo:Nat):Int)/\(sliceBounds lo hi none n).2.1=((HT.sIx n n hi:Nat):Int)/\(sliceBounds lo hi none n).2.2=1:=by
 refine⟨?_,?_,rfl⟩
 ·cases lo with
  |none=>simp [sliceBounds,HT.sIx]
  |some i=>
   simp only[sliceBounds,HT.sIx,Option.getD_none,show(1:Int)>0 by decide,D8]
   by_cases h:i<0
   ·simp only[h,D8]<;>omega
   ·simp only[h,JD]<;>omega
 ·cases hi with
  |none=>simp [sliceBounds,HT.sIx]
  |some i=>
   simp only[sliceBounds,HT.sIx,Option.getD_none,show(1:Int)>0 by decide,D8]
   by_cases h:i<0
   ·simp only[h,D8]<;>omega
   ·simp only[h,JD]<;>omega
theorem jW(its:List Value)(lo hi:Option Int):slicePick its.toArray lo hi none=((its.drop (HT.sIx its.length 0 lo)).take (HT.sIx its.length its.length hi-HT.sIx its.length 0 lo)).toArray:=by
 obtain⟨h1,h2,h3⟩:=lE lo hi its.toArray.size;unfold slicePick;rw[h1,h2,h3];simp only[sliceRange_one,pick_run,Jr]<;>rfl
def Dy(K:Frag):V->Option Int->Option Int->Hp->VK->Prop:=fun x lo hi H Q=>∃a xs,x= .ref a/\F8 K H a xs/\∀p,H p=none->Q (.ref p) (F5 H p (.lst (Zy xs lo hi)))
theorem oC:tO X (Dy X.K):=by
 intro tx s σ H x v vl vu lo hi sl Q I rx hs pl pu h;obtain⟨a,xs,rfl,hx,q⟩:=h;cases rx;obtain⟨its,r,ht,hz⟩:=I.list hx;have hlen:=r.length;refine⟨"list",_,slot_list_getitem.lookup,ht.isList.typeIs,?_⟩
 refine wpAny_getItem_list_slice ht.isList hs pl pu .none (by simp) ?_ (by rw[Jr]<;>omega)
 rw[jW,<- hlen];refine⟨.ref s.heap.objs.size,_,I.laid (t':=s.toks) (o:= .lst (Zy xs lo hi)) (fun b ob q=>Ji _ q) (Je _) ?_,rfl,q _ (I.hok.fresh (Je _))⟩
 exact⟨JM (fO xs lo hi) hz,_,0,(r.drop (HT.sIx xs.length 0 lo)).take (HT.sIx xs.length xs.length hi-HT.sIx xs.length 0 lo),Jo _ rfl⟩
theorem qP:qT X (.builtin "len") (fun xs H Q=>∃p ys,xs=[.ref p]/\(F8 X.K H p ys\/Ga X.K H p ys)/\Q (.int ys.length) H):=by
 intro tx s σ H xs us Q I r h;obtain⟨p,ys,rfl,hq,q⟩:=h;obtain⟨u,rfl,rx⟩:=zL r;cases rx;have hn:=ZS;rcases hq with hq|hq
 ·obtain⟨its,r',pl,hz⟩:=I.list hq
  have hlen:=r'.length;exact Calls.call_len_list pl.isList (by simp only[Jr]<;>omega) ⟨.int ys.length,H,I.tok _,⟨s.toks+1,by rw[Jr,hlen]⟩,q⟩
 ·obtain⟨its,r',pl,hz⟩:=I.tuple hq
  have hlen:=r'.length;exact len_tuple pl (by simp only[Jr]<;>omega) ⟨.int ys.length,H,I.tok _,⟨s.toks+1,by rw[Jr,hlen]⟩,q⟩
theorem lS:qT X (.builtin "len") (fun xs H Q=>∃z,xs=[.str z]/\z.length<=sizeLine/\Q (.int z.length) H):=by
 intro tx s σ H xs us Q I r h;obtain⟨z,rfl,hz,q⟩:=h;obtain⟨u,rfl,t,rfl⟩:=zL r;have hn:=ZS;exact len_str (by omega) ⟨.int z.length,H,I.tok _,⟨_,rfl⟩,q⟩
theorem da:qT X (.type "list") (fun xs H Q=>∃p ys,xs=[.ref p]/\(F8 X.K H p ys\/Ga X.K H p ys)/\∀l,H l=none->Q (.ref l) (F5 H l (.lst ys))):=by
 intro tx s σ H xs us Q I r h;obtain⟨p,ys,rfl,hq,q⟩:=h;obtain⟨u,rfl,rx⟩:=zL r;cases rx;have fin:∀(its:List Value),F6 ys its->ys.length<=sizeLine->∀(h':Heap) (c':Nat),(∀b o',s.heap.get? b=some o'->h'.get? b=some o')->
   h'.get? s.heap.objs.size=some {cls:= .type "list",dict:=none,data:= .seq its.toArray c',slots:= #[]}->EP X tx σ Q (.ref s.heap.objs.size) {s with heap:=h'}:=fun its r' hz h' c' kp e=>
  ⟨.ref s.heap.objs.size,_,I.laid (t':=s.toks) kp (Je _) (show Gg X.prog X.w _ h' _ (.lst ys)from⟨hz,its,c',r',e⟩),rfl,q _ (I.hok.fresh (Je _))⟩
 rcases hq with hq|hq
 ·obtain⟨its,r',pl,hz⟩:=I.list hq
  have hlen:=r'.length;obtain⟨o,ho,hc,n,hd⟩:=pl.isList;exact call_list_seq p (.inl rfl) ho hc hd (fun h' c' kp e=>fin its r' hz h' c' kp e) (by simp only[Jr]<;>omega)
 ·obtain⟨its,r',pl,hz⟩:=I.tuple hq
  have hlen:=r'.length;obtain⟨o,ho,hc,n,hd⟩:=pl;exact call_list_seq p (.inr rfl) ho hc hd (fun h' c' kp e=>fin its r' hz h' c' kp e) (by simp only[Jr]<;>omega)
theorem q9:qT X (.type "tuple") (fun xs H Q=>∃p ys,xs=[.ref p]/\((F8 X.K H p ys/\∀l,H l=none->Q (.ref l) (F5 H l (.tup ys)))\/(Ga X.K H p ys/\Q (.ref p) H))):=by
 intro tx s σ H xs us Q I r h;obtain⟨p,ys,rfl,h⟩:=h;obtain⟨u,rfl,rx⟩:=zL r;cases rx;rcases h with⟨hq,q⟩|⟨hq,q⟩
 ·obtain⟨its,r',pl,hz⟩:=I.list hq
  have hlen:=r'.length;refine call_tuple_list pl.isList (fun h' kp=>?_) (by simp only[Jr]<;>omega)
  have I1:F3 X tx σ H {s with heap:=h'}:=I.kept (t':=s.toks) kp
  have I2:F3 X tx σ (F5 H h'.objs.size (.tup ys)) {s with heap:=h'.push {cls:= .type "tuple",data:= .seq its.toArray}}:=
   I1.laid (t':=s.toks) (fun b o e=>Ji _ e) (Je _) (show Gg X.prog X.w _ _ _ (.tup ys)from⟨hz,its,r',IsTup.new _ _⟩)
  exact⟨.ref h'.objs.size,_,I2,rfl,q _ (I1.hok.fresh (Je _))⟩
 ·obtain⟨its,r',pl,hz⟩:=I.tuple hq
  exact call_tuple_same pl ⟨.ref p,H,I,rfl,q⟩
def Dk(K:Frag)(T:String)(x:V)(H:Hp):Prop:=match x with
 | .str _=>T="str"
 | .int _=>T="int"
 | .ref p=>(T="list"/\∃xs,F8 K H p xs)\/(T="tuple"/\∃o,K.lookup p=some o/\o.cls= .type "tuple"/\o.dict=none)\/
   (T="dict"/\((∃kvs,H p=some (.dK kvs))\/∃kvs,H p=some (.dT kvs)))\/(T="set"/\∃S n,H p=some (.set S n))
 |_=>False
theorem BQ{tx:FY}{σ:St}{H:Hp}{s:Shared}{T:String}{x:V}{v:Value}(I:F3 X tx σ H s)(r:F9 x v)(ty:Dk X.K T x H):
  s.TypeIs v T/\∀a,v= .ref a->∃ob,s.heap.get? a=some ob/\ob.dict=none:=by
 cases x with
 |str z=>
  obtain⟨t,rfl⟩:=r
  cases(show T="str" from ty)
  exact⟨typeIs_str s z t,fun _ e=>nomatch e⟩
 |int i=>
  obtain⟨t,rfl⟩:=r
  cases(show T="int" from ty)
  exact⟨typeIs_int s i t,fun _ e=>nomatch e⟩
 |ref p=>
  cases r;rcases ty with⟨rfl,xs,hq⟩|⟨rfl,o,hk,hc,hd⟩|⟨rfl,hk⟩|⟨rfl,S,n,hk⟩
  ·obtain⟨its,_,pl,_⟩:=I.list hq
   refine⟨pl.isList.typeIs,fun a e=>?_⟩
   cases e;obtain⟨o,n,e,c,hd,_⟩:=pl
   exact⟨o,e,hd⟩
  ·refine⟨⟨o,I.kIn p o hk,hc⟩,fun a e=>?_⟩
   cases e
   exact⟨o,I.kIn _ o hk,hd⟩
  ·have z:∃o,s.heap.get? p=some o/\o.ExactDict:=by
    rcases hk with⟨kvs,hk⟩|⟨kvs,hk⟩
    ·obtain⟨_,_,_,_,o,_,_,e,ex,_⟩:=I.hok p _ hk
     exact⟨o,e,ex⟩
    ·obtain⟨_,_,_,_,o,_,_,e,ex,_⟩:=I.hok p _ hk
     exact⟨o,e,ex⟩
   obtain⟨o,e,ex⟩:=z;refine⟨⟨o,e,ex.1⟩,fun a e2=>?_⟩
   cases e2
   exact⟨o,e,ex.2.1⟩
  ·obtain⟨o,_,_,_,e,ex,_⟩:=I.hok p _ hk
   refine⟨⟨o,e,ex.1⟩,fun a e2=>?_⟩
   cases e2
   exact⟨o,e,ex.2.1⟩
 |_=>exact False.elim ty
def BZ(K:Frag)(T:String)(r:V->List V->Hp->VK->Prop)(to:TE)(t:TA):TE:=fun σ H Q=>to σ H fun x H1=>Dk K T x H1/\t σ H1 fun xs H2=>r x xs H2 Q
variable{o e:Expr}{es:List Expr}{to:TE}{t:TA}{name:Str}{apos cpos:Pos}{T id:String}{r:V->List V->Hp->VK->Prop}
theorem C0(pa:PlainAttrs T)(slot:Slot T name id)(hty:typeOf (.builtin id)=pure (.type "method_descriptor"))(hm:oV X id r)(ho:PE X o to)(ha:PA X (e::es) t)
  (hbase:attributeBase o name X.env (eval o X.env)=eval o X.env:=by rfl)
  (hfew:((backTo cpos (starEach (e::es) X.env)).all (fun x=> !x.1)&&(backToKw cpos (keywordEach [] X.env)).all (fun x=>x.1.isSome)
   &&decide ((e::es).length+([]:List Keyword).length+(if([]:List Keyword).isEmpty then 0 else 1)<30))=true:=by rfl)
  (hline:(apos.endLine==cpos.line)=true:=by rfl)(hs:starEach (e::es) X.env=(false,eval e X.env)::starEach es X.env:=by rfl)(hplain:(backTo cpos (starEach es X.env)).any (·.1)=false:=by rfl):
  PE X (.Call (.Attribute o name apos) (e::es) [] cpos) (BZ X.K T r to t):=by
 intro tx s σ H Q I h;refine wpAny_Call_method_late hbase hfew hline rfl (qz (ho tx s σ H _ I h) fun v s1 zq=>?_)
 obtain⟨x,H1,I1,r1,ty,q1⟩:=zq;obtain⟨h1,h2⟩:=BQ I1 r1 ty;refine⟨T,id,pa,slot,hty,h1,h2,?_⟩
 have hA:=ha cpos tx s1 σ H1 _ I1 q1;rw[hs]at hA⊢;refine Calls.callWith_builtin (by show(false||(backTo cpos (starEach es X.env)).any (·.1))=false;rw[hplain]<;>rfl) (Calls.evalArgs_plain ?_)
 exact qz hA fun us s2 ⟨vs,H2,I2,r2,q2⟩=>hm tx s2 σ H2 x vs v us Q I2 r1 r2 q2
end
def Dl(X:Cx)(id:String)(r:V->List V->Hp->VK->Prop):Prop:=
 ∀(tx:FY) (s:Shared) (σ:St) (H:Hp) (x:V) (xs:List V) (v:Value) (us:List Value) (Q:VK),F3 X tx σ H s->F9 x v->F6 xs us->r x xs H Q->
  wpAny (model X.prog X.w) X.A (call (.builtin id) (v::us)) (EP X tx σ Q) X.xe s
theorem F6.one:∀{x:V} {us:List Value},F6 [x] us->∃u,us=[u]/\F9 x u
 :=by
 intro x us h;cases h with
 |cons r q=>cases q;exact⟨_,rfl,r⟩
theorem F6.two:∀{x y:V} {us:List Value},F6 [x,y] us->∃u v,us=[u,v]/\F9 x u/\F9 y v
 :=by
 intro x y us h;cases h with
 |cons r q=>cases q with
  |cons q z=>cases z;exact⟨_,_,rfl,r,q⟩
theorem F6.eraseIdx:∀{xs:List V} {us:List Value} (i:Nat),F6 xs us->F6 (xs.eraseIdx i) (us.eraseIdx i)
 |_,_,_,.nil=> .nil
 |_,_,0,.cons _ t=>t
 |_,_,i+1,.cons r t=> .cons r (F6.eraseIdx i t)
theorem F6.rep{xs:List V}{us:List Value}(h:F6 xs us):∀k:Nat,F6 (List.replicate k xs).flatten (List.replicate k us).flatten
 |0=> .nil
 |k+1=>by
  rw[E2,E2,Fw,Fw];exact F6.append h (F6.rep h k)
theorem jk{α:Type}:∀(l:List α) (i:Nat),(l.eraseIdx i).length<=l.length
 | [],_=>Je _
 |_::_,0=>Eb _
 |_::r,i+1=>Nat.succ_le_succ (jk r i)
theorem iQ(its:List Value):∀(k:Nat) (acc:List Value),
  List.foldl (fun x1 x2=>x1++x2) acc.toArray (List.replicate k its.toArray)=(acc++(List.replicate k its).flatten).toArray
 |0,acc=>by simp
 |k+1,acc=>by
  have e:acc.toArray++its.toArray=(acc++its).toArray:=by simp
  have e2:(acc++its)++(List.replicate k its).flatten=acc++(List.replicate (k+1) its).flatten:=by
   rw[E2,Fw,El]
  rw[<- e2,<- iQ its k (acc++its),<- e,E2,List.foldl_cons]
section
variable{X:Cx}{tx:FY}{σ:St}{H:Hp}{s:Shared}{l:Addr}{xs ys:List V}
theorem F3.lset{its its':List Value}{n:Nat}{f:Array Value->Array Value}{t':Nat}(I:F3 X tx σ H s)(hH:H l=some (.lst xs))
  (e:s.heap.get? l=some {cls:= .type "list",data:= .seq its.toArray n})(hf:f its.toArray=its'.toArray)(hv:F6 ys its')(hz:ys.length<=sizeLine):
  F3 X tx σ (F5 H l (.lst ys)) {s with heap:=s.heap.update l (Obj.mapSeq f),toks:=t'}:=by
 have q:=PySem.IsL.update e f;rw[hf]at q;refine I.write (x:=l) (e:=l) (by rw[hH];exact trivial) (.inl rfl) (fun b' u hb hu=>(EZ s.heap (Obj.mapSeq f) (Ne.symm hb)).trans hu) ⟨_,q⟩ ?_
 exact⟨hz,its',_,hv,q⟩
theorem F3.lnew{its:List Value}{t':Nat}(I:F3 X tx σ H s)(hv:F6 ys its)(hz:ys.length<=sizeLine):
  F3 X tx σ (F5 H s.heap.objs.size (.lst ys)) {s with heap:=s.heap.push {cls:= .type "list",data:= .seq its.toArray},toks:=t'}:=
 I.laid (fun _ _ q=>Ji _ q) (Je _) ⟨hz,its,0,hv,Jo _ rfl⟩
theorem F3.fresh(I:F3 X tx σ H s):H s.heap.objs.size=none:=I.hok.fresh (Je _)
theorem F3.lstM(I:F3 X tx σ H s)(hH:H l=some (.lst xs)):xs.length<=sizeLine/\∃(its:List Value) (n:Nat),F6 xs its/\xs.length=its.length/\s.heap.get? l=some {cls:= .type "list",data:= .seq its.toArray n}:=by
 obtain⟨z,its,n,r,e⟩:=I.hok l _ hH
 exact⟨z,its,n,r,r.length,e⟩
theorem vp{n:Nat}(h:n<=sizeLine):Builtin.List.listTooLong n=false:=by
 unfold Builtin.List.listTooLong;exact Jn (by omega)
end
section
variable{X:Cx}
def oo:V->List V->Hp->VK->Prop:=fun x vs H Q=>∃l xs y,x= .ref l/\vs=[y]/\H l=some (.lst xs)/\xs.length<sizeLine/\Q .non (F5 H l (.lst (xs++[y])))
theorem tQ:Dl X "list.append" oo:=by
 intro tx s σ H x vs v us Q I rx rv h;obtain⟨l,xs,y,rfl,rfl,hH,hz,q⟩:=h;cases rx;obtain⟨u,rfl,ru⟩:=rv.one;obtain⟨z,its,n,r,hl,e⟩:=I.lstM hH;refine E3 F.slot_list_append ⟨_,e,rfl⟩ F.entry_list_append (F.args_list_append_2 _ _) (PySem.list_append l its.toArray n u (by rw[Jr];omega)) ⟨e,?_⟩
 refine⟨.non,_,I.lset (its':=its++[u]) hH e (by simp) (r.append (.cons ru .nil)) ?_,rfl,q⟩
 rw[JC,Eo];omega
def sL:V->List V->Hp->VK->Prop:=fun x vs H Q=>∃l xs i k y,x= .ref l/\vs=[.int i]/\H l=some (.lst xs)/\ -(2 ^ 63)<=i/\i<2 ^ 63/\seqIndex? i xs.length=some k/\xs[k]? =some y/\Q y (F5 H l (.lst (xs.eraseIdx k)))
theorem vD:Dl X "list.pop" sL:=by
 intro tx s σ H x vs v us Q I rx rv h;obtain⟨l,xs,i,k,y,rfl,rfl,hH,h1,h2,hk,hy,q⟩:=h;cases rx;obtain⟨u,rfl,ru⟩:=rv.one;obtain⟨t,rfl⟩:=ru;obtain⟨z,its,n,r,hl,e⟩:=I.lstM hH;obtain⟨w,hw,rw'⟩:=r.get hy;refine E3 F.slot_list_pop ⟨_,e,rfl⟩ F.entry_list_pop (F.args_list_pop_2 _ _)
  (MeetsSeq.list_pop_at l its.toArray n i t k w (fitsIndex_both h1 h2) (by rw[Jr,<- hl];exact hk) (by rw[<- Array.getElem?_toList];exact hw) (by rw[Jr];omega)) ⟨e,?_⟩
 refine⟨y,_,I.lset (its':=its.eraseIdx k) hH e ?_ (r.eraseIdx k) ?_,rw',q⟩
 ·show its.toArray.eraseIdxIfInBounds k=(its.eraseIdx k).toArray
  rw[List.eraseIdxIfInBounds_toArray]
 ·have:=jk xs k
  omega
def DH:R2:=fun x y H Q=>∃l k xs,x= .ref l/\y= .int k/\H l=some (.lst xs)/\ -(2 ^ 63)<=k/\k<2 ^ 63/\xs.length*k.toNat<=sizeLine/\
 ∀p,H p=none->Q (.ref p) (F5 H p (.lst (List.replicate k.toNat xs).flatten))
theorem Ak{α:Type}(xs:List α)(k:Nat):(List.replicate k xs).flatten.length=k*xs.length:=by
 induction k with
 |zero=>simp
 |succ k ih=>rw[E2,Fw,JC,ih,Nat.succ_mul,Nat.add_comm]
theorem t9:zx X (binaryOp .Mult) DH:=by
 intro tx s σ H x y v u Q I rx ry h;obtain⟨l,k,xs,rfl,rfl,hH,h1,h2,hz,q⟩:=h;cases rx;obtain⟨t,rfl⟩:=ry;obtain⟨z,its,n,r,hl,e⟩:=I.lstM hH;have hlen:its.toArray.size*k.toNat<=sizeLine:=by rw[Jr,<- hl];exact hz
 have hcap:¬its.toArray.size*k.toNat>(2 ^ 63-1)/8:=by
  have:(sizeLine:Nat)<=(2 ^ 63-1)/8:=by decide
  omega
 have hfit:¬(!Builtin.List.listFitsIndex k)=true:=by
  rw[fitsIndex_both h1 h2];exact JQ
 have hlong:¬Builtin.List.listTooLong (its.toArray.size*k.toNat)=true:=by
  rw[vp hlen];exact JQ
 have hnew:List.foldl (fun x1 x2=>x1++x2) #[] (List.replicate (if its.toArray.isEmpty=true then 0 else k.toNat) its.toArray)=(List.replicate k.toNat its).flatten.toArray:=by
  have f0:∀m:Nat,List.foldl (fun x1 x2=>x1++x2) #[] (List.replicate m its.toArray)=(List.replicate m its).flatten.toArray:=fun m=>by
   have:=iQ its m []
   rw[List.nil_append]at this;exact this
  rw[f0];cases its with
  |nil=>simp
  |cons a r'=>rw[Jb (by simp)]
 refine wpAny_binaryOp_repeat_ref (T:="list") (U:="int") (by decide) ⟨_,e,rfl⟩ (fun s'=>typeIs_int s' k t) noFill_list_mul F.fills_int_mul F.slot_int_rmul repeat_list F.slot_int_index.lookup
  (E3 F.slot_int_rmul (typeIs_int s k t) F.entry_int_rmul (F.args_int_rmul_2 _ _) (int___rmul___int_list k t l its.toArray n)
   ⟨e,rfl,⟨_,e,rfl⟩,E3 F.slot_list_mul ⟨_,e,rfl⟩ F.entry_list_mul (F.args_list_mul_2 _ _) (AutoListH.list___mul___list_int_3 l its.toArray n k t hfit hcap hlong) ⟨e,?_⟩⟩)
 rw[hnew]
 exact⟨.ref _,_,I.lnew (t':=s.toks) (r.rep k.toNat) (by rw[Ak,Nat.mul_comm];exact hz),rfl,q _ I.fresh⟩
end
end L2
namespace Att
open PySem PySem.W PySem.Calls PyProof.Rows
theorem gM{P:Params}{h:Heap}:∀(ns:List Int) (vs:List Value),WellAll P h vs (ns.map WData.int)->IntsAre vs ns:=by
 intro ns
 induction ns with
 |nil=>
  intro vs w;rw[Fd]at w;cases w;exact .nil
 |cons n ns ih=>
  intro vs w;rw[JR]at w;cases w with
  |cons a b=>
   cases a;exact .cons _ _ (ih _ b)
theorem sR{l:OpenLaw}{n:Nat}(hn:l.most=some n){P:Params}{h:Heap}{args:List WData}{vals:List Value}
  (hpre:l.row.toRowW.claim.pre args=true)(hwl:WellAll P h vals args):
  ∃a vs ns,vals=[Value.ref a]/\args=[WData.list (ns.map WData.int)]/\h.get? a=some {cls:= .type "list",data:= .seq vs.toArray}/\IntsAre vs ns/\ns.length<=n:=by
 have hsh:WShape.hasAll [] args [.list .int]=true:=(pre_splitW hpre).1
 have hc:l.pre.holds [] {args:=args}=true:=(pre_splitW hpre).2
 obtain⟨d,r,rfl,h1,h2⟩:=hasAllW_cons hsh
 obtain rfl:=hasAllW_nil h2
 obtain⟨xs,rfl,h3⟩:=hasW_list h1;obtain⟨ns,rfl⟩:=items_int h3;have hlen:ns.length<=n:=by
  unfold OpenLaw.pre at hc;have h4:(WTm.not (.lt (.lit (.int (n:Int))) (.len (.arg 0)))).holds [] {args:=[.list (ns.map .int)]}=true:=by
   have h4:=(holds_andW hc).1;rw[hn]at h4;exact h4
  have h5:=condW_of h4 (w_not (w_lt w_lit (w_len_list (w_arg rfl))));rw[Jf]at h5;refine Fe fun q=>?_
  have q':(n:Int)<((ns.length:Nat):Int):=by omega
  first
   |(rw[Jg q']at h5;exact absurd h5 (by decide))
   |(simp at h5;omega)
 cases hwl with
 |cons w1 w2=>
  cases w2;cases w1 with
  |list ho hall=>exact⟨_,_,ns,rfl,rfl,ho,gM ns _ hall,hlen⟩
theorem uF(l:OpenLaw)(args:List WData):l.row.toRowW.claim.post args (.bool true) args=true:=
 postW_of (r:=l.row.toRowW) (X:=(true==true))
  (show WShape.has [] (.bool true) .bool=true by first|rfl|decide|simp [WShape.has,WShape.arms,WShape.armsAll])
  (show(WTm.eq .res (.lit (.bool true))).value [] {args:=args,res:=some (.bool true),after:=args}=some (.bool (true==true))from w_eq_bool (w_res rfl) w_lit) rfl
theorem attach_call{l:OpenLaw}{n:Nat}{q:Program}{loose:List Str}{XP:(Str->Option Value)->Heap->Prop}{YP:World->Heap->Prop}{d:DefRec}
  (hn:l.most=some n)(hdf:d.params.defaults=[])
  (call:∀(w:World) (s₀ s₁:Shared) (mg mb:FX) (fa:Addr) (o:Obj) (pm cd doc:Value) (a:Addr) (vs:List Value) (ns:List Int),
   Ground q loose [] XP w s₀ mg mb s₁.heap->YP w s₁.heap->
   s₁.heap.get? fa=some o->o.data= .func (docDef d.name d.params d.body d.scope pm cd doc)->s₁.heap.CodeRec cd d.name->mg d.name=some (.ref fa)->
   s₁.heap.get? a=some {cls:= .type "list",data:= .seq vs.toArray}->IntsAre vs ns->ns.length<=n->s₁.gens= #[]->
   codeAny (model l.prog w) callerA (.call (.ref fa) ⟨[.ref a],[]⟩) (fun r s'=>r= .ok (.ret (.bool true))/\OldK s₁.heap s'.heap/\s'.os=s₁.os/\AllBare s'.gens) s₁):
  WalkO q loose XP YP l.row.toRowW d [] (fun f vs=>PySem.call f vs):=by
 intro w s₀ s₁ mg mb G Y fa o pm cd doc dV kV ho hd hcd hD hmg hg args vals as hpre hlay hrd hwl hlo
 obtain rfl:dV= .none:=Dflts.none hD hdf
 obtain rfl:kV= .none:=Dflts.noKw hD
 obtain⟨a,vs,ns,rfl,rfl,hobj,hints,hlen⟩:=sR hn hpre hwl;refine enter_call (EM (call w s₀ s₁ mg mb fa o pm cd doc a vs ns G Y ho (fd_plain hd) hcd hmg hobj hints hlen hg) fun r s' hq=>?_)
 obtain⟨rfl,h2,h3,h4⟩:=hq
 exact⟨.inl ⟨.bool true,.bool true,[],rfl,fun _=>rfl,.bool true,uF l _,fun _=>⟨List.Pairwise.nil,fun _ hm=>(nomatch hm)⟩⟩,h2,h3,h4⟩
end Att
namespace L2
open PySem PySem.Spec PyProof.Rows
theorem cW:∀{vs:List Value} {ns:List Int},IntsAre vs ns->F6 (ns.map V.int) vs
 |_,_,.nil=> .nil
 |_,_,.cons n t h=> .cons ⟨t,rfl⟩ (cW h)
def wf(H:Hp):Prop:=∀b,H b=none\/∃o xs,H b=some (.frz o (.lst xs))
theorem v9{P:Program}{w:World}{K:Frag}{mg mb:FX}{CX:fR}{k:Nat}{fa a:Addr}{fd:FuncData}{x:Str}{sp:Sp}{s₁:Shared}{vs:List Value}{ns:List Int}
  (KX:K.In s₁.heap)(hns:s₁.heap.Ns mainGlobals mg)(hb:s₁.heap.Ns builtinsNs mb)(hbb:∀x:Str,x≠"__name__"->mb x=bootBuiltins x)(hlim:s₁.heap.NoLimit)(hg:s₁.gens= #[])
  (ha:s₁.heap.get? a=some {cls:= .type "list",data:= .seq vs.toArray})(hi:IntsAre vs ns)(hl:ns.length<=sizeLine)(hr:Gh k callerA)
  (F:∀base:Heap,K.In base->base.Ns mainGlobals mg->Hl P w K mg base CX k fa fd [x] sp)(hbind:∀(s:Shared) (u:Value),BindsTo s fd ⟨[u],[]⟩ [(x,u)])
  (hsp:∀H:Hp,wf H->F8 K H a (ns.map V.int)->sp [.ref a] H (fun v _=>v= .bl true) fun _ _ _=>False)
  (hCX:∀H e s',CX [] H s₁ (fun _ _ _=>False) e s'->False):
  codeAny (model P w) callerA (.call (.ref fa) ⟨[.ref a],[]⟩) (fun r s'=>r= .ok (.ret (.bool true))/\OldK s₁.heap s'.heap/\s'.os=s₁.os/\AllBare s'.gens) s₁:=by
 have rv:=cW hi;have lenV:=hi.length;have core:∀H:Hp,wf H->F8 K H a (ns.map V.int)->Ht P w H s₁.heap->(∀b,H b≠none->b=a)->(H a≠none->K.lookup a=none)->
   codeAny (model P w) callerA (.call (.ref fa) ⟨[.ref a],[]⟩) (fun r s'=>r= .ok (.ret (.bool true))/\OldK s₁.heap s'.heap/\s'.os=s₁.os/\AllBare s'.gens) s₁:=by
  intro H hO hS hok hA hK;have base_of:∀{b:Addr} {o:Obj},s₁.heap.get? b=some o->H b=none->(cD s₁.heap H).get? b=some o:=fun e n=>vV e n
  have noA:∀{b:Addr} {o:Obj} {es:Array DictEntry} {ep:Nat},s₁.heap.get? b=some o->o.data= .dict es ep->H b=none:=fun{b o es ep} e d=>by
   cases q:H b with
   |none=>rfl
   |some u=>
    have e':b=a:=hA b (by rw[q];simp)
    subst e';rw[ha]at e;cases e
    have d':Data.seq vs.toArray _=Data.dict es ep:=d
    cases d'
  have nsK:∀{b:Addr} {m:FX},s₁.heap.Ns b m->(cD s₁.heap H).Ns b m:=fun{b m} ⟨o,es,ep,e,d,r⟩=>⟨o,es,ep,base_of e (noA e d),d,r⟩
  have hKb:K.In (cD s₁.heap H):=fun b o e=>base_of (KX b o e) (by
   cases q:H b with
   |none=>rfl
   |some u=>
    have e':b=a:=hA b (by rw[q];simp)
    subst e';rw[hK (by rw[q];simp)]at e;cases e)
  have hM:IU K mg (cD s₁.heap H):=⟨hKb,nsK hns,⟨mb,nsK hb,hbb⟩,let⟨mc,h1,h2⟩:=hlim;⟨mc,nsK h1,h2⟩⟩
  have e0:Ih P w K mg (cD s₁.heap H) callerA [] s₁ H:=⟨rfl,hM,fun b o e=>yZ e,Fq (sI _ _),trivial,fun b hb=>absurd (show b∈([]:List Addr)from hb) (by simp),hok,.of_eq hg⟩
  refine EM ((F _ hKb (nsK hns)).run callerA [] s₁ H ⟨[.ref a],[]⟩ [.ref a] [.ref a] _ _ hr e0 (hbind s₁ (.ref a)) (.cons rfl .nil) (hsp H hO hS)) fun r s' h=>?_
  cases r with
  |error e=>exact(hCX H e s' h).elim
  |ok fl=>
   cases fl with
   |next=>exact False.elim h
   |brk=>exact False.elim h
   |cont=>exact False.elim h
   |ret u=>
    obtain⟨v,H',os,bare,un,hok',r',q⟩:=h;have q':v= .bl true:=q
    subst q'
    obtain rfl:u=Value.bool true:=r'
    refine⟨rfl,OldK.of_keep fun b o e=>?_,os,bare⟩
    cases q:H b with
    |none=>exact un.keep b o e q (by intro z;exact absurd (show b∈([]:List Addr)from z) (by simp)) (by simp)
    |some u=>
     rcases hO b with z|⟨ob,xs,z⟩
     ·rw[q]at z;cases z
     ·have z2:=un.frzs b ob _ z
      obtain⟨e1,_⟩:=hok b _ z;obtain⟨e2,_⟩:=hok' b _ z2;rw[e]at e1;cases e1
      exact e2
 cases hk:K.lookup a with
 |some o=>
  have e:=KX a o hk;rw[ha]at e;cases e;refine core (fun _=>none) (fun _=> .inl rfl) (.inr ⟨_,vs.toArray,_,hk,rfl,rfl,rfl,by rw[Jr,lenV];exact hl,by simpa using rv⟩) (fun b u z=>by have z':(none:Option HO)=some u:=z;cases z') (fun b z=>absurd rfl z) fun z=>absurd rfl z
 |none=>
  refine core (fun b=>if b=a then some (.frz {cls:= .type "list",data:= .seq vs.toArray} (.lst (ns.map V.int)))else none) (fun b=>?_) (.inl (.inr ⟨{cls:= .type "list",data:= .seq vs.toArray},Jc rfl⟩)) (fun b u z=>?_) (fun b z=>?_) fun _=>hk
  ·by_cases hb:b=a
   ·exact .inr ⟨_,_,Jc hb⟩
   ·exact .inl (Jb hb)
  ·by_cases hb:b=a
   ·have z':=(Jc hb).symm.trans z
    cases z';subst hb
    exact⟨ha,by rw[Jf];exact hl,vs,_,rv,ha⟩
   ·have z':=(Jb hb).symm.trans z
    cases z'
  ·by_cases hb:b=a
   ·exact hb
   ·exact absurd (Jb hb) z
theorem AM{l:W.OpenLaw}{n k:Nat}{q:Program}{loose:List Str}{XP:(Str->Option Value)->Heap->Prop}{YP:World->Heap->Prop}{d:DefRec}{K:Params->Frag}{CX:World->fR}{sp:World->Sp}{x:Str}
  (hn:l.most=some n)(hn2:n<=sizeLine)(hdf:d.params.defaults=[])(hr:Gh k callerA)
  (hY:∀(w:World) (h:Heap),YP w h->(K w.params).In h)
  (F:∀(w:World) (mg:FX) (fa:Addr) (h:Heap),(K w.params).In h->h.Ns mainGlobals mg->mg d.name=some (.ref fa)->
   ∃fd:FuncData,(∀(s:Shared) (u:Value),BindsTo s fd ⟨[u],[]⟩ [(x,u)])/\
    ∀base:Heap,(K w.params).In base->base.Ns mainGlobals mg->Hl l.prog w (K w.params) mg base (CX w) k fa fd [x] (sp w))
  (hsp:∀(w:World) (H:Hp) (a:Addr) (ns:List Int),ns.length<=n->wf H->F8 (K w.params) H a (ns.map V.int)->sp w [.ref a] H (fun v _=>v= .bl true) fun _ _ _=>False)
  (hCX:∀(w:World) (H:Hp) (s:Shared) (e:Value) (s':Shared),CX w [] H s (fun _ _ _=>False) e s'->False):
  W.WalkO q loose XP YP l.row.toRowW d [] (fun f vs=>PySem.call f vs):=by
 refine Att.attach_call hn hdf fun w s₀ s₁ mg mb fa o pm cd doc a vs ns G Y ho hd hcd hmg hobj hints hlen hg=>?_
 have KX:=hY w _ Y;obtain⟨fd,hb,hF⟩:=F w mg fa _ KX G.T.g hmg;exact v9 KX G.T.g G.T.b G.T.builtins G.T.nolimit hg hobj hints (JM hlen hn2) hr hF hb (fun H hO hS=>hsp w H a ns hlen hO hS) fun H e s'=>hCX w H s₁ e s'
def zO(s:Stmt)(j:Nat):Stmt:=match s with
 | .ClassDef _ _ _ body _ _ _ _ _ _ _=>body.getD j (.Pass ⟨0,0,0,0⟩)
 |_=> .Pass ⟨0,0,0,0⟩
def Qw(s:Stmt):Arguments:=match s with
 | .FunctionDef _ a _ _ _ _ _ _ _ _=>a
 |_=>{posonlyargs:=[],args:=[],vararg:=none,kwonlyargs:=[],kw_defaults:=[],kwarg:=none,defaults:=[]}
def zH(s:Stmt):List Stmt:=match s with
 | .FunctionDef _ _ b _ _ _ _ _ _ _=>b
 |_=>[]
def qh(s:Stmt):Scope:=match s with
 | .FunctionDef _ _ _ _ _ _ sc _ _ _=>sc
 |_=>{kind:= .function,names:=[],isGenerator:=false,isCoroutine:=false}
abbrev aO:fR:=fun _ _ _ _ _ _=>False
abbrev E0:XK:=fun _ _ _=>False
theorem j7{X:Cx}:c7 aO X E0:=fun _ _ _ _ _ _ _ h=>h.elim
structure Io(K:Frag)(x IX:Str)(st:Stmt)(f:Addr)(fd:FuncData):Prop where
 ex:∃(oc:Value) (od:Option Addr) (kV doc pm:Value) (an:Option Addr) (cdv ct:Value) (osl:Array (Option Value)),
  fd=PySem.W.fnOf x IX (Qw st) (zH st) (qh st) .none kV doc pm an cdv ct/\K.lookup f=some ⟨oc,od,.func fd,osl⟩/\PySem.W.codeIn K cdv IX=true
 kp:PySem.W.keepIn K (.ref f)=true
section
variable{P:Program}{w:World}{K:Frag}{mg:FX}{base:Heap}
theorem Io.ok{x IX:Str}{st:Stmt}{f:Addr}{fd:FuncData}{N ps:List Str}{k:Nat}{sp:Sp}(F:Io K x IX st f fd)(S:F0 N ps (qh st))(len:∀vs H Q E,sp vs H Q E->vs.length=ps.length)
  (hbody:∀(cdv:Value) (A:Around) (outer:List Env) (s:Shared) (H:Hp) (vs:List V) (Q:VK) (E:XK),Gh k (A.deeper (envOfC IX (qh st) s.heap.objs.size f cdv))->sp vs H Q E->
   ∃t,Ie (bj aO P w K mg base N IX (qh st) f cdv A outer s H E).nox (zH st) t/\t {nx:=fun _ H'=>Q .non H',rt:=Q} (Q3 N vs) H):Hl P w K mg base aO (k+1) f fd ps sp:=by
 obtain⟨oc,od,kV,doc,pm,an,cdv,ct,osl,rfl,lk,hcd⟩:=F.ex;refine CI lk hcd S len fun A outer s H vs Q E hr hsp=>?_
 obtain⟨t,h,q⟩:=hbody cdv A outer s H vs Q E hr hsp
 exact⟨t,h.nox,q⟩
theorem Io.binds{x IX:Str}{st:Stmt}{f:Addr}{fd:FuncData}{ps:List Str}(F:Io K x IX st f fd)
  (h:∀(kV doc pm:Value) (an:Option Addr) (cdv ct:Value) (us:List Value),us.length=ps.length->bindArgs (W.fnOf x IX (Qw st) (zH st) (qh st) .none kV doc pm an cdv ct) ⟨us,[]⟩=pure (ps.zip us)):GU K fd ps []:=by
 obtain⟨oc,od,kV,doc,pm,an,cdv,ct,osl,rfl,lk,hcd⟩:=F.ex;exact .all (h kV doc pm an cdv ct)
theorem mr{x IX:Str}{st:Stmt}{f:Addr}{oc:Value}{od an:Option Addr}{osl:Array (Option Value)}{kV doc pm cdv ct:Value}(l:K.lookup f=some ⟨oc,od,.func (W.fnOf x IX (Qw st) (zH st) (qh st) .none kV doc pm an cdv ct),osl⟩)
  (c:W.codeIn K cdv IX=true)(k:W.keepIn K (.ref f)=true):Io K x IX st f (W.fnOf x IX (Qw st) (zH st) (qh st) .none kV doc pm an cdv ct):=⟨⟨oc,od,kV,doc,pm,an,cdv,ct,osl,rfl,l,c⟩,k⟩
end
theorem qZ{A B:Prop}(h:B):if false=true then A else B:=by
 rw[Jb JQ];exact h
theorem za{A B:Prop}(h:A):if true=true then A else B:=by
 rw[Jc rfl];exact h
theorem qS{c A B:Prop} [Decidable c](h1:c->A)(h2:¬c->B):if c then A else B:=by
 by_cases h:c
 ·rw[Jc h]
  exact h1 h
 ·rw[Jb h]
  exact h2 h
theorem Z8{c A B:Prop} [Decidable c](hc:c)(h:B):if(!decide c)=true then A else B:=by
 rw[Jg hc];exact qZ h
def FZ(H H':Hp):Prop:=∀b o,H b=some o->H' b=some o
theorem FZ.refl(H:Hp):FZ H H:=fun _ _ h=>h
theorem FZ.trans{H H1 H2:Hp}(a:FZ H H1)(b:FZ H1 H2):FZ H H2:=fun c o h=>b c o (a c o h)
theorem FZ.seq{K:Frag}{H H':Hp}{a:Addr}{xs:List V}(e:FZ H H')(h:F8 K H a xs):F8 K H' a xs:=by
 rcases h with(h|⟨o,h⟩)|h
 ·exact .inl (.inl (e _ _ h))
 ·exact .inl (.inr ⟨o,e _ _ h⟩)
 ·exact .inr h
end L2
namespace L3
open PySem PySem.Spec PyProof.Rows L2
def zJ(X:Cx)(N:List Str)(scope:Scope)(cl:List (Str×Addr))(C:Addr)(s:Shared)(H:Hp)(fp:List Addr):Cx:=
 {X with N:=N,s₀:=s,H₀:=H,env:=compEnvC scope cl C X.env,outer:=X.stack,ex:=fp,fn:=fun _=>false,pn:=[],xe:=fun _ _=>False}
structure GM(X:Cx)(scope:Scope)(fr:List Str)(js:List Nat):Prop where
 kind:scope.kind= .function
 names:∀x∈scope.names,x.2= .local->scope.names.lookup x.1=some .local
 nocell:∀x∈scope.names,x.2≠ .cell
 free:∀x∈scope.names,x.2= .free->x.1∈fr
 len:js.length=fr.length
 at_:∀(i j:Nat) (y:Str),js[i]? =some j->fr[i]? =some y->X.N[j]? =some y/\X.env.kindOf y=some .cell/\(relabel scope X.env).names.lookup y=some .cell
theorem zV{α:Type}{y:Str}:∀{l:List (Str×α)},y∈l.map (·.1)->∃c,l.lookup y=some c
 | [],h=>by simp at h
 |(n,a)::r,h=>by
  cases e:y==n with
  |true=>exact⟨a,by simp [DY,e]⟩
  |false=>
   have hr:y∈r.map (·.1):=by
    rcases Jk.mp h with z|z
    ·exact absurd z (by simpa using e)
    ·exact z
   obtain⟨c,hc⟩:=zV hr
   exact⟨c,by simp [DY,e,hc]⟩
def σ0(k:Nat)(js:List Nat)(σ:L2.St):L2.St:=List.replicate k none++js.map fun j=>(σ[j]?).join
def j0(k:Nat)(js:List Nat)(g:TG)(te:TE)(σ:L2.St)(Q:VK)(J:It)(H1:Hp):Prop:=∃W:Nat->Nat->List V->L2.St->Hp->Prop,(∃m,W 0 m [] (σ0 k js σ) H1)/\∀i m ys τ H,W i m ys τ H->
 (J.stop i H/\∀p,H p=none->Q (.ref p) (F5 H p (.lst ys)))\/(J.go i H/\ys.length<sizeLine/\∀x H',J.yld i H x H'->g x τ H' fun τ2 H2=>∃N:V->Hp->Prop,(∀v H3,N v H3->∃m',m'<m/\W (i+1) m' (ys++[v]) τ2 H3)/\te τ2 H2 N)
def gQ(k:Nat)(js:List Nat)(wi:TI)(g:TG)(te:TE):TE:=fun σ H Q=>wi σ H (j0 k js g te σ Q)
section
variable{prog:Program}{w:World}{A:Around}{R:Result->Shared->Prop}{s:Shared}
theorem kC{elt target iter:Expr}{scope:Scope}{pos:Pos}{it acc:Value}{env:Env}(I:Nat->Shared->Prop)
  (turn:∀n s,I n s->wpAny (model prog w) A (pyNext it) (fun r s₁=>match r with
   |none=>R (.ok .next) s₁
   | some v=>wpAny (model prog w) A (letOwnedTupleGo target it v) (fun _ s₁'=>wpAny (model prog w) A (assign target env v) (fun _ s₂=>wpAny (model prog w) A (eval elt env) (fun x s₃=>
     wpAny (model prog w) A (call (.builtin "list.append") [acc,x]) (fun _ s₄=>∃m,m<n/\I m s₄) (fun _ _=>False) s₃)
     (fun _ _=>False) s₂) (fun _ _=>False) s₁') (fun _ _=>False) s₁) (fun _ _=>False) s)
  (n:Nat)(h:I n s):
  codeAny (model prog w) A (.compLoop (.ListComp elt [⟨target,iter,[],0⟩] scope pos) 0 it acc env) R s:=by
 refine codeAny_loop rfl I (fun n s hI=>?_) n h
 show wpAny _ _ ((compTurn (.ListComp elt [⟨target,iter,[],0⟩] scope pos) 0 it acc env).onRaise (fun x=>do noteFrame x env;theTreesLotGoes x)) _ _ s
 refine wpAny_noted ?_
 rw[compTurn_list1];refine Ja (Ej (Ja (JF (turn n s hI) (fun r s₁ h₁=>?_) fun _ _ h'=>h'.elim)))
 cases r with
 |none=>exact Jd h₁
 |some v=>
  refine Ja (JF h₁ (fun _ s₁' h₁'=>?_) fun _ _ h'=>h'.elim)
  exact Ja (JF h₁' (fun _ s₂ h₂=>Ja (Ja (JF h₂ (fun x s₃ h₃=>Ja (JF h₃
   (fun _ s₄ h₄=>Jd (Jd ⟨rfl,h₄⟩)) fun _ _ h'=>h'.elim)) fun _ _ h'=>h'.elim))) fun _ _ h'=>h'.elim)
end
variable{X:Cx}
structure IR(X:Cx)(tx:FY)(H:Hp)(C:Addr):Prop where
 free:H C=none
 loc:C≠X.env.locals
 new:X.s₀.heap.objs.size<=C
 cell:∀x c,X.env.cells.lookup x=some c->c≠C
 pin:∀p∈X.pn++tx,p.1≠C
theorem kL{elt tg iter:Expr}{scope:Scope}{cl:List (Str×Addr)}{pos fpos:Pos}{fr own:List Str}{js:List Nat}{wi:TI}{g:TG}{te:TE}{use:Option (Value->Sem Unit)}{Post:FW}
  {tx:FY}{s:Shared}{σ:L2.St}{H:Hp}{Q:VK}
  (hc:X.calm=true)(hi:PI X tg iter wi)(hclos:closureFor scope X.env=pure cl)(hcl:∀y c,cl.lookup y=some c->X.env.cells.lookup y=some c)(hfr:cl.map (·.1)=fr)
  (S:GM X scope fr js)
  (hg:∀C s H fp,PG (zJ X (own++fr) scope cl C s H fp) tg g)(he:∀C s H fp,PE (zJ X (own++fr) scope cl C s H fp) elt te)
  (hs:∀x,foldedSetIterable iter X.env x=pure x)
  (I:L2.F3 X tx σ H s)(h:gQ own.length js wi g te σ H Q)
  (hfin:∀(acc C:Addr) (s5:Shared) (H':Hp) (m:FX),L2.F3 X tx σ H' s5->s5.heap.Ns C m->IR X tx H' C->Q (.ref acc) H'->compPost (model X.prog X.w) X.A X.xe use Post (.ref acc) C (.ok .next) s5):
  wpAny (model X.prog X.w) X.A (comprehension (.ListComp elt [⟨tg,iter,[],0⟩] scope pos) scope X.env fpos (newList []) false (eval iter X.env) use) Post X.xe s:=by
 refine wpAny_comprehension_free (use:=use) rfl hs hclos S.kind S.names (qz (hi tx s σ H _ I h) fun v s1 h1=>qz h1 fun itv s2 h2=>?_)
 obtain⟨it,fp,tn,J,H2,e,I2,T,st2,f2,W,⟨m0,w0⟩,turn⟩:=h2;subst e;refine DS (wpAny_newFunctionEnv S.nocell (by intro y hy;simp at hy) (fun h₁ hns₁ hsb₁=>?_) S.kind)
 dsimp only at hns₁ hsb₁⊢
 generalize hH2:s2.heap.push {cls:= .type "list",dict:=none,data:= .seq ([]:List Value).toArray}=G at hns₁ hsb₁⊢
 have hC:G.objs.size=s2.heap.objs.size+1:=by rw[<- hH2,JX]
 have hDC:s2.heap.objs.size≠G.objs.size:=by rw[hC];exact Jm (D6 _)
 have below:∀b,b<s2.heap.objs.size->b≠G.objs.size/\b≠s2.heap.objs.size:=fun b hb=>⟨by rw[hC];exact Jm (Ec hb),Jm hb⟩
 have old:∀b o,s2.heap.get? b=some o->h₁.get? b=some o:=fun b o e=>hsb₁.extBut b o (below b (Jh e)).1 (Ji _ (hH2▸Ji _ e))
 have hacc:h₁.get? s2.heap.objs.size=some {cls:= .type "list",data:= .seq ([]:List Value).toArray 0}:=hsb₁.extBut _ _ hDC (Ji _ (hH2▸Jo _ rfl))
 let Y:Cx:=zJ X (own++fr) scope cl G.objs.size s2 H2 fp
 have fplt:∀b∈fp,b<s2.heap.objs.size:=fun b hb=>by obtain⟨o,e,_⟩:=T.obj _ _ st2 b hb;exact Jh e
 have okY:Y.Ok:=by
  refine⟨I2.ok.mod,S.kind,I2.ok.glob,I2.ok.blt,by show s2.heap.objs.size<=G.objs.size;lia,?_,?_,?_,I2.ok.hd,I2.ok.frames,.inl rfl,?_,I2.bs,JM I2.ok.bsz I2.sz,?_,?_,I2.stack,I2.stkFree⟩
  ·exact fun x y c e1 e2=>I2.ok.inj x y c (hcl x c e1) (hcl y c e2)
  ·intro x hx
   have hx':(relabel scope X.env).names.lookup x=some .cell\/(relabel scope X.env).names.lookup x=some .free:=hx
   have hm:∃k,(x,k)∈scope.names/\k= .free:=by
    have aux:∀kk:NameKind,(kk= .cell\/kk= .free)->(relabel scope X.env).names.lookup x=some kk->∃k,(x,k)∈scope.names/\k= .free:=by
     intro kk hk el;obtain⟨⟨n,k⟩,hmem,e⟩:=JA.mp (EN el)
     dsimp only at e
     split at e
     ·rename_i hcond
      cases e;refine⟨k,hmem,?_⟩
      simp only[Jx,J3]at hcond;exact hcond.1.1
     ·cases e
      rcases hk with z|z
      ·subst z;exact absurd rfl (S.nocell _ hmem)
      ·exact⟨_,hmem,z⟩
    rcases hx' with z|z
    ·exact aux _ (.inl rfl) z
    ·exact aux _ (.inr rfl) z
   obtain⟨k,hmem,hk⟩:=hm;exact zV (l:=cl) (by rw[hfr];exact S.free _ hmem hk)
  ·exact fun x c e _=>nomatch e
  ·refine fun b hb=>⟨?_,fun x c e=>(f2 b hb).2.2.2.2.1 x c (hcl x c e)⟩
   show b≠G.objs.size
   exact(below b (fplt b hb)).1
  ·intro b o e hb
   rcases(f2 b hb).2.2.2.1 with z|z
   ·exact I2.ok.noex b o e z
   ·exact absurd (JK (Jh e) (JM I2.ok.bsz z)) (JZ _)
  ·intro b hb hf
   rcases Jk.mp (I2.stkSub b hf)with z|z
   ·exact(f2 b hb).2.1 z
   ·exact(f2 b hb).2.2.1 z
 have lenσ:(σ0 own.length js σ).length=(own++fr).length:=by unfold σ0;simp [S.len]
 have IY:F3 Y [] (σ0 own.length js σ) H2 {s2 with heap:=h₁,toks:=s2.toks+([]:List (Str×Value)).length}:=by
  refine⟨okY,rfl,I2.bare,Un.kept old,⟨_,hns₁,?_⟩,?_,?_,?_,fun p hp=>absurd (show p∈([]:FY)from hp) (by simp),I2.hok.kept old,lenσ⟩
  ·intro i x v hN hv _
   have hN':(own++fr)[i]? =some x:=hN
   unfold σ0 at hv
   by_cases hlt:i<own.length
   ·rw[DR (by simpa using hlt),List.getElem?_replicate]at hv
    split at hv<;>cases hv
   ·rw[J9 (by simpa using Fe hlt),FH,Jq]at hv
    rw[J9 (Fe hlt)]at hN';cases ej:js[i-own.length]? with
    |none=>rw[ej]at hv;cases hv
    |some j=>
     rw[ej]at hv;have hσ:σ[j]? =some (some v):=by
      have hv':(σ[j]?).join=some v:=Jy hv
      cases q:σ[j]? with
      |none=>rw[q]at hv';cases hv'
      |some o=>rw[q]at hv';have:o=some v:=hv';rw[this]
     obtain⟨hNj,hk,hkr⟩:=S.at_ _ j x ej hN';obtain⟨m,hn,hl⟩:=I2.loc;obtain⟨u,ru,lk⟩:=hl j x v hNj hσ (.inr (.inl hk))
     refine⟨u,ru,.inr ?_⟩
     rcases lk with⟨k1,_⟩|⟨_,c,ec,ic⟩
     ·rw[hk]at k1;cases k1
     ·obtain⟨c',hc'⟩:=zV (y:=x) (l:=cl) (by rw[hfr];exact DX hN')
      have:c'=c:=by have:=hcl x c' hc';rw[ec]at this;exact(Jy this).symm
      subst this;refine⟨?_,c',hc',?_⟩
      ·show(relabel scope X.env).names.lookup x=some .cell\/(relabel scope X.env).names.lookup x=some .free
       exact .inl hkr
      ·obtain⟨oc,hoc,hd⟩:=ic
       exact⟨oc,old _ _ hoc,hd⟩
  ·intro x c e
   obtain⟨v,oc,hoc,hd⟩:=I2.cell x c (hcl x c e)
   exact⟨v,oc,old _ _ hoc,hd⟩
  ·exact I2.hok.fresh (by show s2.heap.objs.size<=G.objs.size;lia)
  ·exact fun x c e=>I2.freeC x c (hcl x c e)
 have accfs:s2.heap.objs.size∉bJ X.stack:=fun hf=>by
  rcases Jk.mp (I2.stkSub _ hf)with z|z
  ·exact absurd (by rw[<- z];exact Je _:s2.heap.objs.size<=X.env.locals) (Nat.not_le.mpr I2.lt)
  ·exact I2.nofs (Je _) z
 have acccell:∀x c,cl.lookup x=some c->c≠s2.heap.objs.size:=fun x c e z=>by
  obtain⟨v,oc,hoc,_⟩:=I2.cell x c (hcl x c e)
  exact absurd (Jh hoc) (by rw[z];exact JZ _)
 have fpY:∀{H':Hp} {pl:FY},(∀b∈fp,H' b=none)->(∀p∈pl,p.1=s2.heap.objs.size)->∀b∈fp,Zs Y pl H' b:=fun{H' pl} hn hp b hb=>
  ⟨hn b hb,(below b (fplt b hb)).1,okY.exfs b hb,.inl hb,fun x c e=>(f2 b hb).2.2.2.2.1 x c (hcl x c e),fun p hpp=>by
   have hpp':p∈pl:=by simpa [Y,zJ]using hpp
   rw[hp p hpp'];exact Ne.symm (below b (fplt b hb)).2⟩
 have loop:∀s₃:Shared,F3 Y [] (σ0 own.length js σ) H2 s₃->tn 0 s₃.heap->s₃.heap.get? s2.heap.objs.size=some {cls:= .type "list",data:= .seq ([]:List Value).toArray 0}->
   codeAny (model X.prog X.w) X.A (.compLoop (.ListComp elt [⟨tg,iter,[],0⟩] scope pos) 0 (.ref it) (.ref s2.heap.objs.size) (compEnvC scope cl G.objs.size X.env))
    (compPost (model X.prog X.w) X.A X.xe use Post (.ref s2.heap.objs.size) G.objs.size) s₃:=by
  intro s₃ I3 st3 ha3;refine kC (fun n s'=>∃i ys τ H' its k,F3 Y [(s2.heap.objs.size,{cls:= .type "list",data:= .seq its.toArray k})] τ H' s'/\tn i s'.heap/\(∀b∈fp,H' b=none)/\F6 ys its/\ys.length<=sizeLine/\W i n ys τ H') ?_ m0 ?_
  ·rintro n s4 ⟨i,ys,τ,H4,its,k,I4,st4,fr4,vl,hz,w4⟩
   have pin4:=I4.pin (s2.heap.objs.size,{cls:= .type "list",data:= .seq its.toArray k}) (by simp [Y,zJ])
   rcases turn i n ys τ H4 w4 with⟨stop,qn⟩|⟨go,hlt,step⟩
   ·refine qz (T.done Y rfl rfl rfl hc i _ s4 τ H4 _ I4 (fpY fr4 (by simp)) st4 stop) fun r s5 zq=>?_
    obtain⟨hr,I5⟩:=zq;subst hr
    show compPost _ _ _ _ _ _ _ _ _
    obtain⟨m5,hn5,_⟩:=I5.loc;have pin5:=I5.pin (s2.heap.objs.size,{cls:= .type "list",data:= .seq its.toArray k}) (by simp [Y,zJ])
    have nacc:H4 s2.heap.objs.size=none:=pin5.2.1
    have B:=I5.base;have nC:H4 G.objs.size=none:=I5.free
    refine hfin s2.heap.objs.size G.objs.size s5 (F5 H4 s2.heap.objs.size (.lst ys)) m5 ?_ hn5 ?_ (qn _ nacc)
    ·refine I2.call' (s':=s5) (ch:=fp) I5.os ⟨B.keep,B.slot,fun b o e n hx=>?_,B.there,fun b xs e=>?_,fun b o u e=>?_,fun b ps e=>?_⟩ ?_ I5.bare ?_
     ·rw[qj (below b (Jh e)).2];exact B.free b o e n hx
     ·have e1:=B.tups b xs e
      rw[qj (qi e1 nacc)];exact e1
     ·have e1:=B.frzs b o u e
      rw[qj (qi e1 nacc)];exact e1
     ·obtain⟨more,e1⟩:=B.tbls b ps e
      exact⟨more,by rw[qj (qi e1 nacc)];exact e1⟩
     ·intro b u e
      by_cases hb:b=s2.heap.objs.size
      ·subst hb
       rw[qb]at e;cases e
       exact⟨hz,its,k,vl,pin5.1⟩
      ·rw[qj hb]at e
       exact(I5.hok b u e).stay (fun c v _ q=>q) (fun c q=>by rw[qj (qi q nacc)];exact q) fun c xs q=>by rw[qj (qi q nacc)];exact q
     ·exact fun b hb=>⟨(f2 b hb).2.2.2.1,(f2 b hb).2.1,(f2 b hb).2.2.2.2.1,(f2 b hb).2.2.2.2.2⟩
    ·have hge:s2.heap.objs.size<=G.objs.size:=by lia
     refine⟨by rw[qj (Ne.symm hDC)];exact nC,?_,JM I2.sz hge,fun x c e z=>?_,fun p hp z=>?_⟩
     ·exact JY (JK I2.lt hge)
     ·obtain⟨v,oc,hoc,_⟩:=I2.cell x c e
      exact absurd (JK (Jh hoc) hge) (by rw[z];exact JZ _)
     ·exact absurd (JK (Jh (I2.pin p hp).1) hge) (by rw[z];exact JZ _)
   ·refine qz (T.item Y rfl rfl rfl hc i _ s4 τ H4 _ I4 (fpY fr4 (by simp)) st4 go) fun r s5 zq=>?_
    obtain⟨u,hr,h5⟩:=zq;subst hr;refine qz h5 fun _ s6 zq=>?_
    obtain⟨x,H6,I6,r6,y6,st6,fr6⟩:=zq;have I6':=I6.pinned (fpY fr6 (by simp)) (T.obj _ _ st6)
    refine qz (hg _ _ _ _ _ s6 τ H6 x u _ I6' r6 (step x H6 y6)) fun _ s7 zq=>?_
    obtain⟨τ7,H7,I7,N,hN,q7⟩:=zq;refine qz (he _ _ _ _ _ s7 τ7 H7 _ I7 q7) fun v' s8 zq=>?_
    obtain⟨y,H8,I8,r8,n8⟩:=zq;obtain⟨m',hm',w8⟩:=hN _ _ n8;have pin8:=I8.pin (s2.heap.objs.size,{cls:= .type "list",data:= .seq its.toArray k}) (by simp [zJ])
    have pinfp:∀b∈fp,∀o,s6.heap.get? b=some o->s8.heap.get? b=some o/\H8 b=none:=fun b hb o e=>by
     have:=I8.pin (b,o) (J1 _ (J1 _ (Zr hb e)))
     exact⟨this.1,this.2.1⟩
    refine wpAny_list_append_plain (items:=its.toArray) ⟨k,pin8.1⟩ (fun h' ha' hs'=>?_) (by have:=vl.length;simp;lia)
    obtain⟨k',ha'⟩:=ha';have I9:F3 Y [] τ7 H8 {s8 with heap:=h'}:=by
     refine(I8.pins_of (pins':=[]) (by simp)).turned (t':=s8.toks) (it:=s2.heap.objs.size) (fun b o hb e=>(hs'.2 b hb).trans e) pin8.2.1 ?_ (.inr (Je _)) (fun x c e=>acccell x c e) (fun p hp=>absurd (show p∈([]:FY)from by simpa [Y,zJ]using hp) (by simp))
     exact hDC
    have ea:(its.toArray.push v')=(its++[v']).toArray:=by simp
    rw[ea]at ha';refine⟨m',hm',i+1,ys++[y],τ7,H8,its++[v'],k',I9.pins_of ?_,T.keep _ _ _ st6 fun b hb o e=>(hs'.2 b (below b (fplt b hb)).2).trans (pinfp b hb o e).1,fun b hb=>?_,vl.append (.cons r8 .nil),?_,w8⟩
    ·intro p hp
     rw[Jl.mp hp]
     exact⟨ha',pin8.2.1,hDC,accfs,fun v z=>by cases z⟩
    ·obtain⟨o,e,_⟩:=T.obj _ _ st6 b hb
     exact(pinfp b hb o e).2
    ·rw[JC,Eo];lia
  ·refine⟨0,[],σ0 own.length js σ,H2,[],0,I3.pins_of ?_,st3,fun b hb=>(f2 b hb).1,.nil,JB _,w0⟩
   intro p hp;rw[Jl.mp hp]
   exact⟨ha3,I2.hok.fresh (Je _),hDC,accfs,fun v z=>by cases z⟩
 have st1:tn 0 h₁:=T.keep _ _ _ st2 fun b _ o e=>old b o e
 exact codeAny_compStart_list (loop _ IY st1 hacc) (T.self _ 0 _ _ _ st1 (loop _ IY st1 hacc))
theorem AK{elt tg iter:Expr}{scope:Scope}{cl:List (Str×Addr)}{pos:Pos}{fr own:List Str}{js:List Nat}{wi:TI}{g:TG}{te:TE}
  (hc:X.calm=true)(hi:PI X tg iter wi)(hclos:closureFor scope X.env=pure cl)(hcl:∀y c,cl.lookup y=some c->X.env.cells.lookup y=some c)(hfr:cl.map (·.1)=fr)
  (S:GM X scope fr js)
  (hg:∀C s H fp,PG (zJ X (own++fr) scope cl C s H fp) tg g)(he:∀C s H fp,PE (zJ X (own++fr) scope cl C s H fp) elt te)
  (hs:∀x,foldedSetIterable iter X.env x=pure x:=by intro _;rfl):
  PE X (.ListComp elt [⟨tg,iter,[],0⟩] scope pos) (gQ own.length js wi g te):=by
 intro tx s σ H Q I h;rw[eval_ListComp];refine kL (use:=none) hc hi hclos hcl hfr S hg he hs I h fun acc C s5 H' m I5 hn aw q=>?_
 exact⟨m,hn,fun h' hs'=>⟨.ref acc,H',I5.turned (t':=s5.toks) (fun b o hb e=>(hs'.2 b hb).trans e) aw.free aw.loc (.inr aw.new) aw.cell aw.pin,rfl,q⟩⟩
theorem yT{elt tg iter:Expr}{scope:Scope}{cl:List (Str×Addr)}{pos spos py:Pos}{fr own:List Str}{js:List Nat}{wi:TI}{g:TG}{te:TE}{i:Nat}{y:Str}
  (hN:X.N.Nodup)(hi':X.N[i]? =some y)(hx:ju X.env.scope y)
  (hc:X.calm=true)(hi:PI X tg iter wi)(hclos:closureFor scope X.env=pure cl)(hcl:∀y c,cl.lookup y=some c->X.env.cells.lookup y=some c)(hfr:cl.map (·.1)=fr)
  (S:GM X scope fr js)
  (hg:∀C s H fp,PG (zJ X (own++fr) scope cl C s H fp) tg g)(he:∀C s H fp,PE (zJ X (own++fr) scope cl C s H fp) elt te)
  (hs:∀x,foldedSetIterable iter X.env x=pure x:=by intro _;rfl)(hsw:swapsWith (.ListComp elt [⟨tg,iter,[],0⟩] scope pos) (some (.Name y py)) spos.line X.env=pure true:=by rfl)
  (hf:X.fn y=true\/X.env.scope.names.lookup y=some .local:=by first|exact .inl rfl|exact .inr rfl|assumption):
  PS X (.Assign [.Name y py] (.ListComp elt [⟨tg,iter,[],0⟩] scope pos) spos) (hX (gQ own.length js wi g te) (Q2 i)):=by
 intro tx s σ H D I h;rw[exec_Assign_Name_used _ _ _ _ hsw];refine Ja (Ej (Ja ?_))
 show wpAny _ X.A (do let _ <- comprehension (.ListComp elt [⟨tg,iter,[],0⟩] scope pos) scope X.env _ (newList []) false (eval iter X.env) (some (assign (.Name y py) X.env))) _ _ s
 refine Ja (JF (kL (use:=some (assign (.Name y py) X.env)) (Post:=fun _ s'=>SP X tx D .next s') hc hi hclos hcl hfr S hg he hs I h ?_) (fun _ s' hq=>Jd (Jd hq)) fun _ _ e=>e)
 intro acc C s5 H' m I5 hn aw q
 show wpAny _ X.A (assign (.Name y py) X.env (.ref acc)) _ _ _
 refine wpAny_assign_Name (jz (v:= .ref acc) I5 hN hi' hx rfl (fun s6 I6 zq=>?_) hf)
 obtain⟨a,hs6,ha⟩:=zq;have hCa:C≠a:=by
  rcases ha with z|z
  ·rw[z];exact aw.loc
  ·exact Ne.symm (aw.cell _ _ z)
 refine⟨m,hn.sameBut hs6 hCa,fun h' hs'=>?_⟩
 exact⟨_,H',I6.turned (t':=s6.toks) (fun b o hb e=>(hs'.2 b hb).trans e) aw.free aw.loc (.inr aw.new) aw.cell aw.pin,q⟩
section
variable{js:List Nat}{te:TE}{σ:L2.St}{H:Hp}{Q:VK}{K:Frag}
abbrev ZQ(js:List Nat)(σ:L2.St):L2.St:=js.map fun j=>(σ[j]?).join
abbrev gU(J:It)(js:List Nat)(te:TE)(σ:L2.St)(H1:Hp)(Q:VK):Prop:=j0 1 js (Q2 0) te σ Q J H1
theorem cw{J:It}{n:Nat}(hn:n<=sizeLine)(item:Nat->V->Prop)(Pv:Nat->List V->Hp->Prop)(h0:Pv 0 [] H)(hgo:∀i ys H,i<n->Pv i ys H->J.go i H)(hst:∀ys H,Pv n ys H->J.stop n H)
  (hy:∀i ys H x H',i<n->Pv i ys H->J.yld i H x H'->H'=H/\item i x)
  (hs:∀i ys H x,i<n->ys.length=i->Pv i ys H->item i x->te (some x::ZQ js σ) H fun v H3=>Pv (i+1) (ys++[v]) H3)
  (hd:∀ys H,ys.length=n->Pv n ys H->∀p,H p=none->Q (.ref p) (F5 H p (.lst ys))):gU J js te σ H Q:=by
 refine⟨fun i m ys τ H=>m=n-i/\i<=n/\ys.length=i/\Pv i ys H/\∃o,τ=o::ZQ js σ,⟨n,by simp,JB _,rfl,h0,none,rfl⟩,?_⟩
 rintro i m ys τ H ⟨rfl,hi,hl,p,o,rfl⟩
 by_cases hlt:i<n
 ·refine .inr ⟨hgo i ys H hlt p,by lia,fun x H' y=>?_⟩
  obtain⟨e,hx⟩:=hy i ys H x H' hlt p y;subst e
  exact⟨fun v H3=>Pv (i+1) (ys++[v]) H3,fun v H3 p3=>⟨n-(i+1),by lia,rfl,hlt,by simp [hl],p3,_,rfl⟩,hs i ys _ x hlt hl p hx⟩
 ·have e:i=n:=by lia
  subst e;exact .inl ⟨hst ys H p,hd ys H hl p⟩
theorem Zj{a:Addr}{xs:List V}(hn:xs.length<=sizeLine)(Pv:Nat->List V->Hp->Prop)(h0:Pv 0 [] H)(hl:∀i ys H,Pv i ys H->F8 K H a xs)
  (hs:∀i ys H x,xs[i]? =some x->ys.length=i->Pv i ys H->te (some x::ZQ js σ) H fun v H3=>Pv (i+1) (ys++[v]) H3)
  (hd:∀ys H,ys.length=xs.length->Pv xs.length ys H->∀p,H p=none->Q (.ref p) (F5 H p (.lst ys))):gU (i3 K a) js te σ H Q:=
 cw hn (fun i x=>xs[i]? =some x) Pv h0 (fun i ys H hi p=>⟨xs,xs[i],hl _ _ _ p,by simp [hi]⟩) (fun ys H p=>⟨xs,hl _ _ _ p,Je _⟩) (fun i ys H x H' _ p y=>⟨y.1,y.2 xs (hl _ _ _ p)⟩) (fun i ys H x _ hl p hx=>hs i ys H x hx hl p) hd
theorem aB{a:Addr}{xs:List V}(hn:xs.length<=sizeLine)(Pv:Nat->List V->Hp->Prop)(h0:Pv 0 [] H)(hl:∀i ys H,Pv i ys H->Ga K H a xs)
  (hs:∀i ys H x,xs[i]? =some x->ys.length=i->Pv i ys H->te (some x::ZQ js σ) H fun v H3=>Pv (i+1) (ys++[v]) H3)
  (hd:∀ys H,ys.length=xs.length->Pv xs.length ys H->∀p,H p=none->Q (.ref p) (F5 H p (.lst ys))):gU (jo K a) js te σ H Q:=
 cw hn (fun i x=>xs[i]? =some x) Pv h0 (fun i ys H hi p=>⟨xs,xs[i],hl _ _ _ p,by simp [hi]⟩) (fun ys H p=>⟨xs,hl _ _ _ p,Je _⟩) (fun i ys H x H' _ p y=>⟨y.1,y.2 xs (hl _ _ _ p)⟩) (fun i ys H x _ hl p hx=>hs i ys H x hx hl p) hd
theorem cm{lo:Int}{n:Nat}(hn:n<=sizeLine)(Pv:Nat->List V->Hp->Prop)(h0:Pv 0 [] H)
  (hs:∀i ys H,i<n->ys.length=i->Pv i ys H->te (some (.int (lo+i))::ZQ js σ) H fun v H3=>Pv (i+1) (ys++[v]) H3)
  (hd:∀ys H,ys.length=n->Pv n ys H->∀p,H p=none->Q (.ref p) (F5 H p (.lst ys))):gU (jb lo n) js te σ H Q:=
 cw hn (fun i x=>x= .int (lo+i)) Pv h0 (fun i ys H hi p=>hi) (fun ys H p=>Je _) (fun i ys H x H' _ p y=>y) (fun i ys H x hi hl p hx=>by subst hx;exact hs i ys H hi hl p) hd
end
end L3
namespace L3
open PySem PySem.Spec PyProof.Rows L2
section
variable{X:Cx}{tx:FY}{σ:L2.St}{H:Hp}{s:Shared}
theorem eP{h':Heap}{t':Nat}{ch:List Addr}{a:Addr}{xs:List V}{its:List Value}(I:L2.F3 X tx σ H s)(k:∀b o,b∉ch->s.heap.get? b=some o->h'.get? b=some o)(hch:∀b∈ch,Zs X tx H b)
  (ho:∀b∈ch,∃o,h'.get? b=some o)(ha:s.heap.objs.size<=a)(hz:xs.length<=sizeLine)(hv:F6 xs its)(ht:IsTup h' a its.toArray):L2.F3 X tx σ (F5 H a (.tup xs)) {s with heap:=h',toks:=t'}:=by
 have na:H a=none:=I.hok.fresh ha
 have nlt:∀b o,s.heap.get? b=some o->b≠a:=fun b o e=>Jm (JK (Jh e) ha)
 have nch:∀b u,H b=some u->b∉ch:=fun b u e z=>by rw[(hch b z).1]at e;cases e
 refine I.step (g':=s.gens) (d':=s.drawn) (ch:=ch) (fun b hb=>⟨(hch b hb).2.2.2.1,(hch b hb).2.1,(hch b hb).2.2.2.2.1,(hch b hb).2.2.2.2.2⟩) (fun b o _ _ hc e _=>k b o hc e) (fun b o _ _ hc e _=>⟨o.slots,k b o hc e⟩)
  (fun b o _ e n=>by rw[qj (nlt b o e)];exact n) (fun b o hc e=>⟨o,k b o hc e⟩) (fun b ys e=>by rw[qj (qi e na)];exact e) (fun b o u e=>by rw[qj (qi e na)];exact e)
  (fun b ps e=>⟨#[],by rw[qj (qi e na),e];simp⟩) (fun m hm=>?_) (fun b u e=>?_) I.bare
 ·obtain⟨o,es,ep,ho,r⟩:=hm
  exact⟨o,es,ep,k _ o (fun z=>(hch _ z).2.1 rfl) ho,r⟩
 ·by_cases hb:b=a
  ·subst hb
   rw[qb]at e;cases e
   exact⟨hz,its,hv,ht⟩
  ·rw[qj hb]at e
   refine(I.hok b u e).stay (fun c v hc q=>k c v ?_ q) (fun c q=>by rw[qj (qi q na)];exact q) fun c ys q=>by rw[qj (qi q na)];exact q
   rcases hc with z|z
   ·rw[z];exact nch b u e
   ·exact nch c _ z
def nA(K:Frag)(a:Addr):It:=
 ⟨fun i H=>∃xs x,F8 K H a xs/\xs[i]? =some x,fun i H x H'=>∃p v,H p=none/\x= .ref p/\(∀xs,F8 K H a xs->xs[i]? =some v)/\H'=F5 H p (.tup [.int i,v]),fun i H=>∃xs,F8 K H a xs/\xs.length<=i⟩
theorem jt{P:Program}{w:World}{K:Frag}{elts:List Expr}{x1}{pos:Pos}(a e it:Addr)(hei:e≠it):
  HI P w K (.Tuple elts x1 pos) (nA K a) [e,it] e (fun i h=>(∃old,IsEnum h e it i old)/\h.IsListIter it a i) where
 mem:=by simp
 obj:=fun i h st b hb=>by
  obtain⟨⟨old,he⟩,⟨o,ho,hc,hd⟩⟩:=st;rcases Jk.mp hb with z|z
  ·subst z
   refine⟨_,he,fun v z=>?_⟩
   have z':Data.fields _=Data.cell v:=z
   cases z'
  ·rw[Jl.mp z]
   exact⟨o,ho,fun v z=>by rw[hd]at z;cases z⟩
 keep:=fun i h h' st k=>⟨let⟨old,he⟩:=st.1;⟨old,k e (by simp) _ he⟩,st.2.at fun o q=>k it (by simp) o q⟩
 item:=by
  intro X hP hw hK hc i tx s σ H E I hf st hg;subst hP hw hK;obtain⟨xs,x,hq,hx⟩:=hg;obtain⟨its,rv,p,hz⟩:=I.list hq;obtain⟨u,hu,ru⟩:=rv.get hx;obtain⟨⟨old,he⟩,hit⟩:=st;refine wpAny_pyNext_enum_item he hit p.isList (x:=u) (by simpa using hu) hei fun h' ho hit' ht hsz hk=>⟨_,rfl,?_⟩
  refine wpAny_letOwnedTupleGo_enum ho fun h'' he'' hs''=>?_
  have helt:e<s.heap.objs.size:=Jh he
  have hilt:it<s.heap.objs.size:=by obtain⟨_,y,_⟩:=hit;exact Jh y
  refine⟨.ref s.heap.objs.size,F5 H s.heap.objs.size (.tup [.int i,x]),?_,rfl,⟨_,x,I.hok.fresh (Je _),rfl,fun ys hy=>by rw[I.list_inj hy hq];exact hx,rfl⟩,⟨⟨_,by simpa using he''⟩,?_⟩,?_⟩
  ·show L2.F3 X tx σ _ {s with heap:=h'',toks:=s.toks+1}
   refine eP (s:=s) (its:=[.int i s.toks,u]) I (ch:=[e,it]) (fun b o hb q=>?_) hf (fun b hb=>?_) (Je _) (by show 2<=sizeLine;decide) (.cons ⟨_,rfl⟩ (.cons ru .nil)) ?_
   ·have hb1:b≠e:=fun z=>hb (by simp [z])
    have hb2:b≠it:=fun z=>hb (by simp [z])
    exact(hs''.2 b hb1).trans (hk b o hb1 hb2 q)
   ·rcases Jk.mp hb with z|z
    ·subst z;exact⟨_,he''⟩
    ·rw[Jl.mp z]
     obtain⟨o,y,_⟩:=hit'
     exact⟨o,(hs''.2 it (Ne.symm hei)).trans y⟩
   ·exact⟨_,(hs''.2 _ (JY helt)).trans ht,rfl,_,rfl⟩
  ·exact hit'.extBut hs''.extBut (Ne.symm hei)
  ·intro b hb
   rw[qj]
   ·exact(hf b hb).1
   ·rcases Jk.mp hb with z|z
    ·subst z;exact Jm helt
    ·rw[Jl.mp z];exact Jm hilt
 done:=by
  intro X hP hw hK hc i tx s σ H E I hf st hg;subst hP hw hK;obtain⟨xs,hq,hx⟩:=hg;obtain⟨its,rv,p,hz⟩:=I.list hq;obtain⟨⟨old,he⟩,hit⟩:=st;obtain⟨f0,f1,f2,f3,f4,f5⟩:=hf it (by simp)
  have hl:=rv.length;exact wpAny_pyNext_enum_end (I.ok.hd hc) he hit p.isList (by simp;lia) fun h' eb=>⟨rfl,I.turned (t':=s.toks) (fun b o hb e=>eb b o hb e) f0 f1 f3 f4 f5⟩
 self:=fun _ _ _ _ _ st h=>by
  obtain⟨⟨old,he⟩,_⟩:=st;exact Ff he h
def xz(K:Frag)(ta:TA):TI:=fun σ H R=>ta σ H fun vs H1=>∃a,vs=[.ref a]/\(∃xs,F8 K H1 a xs)/\R (nA K a) H1
theorem yN{a:Expr}{ta:TA}{p pos:Pos}{elts:List Expr}{x1}{tpos:Pos}(hg:Gl X "enumerate")(hm:X.mg "enumerate"=none)(ha:PA X [a] ta)(hs:starEach [a] X.env=[(false,eval a X.env)]:=by rfl):
  PI X (.Tuple elts x1 tpos) (.Call (.Name "enumerate" p) [a] [] pos) (xz X.K ta):=by
 intro tx s σ H R I h;refine Call_ (Q1 I hg hm boot_enumerate (ED (qz (ha pos tx s σ H _ I h) fun us s1 zq=>?_) hs rfl))
 obtain⟨vs,H1,I1,r1,q1⟩:=zq;obtain⟨l,e,⟨xs,hq⟩,q⟩:=q1;subst e;obtain⟨u,rfl,ru⟩:=r1.one;cases ru;obtain⟨its,rv,pl,hz⟩:=I1.list hq;refine call_enumerate_list pl.isList fun h' he hit hsz hk=>Ff he ?_
 have I2:L2.F3 X tx σ H1 {s1 with heap:=h'}:=I1.kept (t':=s1.toks) hk
 refine⟨s1.heap.objs.size+1,[s1.heap.objs.size+1,s1.heap.objs.size],_,_,H1,rfl,I2,jt l _ _ (JY (D6 _)),⟨⟨_,he⟩,hit⟩,fun b hb=>?_,q⟩
 have hb':s1.heap.objs.size<=b:=by
  rcases Jk.mp hb with z|z
  ·rw[z];exact Eb _
  ·rw[Jl.mp z];exact Je _
 exact I1.fpOk hb' (I1.hok.fresh hb')
theorem lO{K:Frag}{a:Addr}{xs:List V}{g:TG}{tb:TS}{D:GX}{σ:L2.St}{H:Hp}(Pv:Nat->L2.St->Hp->Prop)(h0:Pv 0 σ H)(hl:∀i σ H,i<=xs.length->Pv i σ H->F8 K H a xs)
  (hs:∀i x σ H p,xs[i]? =some x->Pv i σ H->H p=none->g (.ref p) σ (F5 H p (.tup [.int i,x])) fun σ2 H2=>tb {D with nx:=Pv (i+1),ct:=Pv (i+1),bk:=D.nx} σ2 H2)(hd:∀σ H,Pv xs.length σ H->D.nx σ H):
  ∃W:Nat->Nat->L2.St->Hp->Prop,(∃m,W 0 m σ H)/\∀i m σ H,W i m σ H->
   ((nA K a).stop i H/\D.nx σ H)\/((nA K a).go i H/\∃N:L2.St->Hp->Prop,(∀σ' H',N σ' H'->∃m',m'<m/\W (i+1) m' σ' H')/\∀x H',(nA K a).yld i H x H'->g x σ H' fun σ2 H2=>tb {D with nx:=N,ct:=N,bk:=D.nx} σ2 H2):=by
 refine⟨fun i m σ H=>m=xs.length-i/\i<=xs.length/\Pv i σ H,⟨xs.length,by simp,JB _,h0⟩,?_⟩
 rintro i m σ H ⟨rfl,hi,p⟩
 have q:=hl i σ H hi p
 by_cases hlt:i<xs.length
 ·refine .inr ⟨⟨xs,xs[i],q,by simp [hlt]⟩,Pv (i+1),fun σ' H' p'=>⟨xs.length-(i+1),by lia,rfl,hlt,p'⟩,fun x H' y=>?_⟩
  obtain⟨pp,v,hp,rfl,hv,rfl⟩:=y;exact hs i v σ H pp (hv xs q) p hp
 ·have e:i=xs.length:=by lia
  subst e;exact .inl ⟨⟨xs,q,Je _⟩,hd σ H p⟩
end
def zo(t c:String):Bool:=t==c||(t=="bool"&&c=="int")
abbrev fY:List String:=["NoneType","bool","int","str","list","tuple"]
abbrev fV:List String:=["bool","int","str","list","tuple"]
theorem iG(K:Frag):∀t∈fY,∀c∈fV,W.kitOne K (.type t) (.type c)=some (zo t c):=by
 intro t ht c hc;simp only[fY,fV,Jk,Js,Jt]at ht hc;rcases ht with rfl|rfl|rfl|rfl|rfl|rfl<;>rcases hc with rfl|rfl|rfl|rfl|rfl<;>kernel_rfl
section
variable{X:Cx}
theorem fU:qT X (.builtin "isinstance") (fun xs H Q=>∃x c t,xs=[x,.ty c]/\Hu X.K H x (.type t)/\t∈fY/\c∈fV/\Q (.bl (zo t c)) H):=by
 intro tx s σ H xs us Q I r h;obtain⟨x,c,t,rfl,ty,ht,hc,q⟩:=h;obtain⟨u,v,rfl,ru,rv⟩:=ff r
 cases(show v=Value.type c from rv)
 exact rO I ru ty (iG X.K t ht c hc) fun tk=>⟨.bl _,H,I.tok tk,rfl,q⟩
theorem kW:∀{bs:List Bool} {us:List Value},F6 (bs.map V.bl) us->us=bs.map Value.bool
 | [],_,.nil=>rfl
 |b::bs,_,.cons r t=>by
  cases(show _=Value.bool b from r)
  rw[kW t];rfl
theorem p6(bs:List Bool):((List.range bs.length).all fun i=>(bs[i]?).getD true)=bs.all id:=by
 rw[D5,EF,EF];constructor
 ·intro h b hb
  obtain⟨i,hi,e⟩:=List.mem_iff_getElem.mp hb
  have:=h i (J4.mpr hi)
  rw[Jj hi,Ep,e]at this;exact this
 ·intro h i hi
  have hi':=J4.mp hi;rw[Jj hi',Ep];exact h _ (Er hi')
theorem aU(hc:X.calm=true):qT X (.builtin "all") (fun xs H Q=>∃(p:Addr) (bs:List Bool),xs=[.ref p]/\F8 X.K H p (bs.map V.bl)/\Q (.bl (bs.all id)) H):=by
 intro tx s σ H xs us Q I r h;obtain⟨p,bs,rfl,hq,q⟩:=h;obtain⟨u,rfl,ru⟩:=zL r;cases ru;obtain⟨its,rv,pl,hz⟩:=I.list hq;have e:=kW rv;have hl:=pl.isList;have hlt:p<s.heap.objs.size:=by obtain⟨_,e,_⟩:=hl;exact Jh e
 refine call_all_walk (EX hl ?_)
 refine⟨s.heap.objs.size,[s.heap.objs.size,p],[s.heap.objs.size],its.toArray.size,_,_,fun i=>(bs[i]?).getD true,rfl,Walks.list (A:=X.A.in1) (I.ok.hd hc) _ p (Jm hlt) its.toArray,
  ⟨⟨_,Jo _ rfl,rfl,rfl⟩,hl.push _⟩,fun i v s' Q' E' hP hQ=>?_,fun h' tk hk=>?_⟩
 ·have hP':its[i]? =some v:=by simpa using hP
  rw[e,Jq]at hP';cases eb:bs[i]? with
  |none=>rw[eb]at hP';cases hP'
  |some b=>
   rw[eb]at hP'
   cases(Jy hP':Value.bool b=v)
   simp only[eb,Ep]at hQ;exact Ei hQ
 ·have e2:((List.range its.toArray.size).all fun i=>(bs[i]?).getD true)=bs.all id:=by
   rw[Jr,e,Jf];exact p6 bs
  rw[e2];refine⟨.bl _,H,I.kept (h':=h') (t':=tk) fun b o q=>hk b o (fun hm=>?_) (Ji _ q),rfl,q⟩
  rw[Jl.mp hm]at q;exact JZ _ (Jh q)
theorem jH:qT X (.type "range") (fun xs H Q=>∃j:Int,xs=[.int j]/\∀p,H p=none->Q (.ref p) (F5 H p (.rng 0 j))):=by
 intro tx s σ H xs us Q I r h;obtain⟨j,rfl,q⟩:=h;obtain⟨u,rfl,ru⟩:=zL r;obtain⟨t,rfl⟩:=ru;refine call_range_1 ⟨.ref s.heap.objs.size,_,I.laid (o:= .rng 0 j) (fun b o e=>Ji _ e) (Je _) ⟨_,_,_,Jo _ rfl⟩,rfl,q _ (I.hok.fresh (Je _))⟩
theorem pB(hc:X.calm=true):qT X (.type "list") (fun xs H Q=>∃(p:Addr) (j:Nat),xs=[.ref p]/\H p=some (.rng 0 (j:Int))/\j<=2 ^ 24/\∀l,H l=none->Q (.ref l) (F5 H l (.lst ((List.range j).map fun i=>V.int (i:Nat))))):=by
 intro tx s σ H xs us Q I r h;obtain⟨p,j,rfl,hp,hj,q⟩:=h;obtain⟨u,rfl,ru⟩:=zL r;cases ru;obtain⟨t,u,v,e⟩:=I.hok p _ hp;refine call_list_range (n:=j) (I.ok.hd hc) (show IsRange s.heap p 0 (j:Int) 1 t u v from e) (small_one (by lia) (by lia) (by lia) (by lia)) (by rw[rangeSize_one];split<;>lia) hj fun h' tk acc' c' hk hS' hacc=>?_
 refine⟨.ref s.heap.objs.size,_,I.laid (h':=h') (t':=tk) hk (Je _) ?_,rfl,q _ (I.hok.fresh (Je _))⟩
 have aux:∀(us:List Value) (n k:Nat),us.length=n->(∀i v,us[i]? =some v->∃t,v=Value.int ((k+i:Nat):Int) t)->F6 ((List.range' k n).map fun i=>V.int (i:Nat)) us:=by
  intro us
  induction us with
  |nil=>intro n k hn _;cases hn;exact .nil
  |cons u us ih=>
   intro n k hn hv;cases n with
   |zero=>cases hn
   |succ n=>
    rw[List.range'_succ,JR];obtain⟨t,ht⟩:=hv 0 u rfl;refine .cons ⟨t,by simpa using ht⟩ (ih n (k+1) (by simpa using hn) fun i v hi=>?_)
    obtain⟨t,ht⟩:=hv (i+1) v hi
    exact⟨t,by rw[ht];congr 1;lia⟩
 have vals:F6 ((List.range j).map fun i=>V.int (i:Nat)) acc'.toList:=by
  rw[List.range_eq_range'];refine aux _ _ 0 (by rw[Jp];exact hacc.1) fun i v hi=>?_
  obtain⟨t,ht⟩:=hacc.2 i v (by rw[<- Array.getElem?_toList];exact hi)
  exact⟨t,by rw[ht];congr 1;lia⟩
 exact⟨by simp only[Jf,List.length_range];exact JM hj (by rw[JH];decide),acc'.toList,c',vals,hS'⟩
def Do:V->Option Int->Option Int->Hp->VK->Prop:=fun x lo hi H Q=>∃a xs,x= .ref a/\H a=some (.tup xs)/\∀p H',FZ H H'->H' p=some (.tup (Zy xs lo hi))->(p=a\/H p=none)->Q (.ref p) H'
theorem cI{prog:Program}{w:World}{A:Around}{E:FW}{s:Shared}{t sl:Addr}{items:Array Value}{vl vu:Value}{lo hi:Option Int}{Q:FW}(ht:IsTup s.heap t items)(hs:s.heap.IsSliceOf sl vl vu .none)(pl:IsPart vl lo)(pu:IsPart vu hi)
  (hw:HT.sIx items.size 0 lo=0/\HT.sIx items.size items.size hi=items.size)(h:Q (.ref t) s):wpAny (model prog w) A (getItem (.ref t) (.ref sl)) Q E s:=by
 obtain⟨os,hos,hcs,hds⟩:=id hs;have hTs:s.TypeIs (.ref sl) "slice":=⟨os,hos,hcs⟩
 unfold getItem
 try with_reducible refine JL ?_
 first|refine Ja (Jd ?_)|skip
 refine Ja (wpAny_sequenceKey ht.typeIs (by decide) ?_)
 refine Ja (wpAny_callSpecial?_slot (name:=Str.ofString "__getitem__") ht.typeIs Fv
  (JT Fv ht.typeIs entry_tuple_getitem ?_ (args_tuple_getitem _ _)))
 show wpAny _ _ (Builtin.Tuple.tupleItemsOf (.ref t) >>= _) _ _ s
 refine Ja (tupleItemsOf_ ht ?_)
 refine Ja (EY hTs ?_)
 rw[Jc (by decide)]
 refine Ja (HT.sliceApplied_gen hs pl pu ?_)
 show wpAny _ _ (if(((HT.sIx items.size 0 lo:Nat):Int)==0&&(1:Int)==1&&(HT.sIx items.size items.size hi-HT.sIx items.size 0 lo)==items.size)=true then _ else _) _ _ s
 rw[hw.1,hw.2,Jc (by simp)]
 refine Ja (m:=Builtin.Tuple.tupleIsExact _) ?_
 unfold Builtin.Tuple.tupleIsExact;refine Ja (EY ht.typeIs (Jd ?_))
 rw[Jc (by rfl)]
 exact Ja (DV (Jd ⟨_,rfl,Jd h⟩))
theorem eI:tO X Do:=by
 intro tx s σ H x v vl vu lo hi sl Q I rx hs pl pu h;obtain⟨a,xs,rfl,hx,q⟩:=h
 by_cases hw:HT.sIx xs.length 0 lo=0/\HT.sIx xs.length xs.length hi=xs.length
 ·cases rx
  obtain⟨its,r,ht,hz⟩:=I.tuple (Ga.of hx)
  have hlen:its.toArray.size=xs.length:=by rw[Jr];exact r.length.symm
  refine⟨"tuple",_,PyProof.Rows.slot_tuple_getitem.lookup,ht.typeIs,?_⟩
  refine cI ht hs pl pu (by rw[hlen];exact hw) ⟨.ref a,H,I,rfl,q a H (FZ.refl H) ?_ (.inl rfl)⟩
  have:Zy xs lo hi=xs:=by unfold Zy;rw[hw.1,hw.2];simp
  rw[this];exact hx
 ·exact B9 tx s σ H _ v vl vu lo hi sl Q I rx hs pl pu ⟨a,xs,rfl,Ga.of hx,hw,fun p hp=>q p _ (fun b o e=>by rw[qj (qi e hp)];exact e) qb (.inr hp)⟩
def CV:R2:=fun x y H Q=>∃a b xs ys,x= .ref a/\y= .ref b/\H a=some (.tup xs)/\H b=some (.tup ys)/\xs.length+ys.length<=sizeLine/\∀p H',FZ H H'->H' p=some (.tup (xs++ys))->Q (.ref p) H'
theorem ZH:zx X (binaryOp .Add) CV:=by
 intro tx s σ H x y v u Q I rx ry h;obtain⟨a,b,xs,ys,rfl,rfl,ha,hb,hz,q⟩:=h
 by_cases hx:xs=[]
 ·subst hx
  cases rx;cases ry;obtain⟨its,r1,p1,_⟩:=I.tuple (Ga.of ha)
  obtain⟨its2,r2,p2,_⟩:=I.tuple (Ga.of hb)
  cases r1;obtain⟨⟨cls,dd,data,sl⟩,ho,hc,n,hd⟩:=id p1;obtain⟨⟨cls2,dd2,data2,sl2⟩,ho2,hc2,n2,hd2⟩:=id p2;simp only at hc hd hc2 hd2
  subst hc hd hc2 hd2;exact concat_meets ⟨_,ho,rfl⟩ ⟨_,ho2,rfl⟩ noFill_tuple_add seq_tuple_add FI FJ (FK _ _)
   (tuple_addW0 a b _ its2.toArray n n2 dd dd2 sl sl2 (by simp)) ⟨ho,ho2,⟨.ref b,H,I,rfl,q b H (FZ.refl H) hb⟩⟩
 ·refine AJ tx s σ H _ _ v u Q I rx ry ⟨a,b,xs,ys,rfl,rfl,Ga.of ha,Ga.of hb,hx,hz,fun e=>q a H (FZ.refl H) (by subst e;simpa using ha),fun _ p hp=>q p _ (fun b o e=>by rw[qj (qi e hp)];exact e) qb⟩
theorem fj{ns:List Int}{us:List Value}(r:F6 (ns.map V.int) us)(j:Nat)(h:j<us.length)(h':j<ns.length):∃t,us[j]=Value.int ns[j] t:=by
 obtain⟨u,hu,ru⟩:=r.get (i:=j) (x:=V.int ns[j]) (by rw[Jq,Jj h'];rfl)
 rw[Jj h]at hu;cases hu;exact ru
theorem vI(ns ms:List Int)(h:ns.length=ms.length):((List.range ns.length).all fun j=>(ns.getD j 0==ms.getD j 0))=decide (ns=ms):=by
 rw[D5,EF,Fg];constructor
 ·intro q
  refine List.ext_getElem h fun i h1 h2=>?_
  have:=q i (J4.mpr h1)
  simp only[JE,Jj h1,Jj h2,Ep,J3]at this;exact this
 ·rintro rfl i _
  simp
end
def Qa:Expr->Bool
 | .Starred .. =>false
 |_=>true
theorem Zf{e:Expr}{es:List Expr}{env:Env}(h:Qa e=true):starEach (e::es) env=(false,eval e env)::starEach es env:=by
 cases e<;>first|rfl|cases h
theorem DK{X:Cx}{e:Expr}{es:List Expr}{te:TE}{t:TA}(ha:PE X e te)(hr:PA X es t)(h:Qa e=true:=by rfl):PA X (e::es) (rH te t):=yR ha hr (Zf h)
structure Df(P:Program)(w:World)(K:Frag)(mg:FX)(base:Heap)(x:Str)(ps:List Str)(k:Nat)(sp:Sp):Prop where
 ex:∃(f:Addr) (fd:FuncData),Hl P w K mg base aO k f fd ps sp/\mg x=some (.ref f)/\PySem.W.keepIn K (.ref f)=true/\GU K fd ps []
structure At(K:Frag)(mg:FX)(x:Str)(st:Stmt)(ps:List Str):Prop where
 ex:∃(f:Addr) (fd:FuncData),Io K x x st f fd/\mg x=some (.ref f)/\PySem.W.keepIn K (.ref f)=true/\GU K fd ps []
section
variable{P:Program}{w:World}{K:Frag}{mg:FX}{base:Heap}
theorem At.df{x:Str}{st:Stmt}{ps N:List Str}{k:Nat}{sp:Sp}(a:At K mg x st ps)(S:F0 N ps (qh st))(len:∀vs H Q E,sp vs H Q E->vs.length=ps.length)
  (hbody:∀(f:Addr) (cdv:Value) (A:Around) (outer:List Env) (s:Shared) (H:Hp) (vs:List V) (Q:VK) (E:XK),Gh k (A.deeper (envOfC x (qh st) s.heap.objs.size f cdv))->sp vs H Q E->
   ∃t,Ie (bj aO P w K mg base N x (qh st) f cdv A outer s H E).nox (zH st) t/\t {nx:=fun _ H'=>Q .non H',rt:=Q} (Q3 N vs) H):Df P w K mg base x ps (k+1) sp:=by
 obtain⟨f,fd,F,m,kp,bd⟩:=a.ex
 exact⟨f,fd,F.ok S len (fun cdv A outer s H vs Q E hr h=>hbody f cdv A outer s H vs Q E hr h),m,kp,bd⟩
end
section
variable{X:Cx}{x:Str}{ps:List Str}{k:Nat}{sp:Sp}{e:Expr}{es:List Expr}{p pos:Pos}{t:TA}
theorem Ci(D:Df X.prog X.w X.K X.mg X.base x ps k sp)(hr:Gh k X.A)(ha:PA X (e::es) t)(hg:Gl X x:=by rfl)(hdb:(x==("__debug__":Str))=false:=by decide)(he:starEach (e::es) X.env=(false,eval e X.env)::starEach es X.env:=by rfl)(hpl:(backTo pos (starEach es X.env)).any (·.1)=false:=by rfl):
  PE X (.Call (.Name x p) (e::es) [] pos) (pI sp [] E0 t):=by
 obtain⟨f,fd,ok,m,kp,bd⟩:=D.ex;exact Ap ok hr hg m kp bd .nil j7 ha hdb he hpl
end
theorem bg{X:Cx}{scope:Scope}(kind:scope.kind= .function)(names:∀x∈scope.names,x.2= .local->scope.names.lookup x.1=some .local)(nocell:∀x∈scope.names,x.2≠ .cell)
  (free:∀x∈scope.names,x.2= .free->x.1∈([]:List Str)):GM X scope [] []:=⟨kind,names,nocell,free,rfl,fun i j y h=>by simp at h⟩
theorem im{X:Cx}{scope:Scope}{y:Str}{j:Nat}(kind:scope.kind= .function)(names:∀x∈scope.names,x.2= .local->scope.names.lookup x.1=some .local)(nocell:∀x∈scope.names,x.2≠ .cell)
  (free:∀x∈scope.names,x.2= .free->x.1∈([y]:List Str))(h1:X.N[j]? =some y)(h2:X.env.kindOf y=some .cell)(h3:(relabel scope X.env).names.lookup y=some .cell):GM X scope [y] [j]:=
 ⟨kind,names,nocell,free,rfl,fun i j' y' e1 e2=>by
  cases i with
  |zero=>cases e1;cases e2;exact⟨h1,h2,h3⟩
  |succ i=>simp at e1⟩
theorem ie{X:Cx}{y:Str}{c:Addr}(h:X.env.cells.lookup y=some c):∀z d,([(y,c)]:List (Str×Addr)).lookup z=some d->X.env.cells.lookup z=some d:=fun z d e=>by
 by_cases hz:z=y
 ·subst hz
  simp at e
  rw[<- e];exact h
 ·simp [DY,show(z==y)=false from by simpa using hz]at e
theorem Aj{X:Cx}{K:Frag}(h:X.K=K):Iw X (vG K):=by subst h;exact qF
abbrev rj(n m k:Int):HO:= .lst [.int n,.int m,.int k]
theorem _root_.L2.FZ.upd{H:Hp}{p:Addr}{o:HO}(h:H p=none):FZ H (F5 H p o):=fun b u e=>by rw[qj (qi e h)];exact e
theorem uu(c:Bool): -(2 ^ 64:Int)<(if c=true then(1:Int)else 0):=by cases c<;>decide
theorem tP(c:Bool):(if c=true then(1:Int)else 0)<(2 ^ 64:Int):=by cases c<;>decide
theorem nM{n j:Nat}(h:j<n):cF n (j:Int)=some j:=by unfold cF;rw[Jc (by lia),Jc (by lia)];simp
def am(ns:List Int)(lo hi:Option Int):List Int:=(ns.drop (HT.sIx ns.length 0 lo)).take (HT.sIx ns.length ns.length hi-HT.sIx ns.length 0 lo)
theorem cx(ns:List Int)(lo hi:Option Int):Zy (ns.map V.int) lo hi=(am ns lo hi).map V.int:=by unfold Zy am;rw[Jf,List.map_take,List.map_drop]
theorem QJ{ns:List Int}{i:Nat}{x:V}(h:(ns.map V.int)[i]? =some x):∃z,x= .int z/\ns[i]? =some z:=by
 rw[Jq]at h;cases e:ns[i]? with
 |none=>rw[e]at h;cases h
 |some z=>rw[e]at h;exact⟨z,(Jy h).symm,rfl⟩
theorem iI{ns:List Int}{i:Nat}(h:i<ns.length):(ns.map V.int)[i]? =some (.int ns[i]):=by rw[Jq,Jj h];rfl
theorem cA(ns:List Int)(i:Nat)(z:Int):(ns.map V.int).set i (.int z)=(ns.set i z).map V.int:=by rw[List.map_set]
def xj:Option HO->Option String
 |some (.lst _)=>some "list"
 |some (.tup _)=>some "tuple"
 |_=>none
def kd(H:Hp):V->Option String
 | .non=>some "NoneType"
 | .bl _=>some "bool"
 | .int _=>some "int"
 | .str _=>some "str"
 | .ref a=>xj (H a)
 |_=>none
theorem tE{o:Option HO}{t:String}(h:xj o=some t):(∃xs,o=some (.lst xs)/\t="list")\/(∃xs,o=some (.tup xs)/\t="tuple"):=by
 cases o with
 |none=>cases h
 |some u=>
  cases u with
  |lst xs=>cases h;exact .inl ⟨xs,rfl,rfl⟩
  |tup xs=>cases h;exact .inr ⟨xs,rfl,rfl⟩
  |_=>cases h
theorem gG{H:Hp}{a:Addr}{t:String}(h:kd H (.ref a)=some t):(∃xs,H a=some (.lst xs)/\t="list")\/(∃xs,H a=some (.tup xs)/\t="tuple"):=tE h
theorem CU{K:Frag}{H:Hp}{x:V}{t:String}(h:kd H x=some t):Hu K H x (.type t)/\t∈fY:=by
 cases x with
 |non=>cases h;exact⟨.non,by simp⟩
 |bl b=>cases h;exact⟨.bl b,by simp⟩
 |int i=>cases h;exact⟨.int i,by simp⟩
 |str x=>cases h;exact⟨.str x,by simp⟩
 |byt b=>cases h
 |flt b=>cases h
 |ty b=>cases h
 |ref a=>
  rcases gG h with⟨xs,e,rfl⟩|⟨xs,e,rfl⟩
  ·exact⟨.lst e,by simp⟩
  ·exact⟨.tup e,by simp⟩
theorem ft{H H':Hp}{x:V}{t:String}(s:FZ H H')(h:kd H x=some t):kd H' x=some t:=by
 cases x with
 |ref a=>
  rcases gG h with⟨xs,e,rfl⟩|⟨xs,e,rfl⟩
  ·show xj (H' a)=_;rw[s _ _ e];rfl
  ·show xj (H' a)=_;rw[s _ _ e];rfl
 |_=>exact h
def bY:V->Bool
 | .int i=>decide (0<=i)&&decide (i<16)
 |_=>false
theorem ab{α:Type}{xs:List α}{r:Int}(h0:0<=r)(h1:r<xs.length):∃v,Zl xs r=some v/\v∈xs:=by
 have hr:r.toNat<xs.length:=by lia
 refine⟨xs[r.toNat],?_,Er hr⟩
 have e:Zl xs ((r.toNat:Nat):Int)=some xs[r.toNat]:=Qv (Jj hr)
 rwa [show((r.toNat:Nat):Int)=r by lia]at e
def j6(K:Frag):Sp:=fun vs H Q _=>∃(a:Addr) (ns:List Int),vs=[.ref a]/\F8 K H a (ns.map V.int)/\ns.length<=63/\∀H',Q (.bl true) H'
def oi:Sp:=fun vs H Q _=>∃x t,vs=[x]/\kd H x=some t/\Q (.bl (bY x)) H
def kF:Sp:=fun vs H Q _=>∃p xs,vs=[.ref p]/\H p=some (.tup xs)/\xs.length<=sizeLine/\(∀x∈xs,∃t,kd H x=some t)/\∀H',FZ H H'->Q (.bl (xs.all bY)) H'
end L3
namespace L3
open PySem PySem.Spec L2
structure QE(X:Cx)(e:Expr)(t:TE):Prop where
 h:PE X e t
structure QT(X:Cx)(e:Expr)(t:TT):Prop where
 h:PT X e t
structure QW(X:Cx)(e:Expr)(t:TT):Prop where
 h:PW X e t
structure QA(X:Cx)(e:List Expr)(t:TA):Prop where
 h:PA X e t
structure QS(X:Cx)(e:Stmt)(t:TS):Prop where
 h:PS X e t
structure Ir(X:Cx)(e:List Stmt)(t:TS):Prop where
 h:Ie X e t
structure QG(X:Cx)(e:Expr)(t:TG):Prop where
 h:PG X e t
structure IP(X:Cx)(e:List Expr)(t:a9):Prop where
 h:oJ X e t
structure QO(X:Cx)(e:Option Expr)(t:TO):Prop where
 h:PO X e t
structure QI(X:Cx)(tg e:Expr)(t:TI):Prop where
 h:PI X tg e t
variable{X:Cx}
theorem qf{i j pos}:QE X (.Constant (.int i) j pos) (tC (.int i)):=⟨BV⟩
theorem ZM{b j pos}:QE X (.Constant (.bool b) j pos) (tC (.bl b)):=⟨CP⟩
theorem qM{j pos}:QE X (.Constant .none j pos) (tC .non):=⟨Cl⟩
theorem qw{x j pos}:QE X (.Constant (.str x) j pos) (tC (.str x)):=⟨Cp⟩
theorem zd{x:Str}{v:V}{u:Value}{pos:Pos}(hg:Gl X x)(hm:X.mg x=some u)(r:F9 v u)(hd:(x==("__debug__":Str))=false:=by decide):QE X (.Name x pos) (tC v):=⟨AL (hg:=hg) (hm:=hm) (r:=r) (hd:=hd)⟩
theorem qB{x:Str}{v:V}{u:Value}{pos:Pos}(hg:Gl X x)(hm:X.mg x=none)(hv:bootBuiltins x=some u)(r:F9 v u)(hn:x≠"__name__":=by decide)(hd:(x==("__debug__":Str))=false:=by decide):QE X (.Name x pos) (tC v):=⟨yP (hg:=hg) (hm:=hm) (hv:=hv) (r:=r) (hn:=hn) (hd:=hd)⟩
theorem qp{a b:Expr}{ta tb:TE}{pos:Pos}{op:Operator}{r:R2}(ho:zx X (binaryOp op) r)(ha:QE X a ta)(hb:QE X b tb):QE X (.BinOp a op b pos) (i9 r ta tb):=⟨C7 (ho:=ho) (ha:=ha.h) (hb:=hb.h)⟩
theorem zh{a b:Expr}{ta tb:TE}{pos:Pos}{op:CmpOp}{r:R2}(ho:zx X (compareOp op) r)(ha:QE X a ta)(hb:QE X b tb)(hm:behindInMarks op b=false):QE X (.Compare a [op] [b] pos) (i9 r ta tb):=⟨AH (ho:=ho) (ha:=ha.h) (hb:=hb.h) (hm:=hm)⟩
theorem qx{a b:Expr}{ta tb:TE}{pos:Pos}{op:CmpOp}{r:R2}(ho:zx X (compareOp op) r)(ha:QE X a ta)(hb:QE X b tb)(hm:behindInMarks op b=false):QT X (.Compare a [op] [b] pos) (gY (i9 r ta tb)):=⟨AO (ho:=ho) (ha:=ha.h) (hb:=hb.h) (hm:=hm)⟩
theorem gm{a b c:Expr}{ta tb tc:TE}{pos:Pos}{op op':CmpOp}{r r':R2}(ho:zx X (compareOp op) r)(ho':zx X (compareOp op') r')(ha:QE X a ta)(hb:QE X b tb)(hc:QE X c tc)(hm:lastMarks [op,op'] [b,c]=false:=by with_unfolding_all rfl):QE X (.Compare a [op,op'] [b,c] pos) (g8 r r' ta tb tc):=⟨ve (ho:=ho) (ho':=ho') (ha:=ha.h) (hb:=hb.h) (hc:=hc.h) (hm:=hm)⟩
theorem ma{a b c:Expr}{ta tb tc:TE}{pos:Pos}{op op':CmpOp}{r r':R2}(ho:zx X (compareOp op) r)(ho':zx X (compareOp op') r')(ha:QE X a ta)(hb:QE X b tb)(hc:QE X c tc)(hm:lastMarks [op,op'] [b,c]=false:=by with_unfolding_all rfl):QT X (.Compare a [op,op'] [b,c] pos) (gY (g8 r r' ta tb tc)):=⟨vF (ho:=ho) (ho':=ho') (ha:=ha.h) (hb:=hb.h) (hc:=hc.h) (hm:=hm)⟩
theorem zB{a b:Expr}{rest:List Expr}{ta tb:TE}{pos:Pos}(ha:QE X a ta)(hb:QE X (.BoolOp .And (b::rest) pos) tb):QE X (.BoolOp .And (a::b::rest) pos) (xc ta tb):=⟨BJ (ha:=ha.h) (hb:=hb.h)⟩
theorem Qu{a:Expr}{pos:Pos}{op}{t:TE}(h:QE X a t):QE X (.BoolOp op [a] pos) t:=⟨B6 (h:=h.h)⟩
theorem aQ{a:Expr}{ta:TE}{pos:Pos}(ha:QE X a ta):QE X (.UnaryOp .Not a pos) (yj ta):=⟨CA (ha:=ha.h)⟩
theorem tZ{a b:Expr}{rest:List Expr}{tA tB':TT}{pos:Pos}(ha:QT X a tA)(hb:QW X (.BoolOp .And (b::rest) pos) tB'):QW X (.BoolOp .And (a::b::rest) pos) (By tA tB'):=⟨Bd (ha:=ha.h) (hb:=hb.h)⟩
theorem zX{a b:Expr}{rest:List Expr}{tA tB':TT}{pos:Pos}(ha:QT X a tA)(hb:QW X (.BoolOp .Or (b::rest) pos) tB'):QW X (.BoolOp .Or (a::b::rest) pos) (Dd tA tB'):=⟨CT (ha:=ha.h) (hb:=hb.h)⟩
theorem om{a:Expr}{tA:TT}{pos:Pos}(ha:QT X a tA):QW X (.BoolOp .And [a] pos) tA:=⟨Ab (ha:=ha.h)⟩
theorem zG{a:Expr}{tA:TT}{pos:Pos}(ha:QT X a tA):QW X (.BoolOp .Or [a] pos) tA:=⟨Bp (ha:=ha.h)⟩
theorem Qd{a:Expr}{tA:TT}{pos:Pos}(ha:QT X a tA):QT X (.UnaryOp .Not a pos) (Ca tA):=⟨Cg (ha:=ha.h)⟩
theorem qW{e:Expr}{t:TE}(h:QE X e t)(he:∀whole,isTrue e X.env whole=(do let v <- whole;standAt e.pos;holding [v] (truthy v)):=by intro _;rfl):QT X e (tB t):=⟨BW (h:=h.h) (he:=he)⟩
theorem vj{a b:Expr}{ta tb:TE}{tA:TT}{pos:Pos}{c:Expr}(hc:QT X c tA)(ha:QE X a ta)(hb:QE X b tb):QE X (.IfExp c a b pos) (Dh tA ta tb):=⟨wk (hc:=hc.h) (ha:=ha.h) (hb:=hb.h)⟩
theorem qc{e:Expr}{es:List Expr}{te:TE}{t:TA}(ha:QE X e te)(hr:QA X es t)(h:Qa e=true:=by rfl):QA X (e::es) (rH te t):=⟨DK (ha:=ha.h) (hr:=hr.h) (h:=h)⟩
theorem qa:QA X [] wF:=⟨Bv⟩
theorem qu{es:List Expr}{t:TA}{pos:Pos}{x1}(h:QA X es t):QE X (.Tuple es x1 pos) (Bt t):=⟨BI (h:=h.h)⟩
theorem zb{es:List Expr}{t:TA}{pos:Pos}(h:QA X es t):QE X (.List es pos) (BY t):=⟨BB (h:=h.h)⟩
theorem qt{a b:Expr}{ta tb:TE}{pos:Pos}{r:R2}(hr:Iw X r)(ha:QE X a ta)(hb:QE X b tb)(hs:nB b:=by exact fun _ _=>rfl):QE X (.Subscript a b pos) (i9 r ta tb):=⟨C5 (hr:=hr) (ha:=ha.h) (hb:=hb.h) (hs:=hs)⟩
theorem ZI{e:Expr}{te:TE}{lo hi:Option Expr}{tl th:TO}{pos p2:Pos}{r:V->Option Int->Option Int->Hp->VK->Prop}(hr:tO X r)(he:QE X e te)(hl:QO X lo tl)(hu:QO X hi th):QE X (.Subscript e (.Slice lo hi none p2) pos) (Di r te tl th):=⟨vq (hr:=hr) (he:=he.h) (hl:=hl.h) (hu:=hu.h)⟩
theorem af:QO X none n5:=⟨yV⟩
theorem ai{e:Expr}{te:TE}(h:QE X e te):QO X (some e) (xr te):=⟨Ar (h:=h.h)⟩
theorem qk{x:Str}{p pos:Pos}{e:Expr}{es:List Expr}{t:TA}{id:String}{r:List V->Hp->VK->Prop}(hc:qT X (.builtin id) r)(hm:X.mg x=none)(hv:bootBuiltins x=some (.builtin id))(ha:QA X (e::es) t)(hg:Gl X x:=by rfl)(hn:x≠"__name__":=by decide)(hdb:(x==("__debug__":Str))=false:=by decide)(he:starEach (e::es) X.env=(false,eval e X.env)::starEach es X.env:=by rfl)(hpl:(backTo pos (starEach es X.env)).any (·.1)=false:=by rfl):QE X (.Call (.Name x p) (e::es) [] pos) (xt r t):=⟨vA (hc:=hc) (hg:=hg) (hm:=hm) (hv:=hv) (ha:=ha.h) (hn:=hn) (hdb:=hdb) (he:=he) (hpl:=hpl)⟩
theorem qI{x:Str}{p pos:Pos}{e:Expr}{es:List Expr}{t:TA}{T:String}{r:List V->Hp->VK->Prop}(hc:qT X (.type T) r)(hm:X.mg x=none)(hv:bootBuiltins x=some (.type T))(ha:QA X (e::es) t)(hg:Gl X x:=by rfl)(hn:x≠"__name__":=by decide)(hdb:(x==("__debug__":Str))=false:=by decide)(he:starEach (e::es) X.env=(false,eval e X.env)::starEach es X.env:=by rfl)(hpl:(backTo pos (starEach es X.env)).any (·.1)=false:=by rfl):QE X (.Call (.Name x p) (e::es) [] pos) (xt r t):=⟨uX (hc:=hc) (hg:=hg) (hm:=hm) (hv:=hv) (ha:=ha.h) (hn:=hn) (hdb:=hdb) (he:=he) (hpl:=hpl)⟩
theorem qo{x:Str}{ps:List Str}{k:Nat}{sp:Sp}{e:Expr}{es:List Expr}{p pos:Pos}{t:TA}(D:Df X.prog X.w X.K X.mg X.base x ps k sp)(hr:Gh k X.A)(ha:QA X (e::es) t)(hg:Gl X x:=by rfl)(hdb:(x==("__debug__":Str))=false:=by decide)(he:starEach (e::es) X.env=(false,eval e X.env)::starEach es X.env:=by rfl)(hpl:(backTo pos (starEach es X.env)).any (·.1)=false:=by rfl):QE X (.Call (.Name x p) (e::es) [] pos) (pI sp [] E0 t):=⟨Ci (D:=D) (hr:=hr) (ha:=ha.h) (hg:=hg) (hdb:=hdb) (he:=he) (hpl:=hpl)⟩
theorem qr:Ir X [] wX:=⟨Ax⟩
theorem qd{st:Stmt}{rest:List Stmt}{t u:TS}(h1:QS X st t)(h2:Ir X rest u):Ir X (st::rest) (kS t u):=⟨vn (h1:=h1.h) (h2:=h2.h)⟩
theorem qe{st:Stmt}{t:TS}(h1:QS X st t):Ir X [st] t:=⟨ym (h1:=h1.h)⟩
theorem qy{pos:Pos}{i:Nat}{x:Str}{e:Expr}{te:TE}{pos':Pos}(hN:X.N.Nodup)(hi:X.N[i]? =some x)(hx:ju X.env.scope x)(he:QE X e te)(hs:swapsWith e (some (.Name x pos')) pos.line X.env=pure false:=by rfl)(hf:X.fn x=true\/X.env.scope.names.lookup x=some .local:=by first|exact .inl rfl|exact .inr rfl|assumption):QS X (.Assign [.Name x pos'] e pos) (hX te (Q2 i)):=⟨BX (hN:=hN) (hi:=hi) (hx:=hx) (he:=he.h) (hs:=hs) (hf:=hf)⟩
theorem zg{pos:Pos}{tg e:Expr}{te:TE}{g:TG}(he:QE X e te)(hg:QG X tg g)(hs:swapsWithSole [tg] e pos.line X.env=pure false:=by rfl)(hw:swappedStores [tg] e X.env=pure none:=by rfl)(h1:(assignEach [tg] X.env).map (·.2)=[assign tg X.env]:=by rfl):QS X (.Assign [tg] e pos) (hX te g):=⟨Bj (he:=he.h) (hg:=hg.h) (hs:=hs) (hw:=hw) (h1:=h1)⟩
theorem ql{e:Expr}{te:TE}{pos:Pos}(he:QE X e te):QS X (.Return (some e) pos) (Cn te):=⟨Cb (he:=he.h)⟩
theorem qC{t u:TS}{pos:Pos}{c:Expr}{a b:List Stmt}{tc:TT}(hc:QT X c tc)(ha:Ir X a t)(hb:Ir X b u):QS X (.If c a b pos) (BH tc t u):=⟨CH (hc:=hc.h) (ha:=ha.h) (hb:=hb.h)⟩
theorem qV{tg:Expr}{iter:Expr}{body:List Stmt}{wi:TI}{g:TG}{tb:TS}{pos:Pos}(hp:PassesOwn (model X.prog X.w) X.A X.env X.xe)(hc:X.calm=true)(hi:QI X tg iter wi)(hg:QG X tg g)(hb:Ir X body tb)(hs:∀x,foldedSetIterable iter X.env x=pure x:=by intro _;rfl):QS X (.For tg iter body [] pos) (Br wi g tb):=⟨Cz (hp:=hp) (hc:=hc) (hi:=hi.h) (hg:=hg.h) (hb:=hb.h) (hs:=hs)⟩
theorem zQ{e:Expr}{te:TE}{pos:Pos}(he:QE X e te)(hs:swapsWith e none pos.line X.env=pure false:=by rfl):QS X (.Expr e pos) (xb te):=⟨Ae (he:=he.h) (hs:=hs)⟩
theorem yu{pos:Pos}{o i e:Expr}{to ti te:TE}{tget:V->V->Hp->VK->Prop}{tip:tD}{tset:gi}{op:Operator}{tpos:Pos}(ho:QE X o to)(hi:QE X i ti)(hg:wM X tget)(he:QE X e te)(hp:BK X op tip)(hs:mn X tset)(ha:∀ov iv new,augStore i ov iv new=(do holding [new,ov,iv] (setItem ov iv new);release [new,ov,iv] [];pure .next):=by intros;rfl):QS X (.AugAssign (.Subscript o i tpos) op e pos) (wU to ti te tget tip tset):=⟨yX (ho:=ho.h) (hi:=hi.h) (hg:=hg) (he:=he.h) (hp:=hp) (hs:=hs) (ha:=ha)⟩
theorem zI{tg:Expr}{l:Expr}{tl:TE}(hl:QE X l tl):QI X tg l (wO X.K tl):=⟨yo (hl:=hl.h)⟩
theorem aG{tg:Expr}{l:Expr}{tl:TE}(hl:QE X l tl):QI X tg l (Co X.K tl):=⟨CC (hl:=hl.h)⟩
theorem zE{tg:Expr}{a:Expr}{ta:TA}{p pos:Pos}(hg:Gl X "range")(hm:X.mg "range"=none)(ha:QA X [a] ta)(hs:starEach [a] X.env=[(false,eval a X.env)]:=by rfl):QI X tg (.Call (.Name "range" p) [a] [] pos) (wQ ta):=⟨tz (hg:=hg) (hm:=hm) (ha:=ha.h) (hs:=hs)⟩
theorem i6{tg:Expr}{a b:Expr}{ta:TA}{p pos:Pos}(hg:Gl X "range")(hm:X.mg "range"=none)(ha:QA X [a,b] ta)(hs:starEach [a,b] X.env=[(false,eval a X.env),(false,eval b X.env)]:=by rfl)(hs2:starEach [b] X.env=[(false,eval b X.env)]:=by rfl):QI X tg (.Call (.Name "range" p) [a,b] [] pos) (yh ta):=⟨sP (hg:=hg) (hm:=hm) (ha:=ha.h) (hs:=hs) (hs2:=hs2)⟩
theorem y4{a:Expr}{ta:TA}{p pos:Pos}{elts:List Expr}{x1}{tpos:Pos}(hg:Gl X "enumerate")(hm:X.mg "enumerate"=none)(ha:QA X [a] ta)(hs:starEach [a] X.env=[(false,eval a X.env)]:=by rfl):QI X (.Tuple elts x1 tpos) (.Call (.Name "enumerate" p) [a] [] pos) (xz X.K ta):=⟨yN (hg:=hg) (hm:=hm) (ha:=ha.h) (hs:=hs)⟩
theorem qg{pos:Pos}{i:Nat}{x:Str}(hN:X.N.Nodup)(hi:X.N[i]? =some x)(hx:ju X.env.scope x)(hf:X.fn x=true\/X.env.scope.names.lookup x=some .local:=by first|exact .inl rfl|exact .inr rfl|assumption):QG X (.Name x pos) (Q2 i):=⟨AD (hN:=hN) (hi:=hi) (hx:=hx) (hf:=hf)⟩
theorem gV{pos:Pos}{es:List Expr}{k:Nat}{t:a9}{n:Nat}(hc:X.calm=true)(h:IP X es t)(hn:(assignEach es X.env).length=n:=by rfl)(hst:(assignEach es X.env).findIdx? (·.1)=none:=by rfl):QG X (.Tuple es k pos) (mJ X.K n t):=⟨km (hc:=hc) (h:=h.h) (hn:=hn) (hst:=hst)⟩
theorem eG{pos:Pos}{o i:Expr}{to ti:TE}{t:gi}(ho:QE X o to)(hi:QE X i ti)(hs:mn X t)(ha:∀v,assign (.Subscript o i pos) X.env v=(do
      let ov <- holding [v] (eval o X.env)
      let iv <- holding [v,ov] (eval i X.env)
      standAt pos
      holding [v,ov,iv] (setItem ov iv v)
      release [v,ov,iv] []):=by intro _;rfl):QG X (.Subscript o i pos) (B3 to ti t):=⟨Bc (ho:=ho.h) (hi:=hi.h) (hs:=hs) (ha:=ha)⟩
theorem qO:IP X [] rJ:=⟨Av⟩
theorem qm{e:Expr}{es:List Expr}{t:TG}{u:a9}(h1:QG X e t)(h2:IP X es u)(hs:(assignEach (e::es) X.env).map (·.2)=assign e X.env::(assignEach es X.env).map (·.2):=by rfl):IP X (e::es) (fv t u):=⟨ww (h1:=h1.h) (h2:=h2.h) (hs:=hs)⟩
theorem QW.pt{e:Expr}{t:TT}(h:QW X e t):QT X e t:=⟨PW.pt h.h⟩
theorem qv(i:Nat){x:Str}{pos:Pos}(hN:X.N[i]? =some x:=by rfl)(hv:Bb X.env.scope x:=by first|exact Or.inl rfl|exact Or.inr (Or.inl rfl)|exact Or.inr (Or.inr rfl))(hd:(x==("__debug__":Str))=false:=by decide)
  (hcd:(x==("__classdict__":Str))=false:=by decide):QE X (.Name x pos) (B5 i):=⟨CB hN hv hd hcd⟩
theorem zN{elt tg iter:Expr}{scope:Scope}{cl:List (Str×Addr)}{pos:Pos}{fr own:List Str}{js:List Nat}{wi:TI}{g:TG}{te:TE}
  (hc:X.calm=true)(hi:QI X tg iter wi)(hclos:closureFor scope X.env=pure cl)(hcl:∀y c,cl.lookup y=some c->X.env.cells.lookup y=some c)(hfr:cl.map (·.1)=fr)
  (S:GM X scope fr js)
  (hg:∀C s H fp,QG (zJ X (own++fr) scope cl C s H fp) tg g)(he:∀C s H fp,QE (zJ X (own++fr) scope cl C s H fp) elt te)
  (hs:∀x,foldedSetIterable iter X.env x=pure x:=by intro _;rfl):
  QE X (.ListComp elt [⟨tg,iter,[],0⟩] scope pos) (gQ own.length js wi g te):=⟨AK hc hi.h hclos hcl hfr S (fun C s H fp=>(hg C s H fp).h) (fun C s H fp=>(he C s H fp).h) hs⟩
theorem iJ{elt tg iter:Expr}{scope:Scope}{cl:List (Str×Addr)}{pos spos py:Pos}{fr own:List Str}{js:List Nat}{wi:TI}{g:TG}{te:TE}{i:Nat}{y:Str}
  (hN:X.N.Nodup)(hi':X.N[i]? =some y)(hx:ju X.env.scope y)
  (hc:X.calm=true)(hi:QI X tg iter wi)(hclos:closureFor scope X.env=pure cl)(hcl:∀y c,cl.lookup y=some c->X.env.cells.lookup y=some c)(hfr:cl.map (·.1)=fr)
  (S:GM X scope fr js)
  (hg:∀C s H fp,QG (zJ X (own++fr) scope cl C s H fp) tg g)(he:∀C s H fp,QE (zJ X (own++fr) scope cl C s H fp) elt te)
  (hs:∀x,foldedSetIterable iter X.env x=pure x:=by intro _;rfl)(hsw:swapsWith (.ListComp elt [⟨tg,iter,[],0⟩] scope pos) (some (.Name y py)) spos.line X.env=pure true:=by rfl)
  (hf:X.fn y=true\/X.env.scope.names.lookup y=some .local:=by first|exact .inl rfl|exact .inr rfl|assumption):
  QS X (.Assign [.Name y py] (.ListComp elt [⟨tg,iter,[],0⟩] scope pos) spos) (hX (gQ own.length js wi g te) (Q2 i)):=⟨yT hN hi' hx hc hi.h hclos hcl hfr S (fun C s H fp=>(hg C s H fp).h) (fun C s H fp=>(he C s H fp).h) hs hsw hf⟩
section
variable{P:Program}{w:World}{K:Frag}{mg:FX}{base:Heap}
theorem At.dq{x:Str}{st:Stmt}{ps N:List Str}{k:Nat}{sp:Sp}(a:At K mg x st ps)(S:F0 N ps (qh st))
  (hbody:∀(f:Addr) (cdv:Value) (A:Around) (outer:List Env) (s:Shared) (H:Hp) (vs:List V) (Q:VK) (E:XK),Gh k (A.deeper (PyProof.Rows.envOfC x (qh st) s.heap.objs.size f cdv))->sp vs H Q E->
   ∃t,Ir (bj aO P w K mg base N x (qh st) f cdv A outer s H E).nox (zH st) t/\t {nx:=fun _ H'=>Q .non H',rt:=Q} (Q3 N vs) H)(len:∀vs H Q E,sp vs H Q E->vs.length=ps.length:=by intro vs H Q E h;(repeat first|obtain⟨rfl,h⟩:=h|obtain⟨_,h⟩:=h);all_goals rfl):Df P w K mg base x ps (k+1) sp:=
 a.df S len fun f cdv A outer s H vs Q E hr h=>let⟨t,q1,q2⟩:=hbody f cdv A outer s H vs Q E hr h;⟨t,q1.h,q2⟩
theorem _root_.L2.Io.dq{x IX:Str}{st:Stmt}{f:Addr}{fd:FuncData}{N ps:List Str}{k:Nat}{sp:Sp}(F:Io K x IX st f fd)(S:F0 N ps (qh st))(len:∀vs H Q E,sp vs H Q E->vs.length=ps.length)
  (hbody:∀(cdv:Value) (A:Around) (outer:List Env) (s:Shared) (H:Hp) (vs:List V) (Q:VK) (E:XK),Gh k (A.deeper (PyProof.Rows.envOfC IX (qh st) s.heap.objs.size f cdv))->sp vs H Q E->
   ∃t,Ir (bj aO P w K mg base N IX (qh st) f cdv A outer s H E).nox (zH st) t/\t {nx:=fun _ H'=>Q .non H',rt:=Q} (Q3 N vs) H):Hl P w K mg base aO (k+1) f fd ps sp:=
 F.ok S len fun cdv A outer s H vs Q E hr h=>let⟨t,q1,q2⟩:=hbody cdv A outer s H vs Q E hr h;⟨t,q1.h,q2⟩
theorem CM{x:Str}{st:Stmt}{ps:List Str}{f:Addr}{fd:FuncData}(F:Io K x x st f fd)(m:mg x=some (.ref f))(b:GU K fd ps []):At K mg x st ps:=⟨f,fd,F,m,F.kp,b⟩
end
end L3
namespace L3
open PySem PySem.Spec PyProof.Rows L2
def Gz:List Int:=(List.range 16).map fun i=>((i:Nat):Int)
theorem kJ:Gz.length=16:=by decide
theorem Bs:((List.range 16).map fun i=>V.int ((i:Nat):Int))=Gz.map V.int:=by decide +kernel
theorem y9{α:Type}{xs:List α}{z:Int}{j:Nat}{v:α}(e:z=(j:Int))(h:xs[j]? =some v):Zl xs z=some v:=by rw[e];exact Qv h
theorem ij{n j:Nat}{z:Int}(e:z=(j:Int))(h:j<n):cF n z=some j:=by rw[e];exact nM h
theorem kR{z:Int}(h:z∈Gz):0<=z/\z<16:=by
 obtain⟨i,hi,e⟩:=JA.mp h
 have:=J4.mp hi
 lia
end L3
namespace L3
open PySem PySem.Spec PyProof.Rows L2
open Sem (wp)
section
variable{prog:Program}{w:World}{A:Around}{E:FW}{s:Shared}
theorem ra{it t:Addr}{i:Nat}{its:Array Value}{x:Value}{Q:FW}(hit:s.heap.IsTupleIter it t i)(ht:s.heap.IsTuple t its)(hx:its[i]? =some x)
  (hQ:∀h',h'.IsTupleIter it t (i+1)->Heap.SameBut it s.heap h'->Q x {s with heap:=h'}):wpAny (model prog w) A (Builtin.SmallTypes.nextOf (.ref it)) Q E s:=by
 obtain⟨o,ho,hc,hd⟩:=id hit;obtain⟨ol,hol,_,nl,hdl⟩:=ht;unfold Builtin.SmallTypes.nextOf;refine Ja (wpAny_callSpecial?_slot (name:=Str.ofString "__next__") hit.typeIs Fx
  (JT Fx hit.typeIs F.entry_tuple_iterator_next ?_ (F.args_tuple_iterator_next_1 _)))
 show wpAny _ _ (field (.ref it) 0 >>= _) _ _ s
 refine Ja (JS ho hd (x:= .ref t) rfl ?_)
 show wpAny _ _ (if(Value.ref t==Value.none)=true then _ else _) _ _ s
 rw[Jb (show¬((Value.ref t==Value.none)=true)from JQ)]
 show wpAny _ _ (field (.ref it) 1 >>= _) _ _ s
 refine Ja (JS ho hd (x:= .int i 0) rfl ?_)
 show wpAny _ _ (seqItems? (.ref t) >>= _) _ _ s
 refine Ja (Es hol hdl ?_)
 simp only[DZ,hx];refine Ja (D9 ho hd (by simp) (Jd ⟨x,rfl,Jd (hQ _ ?_ (J6 ..))⟩))
 exact⟨_,EE _ ho (Fy (EO hd _)),(Obj.cls_mapFields ..).trans hc,by
  rw[EO hd];simp [rawInt]⟩
theorem jE{it t:Addr}{i:Nat}{its:Array Value}{Q:FW}(hh:A.handled=none)(hit:s.heap.IsTupleIter it t i)(ht:s.heap.IsTuple t its)(hx:its[i]? =none)
  (hE:∀h' e,Heap.ExtBut it s.heap h'->(∃o,h'.get? e=some o/\o.cls= .type "StopIteration")->E (.ref e) {s with heap:=h'}):
  wpAny (model prog w) A (Builtin.SmallTypes.nextOf (.ref it)) Q E s:=by
 obtain⟨o,ho,hc,hd⟩:=id hit;obtain⟨ol,hol,_,nl,hdl⟩:=ht;unfold Builtin.SmallTypes.nextOf;refine Ja (wpAny_callSpecial?_slot (name:=Str.ofString "__next__") hit.typeIs Fx
  (JT Fx hit.typeIs F.entry_tuple_iterator_next ?_ (F.args_tuple_iterator_next_1 _)))
 show wpAny _ _ (field (.ref it) 0 >>= _) _ _ s
 refine Ja (JS ho hd (x:= .ref t) rfl ?_)
 show wpAny _ _ (if(Value.ref t==Value.none)=true then _ else _) _ _ s
 rw[Jb (show¬((Value.ref t==Value.none)=true)from JQ)]
 show wpAny _ _ (field (.ref it) 1 >>= _) _ _ s
 refine Ja (JS ho hd (x:= .int i 0) rfl ?_)
 show wpAny _ _ (seqItems? (.ref t) >>= _) _ _ s
 refine Ja (Es hol hdl ?_)
 simp only[DZ,hx];refine Ja (DV (Ja (D9 ho hd (by simp) ?_)))
 show wpAny _ _ (newExc (.type "StopIteration") [] >>= _) _ _ _
 refine Ja ?_
 simp only[newExc,newTuple];refine Ja (DS ?_ (by size_fits))
 refine Ja (m:=firstArgMember _ _) (D3 (a:=Value.none) (by first|rfl|(simp only[firstArgMember];rfl)) ?_)
 refine DS ?_ (by size_fits)
 simp only[raiseNew];refine Ja (wpAny_handled ?_)
 first|rw[show A.in1.handled=none from hh]|rw[hh]
 refine Ja (Jd (wpAny_throw ?_))
 exact hE _ _ (((J6 ..).extBut.push _).push _) ⟨_,Jo _ rfl,rfl⟩
end
theorem hU{prog:Program}{w:World}{A:Around}(hh:A.handled=none)(it t:Addr)(hne:t≠it)(its:Array Value):
  Draws prog w A it [it,t] its.size (fun i v=>its[i]? =some v) (fun i h=>h.IsTupleIter it t i/\h.IsTuple t its) where
 live:=fun _ _ st=>let⟨o,ho,_⟩:=st.1;⟨o,ho⟩
 frame:=fun _ _ _ st hk=>⟨st.1.at fun o e=>hk it (by simp) o e,let⟨o,e,r⟩:=st.2;⟨o,hk t (by simp) o e,r⟩⟩
 item:=fun i s Q E hi st hQ=>by
  refine ra st.1 st.2 (x:=its[i]) (by simp [hi]) fun h' hit' hs'=>?_
  exact hQ _ h' s.toks (by simp [hi]) ⟨hit',let⟨o,e,r⟩:=st.2;⟨o,hs'.extBut _ _ hne e,r⟩⟩ hs'
 done:=fun s Q E st hE=>jE hh st.1 st.2 (by simp) hE
open AutoSeq1 (wpAny_loadPart')in
theorem nu(l:Addr)(items:Array Value)(n:Nat)(dct:Option Addr)(sl:Array (Option Value)):
  Meets (Builtin.«enumerate.__new__» ⟨[.type "enumerate",.ref l],[]⟩) (fun _ R s=>s.heap.get? l=some {cls:= .type "tuple",dict:=dct,data:= .seq items n,slots:=sl}/\
   R (.ok (.ret (.ref (s.heap.push {cls:= .type "tuple_iterator",data:= .fields #[.ref l,.int 0 0]}).objs.size)))
    {s with heap:=(s.heap.push {cls:= .type "tuple_iterator",data:= .fields #[.ref l,.int 0 0]}).push {cls:= .type "enumerate",data:= .fields #[.none,.bool false,.ref s.heap.objs.size,rawInt 0,.none,.none]}}):=
 .of_wp fun prog w A R s h=>by
  obtain⟨hp,g,d,tk,os⟩:=s;obtain⟨hl,h⟩:=h
  have hsub:=sub_enumerate;have hL:Heap.IsTuple (Shared.heap ⟨hp,g,d,tk,os⟩) l items:=⟨_,hl,rfl,n,rfl⟩
  wp_walk using E4 hl
  refine wpAny_stack_any fun st=>Jd ?_
  split
  ·rename_i c _ _ _ _ _
   cases(c==Value.type "enumerate")
   ·wp_walk using E4 hl,EC hL
    exact⟨_,rfl,h⟩
   ·wp_walk using E4 hl,EC hL
    exact⟨_,rfl,h⟩
  ·wp_walk using E4 hl,EC hL
   exact⟨_,rfl,h⟩
section
variable{prog:Program}{w:World}{A:Around}{E:FW}{s:Shared}
theorem px{l:Addr}{items:Array Value}{Q:FW}(hL:s.heap.IsTuple l items)
  (h:∀h',IsEnum h' (s.heap.objs.size+1) s.heap.objs.size 0 .none->h'.IsTupleIter s.heap.objs.size l 0->(∀b o,s.heap.get? b=some o->h'.get? b=some o)->Q (.ref (s.heap.objs.size+1)) {s with heap:=h'}):
  wpAny (model prog w) A (call (.type "enumerate") [.ref l]) Q E s:=by
 obtain⟨⟨c,dct,dt,sl⟩,hl,hc,n,hd⟩:=hL
 replace hc:c= .type "tuple":=hc
 replace hd:dt= .seq items n:=hd
 subst hc hd;refine callType_new F.called_enumerate (by decide) (F.typeCall_enumerate_1 _) (F.newCall_enumerate_1 _) (fun obj=>F.args_object_init_2 obj _) F.entry_enumerate_new
  (nu l items n dct sl) ⟨hl,?_⟩
 have hz:(s.heap.push {cls:= .type "tuple_iterator",data:= .fields #[.ref l,.int 0 0]}).objs.size=s.heap.objs.size+1:=JX ..
 show _/\_
 rw[hz];have he:IsEnum ((s.heap.push {cls:= .type "tuple_iterator",data:= .fields #[.ref l,.int 0 0]}).push
   {cls:= .type "enumerate",data:= .fields #[.none,.bool false,.ref s.heap.objs.size,rawInt 0,.none,.none]}) (s.heap.objs.size+1) s.heap.objs.size 0 .none:=by
  have:=Jo (s.heap.push {cls:= .type "tuple_iterator",data:= .fields #[.ref l,.int 0 0]})
   (o:={cls:= .type "enumerate",data:= .fields #[.none,.bool false,.ref s.heap.objs.size,rawInt 0,.none,.none]}) rfl
  rw[hz]at this;exact this
 exact⟨⟨_,he,rfl⟩,h _ he ⟨_,Ji _ (Jo _ rfl),rfl,rfl⟩ fun b o x=>Ji _ (Ji _ x)⟩
end
def kB(K:Frag)(a:Addr):It:=
 ⟨fun i H=>∃xs x,Ga K H a xs/\xs[i]? =some x,fun i H x H'=>∃p v,H p=none/\x= .ref p/\(∀xs,Ga K H a xs->xs[i]? =some v)/\H'=F5 H p (.tup [.int i,v]),fun i H=>∃xs,Ga K H a xs/\xs.length<=i⟩
theorem pE{P:Program}{w:World}{K:Frag}{elts:List Expr}{x1}{pos:Pos}(a e it:Addr)(hei:e≠it):
  HI P w K (.Tuple elts x1 pos) (kB K a) [e,it] e (fun i h=>(∃old,IsEnum h e it i old)/\h.IsTupleIter it a i) where
 mem:=by simp
 obj:=fun i h st b hb=>by
  obtain⟨⟨old,he⟩,⟨o,ho,hc,hd⟩⟩:=st;rcases Jk.mp hb with z|z
  ·subst z
   refine⟨_,he,fun v z=>?_⟩
   have z':Data.fields _=Data.cell v:=z
   cases z'
  ·rw[Jl.mp z]
   exact⟨o,ho,fun v z=>by rw[hd]at z;cases z⟩
 keep:=fun i h h' st k=>⟨let⟨old,he⟩:=st.1;⟨old,k e (by simp) _ he⟩,st.2.at fun o q=>k it (by simp) o q⟩
 item:=by
  intro X hP hw hK hc i tx s σ H E I hf st hg;subst hP hw hK;obtain⟨xs,x,hq,hx⟩:=hg;obtain⟨its,rv,p,hz⟩:=I.tuple hq;obtain⟨u,hu,ru⟩:=rv.get hx;obtain⟨⟨old,he⟩,hit⟩:=st;have nae:a≠e:=fun z=>by
   subst z;obtain⟨o,ho,hcl,_⟩:=p;rw[he]at ho;cases ho;exact absurd (show Value.type "enumerate"=Value.type "tuple" from hcl) (by decide)
  have nai:a≠it:=fun z=>by
   subst z;obtain⟨o,ho,hcl,_⟩:=p;obtain⟨o',ho',hc',_⟩:=hit;rw[ho]at ho';cases ho';rw[hcl]at hc';exact absurd hc' (by decide)
  have hil:i<its.toArray.size:=by
   have:=(Jw.mp hu).1
   simpa using this
  refine wpAny_pyNext_enum_itemD (hU (A:=X.A.in1) (I.ok.hd hc) it a nai its.toArray) he ⟨hit,p⟩ hil hei (by simp [hei,Ne.symm nae]) fun v h' tk hv ho ⟨hit',_⟩ ht hsz hk=>⟨_,rfl,?_⟩
  have ev:v=u:=by
   have hv':its[i]? =some v:=by simpa using hv
   rw[hu]at hv';exact(Jy hv').symm
  subst ev;refine wpAny_letOwnedTupleGo_enum ho fun h'' he'' hs''=>?_
  have helt:e<s.heap.objs.size:=Jh he
  have hilt:it<s.heap.objs.size:=by obtain⟨_,y,_⟩:=hit;exact Jh y
  refine⟨.ref s.heap.objs.size,F5 H s.heap.objs.size (.tup [.int i,x]),?_,rfl,⟨_,x,I.hok.fresh (Je _),rfl,fun ys hy=>by rw[I.tuple_inj hy hq];exact hx,rfl⟩,⟨⟨_,by simpa using he''⟩,?_⟩,?_⟩
  ·show L2.F3 X tx σ _ {s with heap:=h'',toks:=tk+1}
   refine eP (s:=s) (its:=[.int i tk,v]) I (ch:=[e,it]) (fun b o hb q=>?_) hf (fun b hb=>?_) (Je _) (by show 2<=sizeLine;decide) (.cons ⟨_,rfl⟩ (.cons ru .nil)) ?_
   ·have hb1:b≠e:=fun z=>hb (by simp [z])
    have hb2:b≠it:=fun z=>hb (by simp [z])
    exact(hs''.2 b hb1).trans (hk b o hb1 hb2 q)
   ·rcases Jk.mp hb with z|z
    ·subst z;exact⟨_,he''⟩
    ·rw[Jl.mp z]
     obtain⟨o,y,_⟩:=hit'
     exact⟨o,(hs''.2 it (Ne.symm hei)).trans y⟩
   ·exact⟨_,(hs''.2 _ (JY helt)).trans ht,rfl,_,rfl⟩
  ·exact hit'.extBut hs''.extBut (Ne.symm hei)
  ·intro b hb
   rw[qj]
   ·exact(hf b hb).1
   ·rcases Jk.mp hb with z|z
    ·subst z;exact Jm helt
    ·rw[Jl.mp z];exact Jm hilt
 done:=by
  intro X hP hw hK hc i tx s σ H E I hf st hg;subst hP hw hK;obtain⟨xs,hq,hx⟩:=hg;obtain⟨its,rv,p,hz⟩:=I.tuple hq;obtain⟨⟨old,he⟩,hit⟩:=st;obtain⟨f0,f1,f2,f3,f4,f5⟩:=hf it (by simp)
  have hl:=rv.length;have nai:a≠it:=fun z=>by
   subst z;obtain⟨o,ho,hcl,_⟩:=p;obtain⟨o',ho',hc',_⟩:=hit;rw[ho]at ho';cases ho';rw[hcl]at hc';exact absurd hc' (by decide)
  unfold pyNext;have hT:s.TypeIs (.ref e) "enumerate":=⟨_,he,rfl⟩
  refine Ja (Ed (wpAny_callSpecial?_slot (name:=Str.ofString "__next__") hT F.slot_enumerate_next
   (JT F.slot_enumerate_next hT F.entry_enumerate_next ?_ (F.args_enumerate_next_1 _))))
  show wpAny _ _ (field (.ref e) 2 >>= _) _ _ _
  refine Ja (JS he rfl (x:= .ref it) rfl ?_)
  refine Ja (jE (I.ok.hd hc) hit p (by simp;lia) fun h' ex eb hx'=>?_)
  obtain⟨o,ho,hcl⟩:=hx';refine Ja (Et (T:="StopIteration") (b:=true) ⟨o,ho,hcl⟩ Fh ?_)
  exact Jd ⟨rfl,I.turned (t':=s.toks) (fun b o hb e=>eb b o hb e) f0 f1 f3 f4 f5⟩
 self:=fun _ _ _ _ _ st h=>by
  obtain⟨⟨old,he⟩,_⟩:=st;exact Ff he h
section
variable{X:Cx}
def tT(K:Frag)(ta:TA):TI:=fun σ H R=>ta σ H fun vs H1=>∃a,vs=[.ref a]/\((∃xs,F8 K H1 a xs)/\R (nA K a) H1\/(∃xs,Ga K H1 a xs)/\R (kB K a) H1)
theorem wC{a:Expr}{ta:TA}{p pos:Pos}{elts:List Expr}{x1}{tpos:Pos}(hg:Gl X "enumerate")(hm:X.mg "enumerate"=none)(ha:PA X [a] ta)(hs:starEach [a] X.env=[(false,eval a X.env)]:=by rfl):
  PI X (.Tuple elts x1 tpos) (.Call (.Name "enumerate" p) [a] [] pos) (tT X.K ta):=by
 intro tx s σ H R I h;refine Call_ (Q1 I hg hm boot_enumerate (ED (qz (ha pos tx s σ H _ I h) fun us s1 zq=>?_) hs rfl))
 obtain⟨vs,H1,I1,r1,q1⟩:=zq;obtain⟨l,e,q1⟩:=q1;subst e;obtain⟨u,rfl,ru⟩:=r1.one;cases ru;have fpk:∀b∈[s1.heap.objs.size+1,s1.heap.objs.size],Zs X tx H1 b:=fun b hb=>by
  have hb':s1.heap.objs.size<=b:=by
   rcases Jk.mp hb with z|z
   ·rw[z];exact Eb _
   ·rw[Jl.mp z];exact Je _
  exact I1.fpOk hb' (I1.hok.fresh hb')
 rcases q1 with⟨⟨xs,hq⟩,q⟩|⟨⟨xs,hq⟩,q⟩
 ·obtain⟨its,rv,pl,hz⟩:=I1.list hq
  refine call_enumerate_list pl.isList fun h' he hit hsz hk=>Ff he ?_
  exact⟨s1.heap.objs.size+1,[s1.heap.objs.size+1,s1.heap.objs.size],_,_,H1,rfl,I1.kept (t':=s1.toks) hk,jt l _ _ (JY (D6 _)),⟨⟨_,he⟩,hit⟩,fpk,q⟩
 ·obtain⟨its,rv,pl,hz⟩:=I1.tuple hq
  refine px (show s1.heap.IsTuple l its.toArray from pl) fun h' he hit hk=>Ff he ?_
  exact⟨s1.heap.objs.size+1,[s1.heap.objs.size+1,s1.heap.objs.size],_,_,H1,rfl,I1.kept (t':=s1.toks) hk,pE l _ _ (JY (D6 _)),⟨⟨_,he⟩,hit⟩,fpk,q⟩
theorem uY{K:Frag}{a:Addr}{xs:List V}{g:TG}{tb:TS}{D:GX}{σ:L2.St}{H:Hp}(Pv:Nat->L2.St->Hp->Prop)(h0:Pv 0 σ H)(hl:∀i σ H,i<=xs.length->Pv i σ H->Ga K H a xs)
  (hs:∀i x σ H p,xs[i]? =some x->Pv i σ H->H p=none->g (.ref p) σ (F5 H p (.tup [.int i,x])) fun σ2 H2=>tb {D with nx:=Pv (i+1),ct:=Pv (i+1),bk:=D.nx} σ2 H2)(hd:∀σ H,Pv xs.length σ H->D.nx σ H):
  ∃W:Nat->Nat->L2.St->Hp->Prop,(∃m,W 0 m σ H)/\∀i m σ H,W i m σ H->
   ((kB K a).stop i H/\D.nx σ H)\/((kB K a).go i H/\∃N:L2.St->Hp->Prop,(∀σ' H',N σ' H'->∃m',m'<m/\W (i+1) m' σ' H')/\∀x H',(kB K a).yld i H x H'->g x σ H' fun σ2 H2=>tb {D with nx:=N,ct:=N,bk:=D.nx} σ2 H2):=by
 refine⟨fun i m σ H=>m=xs.length-i/\i<=xs.length/\Pv i σ H,⟨xs.length,by simp,JB _,h0⟩,?_⟩
 rintro i m σ H ⟨rfl,hi,p⟩
 have q:=hl i σ H hi p
 by_cases hlt:i<xs.length
 ·refine .inr ⟨⟨xs,xs[i],q,by simp [hlt]⟩,Pv (i+1),fun σ' H' p'=>⟨xs.length-(i+1),by lia,rfl,hlt,p'⟩,fun x H' y=>?_⟩
  obtain⟨pp,v,hp,rfl,hv,rfl⟩:=y;exact hs i v σ H pp (hv xs q) p hp
 ·have e:i=xs.length:=by lia
  subst e;exact .inl ⟨⟨xs,q,Je _⟩,hd σ H p⟩
end
structure HH(z TI TO i1 i2:Addr)(f1 f2:List Addr):Prop where
 TIz:TI≠z
 TOz:TO≠z
 i1z:i1≠z
 i2z:i2≠z
 TITO:TI≠TO
 TIi1:TI≠i1
 TIi2:TI≠i2
 TOi1:TO≠i1
 TOi2:TO≠i2
 i12:i1≠i2
 z1:z∉f1
 z2:z∉f2
 t1:TO∉f1
 t2:TO∉f2
 x1:i2∉f1
 x2:i1∉f2
section
variable{prog:Program}{w:World}{A:Around}{E:FW}{s:Shared}{z TI TO i1 i2:Addr}{f1 f2:List Addr}{n1 n2 k:Nat}{P1 P2:Nat->Value->Prop}{S1 S2:Nat->Heap->Prop}{a b:Value}
theorem i4{Q:FW}(D1:Draws prog w A i1 f1 n1 P1 S1)(D2:Draws prog w A i2 f2 n2 P2 S2)(Z:HH z TI TO i1 i2 f1 f2)
  (hz:IsZip s.heap z TI TO .none)(hTI:IsPair s.heap TI (.ref i1) (.ref i2))(hTO:IsPair s.heap TO a b)(q1:S1 k s.heap)(q2:S2 k s.heap)(k1:k<n1)(k2:k<n2)
  (hQ:∀x y h' tk,P1 k x->P2 k y->IsZip h' z TI TO (rawInt s.heap.objs.size)->IsPair h' TO x y->S1 (k+1) h'->S2 (k+1) h'->IsPair h' s.heap.objs.size x y->
   (∀c o,c≠z->c≠TO->c≠i1->c≠i2->s.heap.get? c=some o->h'.get? c=some o)->Q (.ref s.heap.objs.size) {s with heap:=h',toks:=tk}):
  wpAny (model prog w) A (Builtin.«zip.__next__» ⟨[.ref z],[]⟩) (fun fin s'=>∃v,fin= .done (.ret v)/\Q v s') E s:=by
 obtain⟨hp,g,d,t0,os⟩:=s
 show wpAny _ _ (field (.ref z) 2 >>= _) _ _ _
 refine Ja (JS hz rfl (x:= .bool false) rfl ?_)
 show wpAny _ _ (field (.ref z) 3 >>= _) _ _ _
 refine Ja (JS hz rfl (x:= .ref TI) rfl ?_)
 refine Ja (Es hTI rfl ?_)
 show wpAny _ _ (Builtin.SmallTypes.ownedTupleIsFree (.ref z) >>= _) _ _ _
 refine Ja ?_
 unfold Builtin.SmallTypes.ownedTupleIsFree;refine Ja (JS hz rfl (x:= .none) rfl (Jd ?_))
 simp only[D8];refine Ja (DV ?_)
 refine Ja (JS hz rfl (x:= .ref TO) rfl ?_)
 refine Ja (Fi hz (by simp) fun h₁ hz₁ hs₁=>?_)
 replace hz₁:IsZip h₁ z TI TO .ellipsis:=hz₁
 replace hs₁:Heap.SameBut z hp h₁:=hs₁
 refine Ja ?_
 simp only[List.zipIdx_cons,List.zipIdx_nil,List.forIn_cons,List.forIn_nil];refine Ja (Ja (wpAny_onRaise ?_))
 show wpAny _ _ (Builtin.SmallTypes.nextOf (.ref i1) >>= _) _ _ _
 have q1a:S1 k h₁:=D1.frame _ _ _ q1 fun c hc o e=>hs₁.extBut c o (fun y=>Z.z1 (y▸hc)) e
 refine Ja (D1.item k ⟨h₁,g,d,t0,os⟩ _ _ k1 q1a fun x h₂ tk₂ p1 q1b hs₂=>Jd ?_)
 replace hs₂:Heap.SameBut i1 h₁ h₂:=hs₂
 have hTO₂:IsPair h₂ TO a b:=hs₂.extBut _ _ Z.TOi1 (hs₁.extBut _ _ Z.TOz hTO)
 refine Ja (Es hTO₂ rfl ?_)
 refine Ja (wpAny_updateSeq_pair hTO₂ fun h₃ hTO₃ hs₃=>?_)
 replace hTO₃:IsPair h₃ TO x b:=hTO₃
 replace hs₃:Heap.SameBut TO h₂ h₃:=hs₃
 refine Ja (wpAny_letGo (Jd ?_))
 refine Ja (Ja (wpAny_onRaise ?_))
 show wpAny _ _ (Builtin.SmallTypes.nextOf (.ref i2) >>= _) _ _ _
 have q2a:S2 k h₃:=D2.frame _ _ _ q2 fun c hc o e=>hs₃.extBut c o (fun y=>Z.t2 (y▸hc)) (hs₂.extBut c o (fun y=>Z.x2 (y▸hc)) (hs₁.extBut c o (fun y=>Z.z2 (y▸hc)) e))
 refine Ja (D2.item k ⟨h₃,g,d,tk₂,os⟩ _ _ k2 q2a fun y h₄ tk₄ p2 q2b hs₄=>Jd ?_)
 replace hs₄:Heap.SameBut i2 h₃ h₄:=hs₄
 have hTO₄:IsPair h₄ TO x b:=hs₄.extBut _ _ Z.TOi2 hTO₃
 refine Ja (Es hTO₄ rfl ?_)
 refine Ja (wpAny_updateSeq_pair hTO₄ fun h₅ hTO₅ hs₅=>?_)
 replace hTO₅:IsPair h₅ TO x y:=hTO₅
 replace hs₅:Heap.SameBut TO h₄ h₅:=hs₅
 refine Ja (wpAny_letGo (Jd (Jd ?_)))
 refine Ja (Es hTO₅ rfl ?_)
 refine Ja (wpAny_newTuple ?_)
 have hsz:h₅.objs.size=hp.objs.size:=by rw[hs₅.1,hs₄.1,hs₃.1,hs₂.1,hs₁.1]
 have hz₅:IsZip h₅ z TI TO .ellipsis:=hs₅.extBut _ _ Z.TOz.symm (hs₄.extBut _ _ Z.i2z.symm (hs₃.extBut _ _ Z.TOz.symm (hs₂.extBut _ _ Z.i1z.symm hz₁)))
 have hk₅:∀c o,c≠z->c≠TO->c≠i1->c≠i2->hp.get? c=some o->h₅.get? c=some o:=fun c o c1 c2 c3 c4 e=>
  hs₅.extBut _ _ c2 (hs₄.extBut _ _ c4 (hs₃.extBut _ _ c2 (hs₂.extBut _ _ c3 (hs₁.extBut _ _ c1 e))))
 have q1c:S1 (k+1) h₅:=D1.frame _ _ _ q1b fun c hc o e=>hs₅.extBut c o (fun y=>Z.t1 (y▸hc)) (hs₄.extBut c o (fun y=>Z.x1 (y▸hc)) (hs₃.extBut c o (fun y=>Z.t1 (y▸hc)) e))
 have q2c:S2 (k+1) h₅:=D2.frame _ _ _ q2b fun c hc o e=>hs₅.extBut c o (fun y=>Z.t2 (y▸hc)) e
 have hzlt:z<h₅.objs.size:=Jh hz₅
 show wpAny _ _ (Builtin.SmallTypes.ownedTupleHandOut (.ref z) (.ref h₅.objs.size) >>= _) _ _ _
 refine Ja ?_
 unfold Builtin.SmallTypes.ownedTupleHandOut;have hz₆:IsZip (h₅.push {cls:= .type "tuple",data:= .seq #[x,y]}) z TI TO .ellipsis:=Ji _ hz₅
 refine Ja (Fi hz₆ (by simp) fun h₇ hz₇ hs₇=>?_)
 replace hz₇:IsZip h₇ z TI TO (rawInt h₅.objs.size):=hz₇
 refine Fi hz₇ (by simp) fun h₈ hz₈ hs₈=>?_
 replace hz₈:IsZip h₈ z TI TO (rawInt h₅.objs.size):=hz₈
 have up:∀c o,c≠z->h₅.get? c=some o->h₈.get? c=some o:=fun c o c1 e=>hs₈.extBut _ _ c1 (hs₇.extBut _ _ c1 (Ji _ e))
 have hT₈:IsPair h₈ h₅.objs.size x y:=hs₈.extBut _ _ (JY hzlt) (hs₇.extBut _ _ (JY hzlt) (Jo _ rfl))
 rw[hsz]at hz₈ hT₈;refine Jd ⟨_,rfl,?_⟩
 show Q (.ref h₅.objs.size) _
 rw[hsz];exact hQ x y h₈ tk₄ p1 p2 hz₈ (up _ _ Z.TOz hTO₅) (D1.frame _ _ _ q1c fun c hc o e=>up c o (fun y=>Z.z1 (y▸hc)) e) (D2.frame _ _ _ q2c fun c hc o e=>up c o (fun y=>Z.z2 (y▸hc)) e) hT₈ fun c o c1 c2 c3 c4 e=>up c o c1 (hk₅ c o c1 c2 c3 c4 e)
theorem kX{Q:Fin->Shared->Prop}(D1:Draws prog w A i1 f1 n1 P1 S1)(Z:HH z TI TO i1 i2 f1 f2)
  (hz:IsZip s.heap z TI TO .none)(hTI:IsPair s.heap TI (.ref i1) (.ref i2))(q1:S1 n1 s.heap)
  (hE:∀h' e,(∀c o,c≠z->c≠i1->s.heap.get? c=some o->h'.get? c=some o)->(∃o,h'.get? e=some o/\o.cls= .type "StopIteration")->E (.ref e) {s with heap:=h'}):
  wpAny (model prog w) A (Builtin.«zip.__next__» ⟨[.ref z],[]⟩) Q E s:=by
 obtain⟨hp,g,d,t0,os⟩:=s
 show wpAny _ _ (field (.ref z) 2 >>= _) _ _ _
 refine Ja (JS hz rfl (x:= .bool false) rfl ?_)
 show wpAny _ _ (field (.ref z) 3 >>= _) _ _ _
 refine Ja (JS hz rfl (x:= .ref TI) rfl ?_)
 refine Ja (Es hTI rfl ?_)
 show wpAny _ _ (Builtin.SmallTypes.ownedTupleIsFree (.ref z) >>= _) _ _ _
 refine Ja ?_
 unfold Builtin.SmallTypes.ownedTupleIsFree;refine Ja (JS hz rfl (x:= .none) rfl (Jd ?_))
 simp only[D8];refine Ja (DV ?_)
 refine Ja (JS hz rfl (x:= .ref TO) rfl ?_)
 refine Ja (Fi hz (by simp) fun h₁ hz₁ hs₁=>?_)
 replace hz₁:IsZip h₁ z TI TO .ellipsis:=hz₁
 replace hs₁:Heap.SameBut z hp h₁:=hs₁
 refine Ja ?_
 simp only[List.zipIdx_cons,List.zipIdx_nil,List.forIn_cons,List.forIn_nil];refine Ja (Ja (wpAny_onRaise ?_))
 show wpAny _ _ (Builtin.SmallTypes.nextOf (.ref i1) >>= _) _ _ _
 have q1a:S1 n1 h₁:=D1.frame _ _ _ q1 fun c hc o e=>hs₁.extBut c o (fun y=>Z.z1 (y▸hc)) e
 refine Ja (D1.done ⟨h₁,g,d,t0,os⟩ _ _ q1a fun h₂ e hs₂ he=>?_)
 obtain⟨oe,hoe,hce⟩:=he
 replace hs₂:Heap.ExtBut i1 h₁ h₂:=hs₂
 have hz₂:IsZip h₂ z TI TO .ellipsis:=hs₂ _ _ Z.i1z.symm hz₁
 have hez:e≠z:=fun x=>by subst x;rw[hz₂]at hoe;cases hoe;simp at hce
 refine Fi hz₂ (by simp) fun h₃ _ hs₃=>hE h₃ e (fun c o c1 c3 x=>hs₃.extBut _ _ c1 (hs₂ _ _ c3 (hs₁.extBut _ _ c1 x))) ⟨oe,hs₃.extBut _ _ hez hoe,hce⟩
end
abbrev wS(h:Heap)(l1:Addr):Heap:=h.push {cls:= .type "tuple_iterator",data:= .fields #[.ref l1,.int 0 0]}
abbrev xm(h:Heap)(l1 l2:Addr):Heap:=(wS h l1).push {cls:= .type "tuple_iterator",data:= .fields #[.ref l2,.int 0 0]}
abbrev wP(h:Heap)(l1 l2:Addr):Heap:=(xm h l1 l2).push {cls:= .type "tuple",data:= .seq #[.ref h.objs.size,.ref (wS h l1).objs.size]}
abbrev ye(h:Heap)(l1 l2:Addr):Heap:=(wP h l1 l2).push {cls:= .type "tuple",data:= .seq #[.none,.none]}
abbrev oU(h:Heap)(l1 l2:Addr):Heap:=(ye h l1 l2).push {cls:= .type "zip",data:= .fields #[.none,.bool false,.bool false,.ref (xm h l1 l2).objs.size,.ref (wP h l1 l2).objs.size]}
theorem pN(l1 l2:Addr)(xs ys:Array Value):
  Meets (Builtin.«zip.__new__» ⟨[.type "zip",.ref l1,.ref l2],[]⟩) (fun _ R s=>s.heap.IsTuple l1 xs/\s.heap.IsTuple l2 ys/\
   R (.ok (.ret (.ref (ye s.heap l1 l2).objs.size))) {s with heap:=oU s.heap l1 l2}):=
 .of_wp fun prog w A R s h=>by
  obtain⟨hp,g,d,tk,os⟩:=s;obtain⟨hl1,hl2,h⟩:=h
  have hsub:=sub_zip;have hL1:Heap.IsTuple (Shared.heap ⟨hp,g,d,tk,os⟩) l1 xs:=hl1
  have hL2:Heap.IsTuple (Shared.heap ⟨hp.push {cls:= .type "tuple_iterator",data:= .fields #[.ref l1,.int 0 0]},g,d,tk,os⟩) l2 ys:=let⟨o,e,r⟩:=hl2;⟨o,Ji _ e,r⟩
  wp_walk using EC hL1,EC hL2
  exact⟨_,rfl,h⟩
section
variable{prog:Program}{w:World}{A:Around}{E:FW}{s:Shared}
theorem tR{l1 l2:Addr}{xs ys:Array Value}{Q:FW}(hl1:s.heap.IsTuple l1 xs)(hl2:s.heap.IsTuple l2 ys)
  (h:∀h',IsZip h' (s.heap.objs.size+4) (s.heap.objs.size+2) (s.heap.objs.size+3) .none->IsPair h' (s.heap.objs.size+2) (.ref s.heap.objs.size) (.ref (s.heap.objs.size+1))->
   IsPair h' (s.heap.objs.size+3) .none .none->h'.IsTupleIter s.heap.objs.size l1 0->h'.IsTupleIter (s.heap.objs.size+1) l2 0->
   (∀c o,s.heap.get? c=some o->h'.get? c=some o)->Q (.ref (s.heap.objs.size+4)) {s with heap:=h'}):
  wpAny (model prog w) A (call (.type "zip") [.ref l1,.ref l2]) Q E s:=by
 refine callType_new F.called_zip (by decide) (F.typeCall_zip_2 _ _) (F.newCall_zip_2 _ _) (fun obj=>F.args_object_init_3 obj _ _) F.entry_zip_new
  (pN l1 l2 xs ys) ⟨hl1,hl2,?_⟩
 have z1:(wS s.heap l1).objs.size=s.heap.objs.size+1:=JX ..
 have z2:(xm s.heap l1 l2).objs.size=s.heap.objs.size+2:=by rw[JX,z1]
 have z3:(wP s.heap l1 l2).objs.size=s.heap.objs.size+3:=by rw[JX,z2]
 have z4:(ye s.heap l1 l2).objs.size=s.heap.objs.size+4:=by rw[JX,z3]
 have g5:(oU s.heap l1 l2).get? (ye s.heap l1 l2).objs.size=some _:=Jo _ rfl
 have g4:(oU s.heap l1 l2).get? (wP s.heap l1 l2).objs.size=some _:=Ji _ (Jo _ rfl)
 have g3:(oU s.heap l1 l2).get? (xm s.heap l1 l2).objs.size=some _:=Ji _ (Ji _ (Jo _ rfl))
 have g2:(oU s.heap l1 l2).get? (wS s.heap l1).objs.size=some _:=Ji _ (Ji _ (Ji _ (Jo _ rfl)))
 have g1:(oU s.heap l1 l2).get? s.heap.objs.size=some _:=Ji _ (Ji _ (Ji _ (Ji _ (Jo _ rfl))))
 show _/\_
 rw[z2,z3,z4]at g5;rw[z1,z2]at g3;rw[z3]at g4;rw[z1]at g2;rw[z4]
 exact⟨⟨_,g5,rfl⟩,h _ g5 g3 g4 ⟨_,g1,rfl,rfl⟩ ⟨_,g2,rfl,rfl⟩ fun c o x=>
  Ji _ (Ji _ (Ji _ (Ji _ (Ji _ x))))⟩
end
section
variable{X:Cx}{tx:FY}{σ:L2.St}{H:Hp}{s:Shared}
theorem oS{h':Heap}{t':Nat}{ch:List Addr}(I:L2.F3 X tx σ H s)(k:∀b o,b∉ch->s.heap.get? b=some o->h'.get? b=some o)(hch:∀b∈ch,Zs X tx H b):L2.F3 X tx σ H {s with heap:=h',toks:=t'}:=by
 have nch:∀b u,H b=some u->b∉ch:=fun b u e z=>by rw[(hch b z).1]at e;cases e
 refine I.step (g':=s.gens) (d':=s.drawn) (ch:=ch) (fun b hb=>⟨(hch b hb).2.2.2.1,(hch b hb).2.1,(hch b hb).2.2.2.2.1,(hch b hb).2.2.2.2.2⟩) (fun b o _ _ hc e _=>k b o hc e) (fun b o _ _ hc e _=>⟨o.slots,k b o hc e⟩)
  (fun _ _ _ _ n=>n) (fun b o hc e=>⟨o,k b o hc e⟩) (fun _ _ e=>e) (fun _ _ _ e=>e) (fun b ps e=>⟨#[],by rw[e];simp⟩) (fun m hm=>?_) (fun b u e=>?_) I.bare
 ·obtain⟨o,es,ep,ho,r⟩:=hm
  exact⟨o,es,ep,k _ o (fun z=>(hch _ z).2.1 rfl) ho,r⟩
 ·refine(I.hok b u e).stay (fun c v hc q=>k c v ?_ q) (fun _ q=>q) fun _ _ q=>q
  rcases hc with z|z
  ·rw[z];exact nch b u e
  ·exact nch c _ z
theorem eM{H:Hp}{a b:Addr}{u:HO}(h:Rd H a u)(h':H b=none):a≠b:=by
 rcases h with h|⟨o,h⟩
 ·exact qi h h'
 ·exact qi h h'
def Ck(a1 a2:Addr):It:=
  ⟨fun i H=>∃xs ys x y,Rd H a1 (.tup xs)/\Rd H a2 (.tup ys)/\xs[i]? =some x/\ys[i]? =some y,
   fun i H v H'=>∃p x y,H p=none/\v= .ref p/\(∀xs,Rd H a1 (.tup xs)->xs[i]? =some x)/\(∀ys,Rd H a2 (.tup ys)->ys[i]? =some y)/\H'=F5 H p (.tup [x,y]),
   fun i H=>∃xs,Rd H a1 (.tup xs)/\xs.length=i⟩
theorem vT{P:Program}{w:World}{K:Frag}{elts:List Expr}{x1}{pos:Pos}(a1 a2 z TI TO i1 i2:Addr)(d1:TI≠z)(d2:TO≠z)(d3:i1≠z)(d4:i2≠z)(d5:TI≠TO)(d6:TI≠i1)(d7:TI≠i2)(d8:TO≠i1)(d9:TO≠i2)(d10:i1≠i2):
  HI P w K (.Tuple elts x1 pos) (Ck a1 a2) [z,TI,TO,i1,i2] z (fun i h=>IsZip h z TI TO .none/\IsPair h TI (.ref i1) (.ref i2)/\(∃a b,IsPair h TO a b)/\h.IsTupleIter i1 a1 i/\h.IsTupleIter i2 a2 i) where
 mem:=by simp
 obj:=fun i h st b hb=>by
  obtain⟨hz,hTI,⟨a,b',hTO⟩,⟨o1,ho1,_,hd1⟩,⟨o2,ho2,_,hd2⟩⟩:=st;simp only[Jk,Js,Jt]at hb;rcases hb with rfl|rfl|rfl|rfl|rfl
  ·exact⟨_,hz,fun v y=>by have y':Data.fields _=Data.cell v:=y;cases y'⟩
  ·exact⟨_,hTI,fun v y=>by have y':Data.seq _ _=Data.cell v:=y;cases y'⟩
  ·exact⟨_,hTO,fun v y=>by have y':Data.seq _ _=Data.cell v:=y;cases y'⟩
  ·exact⟨_,ho1,fun v y=>by rw[hd1]at y;cases y⟩
  ·exact⟨_,ho2,fun v y=>by rw[hd2]at y;cases y⟩
 keep:=fun i h h' st k=>by
  obtain⟨hz,hTI,⟨a,b',hTO⟩,h1,h2⟩:=st
  exact⟨k z (by simp) _ hz,k TI (by simp) _ hTI,⟨a,b',k TO (by simp) _ hTO⟩,h1.at fun o e=>k i1 (by simp) o e,h2.at fun o e=>k i2 (by simp) o e⟩
 item:=by
  intro X hP hw hK hc i tx s σ H E I hf st hg;subst hP hw hK;obtain⟨xs,ys,x,y,ha1,ha2,hx,hy⟩:=hg;obtain⟨its,rv,p,hz0⟩:=I.tuple (.inl ha1)
  obtain⟨its2,rv2,p2,hz2⟩:=I.tuple (.inl ha2)
  obtain⟨u,hu,ru⟩:=rv.get hx;obtain⟨u2,hu2,ru2⟩:=rv2.get hy;obtain⟨hz,hTI,⟨a,b',hTO⟩,h1,h2⟩:=st;have n1:∀c∈[z,TI,TO,i1,i2],a1≠c:=fun c hc=>eM ha1 (hf c hc).1
  have n2:∀c∈[z,TI,TO,i1,i2],a2≠c:=fun c hc=>eM ha2 (hf c hc).1
  have Z:HH z TI TO i1 i2 [i1,a1] [i2,a2]:=⟨d1,d2,d3,d4,d5,d6,d7,d8,d9,d10,by simp [Ne.symm d3,Ne.symm (n1 z (by simp))],by simp [Ne.symm d4,Ne.symm (n2 z (by simp))],by simp [d8,Ne.symm (n1 TO (by simp))],by simp [d9,Ne.symm (n2 TO (by simp))],by simp [Ne.symm d10,Ne.symm (n1 i2 (by simp))],by simp [d10,Ne.symm (n2 i1 (by simp))]⟩
  have hil:i<its.toArray.size:=by have:=(Jw.mp hu).1;simpa using this
  have hil2:i<its2.toArray.size:=by have:=(Jw.mp hu2).1;simpa using this
  have hT:s.TypeIs (.ref z) "zip":=⟨_,hz,rfl⟩
  unfold pyNext;refine Ja (Ed (wpAny_callSpecial?_slot (name:=Str.ofString "__next__") hT EG
   (JT EG hT FA
    (i4 (hU (A:=X.A.in1) (I.ok.hd hc) i1 a1 (n1 i1 (by simp)) its.toArray) (hU (A:=X.A.in1) (I.ok.hd hc) i2 a2 (n2 i2 (by simp)) its2.toArray) Z hz hTI hTO ⟨h1,p⟩ ⟨h2,p2⟩ hil hil2
     fun v v2 h' tk hv hv2 ho hTO' q1 q2 ht hk=>Jd ⟨_,rfl,?_⟩) (FB _))))
  have ev:v=u:=by
   have hv':its[i]? =some v:=by simpa using hv
   rw[hu]at hv';exact(Jy hv').symm
  have ev2:v2=u2:=by
   have hv':its2[i]? =some v2:=by simpa using hv2
   rw[hu2]at hv';exact(Jy hv').symm
  subst ev ev2;refine wpAny_letOwnedTupleGo_zip ho fun h'' hz'' hs''=>?_
  have lt:∀c∈[z,TI,TO,i1,i2],c<s.heap.objs.size:=fun c hc=>by
   simp only[Jk,Js,Jt]at hc;rcases hc with rfl|rfl|rfl|rfl|rfl
   ·exact Jh hz
   ·exact Jh hTI
   ·exact Jh hTO
   ·obtain⟨_,e,_⟩:=h1;exact Jh e
   ·obtain⟨_,e,_⟩:=h2;exact Jh e
  have hTI':IsPair h'' TI (.ref i1) (.ref i2):=hs''.extBut _ _ d1 (hk _ _ d1 d5 d6 d7 hTI)
  have hTO'':IsPair h'' TO v v2:=hs''.extBut _ _ d2 hTO'
  have h1':h''.IsTupleIter i1 a1 (i+1):=q1.1.extBut hs''.extBut d3
  have h2':h''.IsTupleIter i2 a2 (i+1):=q2.1.extBut hs''.extBut d4
  refine⟨.ref s.heap.objs.size,F5 H s.heap.objs.size (.tup [x,y]),?_,rfl,⟨_,x,y,I.hok.fresh (Je _),rfl,fun zs hy'=>by rw[I.tuple_inj (.inl hy') (.inl ha1)];exact hx,fun zs hy'=>by rw[I.tuple_inj (.inl hy') (.inl ha2)];exact hy,rfl⟩,⟨hz'',hTI',⟨_,_,hTO''⟩,h1',h2'⟩,?_⟩
  ·show L2.F3 X tx σ _ {s with heap:=h'',toks:=tk}
   refine eP (s:=s) (its:=[v,v2]) I (ch:=[z,TI,TO,i1,i2]) (fun b o hb q=>?_) hf (fun b hb=>?_) (Je _) (by show 2<=sizeLine;decide) (.cons ru (.cons ru2 .nil)) ?_
   ·simp only[Jk,Js,Jt,not_or]at hb
    exact hs''.extBut b o hb.1 (hk b o hb.1 hb.2.2.1 hb.2.2.2.1 hb.2.2.2.2 q)
   ·simp only[Jk,Js,Jt]at hb
    rcases hb with rfl|rfl|rfl|rfl|rfl
    ·exact⟨_,hz''⟩
    ·exact⟨_,hTI'⟩
    ·exact⟨_,hTO''⟩
    ·obtain⟨o,e,_⟩:=h1';exact⟨o,e⟩
    ·obtain⟨o,e,_⟩:=h2';exact⟨o,e⟩
   ·exact⟨_,hs''.extBut _ _ (JY (lt z (by simp))) ht,rfl,_,rfl⟩
  ·intro b hb
   rw[qj (Jm (lt b hb))]
   exact(hf b hb).1
 done:=by
  intro X hP hw hK hc i tx s σ H E I hf st hg;subst hP hw hK;obtain⟨xs,ha1,hx⟩:=hg;obtain⟨its,rv,p,hz0⟩:=I.tuple (.inl ha1)
  obtain⟨hz,hTI,⟨a,b',hTO⟩,h1,h2⟩:=st;have n1:∀c∈[z,TI,TO,i1,i2],a1≠c:=fun c hc=>eM ha1 (hf c hc).1
  have Z:HH z TI TO i1 i2 [i1,a1] [i2]:=⟨d1,d2,d3,d4,d5,d6,d7,d8,d9,d10,by simp [Ne.symm d3,Ne.symm (n1 z (by simp))],by simp [Ne.symm d4],by simp [d8,Ne.symm (n1 TO (by simp))],by simp [d9],by simp [Ne.symm d10,Ne.symm (n1 i2 (by simp))],by simp [d10]⟩
  have hl:its.toArray.size=i:=by rw[Jr,<- rv.length];exact hx
  have hT:s.TypeIs (.ref z) "zip":=⟨_,hz,rfl⟩
  unfold pyNext;refine Ja (Ed (wpAny_callSpecial?_slot (name:=Str.ofString "__next__") hT EG
   (JT EG hT FA
    (kX (hU (A:=X.A.in1) (I.ok.hd hc) i1 a1 (n1 i1 (by simp)) its.toArray) Z hz hTI ⟨by rw[hl];exact h1,p⟩ fun h' e hk he=>?_) (FB _))))
  obtain⟨o,ho,hcl⟩:=he;refine Ja (Et (T:="StopIteration") (b:=true) ⟨o,ho,hcl⟩ Fh ?_)
  refine Jd ⟨rfl,oS (t':=s.toks) I (ch:=[z,i1]) (fun b o hb e=>?_) (fun b hb=>hf b ?_)⟩
  ·simp only[Jk,Js,Jt,not_or]at hb
   exact hk b o hb.1 hb.2 e
  ·simp only[Jk,Js,Jt]at hb
   rcases hb with rfl|rfl<;>simp
 self:=fun _ _ _ _ _ st h=>FC st.1 h
def B7(ta:TA):TI:=fun σ H R=>ta σ H fun vs H1=>∃a1 a2 xs ys,vs=[.ref a1,.ref a2]/\Rd H1 a1 (.tup xs)/\Rd H1 a2 (.tup ys)/\R (Ck a1 a2) H1
theorem Cc{a b:Expr}{ta:TA}{p pos:Pos}{elts:List Expr}{x1}{tpos:Pos}(hg:Gl X "zip")(hm:X.mg "zip"=none)(ha:PA X [a,b] ta)(h1:Qa a=true:=by rfl)(h2:Qa b=true:=by rfl):
  PI X (.Tuple elts x1 tpos) (.Call (.Name "zip" p) [a,b] [] pos) (B7 ta):=by
 intro tx s σ H R I h;have hs2:starEach [b] X.env=[(false,eval b X.env)]:=Zf h2
 refine Call_ (Q1 I hg hm boot_zip (ED (qz (ha pos tx s σ H _ I h) fun us s1 zq=>?_) (by rw[Zf h1,hs2]) (by rw[hs2];rfl)))
 obtain⟨vs,H1,I1,r1,q1⟩:=zq;obtain⟨a1,a2,xs,ys,e,e1,e2,q⟩:=q1;subst e;obtain⟨u,v,rfl,ru,rv⟩:=r1.two;cases ru;cases rv;obtain⟨its,r1',p1,hz⟩:=I1.tuple (.inl e1)
 obtain⟨its2,r2',p2,hz2⟩:=I1.tuple (.inl e2)
 have ad:∀(n i j:Nat),i≠j->n+i≠n+j:=fun n i j h=>by lia
 refine tR (show s1.heap.IsTuple a1 its.toArray from p1) (show s1.heap.IsTuple a2 its2.toArray from p2) fun h' hz hTI hTO h1 h2 hk=>FC hz ?_
 refine⟨s1.heap.objs.size+4,[s1.heap.objs.size+4,s1.heap.objs.size+2,s1.heap.objs.size+3,s1.heap.objs.size,s1.heap.objs.size+1],_,_,H1,rfl,I1.kept (t':=s1.toks) hk,
  vT a1 a2 (s1.heap.objs.size+4) (s1.heap.objs.size+2) (s1.heap.objs.size+3) s1.heap.objs.size (s1.heap.objs.size+1) (ad _ 2 4 (by decide)) (ad _ 3 4 (by decide)) (ad _ 0 4 (by decide)) (ad _ 1 4 (by decide)) (ad _ 2 3 (by decide)) (ad _ 2 0 (by decide)) (ad _ 2 1 (by decide)) (ad _ 3 0 (by decide)) (ad _ 3 1 (by decide)) (ad _ 0 1 (by decide)),⟨hz,hTI,⟨_,_,hTO⟩,h1,h2⟩,fun b hb=>?_,q⟩
 have hb':s1.heap.objs.size<=b:=by
  simp only[Jk,Js,Jt]at hb;rcases hb with rfl|rfl|rfl|rfl|rfl
  ·exact Eu _ 4
  ·exact Eu _ 2
  ·exact Eu _ 3
  ·exact Je _
  ·exact Eu _ 1
 exact I1.fpOk hb' (I1.hok.fresh hb')
end
theorem vL{K:Frag}{js:List Nat}{te:TE}{σ:L2.St}{H:Hp}{Q:VK}{a1 a2:Addr}{xs ys:List V}(hl:xs.length=ys.length)(hn:xs.length<=sizeLine)(Pv:Nat->List V->Hp->Prop)(h0:Pv 0 [] H)
  (hk:∀i zs H,Pv i zs H->Rd H a1 (.tup xs)/\Rd H a2 (.tup ys))
  (hs:∀i zs H p x y,xs[i]? =some x->ys[i]? =some y->zs.length=i->Pv i zs H->H p=none->te (some x::some y::ZQ js σ) (F5 H p (.tup [x,y])) fun v H3=>Pv (i+1) (zs++[v]) H3)
  (hd:∀zs H,zs.length=xs.length->Pv xs.length zs H->∀p,H p=none->Q (.ref p) (F5 H p (.lst zs))):
  j0 2 js (mJ K 2 (fv (Q2 0) (fv (Q2 1) rJ))) te σ Q (Ck a1 a2) H:=by
 refine⟨fun i m zs τ H=>m=xs.length-i/\i<=xs.length/\zs.length=i/\Pv i zs H/\∃o o',τ=o::o'::ZQ js σ,⟨xs.length,by simp,JB _,rfl,h0,none,none,rfl⟩,?_⟩
 rintro i m zs τ H ⟨rfl,hi,hzl,p,o,o',rfl⟩
 obtain⟨e1,e2⟩:=hk i zs H p
 by_cases hlt:i<xs.length
 ·have hlt2:i<ys.length:=by lia
  refine .inr ⟨⟨xs,ys,xs[i],ys[i],e1,e2,by simp [hlt],by simp [hlt2]⟩,by lia,fun v H' y=>?_⟩
  obtain⟨pp,x,y,hp,rfl,hx,hy,rfl⟩:=y;refine⟨pp,_,rfl,Ga.of qb,rfl,_,_,rfl,_,_,rfl,rfl,?_⟩
  exact⟨fun v H3=>Pv (i+1) (zs++[v]) H3,fun v H3 p3=>⟨xs.length-(i+1),by lia,rfl,hlt,by simp [hzl],p3,_,_,rfl⟩,hs i zs _ pp x y (hx xs e1) (hy ys e2) hzl p hp⟩
 ·have e:i=xs.length:=by lia
  subst e;exact .inl ⟨⟨xs,e1,rfl⟩,hd zs H hzl p⟩
end L3
namespace L3
open PySem PySem.Spec PyProof.Rows L2 PySem.SeqAt
open Sem (wp)
open AutoSeq1 (wpAny_loadPart')
section
variable{X:Cx}
theorem Rd.same{H H':Hp}{a:Addr}{u:HO}(s:FZ H H')(h:Rd H a u):Rd H' a u:=by
 rcases h with h|⟨o,h⟩
 ·exact .inl (s _ _ h)
 ·exact .inr ⟨o,s _ _ h⟩
inductive Iy (H:Hp):V->String->Prop where
 |int (i:Int):Iy H (.int i) "int"
 |bl (b:Bool):Iy H (.bl b) "bool"
 |tup {a:Addr} {xs:List V} (h:Rd H a (.tup xs)):Iy H (.ref a) "tuple"
 |str (x:Str):Iy H (.str x) "str"
 |non:Iy H .non "NoneType"
 |lst {a:Addr} {xs:List V} (h:H a=some (.lst xs)):Iy H (.ref a) "list"
theorem nQ{H:Hp}{x:V}{t:String}(h:Iy H x t):t∈fY:=by cases h<;>simp
theorem nY(K:Frag){t:String}(ht:t∈fY):∀cs:List String,(∀c∈cs,c∈fV)->W.kitAny K (.type t) (cs.map Value.type)=some (cs.any (zo t))
 | [],_=>rfl
 |c::r,h=>by
  have e:=iG K t ht c (h c Jz);have ih:=nY K ht r fun d hd=>h d (JG _ hd)
  simp only[JR,W.kitAny,e,J7];cases zo t c with
  |true=>rfl
  |false=>simpa using ih
theorem qG:qT X (.builtin "isinstance") (fun xs H Q=>∃x c t,xs=[x,.ty c]/\Iy H x t/\c∈fV/\Q (.bl (zo t c)) H):=by
 intro tx s σ H xs us Q I r h;obtain⟨x,c,t,rfl,ty,hc,q⟩:=h;obtain⟨u,v,rfl,ru,rv⟩:=ff r
 cases(show v=Value.type c from rv)
 have e:=iG X.K t (nQ ty) c hc;have fin:∀tk,EP X tx σ Q (.bool (zo t c)) {s with toks:=tk}:=fun tk=>⟨.bl _,H,I.tok tk,rfl,q⟩
 cases ty with
 |int i=>obtain⟨t,q⟩:=(show∃t,u=Value.int i t from ru);cases q;exact J5 W.kitx_int I.kIn True.intro e (fun z=>nomatch z) fin
 |bl b=>cases(show u=Value.bool b from ru);exact J5 W.kitx_bool I.kIn True.intro e (fun z=>nomatch z) fin
 | @tup a ys hr=>
  cases(show u=Value.ref a from ru)
  obtain⟨its,_,⟨o,h1,h2,_⟩,_⟩:=I.tuple (.inl hr)
  exact J5 W.kitx_tuple I.kIn ⟨o,h1,h2⟩ e (fun z=>nomatch z) fin
 |str x=>obtain⟨t,q⟩:=(show∃t,u=Value.str x t from ru);cases q;exact J5 W.kitx_str I.kIn True.intro e (fun z=>nomatch z) fin
 |non=>cases(show u=Value.none from ru);exact J5 W.kitx_none I.kIn True.intro e (fun z=>nomatch z) fin
 | @lst a ys ea=>
  cases(show u=Value.ref a from ru)
  obtain⟨_,_,n,_,h1⟩:=(show Gg X.prog X.w H s.heap a (.lst ys)from I.hok a _ ea)
  exact J5 W.kitx_list I.kIn ⟨_,h1,rfl⟩ e (fun z=>nomatch z) fin
theorem kG:∀{cs:List String} {us:List Value},F6 (cs.map V.ty) us->us=cs.map Value.type
 | [],_,.nil=>rfl
 |c::cs,_,.cons r t=>by
  cases(show _=Value.type c from r)
  rw[kG t];rfl
theorem Zk:qT X (.builtin "isinstance") (fun xs H Q=>∃(x:V) (p:Addr) (cs:List String) (t:String),xs=[x,.ref p]/\H p=some (.tup (cs.map V.ty))/\Iy H x t/\(∀c∈cs,c∈fV)/\Q (.bl (cs.any (zo t))) H):=by
 intro tx s σ H xs us Q I r h;obtain⟨x,p,cs,t,rfl,hp,ty,hc,q⟩:=h;obtain⟨u,v,rfl,ru,rv⟩:=ff r
 cases(show v=Value.ref p from rv)
 obtain⟨its,rvs,⟨⟨cl,dd,dt,sl⟩,ho,hcl,n,hdt⟩,_⟩:=I.tuple (Ga.of hp)
 replace hcl:cl= .type "tuple":=hcl
 replace hdt:dt= .seq its.toArray n:=hdt
 subst hcl hdt;have e:=nY X.K (nQ ty) cs hc;rw[<- kG rvs]at e;have fin:∀tk,EP X tx σ Q (.bool (cs.any (zo t))) {s with toks:=tk}:=fun tk=>⟨.bl _,H,I.tok tk,rfl,q⟩
 cases ty with
 |int i=>obtain⟨t,q⟩:=(show∃t,u=Value.int i t from ru);cases q;exact E5 W.kitx_int I.kIn True.intro ho e (fun z=>nomatch z) fin
 |bl b=>cases(show u=Value.bool b from ru);exact E5 W.kitx_bool I.kIn True.intro ho e (fun z=>nomatch z) fin
 | @tup a ys hr=>
  cases(show u=Value.ref a from ru)
  obtain⟨its',_,⟨o,h1,h2,_⟩,_⟩:=I.tuple (.inl hr)
  exact E5 W.kitx_tuple I.kIn ⟨o,h1,h2⟩ ho e (fun z=>nomatch z) fin
 |str x=>obtain⟨t,q⟩:=(show∃t,u=Value.str x t from ru);cases q;exact E5 W.kitx_str I.kIn True.intro ho e (fun z=>nomatch z) fin
 |non=>cases(show u=Value.none from ru);exact E5 W.kitx_none I.kIn True.intro ho e (fun z=>nomatch z) fin
 | @lst a ys ea=>
  cases(show u=Value.ref a from ru)
  obtain⟨_,_,n,_,h1⟩:=(show Gg X.prog X.w H s.heap a (.lst ys)from I.hok a _ ea)
  exact E5 W.kitx_list I.kIn ⟨_,h1,rfl⟩ ho e (fun z=>nomatch z) fin
end
def zC(t:List Int):List Int:=(List.range 16).map fun d=>((t.idxOf ((d:Nat):Int):Nat):Int)
theorem aS(t:List Int):(zC t).length=16:=by simp [zC]
section
variable{t:List Int}(p:t.Perm Gz)
include p
theorem tj:t.Nodup:=p.nodup_iff.mpr (by decide)
theorem nF:t.length=16:=by rw[p.length_eq,kJ]
theorem AN{d:Nat}(h:d<16):((d:Nat):Int)∈t:=p.mem_iff.mpr (JA.mpr ⟨d,J4.mpr h,rfl⟩)
theorem mI{i:Nat}(h:i<t.length):0<=t[i]/\t[i]<16:=kR (p.mem_iff.mp (Er h))
theorem sW{i:Nat}(h:i<t.length):t.idxOf t[i]=i:=(tj p).idxOf_getElem i h
theorem Aq{d:Nat}(h:d<16):(zC t)[d]'(by rw[aS];exact h)=((t.idxOf ((d:Nat):Int):Nat):Int):=by simp [zC]
end
end L3
namespace L3
open PySem PySem.Spec L2
variable{X:Cx}
theorem Qq{sts:List Stmt}:Ir X sts uc:=⟨uZ⟩
theorem vO{a:Expr}{ta:TA}{p pos:Pos}{elts:List Expr}{x1}{tpos:Pos}(hg:Gl X "enumerate")(hm:X.mg "enumerate"=none)(ha:QA X [a] ta)(hs:starEach [a] X.env=[(false,eval a X.env)]:=by rfl):QI X (.Tuple elts x1 tpos) (.Call (.Name "enumerate" p) [a] [] pos) (tT X.K ta):=⟨wC (hg:=hg) (hm:=hm) (ha:=ha.h) (hs:=hs)⟩
theorem Bi{a b:Expr}{ta:TA}{p pos:Pos}{elts:List Expr}{x1}{tpos:Pos}(hg:Gl X "zip")(hm:X.mg "zip"=none)(ha:QA X [a,b] ta)(h1:Qa a=true:=by rfl)(h2:Qa b=true:=by rfl):QI X (.Tuple elts x1 tpos) (.Call (.Name "zip" p) [a,b] [] pos) (B7 ta):=⟨Cc (hg:=hg) (hm:=hm) (ha:=ha.h) (h1:=h1) (h2:=h2)⟩
def GZ(H:Hp)(b:Addr)(c:Nat):Prop:=∃n m k:Int,H b=some (rj n m k)/\0<=m/\m<4611686018427387904/\0<=k/\k<=c
structure HQ(b:Addr)(c:Nat)(H H':Hp):Prop where
 kp:∀a o,a≠b->H a=some o->H' a=some o
 bx:GZ H' b c
theorem GZ.mono{H:Hp}{b:Addr}{c d:Nat}(h:GZ H b c)(l:c<=d):GZ H b d:=by
 obtain⟨n,m,k,e,a1,a2,a3,a4⟩:=h
 exact⟨n,m,k,e,a1,a2,a3,by lia⟩
theorem HQ.mono{b:Addr}{c d:Nat}{H H':Hp}(h:HQ b c H H')(l:c<=d):HQ b d H H':=⟨h.kp,h.bx.mono l⟩
theorem HQ.trans{b:Addr}{c d:Nat}{H H1 H2:Hp}(x:HQ b c H H1)(y:HQ b d H1 H2):HQ b d H H2:=⟨fun c o n e=>y.kp c o n (x.kp c o n e),y.bx⟩
theorem _root_.L2.FZ.grc{b:Addr}{c:Nat}{H H':Hp}(x:FZ H H')(h:GZ H b c):HQ b c H H':=⟨fun c o _ e=>x c o e,let⟨n,m,k,e,r⟩:=h;⟨n,m,k,x _ _ e,r⟩⟩
theorem HQ.same{b:Addr}{c:Nat}{H H1 H2:Hp}(x:HQ b c H H1)(y:FZ H1 H2):HQ b c H H2:=x.trans (y.grc x.bx)
theorem Zm{H:Hp}{b l:Addr}{c:Nat}(hb:GZ H b c)(h:H l=none):l≠b:=fun z=>by
 obtain⟨_,_,_,e,_⟩:=hb;subst z;rw[e]at h;cases h
def sO(K:Frag):Sp:=fun vs H Q _=>∃(a:Addr) (ns:List Int) (k:Nat),vs=[.ref a,.int k]/\F8 K H a (ns.map V.int)/\∀b H',H b=none->FZ H H'->GZ H' b 0->Q (.ref b) H'
def bN:Sp:=fun vs H Q _=>∃(b:Addr) (many:Int) (c:Nat),vs=[.ref b,.int many]/\GZ H b c/\c<1000000000/\0<many/\many<1073741824/\∀r H',0<=r->r<many->HQ b (c+1) H H'->Q (.int r) H'
theorem Qn{H H':Hp}{p:Addr}(h:H' p=none)(s:FZ H H'):H p=none:=by
 cases e:H p with
 |none=>rfl
 |some o=>rw[s _ _ e]at h;cases h
def f8:V->Bool
 | .int _=>true
 |_=>false
theorem Az{H:Hp}{x:V}{t:String}(h:kd H x=some t):f8 x=(zo t "int"&& !zo t "bool"):=by
 cases x with
 |non=>cases h;decide
 |bl b=>cases h;show false=_;decide
 |int i=>cases h;show true=_;decide
 |str x=>cases h;show false=_;decide
 |byt b=>cases h
 |flt b=>cases h
 |ty b=>cases h
 |ref a=>
  rcases gG h with⟨xs,e,rfl⟩|⟨xs,e,rfl⟩
  ·show false=_;decide
  ·show false=_;decide
theorem vZ{x:V}(h:f8 x=true):∃i,x= .int i:=by
 cases x<;>first|exact⟨_,rfl⟩|cases h
theorem tM{x:V}(h:f8 x=false):bY x=false:=by
 cases x<;>first|rfl|cases h
def gj:Sp:=fun vs H Q _=>∃x t,vs=[x]/\kd H x=some t/\Q (.bl (f8 x)) H
theorem FZ.sqt{K:Frag}{H H':Hp}{a:Addr}{xs:List V}(e:FZ H H')(h:Ga K H a xs):Ga K H' a xs:=by
 rcases h with h|h
 ·exact .inl (Rd.same e h)
 ·exact .inr h
def QR(t:List Int)(i:Nat):List Int:=(List.range 16).map fun d=>if((d:Nat):Int)∈t.take i then((t.idxOf ((d:Nat):Int):Nat):Int)else 0
theorem bE(t:List Int)(i:Nat):(QR t i).length=16:=by simp [QR]
theorem vc(t:List Int):QR t 0=List.replicate 16 0:=by simp only[QR,List.take_zero,Js,JD];rfl
theorem uj{t:List Int}{i d:Nat}(h:d<16):(QR t i)[d]'(by rw[bE];exact h)=if((d:Nat):Int)∈t.take i then((t.idxOf ((d:Nat):Int):Nat):Int)else 0:=by simp [QR]
theorem yw{t:List Int}(p:t.Perm Gz):QR t t.length=zC t:=by
 unfold QR zC;refine Fj fun d hd=>?_
 rw[Ee,Jc (AN p (J4.mp hd))]
theorem we{t:List Int}(p:t.Perm Gz){i:Nat}(hi:i<t.length):(QR t i).set t[i].toNat (i:Int)=QR t (i+1):=by
 have b:=mI p hi;refine List.ext_getElem (by rw[E1,bE,bE]) fun d h1 h2=>?_
 have hd:d<16:=by rw[bE]at h2;exact h2
 rw[List.getElem_set,uj hd,uj hd,D4,Jj hi,Option.toList_some]
 by_cases e:t[i].toNat=d
 ·have e':((d:Nat):Int)=t[i]:=by lia
  rw[Jc e,Jc (by rw[e'];exact J1 _ (Jl.mpr rfl)),e',sW p hi]
 ·have e':((d:Nat):Int)≠t[i]:=by lia
  rw[Jb e];simp only[JW,Jl,e',Jt]
def rX(K:Frag):Sp:=fun vs H Q _=>∃(a:Addr) (t:List Int),vs=[.ref a]/\(F8 K H a (t.map V.int)\/Ga K H a (t.map V.int))/\t.Perm Gz/\∀p H',FZ H H'->H' p=some (.tup ((zC t).map V.int))->Q (.ref p) H'
theorem iA{X:Cx}{K:Frag}(hK:X.K=K){pos:Pos}{es:List Expr}{k:Nat}{t:a9}(n:Nat)(hc:X.calm=true)(h:IP X es t)(hn:(assignEach es X.env).length=n:=by rfl)(hst:(assignEach es X.env).findIdx? (·.1)=none:=by rfl):QG X (.Tuple es k pos) (mJ K n t):=by
 subst hK
 exact⟨km (hc:=hc) (h:=h.h) (hn:=hn) (hst:=hst)⟩
end L3
namespace L3
open PySem PySem.Spec PyProof.Rows L2
open Sem (wp)
namespace RV
theorem uS:Slot "reversed" "__init__" "object.__init__":=
  .of (owner := "object") (n := "__init__") (by rw[E6,E7]
                                                kernel_rfl) (by decide +kernel) (by decide +kernel) (by decide +kernel)
    (by first | exact .inl (by decide +kernel) | exact .inr (by decide +kernel)) (by rw[EH]
                                                                                     kernel_rfl)
theorem called:TypeCalled "reversed" "reversed.__new__" "object.__init__":=
 ⟨by decide +kernel,by decide +kernel,⟨_,_,F.mro_reversed⟩,F.made_reversed,by decide +kernel,F.sub_reversed_self,uS⟩
theorem slot_next:Slot "reversed" "__next__" "reversed.__next__":=
  .of (owner := "reversed") (n := "__next__") (by rw[E6,E7]
                                                  kernel_rfl) (by decide +kernel) (by decide +kernel) (by decide +kernel)
    (by first | exact .inl (by decide +kernel) | exact .inr (by decide +kernel)) (by rw[EH]
                                                                                     kernel_rfl)
theorem entry_next:entryFor table "reversed.__next__"=some Builtin.«reversed.__next__»:=entryFor_of_tree (by kernel_rfl)
theorem jr:Manifest.owners.lookup (String.ofList ['d', 'e', 's', 'r', 'e', 'v', 'e', 'r'].reverse)=some Manifest.sig_reversed:=by kernel_rfl
theorem args_next(a:Value):argsOk "reversed.__next__" ⟨[a],[]⟩:=by
 unfold argsOk;rw[signature?_of (id:="reversed.__next__") (n:=['_', '_', 't', 'x', 'e', 'n', '_', '_']) (o:=['d', 'e', 's', 'r', 'e', 'v', 'e', 'r']) (by kernel_rfl) jr]
 kernel_rfl
theorem slot_iter:Slot "reversed" "__iter__" "reversed.__iter__":=
  .of (owner := "reversed") (n := "__iter__") (by rw[E6,E7]
                                                  kernel_rfl) (by decide +kernel) (by decide +kernel) (by decide +kernel)
    (by first | exact .inl (by decide +kernel) | exact .inr (by decide +kernel)) (by rw[EH]
                                                                                     kernel_rfl)
theorem args_iter(a:Value):argsOk "reversed.__iter__" ⟨[a],[]⟩:=by
 unfold argsOk;rw[signature?_of (id:="reversed.__iter__") (n:=['_', '_', 'r', 'e', 't', 'i', '_', '_']) (o:=['d', 'e', 's', 'r', 'e', 'v', 'e', 'r']) (by kernel_rfl) jr]
 kernel_rfl
theorem entry_iter:entryFor table "reversed.__iter__"=some Builtin.«dict_keyiterator.__iter__»:=
  entryFor_alias (id':="dict_keyiterator.__iter__") (by kernel_rfl)
    (by first | rfl | decide +kernel | (unfold String.splitOn
                                        simp +decide [String.splitOnAux])) (by decide +kernel) (by kernel_rfl)
theorem no_tuple:typeLookup (.type "tuple") "__reversed__"=pure none:=by
 rw[E6,E7]
 kernel_rfl
theorem tup_dict:isSubtype (.type "tuple") (.type "dict")=pure false:=by
 rw[EH]
 kernel_rfl
theorem ri_rev:isSubtype (.type "range_iterator") (.type "reversed")=pure false:=by
 rw[EH]
 kernel_rfl
theorem tc1(a:Value):checkTypeCall "reversed" ⟨[a],[]⟩=pure ():=by kernel_rfl
end RV
def Ho(h:Heap)(it t:Addr)(i:Int):Prop:=∃o,h.get? it=some o/\o.cls= .type "reversed"/\o.data= .fields #[.ref t,rawInt i]
theorem pf(l:Addr)(items:Array Value)(hz:items.size<=sizeLine):
  Meets (Builtin.«reversed.__new__» ⟨[.type "reversed",.ref l],[]⟩) (fun A R s=>s.heap.IsTuple l items/\
   R (.ok (.ret (.ref s.heap.objs.size))) {s with heap:=s.heap.push {cls:= .type "reversed",data:= .fields #[.ref l,rawInt ((items.size:Int)-1)]},toks:=s.toks+2}):=
 .of_wp fun prog w A R s h=>by
  obtain⟨hp,g,d,tk,os⟩:=s;obtain⟨hl,h⟩:=h
  have hsub:=F.sub_reversed_self;have hT:Shared.TypeIs ⟨hp,g,d,tk,os⟩ (.ref l) "tuple":=let⟨o,e,c,_⟩:=hl;⟨o,e,c⟩
  have hL:Heap.IsTuple (Shared.heap ⟨hp,g,d,tk,os⟩) l items:=hl
  have hd:=RV.tup_dict;have hI:IsTup (Shared.heap ⟨hp,g,d,tk,os⟩) l items:=hl
  have hn:=ZS
  wp_walk using ER hT RV.no_tuple,D3 hd,ER hT F.slot_tuple_getitem.lookup,len_tuple hI (by omega)
  exact⟨_,rfl,h⟩
end L3
namespace L3
open PySem PySem.Spec PyProof.Rows L2
open Sem (wp)
abbrev xv(a b c:Int):Bool:=Builtin.Range.rangeFitsLong a&&Builtin.Range.rangeFitsLong b&&Builtin.Range.rangeFitsLong c&&Builtin.Range.rangeFitsLong (-c)&&Builtin.Range.rangeFitsLong (a-c)&&Builtin.Range.rangeFitsLong (Builtin.Range.rangeSize a b c)
theorem mX(r:Addr)(a b c:Int)(t u v:Tok)(hc0:¬(!xv a b c)=true):
  Meets (Builtin.«range.__reversed__» ⟨[.ref r],[]⟩) (fun _ R s=>s.heap.get? r=some {cls:= .type "range",dict:=none,data:= .fields #[.int a t,.int b u,.int c v],slots:= #[]}/\
   R (.ok (.ret (.ref s.heap.objs.size))) {s with heap:=s.heap.push {cls:= .type (if xv a b c then "range_iterator" else "longrange_iterator"),data:= .fields #[rawInt (a+(Builtin.Range.rangeSize a b c-1)*c),rawInt (Builtin.Range.rangeSize a b c),rawInt (-c)]}}):=
 .of_wp fun prog w A R s h=>by obtain⟨hp,g,d,tk,os⟩:=s;obtain⟨hl,h⟩:=h;wp_walk;exact⟨_,rfl,h⟩
theorem sY(n:Nat):Builtin.Range.rangeSize 0 n 1=n:=by
 unfold Builtin.Range.rangeSize;rw[Jc (by decide)]
 split<;>lia
theorem uJ{n:Nat}(hn:(n:Int)<2 ^ 62):xv 0 n 1=true:=by
 unfold xv;rw[sY];simp only[Builtin.Range.rangeFitsLong,Jx,decide_eq_true_eq];lia
theorem rg(r:Addr)(n:Nat)(t u v:Tok)(hn:(n:Int)<2 ^ 62):
  Meets (Builtin.«range.__reversed__» ⟨[.ref r],[]⟩) (fun _ R s=>s.heap.get? r=some {cls:= .type "range",data:= .fields #[.int 0 t,.int n u,.int 1 v]}/\
   R (.ok (.ret (.ref s.heap.objs.size))) {s with heap:=s.heap.push {cls:= .type "range_iterator",data:= .fields #[rawInt ((n:Int)-1),rawInt n,rawInt (-1)]}}):=by
 have g:=mX r 0 n 1 t u v (by rw[uJ hn];decide)
 rw[uJ hn,sY,Jc rfl,Int.mul_one,Int.zero_add]at g;exact g
section
variable{prog:Program}{w:World}{A:Around}{E:FW}{s:Shared}
theorem Ho.typeIs{it t:Addr}{i:Int}(x:Ho s.heap it t i):s.TypeIs (.ref it) "reversed":=by
 obtain⟨o,ho,hc,_⟩:=x
 exact⟨o,ho,hc⟩
theorem mR{it t:Addr}{i:Nat}{items:Array Value}{x:Value}{Q:Option Value->Shared->Prop}(hit:Ho s.heap it t (i:Int))(hl:IsTup s.heap t items)(hx:items[i]? =some x)(hz:items.size<=sizeLine)
  (hQ:∀h' tk,Ho h' it t ((i:Int)-1)->Heap.SameBut it s.heap h'->Q (some x) {s with heap:=h',toks:=tk}):wpAny (model prog w) A (pyNext (.ref it)) Q E s:=by
 obtain⟨o,ho,hc,hd⟩:=id hit;have hT:s.TypeIs (.ref t) "tuple":=let⟨o,e,c,_⟩:=hl;⟨o,e,c⟩
 have hn:=ZS;have hlt:i<items.size:=(Array.getElem?_eq_some_iff.mp hx).1
 unfold pyNext;refine Ja (Ed (wpAny_callSpecial?_slot (name:=Str.ofString "__next__") (Ho.typeIs hit) RV.slot_next
  (JT RV.slot_next (Ho.typeIs hit) RV.entry_next ?_ (RV.args_next _))))
 unfold Builtin.«reversed.__next__»
 refine Ja (D3 (a:=(Value.ref it,[])) rfl ?_)
 try dsimp only
 refine Ja (JS ho hd (x:= .ref t) rfl ?_)
 refine Ja (JS ho hd (x:=rawInt (i:Int)) rfl ?_)
 show wpAny _ _ (if(i:Int)<0 then _ else _) _ _ s
 rw[Jb (by lia)]
 try dsimp only
 refine Ja (ER hT F.slot_tuple_getitem.lookup ?_)
 rw[Jb (show¬((some (Value.builtin "tuple.__getitem__")).isNone=true)from JQ)]
 refine Ja (wpAny_mkInt ?_)
 have hI:IsTup (Shared.heap {s with toks:=s.toks+1}) t items:=hl
 refine Ja (Ed (getItem_tuple hI (by lia) (by lia) (by unfold seqIndex?;rw[Jb (show¬((i:Int)<0) by lia)];simp [hlt]) hx ?_))
 try dsimp only
 refine Ja (JS (s:={s with toks:=s.toks+1}) ho hd (x:=rawInt (i:Int)) rfl ?_)
 show wpAny _ _ (setField (.ref it) 1 (rawInt ((i:Int)-1)) >>= _) _ _ _
 refine Ja (D9 (s:={s with toks:=s.toks+1}) ho hd (by simp) ?_)
 refine Jd ⟨x,rfl,Jd (hQ _ _ ?_ (J6 ..))⟩
 exact⟨_,EE _ ho (Fy (EO hd _)),(Obj.cls_mapFields ..).trans hc,by
  rw[EO hd];simp⟩
theorem pR{it t:Addr}{Q:Option Value->Shared->Prop}(hh:A.handled=none)(hit:Ho s.heap it t (-1))
  (hQ:∀h',Heap.ExtBut it s.heap h'->Q none {s with heap:=h'}):wpAny (model prog w) A (pyNext (.ref it)) Q E s:=by
 obtain⟨o,ho,hc,hd⟩:=id hit;unfold pyNext;refine Ja (Ed (wpAny_callSpecial?_slot (name:=Str.ofString "__next__") (Ho.typeIs hit) RV.slot_next
  (JT RV.slot_next (Ho.typeIs hit) RV.entry_next ?_ (RV.args_next _))))
 unfold Builtin.«reversed.__next__»
 refine Ja (D3 (a:=(Value.ref it,[])) rfl ?_)
 try dsimp only
 refine Ja (JS ho hd (x:= .ref t) rfl ?_)
 refine Ja (JS ho hd (x:=rawInt (-1)) rfl ?_)
 show wpAny _ _ (if(-1:Int)<0 then _ else _) _ _ s
 rw[Jc (by decide)]
 refine Ja (DV ?_)
 refine Ja ?_
 show wpAny _ _ (setField (.ref it) 1 (rawInt (-1)) >>= _) _ _ _
 refine Ja (D9 ho hd (by simp) ?_)
 have hg1:=EE (Obj.mapFields (·.setIfInBounds 1 (rawInt (-1)))) ho (Fy (EO hd _))
 refine D9 hg1 (EO hd _) (by simp) ?_
 refine Ja ?_
 show wpAny _ _ (newExc (.type "StopIteration") [] >>= _) _ _ _
 refine Ja ?_
 simp only[newExc,newTuple];refine Ja (DS ?_ (by size_fits))
 refine Ja (m:=firstArgMember _ _) (D3 (a:=Value.none) (by first|rfl|(simp only[firstArgMember];rfl)) ?_)
 refine DS ?_ (by size_fits)
 simp only[raiseNew];refine Ja (wpAny_handled ?_)
 first|rw[show A.in1.handled=none from hh]|rw[hh]
 refine Ja (Jd (wpAny_throw ?_))
 refine Ja (Et (T:="StopIteration") (b:=true) ⟨_,Jo _ rfl,rfl⟩ Fh ?_)
 exact Jd (hQ _ (((((J6 ..).trans (J6 ..)).extBut).push _).push _))
theorem uN{it t:Addr}{i:Int}{Q:FW}(hit:Ho s.heap it t i)(h:Q (.ref it) s):wpAny (model prog w) A (pyIter (.ref it)) Q E s:=by
 refine wpAny_pyIter_slot (Ho.typeIs hit) RV.slot_iter (JT RV.slot_iter (Ho.typeIs hit) RV.entry_iter ?_ (RV.args_iter _))
 show wpAny _ _ (ret (.ref it)) _ _ s
 exact Jd ⟨_,rfl,"reversed",_,Ho.typeIs hit,RV.slot_next.lookup,h⟩
theorem Cr{l:Addr}{items:Array Value}{Q:FW}(hl:s.heap.IsTuple l items)(hz:items.size<=sizeLine)
  (h:∀h' tk,Ho h' s.heap.objs.size l ((items.size:Int)-1)->(∀b o,s.heap.get? b=some o->h'.get? b=some o)->Q (.ref s.heap.objs.size) {s with heap:=h',toks:=tk}):
  wpAny (model prog w) A (call (.type "reversed") [.ref l]) Q E s:=by
 refine callType_new RV.called (by decide) (RV.tc1 _) (F.newCall_reversed_1 _) (fun obj=>F.args_object_init_2 obj _) F.entry_reversed_new (pf l items hz) ⟨hl,?_⟩
 exact⟨⟨_,Jo _ rfl,rfl⟩,h _ _ ⟨_,Jo _ rfl,rfl,rfl⟩ fun b o e=>Ji _ e⟩
theorem Cj{r:Addr}{n:Nat}{t u v:Tok}{Q:FW}(hr:s.heap.get? r=some {cls:= .type "range",data:= .fields #[.int 0 t,.int n u,.int 1 v]})(hn:(n:Int)<2 ^ 62)
    (h:∀h',IsRangeIter h' s.heap.objs.size ((n:Int)-1) n (-1)->(∀b o,s.heap.get? b=some o->h'.get? b=some o)->Q (.ref s.heap.objs.size) {s with heap:=h'}):
    wpAny (model prog w) A (call (.type "reversed") [.ref r]) Q E s:=by
  have hT:s.TypeIs (.ref r) "range":=⟨_,hr,rfl⟩
  refine callType_other (U:="range_iterator") (Q₁:=fun obj s₁=>obj= .ref s.heap.objs.size/\∃h',s₁={s with heap:=h'}/\IsRangeIter h' s.heap.objs.size ((n:Int)-1) n (-1)/\∀b o,s.heap.get? b=some o->h'.get? b=some o) (by decide +kernel) F.create_reversed ⟨_,_,F.mro_reversed⟩ F.made_reversed RV.ri_rev (RV.tc1 _) ?_ ?_
  · refine codeAny_of_tree ?_
    show wpAny _ A.in1.in1 (do checkBuiltinCall "reversed.__new__" ⟨[.type "reversed",.ref r],[]⟩;again (.builtin "reversed.__new__" ⟨[.type "reversed",.ref r],[]⟩)) _ _ s
    refine Ja (D3 (F.newCall_reversed_1 _) (Jd ⟨plainId_quiet F.plain_reversed_new _,Ew F.entry_reversed_new ?_⟩))
    rw[Around.under_plainId F.plain_reversed_new _];unfold Builtin.«reversed.__new__»
    refine Ja (D3 (newClass_reversed _) ?_)
    try dsimp only
    refine Ja (D3 (a:=()) (by first|rfl|kernel_rfl) ?_)
    refine Ja (D3 (a:=()) (by first|rfl|kernel_rfl) ?_)
    try dsimp only
    refine Ja (ER hT F.slot_range_reversed.lookup ?_)
    try dsimp only
    refine Ja (D3 (F.slot_range_reversed.bind _) ?_)
    try dsimp only
    first
    |rw[Jb (show¬((Value.builtin "range.__reversed__"==Value.none)=true)from JQ)]
    | (show wpAny _ _ (if(Value.builtin "range.__reversed__"==Value.none)=true then _ else _) _ _ _
       rw[Jb (show¬((Value.builtin "range.__reversed__"==Value.none)=true)from JQ)])
    refine Ja (DV ?_)
    refine Ja (m:=runValue (.call (.builtin "range.__reversed__") ⟨[.ref r],[]⟩)) (show wpAny _ _ (call (.builtin "range.__reversed__") [.ref r]) _ _ _ from
      E3 F.slot_range_reversed hT F.entry_range_reversed (F.args_range_reversed_1 _) (rg r n t u v hn) ⟨hr,?_⟩)
    first
    |exact Jd ⟨rfl,_,rfl,Jo _ rfl,fun b o e=>Ji _ e⟩
    |exact Ja (Jd (Jd ⟨rfl,_,rfl,Jo _ rfl,fun b o e=>Ji _ e⟩))
  · rintro obj s₁ ⟨rfl,h',rfl,hi,hk⟩
    exact⟨⟨_,hi,rfl⟩,h h' hi hk⟩
end
def rG(K:Frag)(a:Addr)(n:Nat):It:=
 ⟨fun i H=>i<n/\∃xs,F8 K H a xs/\xs.length=n,fun i H x H'=>H'=H/\∀xs,F8 K H a xs->xs[n-1-i]? =some x,fun i _=>n<=i⟩
def pA(K:Frag)(a:Addr)(n:Nat):It:=
 ⟨fun i H=>i<n/\∃xs,Ga K H a xs/\xs.length=n,fun i H x H'=>H'=H/\∀xs,Ga K H a xs->xs[n-1-i]? =some x,fun i _=>n<=i⟩
def pP(n:Nat):It:=⟨fun i _=>i<n,fun i H x H'=>H'=H/\x= .int ((n:Int)-1-i),fun i _=>n<=i⟩
theorem pv{P:Program}{w:World}{K:Frag}{tg:Expr}(a it:Addr)(n:Nat):HI P w K tg (rG K a n) [it] it (fun i h=>i<=n/\h.IsRevIter it a ((n:Int)-1-i)) where
 mem:=by simp
 obj:=fun i h st b hb=>by
  have e:b=it:=by simpa using hb
  subst e;obtain⟨_,o,e,c,d⟩:=st
  exact⟨o,e,fun v z=>by rw[d]at z;cases z⟩
 keep:=fun i h h' st k=>⟨st.1,st.2.at fun o e=>k it (by simp) o e⟩
 item:=by
  intro X hP hw hK hc i tx s σ H E I hf st hg;subst hP hw hK;obtain⟨hi,xs,hq,hn⟩:=hg;obtain⟨its,rv,p,hz⟩:=I.list hq;have hlt:n-1-i<xs.length:=by lia
  obtain⟨u,hu,ru⟩:=rv.get (Jj hlt)
  obtain⟨f0,f1,f2,f3,f4,f5⟩:=hf it (by simp)
  have e1:(n:Int)-1-i=((n-1-i:Nat):Int):=by lia
  have st2:=st.2;rw[e1]at st2;refine wpAny_pyNext_rev_item st2 p.isList (x:=u) (by simpa using hu) fun h' st' sb=>?_
  have I1:L2.F3 X tx σ H {s with heap:=h'}:=I.turned (t':=s.toks) (fun b o hb e=>(sb.2 b hb).trans e) f0 f1 f3 f4 f5
  obtain⟨o,e,c,d⟩:=id st';refine⟨u,rfl,bX (s:={s with heap:=h'}) e c d (by decide) ⟨_,H,I1,ru,⟨rfl,fun ys hy=>by rw[I.list_inj hy hq];exact Jj hlt⟩,⟨by lia,?_⟩,fun b hb=>(hf b hb).1⟩⟩
  have e2:((n-1-i:Nat):Int)-1=(n:Int)-1-((i+1:Nat):Int):=by lia
  rw[<- e2];exact st'
 done:=by
  intro X hP hw hK hc i tx s σ H E I hf st hg;subst hP hw hK;obtain⟨f0,f1,f2,f3,f4,f5⟩:=hf it (by simp)
  have hi:i=n:=Nat.le_antisymm st.1 hg
  have st2:=st.2;rw[show(n:Int)-1-i= -1 by lia]at st2
  exact wpAny_pyNext_rev_end (I.ok.hd hc) st2 fun h' eb=>⟨rfl,I.turned (t':=s.toks) (fun b o hb e=>eb b o hb e) f0 f1 f3 f4 f5⟩
 self:=fun _ _ _ _ _ st h=>wpAny_pyIter_revIter st.2 h
theorem tU{P:Program}{w:World}{K:Frag}{tg:Expr}(a it:Addr)(n:Nat):HI P w K tg (pA K a n) [it] it (fun i h=>i<=n/\Ho h it a ((n:Int)-1-i)) where
 mem:=by simp
 obj:=fun i h st b hb=>by
  have e:b=it:=by simpa using hb
  subst e;obtain⟨_,o,e,c,d⟩:=st
  exact⟨o,e,fun v z=>by rw[d]at z;cases z⟩
 keep:=fun i h h' st k=>⟨st.1,let⟨o,e,r⟩:=st.2;⟨o,k it (by simp) o e,r⟩⟩
 item:=by
  intro X hP hw hK hc i tx s σ H E I hf st hg;subst hP hw hK;obtain⟨hi,xs,hq,hn⟩:=hg;obtain⟨its,rv,p,hz⟩:=I.tuple hq;have hlen:=rv.length;have hlt:n-1-i<xs.length:=by lia
  obtain⟨u,hu,ru⟩:=rv.get (Jj hlt)
  obtain⟨f0,f1,f2,f3,f4,f5⟩:=hf it (by simp)
  have e1:(n:Int)-1-i=((n-1-i:Nat):Int):=by lia
  have st2:=st.2;rw[e1]at st2;refine mR st2 p (x:=u) (by simpa using hu) (by simp;lia) fun h' tk st' sb=>?_
  have I1:L2.F3 X tx σ H {s with heap:=h',toks:=tk}:=I.turned (t':=tk) (fun b o hb e=>(sb.2 b hb).trans e) f0 f1 f3 f4 f5
  obtain⟨o,e,c,d⟩:=id st';refine⟨u,rfl,bX (s:={s with heap:=h',toks:=tk}) e c d (by decide) ⟨_,H,I1,ru,⟨rfl,fun ys hy=>by rw[I.tuple_inj hy hq];exact Jj hlt⟩,⟨by lia,?_⟩,fun b hb=>(hf b hb).1⟩⟩
  have e2:((n-1-i:Nat):Int)-1=(n:Int)-1-((i+1:Nat):Int):=by lia
  rw[<- e2];exact st'
 done:=by
  intro X hP hw hK hc i tx s σ H E I hf st hg;subst hP hw hK;obtain⟨f0,f1,f2,f3,f4,f5⟩:=hf it (by simp)
  have hi:i=n:=Nat.le_antisymm st.1 hg
  have st2:=st.2;rw[show(n:Int)-1-i= -1 by lia]at st2
  exact pR (I.ok.hd hc) st2 fun h' eb=>⟨rfl,I.turned (t':=s.toks) (fun b o hb e=>eb b o hb e) f0 f1 f3 f4 f5⟩
 self:=fun _ _ _ _ _ st h=>uN st.2 h
theorem tm{P:Program}{w:World}{K:Frag}{tg:Expr}(it:Addr)(n:Nat):HI P w K tg (pP n) [it] it (fun i h=>IsRangeIter h it ((n:Int)-1+(i:Nat)*(-1)) ((n:Int)-(i:Nat)) (-1)) where
 mem:=by simp
 obj:=fun i h st b hb=>by
  have e:b=it:=by simpa using hb
  subst e
  exact⟨_,st,fun v z=>by
   have z':Data.fields _=Data.cell v:=z
   cases z'⟩
 keep:=fun i h h' st k=>k it (by simp) _ st
 item:=by
  intro X hP hw hK hc i tx s σ H E I hf st hg;subst hP hw hK;obtain⟨f0,f1,f2,f3,f4,f5⟩:=hf it (by simp)
  have W:=Walks.range (prog:=X.prog) (w:=X.w) (I.ok.hd hc) it ((n:Int)-1) (-1) n
  refine W.item i s _ _ hg st fun v h' tk hv st' kk=>?_
  obtain⟨t,rfl⟩:=hv;have I1:L2.F3 X tx σ H {s with heap:=h',toks:=tk}:=I.turned (fun b o hb e=>kk b o (by simpa using hb) e) f0 f1 f3 f4 f5
  refine⟨_,rfl,bX (s:={s with heap:=h',toks:=tk}) (n:="range_iterator") st' rfl rfl (by decide) ⟨.int ((n:Int)-1-i),H,I1,⟨t,?_⟩,⟨rfl,rfl⟩,st',fun b hb=>(hf b hb).1⟩⟩
  rw[show(n:Int)-1+(i:Nat)*(-1)=(n:Int)-1-i by lia]
 done:=by
  intro X hP hw hK hc i tx s σ H E I hf st hg;subst hP hw hK;obtain⟨f0,f1,f2,f3,f4,f5⟩:=hf it (by simp)
  exact wpAny_pyNext_range_end (I.ok.hd hc) st (by have:n<=i:=hg;lia) fun h' eb=>⟨rfl,I.turned (t':=s.toks) (fun b o hb e=>eb b o hb e) f0 f1 f3 f4 f5⟩
 self:=fun _ _ _ _ _ st h=>FF st h
section
variable{X:Cx}{tg:Expr}
theorem vi:bootBuiltins "reversed"=some (.type "reversed"):=by kernel_rfl
def BM(K:Frag)(ta:TA):TI:=fun σ H R=>ta σ H fun vs H1=>∃a,vs=[.ref a]/\((∃xs,F8 K H1 a xs/\R (rG K a xs.length) H1)\/(∃xs,Ga K H1 a xs/\R (pA K a xs.length) H1)\/∃n:Nat,H1 a=some (.rng 0 n)/\(n:Int)<2 ^ 62/\R (pP n) H1)
theorem AW{a:Expr}{ta:TA}{p pos:Pos}(hg:Gl X "reversed")(hm:X.mg "reversed"=none)(ha:PA X [a] ta)(hn:Qa a=true:=by rfl):
  PI X tg (.Call (.Name "reversed" p) [a] [] pos) (BM X.K ta):=by
 intro tx s σ H R I h;refine Call_ (Q1 I hg hm vi (ED (qz (ha pos tx s σ H _ I h) fun us s1 zq=>?_) (Zf hn) rfl))
 obtain⟨vs,H1,I1,r1,q1⟩:=zq;obtain⟨l,e,q1⟩:=q1;subst e;obtain⟨u,rfl,ru⟩:=r1.one;cases ru;have fpk:∀b∈[s1.heap.objs.size],Zs X tx H1 b:=fun b hb=>by
  rw[Jl.mp hb];exact I1.fpOk (Je _) (I1.hok.fresh (Je _))
 rcases q1 with⟨xs,hq,q⟩|⟨xs,hq,q⟩|⟨n,hq,hn62,q⟩
 ·obtain⟨its,rv,pl,hz⟩:=I1.list hq
  have hlen:=rv.length;refine call_reversed_list pl.isList ?_
  have hi:(s1.heap.push (revObj l ((its.toArray.size:Int)-1))).IsRevIter s1.heap.objs.size l ((its.toArray.size:Int)-1):=⟨_,Jo _ rfl,rfl,rfl⟩
  refine wpAny_pyIter_revIter hi ?_
  refine⟨s1.heap.objs.size,[s1.heap.objs.size],_,_,H1,rfl,I1.kept (t':=s1.toks) fun b o e=>Ji _ e,pv l _ xs.length,⟨JB _,?_⟩,fpk,q⟩
  rw[show(xs.length:Int)-1-((0:Nat):Int)=(its.toArray.size:Int)-1 by simp [hlen]]
  exact hi
 ·obtain⟨its,rv,pl,hz⟩:=I1.tuple hq
  have hlen:=rv.length;refine Cr (show s1.heap.IsTuple l its.toArray from pl) (by simp;lia) fun h' tk hi hk=>uN hi ?_
  refine⟨s1.heap.objs.size,[s1.heap.objs.size],_,_,H1,rfl,I1.kept (t':=tk) hk,tU l _ xs.length,⟨JB _,?_⟩,fpk,q⟩
  rw[show(xs.length:Int)-1-((0:Nat):Int)=(its.toArray.size:Int)-1 by simp [hlen]]
  exact hi
 ·obtain⟨t,u,v,hr⟩:=I1.hok l _ hq
  refine Cj hr hn62 fun h' hi hk=>FF hi ?_
  refine⟨s1.heap.objs.size,[s1.heap.objs.size],_,_,H1,rfl,I1.kept (t':=s1.toks) hk,tm _ n,?_,fpk,q⟩
  show IsRangeIter _ _ _ _ _
  rw[show(n:Int)-1+((0:Nat):Int)*(-1)=(n:Int)-1 by lia,show(n:Int)-((0:Nat):Int)=n by lia]
  exact hi
def BC(K:Frag)(tl:TE):TI:=fun σ H R=>tl σ H fun x H1=>∃a,x= .ref a/\((∃xs,F8 K H1 a xs)/\R (i3 K a) H1\/(∃xs,Ga K H1 a xs)/\R (jo K a) H1)
theorem Ba{l:Expr}{tl:TE}(hl:PE X l tl):PI X tg l (BC X.K tl):=by
 intro tx s σ H R I h;refine qz (hl tx s σ H _ I h) fun v s1 zq=>?_
 obtain⟨x,H1,I1,r1,q1⟩:=zq;obtain⟨a,e,q1⟩:=q1;subst e;cases r1;have fpk:∀b∈[s1.heap.objs.size],Zs X tx H1 b:=fun b hb=>by
  rw[Jl.mp hb];exact I1.fpOk (Je _) (I1.hok.fresh (Je _))
 rcases q1 with⟨⟨xs,hq⟩,q⟩|⟨⟨xs,hq⟩,q⟩
 ·obtain⟨its,rv,p,hz⟩:=I1.list hq
  refine EX p.isList ?_
  exact⟨s1.heap.objs.size,[s1.heap.objs.size],_,_,H1,rfl,I1.kept (t':=s1.toks) fun b o e=>Ji _ e,jm a _,⟨_,Jo _ rfl,rfl,rfl⟩,fpk,q⟩
 ·obtain⟨its,rv,p,hz⟩:=I1.tuple hq
  refine EC (show s1.heap.IsTuple a its.toArray from p) ?_
  exact⟨s1.heap.objs.size,[s1.heap.objs.size],_,_,H1,rfl,I1.kept (t':=s1.toks) fun b o e=>Ji _ e,gL a _,⟨_,Jo _ rfl,rfl,rfl⟩,fpk,q⟩
end
section
variable{K:Frag}{a:Addr}{xs:List V}{g:TG}{tb:TS}{D:GX}{σ:L2.St}{H:Hp}
abbrev ZO(J:It)(g:TG)(tb:TS)(D:GX)(σ:L2.St)(H:Hp):Prop:=∃W:Nat->Nat->L2.St->Hp->Prop,(∃m,W 0 m σ H)/\∀i m σ H,W i m σ H->
      (J.stop i H/\D.nx σ H)\/(J.go i H/\∃N:L2.St->Hp->Prop,(∀σ' H',N σ' H'->∃m',m'<m/\W (i+1) m' σ' H')/\∀x H',J.yld i H x H'->g x σ H' fun σ2 H2=>tb {D with nx:=N,ct:=N,bk:=D.nx} σ2 H2)
theorem eU{J:It}{n:Nat}(Pv:Nat->L2.St->Hp->Prop)(h0:Pv 0 σ H)(hgo:∀i σ H,i<n->Pv i σ H->J.go i H)(hst:∀H,J.stop n H)
  (hs:∀i x σ H H',i<n->Pv i σ H->J.yld i H x H'->g x σ H' fun σ2 H2=>tb {D with nx:=Pv (i+1),ct:=Pv (i+1),bk:=D.nx} σ2 H2)(hd:∀σ H,Pv n σ H->D.nx σ H):ZO J g tb D σ H:=by
 refine⟨fun i m σ H=>m=n-i/\i<=n/\Pv i σ H,⟨n,by simp,JB _,h0⟩,?_⟩
 rintro i m σ H ⟨rfl,hi,p⟩
 by_cases hlt:i<n
 ·exact .inr ⟨hgo i σ H hlt p,Pv (i+1),fun σ' H' p'=>⟨n-(i+1),by lia,rfl,hlt,p'⟩,fun x H' y=>hs i x σ H H' hlt p y⟩
 ·have e:i=n:=by lia
  subst e;exact .inl ⟨hst H,hd σ H p⟩
theorem wo(Pv:Nat->L2.St->Hp->Prop)(h0:Pv 0 σ H)(hl:∀i σ H,Pv i σ H->F8 K H a xs)
  (hs:∀i x σ H,i<xs.length->xs[xs.length-1-i]? =some x->Pv i σ H->g x σ H fun σ2 H2=>tb {D with nx:=Pv (i+1),ct:=Pv (i+1),bk:=D.nx} σ2 H2)(hd:∀σ H,Pv xs.length σ H->D.nx σ H):ZO (rG K a xs.length) g tb D σ H:=
 eU Pv h0 (fun i σ H hi p=>⟨hi,xs,hl i σ H p,rfl⟩) (fun _=>Je _) (fun i x σ H H' hi p y=>by
  obtain⟨rfl,y⟩:=y;exact hs i x σ H' hi (y xs (hl i σ H' p)) p) hd
theorem wg(Pv:Nat->L2.St->Hp->Prop)(h0:Pv 0 σ H)(hl:∀i σ H,Pv i σ H->Ga K H a xs)
  (hs:∀i x σ H,i<xs.length->xs[xs.length-1-i]? =some x->Pv i σ H->g x σ H fun σ2 H2=>tb {D with nx:=Pv (i+1),ct:=Pv (i+1),bk:=D.nx} σ2 H2)(hd:∀σ H,Pv xs.length σ H->D.nx σ H):ZO (pA K a xs.length) g tb D σ H:=
 eU Pv h0 (fun i σ H hi p=>⟨hi,xs,hl i σ H p,rfl⟩) (fun _=>Je _) (fun i x σ H H' hi p y=>by
  obtain⟨rfl,y⟩:=y;exact hs i x σ H' hi (y xs (hl i σ H' p)) p) hd
theorem wJ{n:Nat}(Pv:Nat->L2.St->Hp->Prop)(h0:Pv 0 σ H)
  (hs:∀i σ H,i<n->Pv i σ H->g (.int ((n:Int)-1-i)) σ H fun σ2 H2=>tb {D with nx:=Pv (i+1),ct:=Pv (i+1),bk:=D.nx} σ2 H2)(hd:∀σ H,Pv n σ H->D.nx σ H):ZO (pP n) g tb D σ H:=
 eU Pv h0 (fun i σ H hi p=>hi) (fun _=>Je _) (fun i x σ H H' hi p y=>by
  obtain⟨rfl,rfl⟩:=y;exact hs i σ H' hi p) hd
end
end L3
namespace L3
open PySem PySem.Spec L2
variable{X:Cx}
theorem ub{tg:Expr}{a:Expr}{ta:TA}{p pos:Pos}(hg:Gl X "reversed")(hm:X.mg "reversed"=none)(ha:QA X [a] ta)(hn:Qa a=true:=by rfl):QI X tg (.Call (.Name "reversed" p) [a] [] pos) (BM X.K ta):=⟨AW (hg:=hg) (hm:=hm) (ha:=ha.h) (hn:=hn)⟩
theorem Bn{tg:Expr}{l:Expr}{tl:TE}(hl:QE X l tl):QI X tg l (BC X.K tl):=⟨Ba (hl:=hl.h)⟩
def bb(x:Int):Prop:=0<=x/\x<16
def zA(r:List Int):Prop:=∀x∈r,bb x
def wY(n i:Nat):Nat:=if i=0 then n-1 else i-1
def ah(r:List Int)(i:Nat):Int:=r.getD (wY r.length i) 0
def iq(t:List Int)(s:Int)(r:List Int)(i:Nat):List Int:=r.set i (t.getD ((r.getD i 0+s+i+ah r i)%16).toNat 0)
def f7(b:List Int)(s:Int)(r:List Int)(i:Nat):List Int:=r.set i ((b.getD (r.getD i 0).toNat 0-s-i-ah r i)%16)
def ZW(t:List Int)(s:Int)(r:List Int):Nat->List Int
 |0=>r
 |n+1=>iq t s (ZW t s r n) n
def aC(b:List Int)(s:Int)(r:List Int):Nat->List Int
 |0=>r
 |n+1=>aC b s (f7 b s r n) n
def QF(t:List Int):List Int->List Int->List Int
 | [],r=>r
 |s::ks,r=>QF t ks (ZW t s r r.length)
def Za(b:List Int):List Int->List Int->List Int
 | [],r=>r
 |s::ks,r=>aC b s (Za b ks r) r.length
theorem vS{t:List Int}{s:Int}{r:List Int}{i:Nat}:(iq t s r i).length=r.length:=E1 ..
theorem lJ{b:List Int}{s:Int}{r:List Int}{i:Nat}:(f7 b s r i).length=r.length:=E1 ..
theorem QD{t:List Int}{s:Int}{r:List Int}:∀{n:Nat},(ZW t s r n).length=r.length
 |0=>rfl
 |n+1=>by rw[ZW,vS,QD]
theorem mw{b:List Int}{s:Int}:∀{n:Nat} {r:List Int},(aC b s r n).length=r.length
 |0,_=>rfl
 |n+1,r=>by rw[aC,mw,lJ]
theorem cy{t:List Int}:∀{ks r:List Int},(QF t ks r).length=r.length
 | [],_=>rfl
 |s::ks,r=>by rw[QF,cy,QD]
theorem fX{b:List Int}:∀{ks r:List Int},(Za b ks r).length=r.length
 | [],_=>rfl
 |s::ks,r=>by rw[Za,mw,fX]
theorem lp{r:List Int}{i:Nat}{x:Int}(h:zA r)(hx:bb x):zA (r.set i x):=fun y hy=>by
 rcases List.mem_or_eq_of_mem_set hy with z|z
 ·exact h y z
 ·rw[z];exact hx
theorem ac(x:Int):bb (x%16):=⟨Ex _ (by decide),Ey _ (by decide)⟩
theorem iH{r:List Int}(h:zA r)(i:Nat):bb (r.getD i 0):=by
 rw[JE]
 by_cases hi:i<r.length
 ·rw[Jj hi];exact h _ (Er hi)
 ·rw[FL (by lia)];exact⟨by decide,by decide⟩
theorem vY{t:List Int}(p:t.Perm Gz):zA t:=fun x hx=>kR (p.mem_iff.mp hx)
theorem vz{t:List Int}(p:t.Perm Gz){s:Int}{r:List Int}{i:Nat}(h:zA r):zA (iq t s r i):=lp h (iH (vY p) _)
theorem kI{b:List Int}{s:Int}{r:List Int}{i:Nat}(h:zA r):zA (f7 b s r i):=lp h (ac _)
theorem bS{t:List Int}(p:t.Perm Gz){s:Int}{r:List Int}(h:zA r):∀{n:Nat},zA (ZW t s r n)
 |0=>h
 |n+1=>vz p (bS p h)
theorem lY{b:List Int}{s:Int}:∀{n:Nat} {r:List Int},zA r->zA (aC b s r n)
 |0,_,h=>h
 |n+1,_,h=>lY (n:=n) (kI h)
theorem lf{t:List Int}(p:t.Perm Gz):∀{ks r:List Int},zA r->zA (QF t ks r)
 | [],_,h=>h
 |s::ks,_,h=>lf (ks:=ks) p (bS p h)
theorem mE{b:List Int}:∀{ks r:List Int},zA r->zA (Za b ks r)
 | [],_,h=>h
 |s::ks,_,h=>lY (mE (ks:=ks) h)
theorem jJ{r:List Int}{i:Nat}{x:Int}(h:i<r.length):(r.set i x).getD i 0=x:=by
 rw[JE,Fo h];rfl
theorem nz{r:List Int}{i j:Nat}{x:Int}(h:i≠j):(r.set i x).getD j 0=r.getD j 0:=by
 rw[JE,Fp h,<- JE]
theorem C4{n i:Nat}(h2:2<=n)(hi:i<n):i≠wY n i:=by unfold wY;split<;>lia
theorem AX{r:List Int}{i:Nat}{x:Int}(h2:2<=r.length)(hi:i<r.length):ah (r.set i x) i=ah r i:=by
 unfold ah;rw[E1,nz (C4 h2 hi)]
theorem wK{r:List Int}{i:Nat}(hi:i<r.length):r.set i (r.getD i 0)=r:=by
 rw[JE,Jj hi];exact List.set_getElem_self hi
theorem vB{t:List Int}(p:t.Perm Gz){z:Int}(h:bb z):(zC t).getD (t.getD z.toNat 0).toNat 0=z:=by
 have hz:z.toNat<t.length:=by rw[nF p];have:=h.1;have:=h.2;lia
 have e:t.getD z.toNat 0=t[z.toNat]:=by rw[JE,Jj hz];rfl
 have bd:=mI p hz;have hb:t[z.toNat].toNat<(zC t).length:=by rw[aS];lia
 rw[e,JE,Jj hb,Ep,Aq p (by rw[aS]at hb;exact hb)]
 have e2:((t[z.toNat].toNat:Nat):Int)=t[z.toNat]:=by lia
 rw[e2,sW p hz]
 have:=h.1
 lia
theorem wq{t:List Int}(p:t.Perm Gz){s:Int}{r:List Int}{i:Nat}(hr:zA r)(h2:2<=r.length)(hi:i<r.length):f7 (zC t) s (iq t s r i) i=r:=by
 unfold f7 iq;rw[jJ hi,AX h2 hi,List.set_set,vB p (ac _)];have hd:=iH hr i;have e:((r.getD i 0+s+i+ah r i)%16-s-i-ah r i)%16=r.getD i 0:=by
  have:=hd.1
  have:=hd.2
  lia
 rw[e,wK hi]
theorem kQ{t:List Int}(p:t.Perm Gz){s:Int}{r:List Int}(hr:zA r)(h2:2<=r.length):∀{n:Nat},n<=r.length->aC (zC t) s (ZW t s r n) n=r
 |0,_=>rfl
 |n+1,hn=>by
  rw[ZW,aC,wq p (bS p hr) (by rw[QD];exact h2) (by rw[QD];lia)]
  exact kQ p hr h2 (by lia)
theorem mB{t:List Int}(p:t.Perm Gz):∀{ks r:List Int},zA r->2<=r.length->Za (zC t) ks (QF t ks r)=r
 | [],_,_,_=>rfl
 |s::ks,r,hr,h2=>by
  rw[Za,QF,mB p (bS p hr) (by rw[QD];exact h2),cy,QD,kQ p hr h2 (Je _)]
theorem lP(t:List Int):∀(ks:List Int) (s:Int) (r:List Int),QF t (ks++[s]) r=ZW t s (QF t ks r) r.length
 | [],_,_=>rfl
 |a::ks,s,r=>by rw[List.cons_append,QF,lP t ks s,QF,QD]
def Sq(K:Frag)(H:Hp)(a:Addr)(xs:List V):Prop:=F8 K H a xs\/Ga K H a xs
theorem Sq.same{K:Frag}{H H':Hp}{a:Addr}{xs:List V}(e:FZ H H')(h:Sq K H a xs):Sq K H' a xs:=h.elim (fun h=> .inl (e.seq h)) fun h=> .inr (FZ.sqt e h)
theorem Sq.lst{K:Frag}{H:Hp}{a:Addr}{xs:List V}(h:H a=some (.lst xs)):Sq K H a xs:= .inl (F8.of h)
theorem Sq.tup{K:Frag}{H:Hp}{a:Addr}{xs:List V}(h:H a=some (.tup xs)):Sq K H a xs:= .inr (Ga.of h)
def iu(K:Frag):Sp:=fun vs H Q _=>∃(a b c:Addr) (t ks ds:List Int),vs=[.ref a,.ref b,.ref c]/\Sq K H a (t.map V.int)/\Sq K H b (ks.map V.int)/\Sq K H c (ds.map V.int)/\t.length=16/\1<=ds.length/\ds.length<64/\
 ∀p H',FZ H H'->H p=none->H' p=some (.tup ((QF t ks ds).map V.int))->Q (.ref p) H'
def jv(K:Frag):Sp:=fun vs H Q _=>∃(a b c:Addr) (t ks ds:List Int),vs=[.ref a,.ref b,.ref c]/\Sq K H a (t.map V.int)/\Sq K H b (ks.map V.int)/\Sq K H c (ds.map V.int)/\t.Perm Gz/\zA ds/\1<=ds.length/\ds.length<64/\
 ∀p H',FZ H H'->H p=none->H' p=some (.tup ((Za (zC t) ks ds).map V.int))->Q (.ref p) H'
theorem aR{r:List Int}{i:Nat}{z:Int}(e:z=(i:Int))(h:i<r.length):Zl (r.map V.int) z=some (.int (r.getD i 0)):=by
 rw[y9 e (iI h),JE,Jj h];rfl
theorem r9{r:List Int}{i:Nat}{z:Int}(e:z=(i:Int)-1)(h:i<r.length):Zl (r.map V.int) z=some (.int (ah r i)):=by
 subst e;unfold ah wY
 by_cases h0:i=0
 ·subst h0
  rw[Jc rfl];have hl:r.length-1<r.length:=by lia
  unfold Zl cF;rw[Jf,Jb (by lia),Jc (by lia)]
  have e2:((((0:Nat):Int)-1)+(r.length:Int)).toNat=r.length-1:=by lia
  show(r.map V.int)[((((0:Nat):Int)-1)+(r.length:Int)).toNat]? =_
  rw[e2,iI hl,JE,Jj hl];rfl
 ·rw[Jb h0]
  exact aR (by lia) (by lia)
theorem Sq.ix{K:Frag}{H:Hp}{a:Addr}{xs:List V}{i:Int}{v:V}{Q:VK}(h:Sq K H a xs)(e:Zl xs i=some v)(q:Q v H):BF K (.ref a) (.int i) H Q\/vG K (.ref a) (.int i) H Q:=
 h.elim (fun h=> .inl ⟨a,xs,i,v,rfl,rfl,h,e,q⟩) fun h=> .inr ⟨a,xs,i,v,rfl,rfl,h,e,q⟩
section
variable{K:Frag}{a:Addr}{xs:List V}{g:TG}{tb:TS}{D:GX}{σ:L2.St}{H H0:Hp}
theorem AF(hq:Sq K H0 a xs)(Pv:Nat->L2.St->Hp->Prop)(h0:Pv 0 σ H)(hk:∀i σ' H',Pv i σ' H'->FZ H0 H')
  (hs:∀i x σ H,xs[i]? =some x->Pv i σ H->g x σ H fun σ2 H2=>tb {D with nx:=Pv (i+1),ct:=Pv (i+1),bk:=D.nx} σ2 H2)(hd:∀σ H,Pv xs.length σ H->D.nx σ H):
  ((∃xs,F8 K H a xs)/\ZO (i3 K a) g tb D σ H)\/((∃xs,Ga K H a xs)/\ZO (jo K a) g tb D σ H):=by
 rcases hq with hq|hq
 ·exact .inl ⟨⟨xs,(hk _ _ _ h0).seq hq⟩,Qc Pv h0 (fun i σ H _ p=>(hk i σ H p).seq hq) hs hd⟩
 ·exact .inr ⟨⟨xs,FZ.sqt (hk _ _ _ h0) hq⟩,nG Pv h0 (fun i σ H _ p=>FZ.sqt (hk i σ H p) hq) hs hd⟩
theorem wG(hq:Sq K H0 a xs)(Pv:Nat->L2.St->Hp->Prop)(h0:Pv 0 σ H)(hk:∀i σ' H',Pv i σ' H'->FZ H0 H')
  (hs:∀i x σ H,i<xs.length->xs[xs.length-1-i]? =some x->Pv i σ H->g x σ H fun σ2 H2=>tb {D with nx:=Pv (i+1),ct:=Pv (i+1),bk:=D.nx} σ2 H2)(hd:∀σ H,Pv xs.length σ H->D.nx σ H):
  (∃xs,F8 K H a xs/\ZO (rG K a xs.length) g tb D σ H)\/(∃xs,Ga K H a xs/\ZO (pA K a xs.length) g tb D σ H)\/(∃n:Nat,H a=some (.rng 0 n)/\(n:Int)<2 ^ 62/\ZO (pP n) g tb D σ H):=by
 rcases hq with hq|hq
 ·exact .inl ⟨xs,(hk _ _ _ h0).seq hq,wo Pv h0 (fun i σ H p=>(hk i σ H p).seq hq) hs hd⟩
 ·exact .inr (.inl ⟨xs,FZ.sqt (hk _ _ _ h0) hq,wg Pv h0 (fun i σ H p=>FZ.sqt (hk i σ H p) hq) hs hd⟩)
end
theorem Zq{H H2:Hp}{l:Addr}{o:HO}(s:FZ H H2)(h:H l=none):FZ H (F5 H2 l o):=fun d u e=>by
 rw[qj (qi e h)];exact s _ _ e
theorem hW{ks:List Int}{j:Nat}{s:Int}(h:ks[j]? =some s):ks.take (j+1)=ks.take j++[s]:=by rw[D4,h];rfl
theorem tW{ks:List Int}{j:Nat}{s:Int}(h:ks[j]? =some s):ks.drop j=s::ks.drop (j+1):=by
 obtain⟨hj,e⟩:=Jw.mp h;rw[List.drop_eq_getElem_cons hj,e]
inductive Il (H:Hp):Nat->V->V->Prop where
 |int (n:Nat) (i:Int):Il H n (.int i) (.int i)
 |str (n:Nat) (x:Str):Il H n (.str x) (.str x)
 |non (n:Nat):Il H n .non .non
 |bl (n:Nat) (b:Bool):Il H n (.bl b) (.bl b)
 | tup {n:Nat} {a b:Addr} {xs ys:List V} (h1:Rd H a (.tup xs)) (h2:Rd H b (.tup ys)) (hl:xs.length=ys.length)
   (hi:∀(i:Nat) (x y:V),xs[i]? =some x->ys[i]? =some y->Il H n x y):Il H (n+1) (.ref a) (.ref b)
 | lst {n:Nat} {a b:Addr} {xs ys:List V} (h1:H a=some (.lst xs)) (h2:H b=some (.lst ys)) (hl:xs.length=ys.length)
   (hi:∀(i:Nat) (x y:V),xs[i]? =some x->ys[i]? =some y->Il H n x y):Il H (n+1) (.ref a) (.ref b)
theorem gP(n:Nat):((List.range n).all fun _=>true)=true:=by simp
section
open SeqAt
variable{tx:FY}{σ:L2.St}{H:Hp}{s:Shared}
theorem Qo{xs:List V}{us:List Value}(r:F6 xs us){j:Nat}(h:j<us.length):∃x,xs[j]? =some x/\F9 x us[j]:=by
 have hl:=r.length;have hj:j<xs.length:=by lia
 obtain⟨u,hu,ru⟩:=r.get (Jj hj)
 rw[Jj h]at hu;cases hu
 exact⟨_,Jj hj,ru⟩
theorem uf(I:L2.F3 X tx σ H s){n:Nat}{x y:V}(h:Il H n x y):∀{v u:Value} {A:Around},F9 x v->F9 y u->A.units+n<cLine->EqAt A s v u true:=by
 induction h with
 |int n i=>rintro v u A ⟨t,rfl⟩ ⟨t',rfl⟩ _;have:=EqAt.int_int (A:=A) (s:=s) i t i t';rwa [EI]at this
 |str n z=>rintro v u A ⟨t,rfl⟩ ⟨t',rfl⟩ _;have:=EqAt.str_str (A:=A) (s:=s) z t z t';rwa [EI]at this
 |non n=>
  intro v u A r1 r2 _
  cases(show v=Value.none from r1)
  cases(show u=Value.none from r2)
  exact EqAt.same _
 |bl n b=>
  intro v u A r1 r2 _
  cases(show v=Value.bool b from r1)
  cases(show u=Value.bool b from r2)
  exact EqAt.same _
 | @tup n a b xs ys h1 h2 hl _ ih=>
  intro v u A r1 r2 hu
  cases(show v=Value.ref a from r1)
  cases(show u=Value.ref b from r2)
  by_cases hab:a=b
  ·rw[hab];exact EqAt.same _
  ·obtain⟨its,q1,p1,_⟩:=I.tuple (.inl h1)
   obtain⟨its2,q2,p2,_⟩:=I.tuple (.inl h2)
   have l1:=q1.length;have l2:=q2.length;have e:=RcAt.tuples (A:=A) (e:=fun _=>true) (show s.heap.IsTuple a its.toArray from p1) (show s.heap.IsTuple b its2.toArray from p2) (by lia) (fun j z1 z2=>by
    obtain⟨x,ex,rx⟩:=Qo q1 (j:=j) (by simpa using z1)
    obtain⟨y,ey,ry⟩:=Qo q2 (j:=j) (by simpa using z2)
    exact ih j x y ex ey rx ry (by rw[Fk];lia))
   rw[gP,show(its.toArray.size==its2.toArray.size)=true by simp;lia]at e
   exact EqAt.of_refs hab e
 | @lst n a b xs ys h1 h2 hl _ ih=>
  intro v u A r1 r2 hu
  cases(show v=Value.ref a from r1)
  cases(show u=Value.ref b from r2)
  by_cases hab:a=b
  ·rw[hab];exact EqAt.same _
  ·obtain⟨its,q1,p1,_⟩:=I.list (F8.of h1)
   obtain⟨its2,q2,p2,_⟩:=I.list (F8.of h2)
   have l1:=q1.length;have l2:=q2.length;have e:=RcAt.lists (A:=A) (e:=fun _=>true) p1.isList p2.isList (by simp;lia) (by lia) (fun j z1 z2=>by
    obtain⟨x,ex,rx⟩:=Qo q1 (j:=j) (by simpa using z1)
    obtain⟨y,ey,ry⟩:=Qo q2 (j:=j) (by simpa using z2)
    exact ih j x y ex ey rx ry (by rw[Fk];lia))
   rw[gP]at e;exact EqAt.of_refs hab e
theorem Cw(I:L2.F3 X tx σ H s){n:Nat}{x y:V}{v u:Value}{A:Around}(h:Il H n x y)(r1:F9 x v)(r2:F9 y u)(hu:A.units+n<cLine):RcAt A s v u true/\RcNeAt A s v u false:=by
 cases h with
 |int n i=>
  obtain⟨t,rfl⟩:=r1;obtain⟨t',rfl⟩:=r2;have e1:=RcAt.int_int (A:=A) (s:=s) i t i t'
  have e2:=RcNeAt.int_int (A:=A) (s:=s) i t i t'
  rw[EI]at e1 e2
  exact⟨e1,e2⟩
 |str n z=>
  obtain⟨t,rfl⟩:=r1;obtain⟨t',rfl⟩:=r2;have e1:=RcAt.str_str (A:=A) (s:=s) z t z t'
  have e2:=RcNeAt.str_str (A:=A) (s:=s) z t z t'
  rw[EI]at e1 e2
  exact⟨e1,e2⟩
 |non n=>
  cases(show v=Value.none from r1)
  cases(show u=Value.none from r2)
  exact⟨RcAt.none_none,RcNeAt.none_none⟩
 |bl n b=>
  cases(show v=Value.bool b from r1)
  cases(show u=Value.bool b from r2)
  have e1:=RcAt.bool_bool (A:=A) (s:=s) b b
  have e2:=RcNeAt.bool_bool (A:=A) (s:=s) b b
  rw[EI]at e1 e2
  exact⟨e1,e2⟩
 | @tup n a b xs ys h1 h2 hl ih=>
  cases(show v=Value.ref a from r1)
  cases(show u=Value.ref b from r2)
  obtain⟨its,q1,p1,_⟩:=I.tuple (.inl h1)
  obtain⟨its2,q2,p2,_⟩:=I.tuple (.inl h2)
  have l1:=q1.length;have l2:=q2.length;have he:∀j (z1:j<its.toArray.size) (z2:j<its2.toArray.size),EqAt A.in1 s its.toArray[j] its2.toArray[j] ((fun _=>true) j):=fun j z1 z2=>by
   obtain⟨x,ex,rx⟩:=Qo q1 (j:=j) (by simpa using z1)
   obtain⟨y,ey,ry⟩:=Qo q2 (j:=j) (by simpa using z2)
   exact uf I (ih j x y ex ey) rx ry (by rw[Fk];lia)
  have e1:=RcAt.tuples (A:=A) (e:=fun _=>true) (show s.heap.IsTuple a its.toArray from p1) (show s.heap.IsTuple b its2.toArray from p2) (by lia) he
  have e2:=RcNeAt.tuples (A:=A) (e:=fun _=>true) (show s.heap.IsTuple a its.toArray from p1) (show s.heap.IsTuple b its2.toArray from p2) (by lia) he
  rw[gP,show(its.toArray.size==its2.toArray.size)=true by simp;lia]at e1 e2
  exact⟨e1,e2⟩
 | @lst n a b xs ys h1 h2 hl ih=>
  cases(show v=Value.ref a from r1)
  cases(show u=Value.ref b from r2)
  obtain⟨its,q1,p1,_⟩:=I.list (F8.of h1)
  obtain⟨its2,q2,p2,_⟩:=I.list (F8.of h2)
  have l1:=q1.length;have l2:=q2.length;have he:∀j (z1:j<its.toArray.size) (z2:j<its2.toArray.size),EqAt A.in1 s its.toArray[j] its2.toArray[j] ((fun _=>true) j):=fun j z1 z2=>by
   obtain⟨x,ex,rx⟩:=Qo q1 (j:=j) (by simpa using z1)
   obtain⟨y,ey,ry⟩:=Qo q2 (j:=j) (by simpa using z2)
   exact uf I (ih j x y ex ey) rx ry (by rw[Fk];lia)
  have e1:=RcAt.lists (A:=A) (e:=fun _=>true) p1.isList p2.isList (by simp;lia) (by lia) he
  have e2:=RcNeAt.lists (A:=A) (e:=fun _=>true) p1.isList p2.isList (by simp;lia) (by lia) he
  rw[gP]at e1 e2
  exact⟨e1,e2⟩
def DE(b:Bool):R2:=fun x y H Q=>∃n,n<=32/\Il H n x y/\Q (.bl b) H
theorem BR{k:Nat}(hr:Gh k X.A):zx X (compareOp .NotEq) (DE false):=by
 intro tx s σ H x y v u Q I rx ry h;obtain⟨n,hn,e,q⟩:=h
 exact(Cw I e rx ry (by have:=hr.un;lia)).2 _ _ _ _ ⟨.bl _,H,I,rfl,q⟩
end
end L3
namespace L3
open PySem PySem.Spec PyProof.Rows L2
open Sem (wp)
def wW(x:Str):It:=⟨fun i _=>i<x.cps.size,fun i H v H'=>H'=H/\∃c,x.cps[i]? =some c/\v= .str ⟨#[c]⟩,fun i _=>x.cps.size<=i⟩
theorem vv{P:Program}{w:World}{K:Frag}{tg:Expr}(it:Addr)(x:Str)(t:Tok):HI P w K tg (wW x) [it] it (fun i h=>h.IsStrIter it "str_ascii_iterator" x t i) where
 mem:=by simp
 obj:=fun i h st b hb=>by
  have e:b=it:=by simpa using hb
  subst e;obtain⟨o,e,c,d⟩:=st
  exact⟨o,e,fun v z=>by rw[d]at z;cases z⟩
 keep:=fun i h h' st k=>let⟨o,e,r⟩:=st;⟨o,k it (by simp) o e,r⟩
 item:=by
  intro X hP hw hK hc i tx s σ H E I hf st hg;subst hP hw hK;obtain⟨f0,f1,f2,f3,f4,f5⟩:=hf it (by simp)
  have W:=Walks.strAscii (prog:=X.prog) (w:=X.w) (I.ok.hd hc) it x t
  refine W.item i s _ _ hg st fun v h' tk hv st' kk=>?_
  obtain⟨c,u,hc',rfl⟩:=hv;have I1:L2.F3 X tx σ H {s with heap:=h',toks:=tk}:=I.turned (fun b o hb e=>kk b o (by simpa using hb) e) f0 f1 f3 f4 f5
  obtain⟨o,e,cc,d⟩:=id st'
  exact⟨_,rfl,bX (s:={s with heap:=h',toks:=tk}) e cc d (by decide) ⟨.str ⟨#[c]⟩,H,I1,⟨u,rfl⟩,⟨rfl,c,hc',rfl⟩,st',fun b hb=>(hf b hb).1⟩⟩
 done:=by
  intro X hP hw hK hc i tx s σ H E I hf st hg;subst hP hw hK;obtain⟨f0,f1,f2,f3,f4,f5⟩:=hf it (by simp)
  have hg':x.cps.size<=i:=hg
  exact wpAny_pyNext_ascii_end (I.ok.hd hc) st (by simp [hg']) fun h' eb=>⟨rfl,I.turned (t':=s.toks) (fun b o hb e=>eb b o hb e) f0 f1 f3 f4 f5⟩
 self:=fun _ _ _ _ _ st h=>wpAny_pyIter_striter_ascii st h
section
variable{X:Cx}{tg:Expr}
def BU(tl:TE):TI:=fun σ H R=>tl σ H fun v H1=>∃x,v= .str x/\x.cps.all (· <128)=true/\R (wW x) H1
theorem BE{l:Expr}{tl:TE}(hl:PE X l tl):PI X tg l (BU tl):=by
 intro tx s σ H R I h;refine qz (hl tx s σ H _ I h) fun v s1 zq=>?_
 obtain⟨x,H1,I1,r1,q1⟩:=zq;obtain⟨z,rfl,ha,q⟩:=q1;obtain⟨t,rfl⟩:=r1;refine wpAny_pyIter_ascii ha ?_
 refine⟨s1.heap.objs.size,[s1.heap.objs.size],_,_,H1,rfl,I1.kept (t':=s1.toks) fun b o e=>Ji _ e,vv _ z t,⟨_,Jo _ rfl,rfl,rfl⟩,fun b hb=>?_,q⟩
 rw[Jl.mp hb];exact I1.fpOk (Je _) (I1.hok.fresh (Je _))
theorem ua{l:Expr}{tl:TE}(hl:QE X l tl):QI X tg l (BU tl):=⟨BE hl.h⟩
end
theorem AQ{x:Str}{g:TG}{tb:TS}{D:GX}{σ:L2.St}{H:Hp}(Pv:Nat->L2.St->Hp->Prop)(h0:Pv 0 σ H)
  (hs:∀i c σ H,x.cps[i]? =some c->Pv i σ H->g (.str ⟨#[c]⟩) σ H fun σ2 H2=>tb {D with nx:=Pv (i+1),ct:=Pv (i+1),bk:=D.nx} σ2 H2)(hd:∀σ H,Pv x.cps.size σ H->D.nx σ H):ZO (wW x) g tb D σ H:=
 eU Pv h0 (fun i σ H hi p=>hi) (fun _=>Je _) (fun i v σ H H' hi p y=>by
  obtain⟨rfl,c,hc,rfl⟩:=y;exact hs i c σ H' hc p) hd
section
variable{X:Cx}{o e:Expr}{es:List Expr}{to:TE}{t:TA}{name:Str}{apos cpos:Pos}{T id:String}{r:V->List V->Hp->VK->Prop}
theorem Z4(pa:PlainAttrs T)(slot:Slot T name id)(hty:typeOf (.builtin id)=pure (.type "method_descriptor"))(hm:oV X id r)(ho:QE X o to)(ha:QA X (e::es) t)
  (hbase:attributeBase o name X.env (eval o X.env)=eval o X.env:=by rfl)
  (hfew:((backTo cpos (starEach (e::es) X.env)).all (fun x=> !x.1)&&(backToKw cpos (keywordEach [] X.env)).all (fun x=>x.1.isSome)
   &&decide ((e::es).length+([]:List Keyword).length+(if([]:List Keyword).isEmpty then 0 else 1)<30))=true:=by rfl)
  (hline:(apos.endLine==cpos.line)=true:=by rfl)(hs:starEach (e::es) X.env=(false,eval e X.env)::starEach es X.env:=by rfl)(hplain:(backTo cpos (starEach es X.env)).any (·.1)=false:=by rfl):
  QE X (.Call (.Attribute o name apos) (e::es) [] cpos) (BZ X.K T r to t):=⟨C0 pa slot hty hm ho.h ha.h hbase hfew hline hs hplain⟩
theorem QK:oV X "list.append" oo:=tQ
theorem bK:∀{ys:List Str} {us:List Value},F6 (ys.map V.str) us->StrsAre us ys
 | [],_,.nil=> .nil
 |y::ys,_,.cons r t=>by
  obtain⟨u,rfl⟩:=(show∃u,_=Value.str y u from r)
  exact .cons _ _ (bK t)
end
theorem bq(ns:List Int):∀n,n<=ns.length->preSum (fun i=>ns.getD i 0) n=(ns.take n).sum
 |0,_=>by simp [preSum]
 |n+1,h=>by
  have hn:n<ns.length:=by lia
  rw[preSum,bq ns n (by lia),D4,Jj hn,Option.toList_some,List.sum_append,JE,Jj hn]
  simp
theorem tX{B:Int}:∀{ns:List Int},(∀z∈ns,0<=z/\z<=B)->0<=ns.sum/\ns.sum<=ns.length*B
 | [],_=>⟨by simp,by simp⟩
 |n::r,h=>by
  have h1:=h n Jz;have h2:=tX (ns:=r) fun z hz=>h z (JG _ hz)
  rw[List.sum_cons,JN];refine⟨by lia,?_⟩
  have:(((r.length+1:Nat):Int))*B=r.length*B+B:=by rw[Int.natCast_add,Int.add_mul];simp
  lia
section
variable{X:Cx}
theorem rP(hc:X.calm=true):qT X (.builtin "sum") (fun xs H Q=>∃(p:Addr) (ns:List Int),xs=[.ref p]/\Sq X.K H p (ns.map V.int)/\ns.length<=1000/\(∀z∈ns,0<=z/\z<=1000000)/\Q (.int ns.sum) H):=by
 intro tx s σ H xs us Q I r h;obtain⟨p,ns,rfl,hq,hl,hb,q⟩:=h;obtain⟨u,rfl,ru⟩:=zL r;cases ru;have bd:∀n,n<=ns.length->0<=preSum (fun i=>ns.getD i 0) n/\preSum (fun i=>ns.getD i 0) n<=1000000000:=fun n hn=>by
  rw[bq ns n hn];have h1:=tX (B:=1000000) (ns:=ns.take n) fun z hz=>hb z (List.mem_of_mem_take hz)
  have h2:(ns.take n).length<=1000:=by rw[DW];lia
  lia
 have fit:∀j,j<ns.length->InLong ((fun i=>ns.getD i 0) j)/\InLong (preSum (fun i=>ns.getD i 0) (j+1)):=fun j hj=>by
  have b1:=bd (j+1) (by lia)
  have b2:0<=ns.getD j 0/\ns.getD j 0<=1000000:=by
   rw[JE,Jj hj];exact hb _ (Er hj)
  unfold InLong;simp only
  lia
 have eS:preSum (fun i=>ns.getD i 0) ns.length=ns.sum:=by rw[bq ns _ (Je _),Ee]
 have val:∀{its:List Value},F6 (ns.map V.int) its->∀(i:Nat) (v:Value),its.toArray[i]? =some v->∃t,v= .int ((fun i=>ns.getD i 0) i) t:=fun{its} rv i v hv=>by
  have hv':its[i]? =some v:=by simpa using hv
  have hi:i<its.length:=(Jw.mp hv').1
  obtain⟨x,ex,rx⟩:=Qo rv hi;obtain⟨z,rfl,hz⟩:=QJ ex;obtain⟨t,ht⟩:=rx;refine⟨t,?_⟩
  rw[(Jw.mp hv').2]at ht;rw[ht]
  show Value.int z t=Value.int (ns.getD i 0) t
  rw[JE,hz];rfl
 rcases hq with hq|hq
 ·obtain⟨its,rv,pl,hz⟩:=I.list hq
  have hlen:ns.length=its.length:=by have:=rv.length;rwa [Jf]at this
  have hlt:p<s.heap.objs.size:=by obtain⟨_,e,_⟩:=pl.isList;exact Jh e
  refine call_sum_walk (EX pl.isList ?_)
  refine⟨s.heap.objs.size,[s.heap.objs.size,p],[s.heap.objs.size],its.toArray.size,_,_,fun i=>ns.getD i 0,rfl,Walks.list (A:=X.A.in1) (I.ok.hd hc) _ p (Jm hlt) its.toArray,
   ⟨⟨_,Jo _ rfl,rfl,rfl⟩,pl.isList.push _⟩,fun b hb'=>?_,val rv,fun j hj=>fit j (by simp at hj;lia),fun h' tk t' hk=>?_⟩
  ·have sz:(s.heap.push {cls:= .type "list_iterator",data:= .fields #[.ref p,.int 0 0]}).objs.size=s.heap.objs.size+1:=JX ..
   simp only[Jk,Js,Jt]at hb'
   show b<(Heap.push s.heap _).objs.size
   rw[JX];rcases hb' with rfl|rfl
   ·exact D6 _
   ·exact Ec hlt
  ·have e2:preSum (fun i=>ns.getD i 0) its.toArray.size=ns.sum:=by rw[Jr,<- hlen];exact eS
   rw[e2];refine⟨.int _,H,I.kept (h':=h') (t':=tk) fun b o q=>hk b o (fun hm=>?_) (Ji _ q),⟨_,rfl⟩,q⟩
   rw[Jl.mp hm]at q;exact JZ _ (Jh q)
 ·obtain⟨its,rv,pl,hz⟩:=I.tuple hq
  have hlen:ns.length=its.length:=by have:=rv.length;rwa [Jf]at this
  have hT:s.heap.IsTuple p its.toArray:=pl
  have hlt:p<s.heap.objs.size:=by obtain⟨_,e,_⟩:=hT;exact Jh e
  refine call_sum_walk (EC hT ?_)
  refine⟨s.heap.objs.size,[s.heap.objs.size,p],[s.heap.objs.size],its.toArray.size,_,_,fun i=>ns.getD i 0,rfl,Walks.tuple (A:=X.A.in1) (I.ok.hd hc) _ p (Jm hlt) its.toArray,
   ⟨⟨_,Jo _ rfl,rfl,rfl⟩,let⟨o,e,r⟩:=hT;⟨o,Ji _ e,r⟩⟩,fun b hb'=>?_,val rv,fun j hj=>fit j (by simp at hj;lia),fun h' tk t' hk=>?_⟩
  ·simp only[Jk,Js,Jt]at hb'
   show b<(Heap.push s.heap _).objs.size
   rw[JX];rcases hb' with rfl|rfl
   ·exact D6 _
   ·exact Ec hlt
  ·have e2:preSum (fun i=>ns.getD i 0) its.toArray.size=ns.sum:=by rw[Jr,<- hlen];exact eS
   rw[e2];refine⟨.int _,H,I.kept (h':=h') (t':=tk) fun b o q=>hk b o (fun hm=>?_) (Ji _ q),⟨_,rfl⟩,q⟩
   rw[Jl.mp hm]at q;exact JZ _ (Jh q)
end
end L3
namespace L3
open PySem PySem.Spec PyProof.Rows L2
section
variable{X:Cx}
theorem vf:wM X (fun x y H Q=>∃(p:Addr) (xs:List V) (i:Nat) (v:V),x= .ref p/\y= .int (i:Int)/\H p=some (.lst xs)/\xs[i]? =some v/\Q v H):=by
 intro tx s σ H o i ov iv Q I r1 r2 h;obtain⟨p,xs,j,v,rfl,rfl,hH,hv,q⟩:=h;cases r1;obtain⟨t,rfl⟩:=r2;obtain⟨its,r,pl,hz⟩:=I.list (F8.of hH)
 obtain⟨u,hu,ru⟩:=r.get hv;have hl:=r.length;have hn:=ZS;have hj:j<xs.length:=(Jw.mp hv).1
 exact wpAny_getItem_list pl.isList (by lia) (by lia) (by simpa using hu) ⟨v,H,I,ru,q⟩
end
def QV(z:Str):Prop:=(∀c∈z.cps.toList,97<=c/\c<=122)/\1<=z.cps.toList.length/\z.cps.toList.length<=8
theorem mN{z:Str}(h:QV z):z.cps.all (· <128)=true:=by
 rw[Array.all_eq_true'];intro c hc
 have:=h.1 c (by simpa using hc)
 simp;lia
def vg(c:Nat):List Int:=[((c:Int)-97)%16,((c:Int)-97)/16]
def Q6(cs:List Nat):List Int:=cs.flatMap vg
theorem uM(cs:List Nat)(c:Nat):Q6 (cs++[c])=Q6 cs++vg c:=by simp [Q6]
theorem jG(cs:List Nat):(Q6 cs).length=2*cs.length:=by
 induction cs with
 |nil=>rfl
 |cons c r ih=>simp only[Q6,List.flatMap_cons,JC,JN]at ih⊢;rw[ih];simp [vg];lia
def ig(ds:List Int)(j:Nat):Nat->Int
 |0=>0
 |n+1=>ig ds j n+if n%4=j then ds.getD n 0 else 0
def ZN(ds:List Int)(n:Nat):List Int:=[ig ds 0 n,ig ds 1 n,ig ds 2 n,ig ds 3 n]
theorem uV(ds:List Int)(n:Nat):(ZN ds n).set (n%4) ((ZN ds n).getD (n%4) 0+ds.getD n 0)=ZN ds (n+1):=by
 have h:n%4=0\/n%4=1\/n%4=2\/n%4=3:=by lia
 rcases h with h|h|h|h<;>simp [ZN,ig,h]
def bA(ds:List Int):List Int:=(ZN ds ds.length).map (· %16)
theorem lV(ds:List Int):(bA ds).length=4:=rfl
def iW:Sp:=fun vs H Q _=>∃z,vs=[.str z]/\QV z/\∀l H',FZ H H'->H l=none->H' l=some (.lst ((Q6 z.cps.toList).map V.int))->Q (.ref l) H'
def ik(K:Frag):Sp:=fun vs H Q _=>∃(a b:Addr) (z:Str) (t ks:List Int),vs=[.ref a,.ref b,.str z]/\Sq K H a (t.map V.int)/\Sq K H b (ks.map V.int)/\QV z/\t.length=16/\
 ∀p H',FZ H H'->H p=none->H' p=some (.tup ((QF t ks (bA (Q6 z.cps.toList))).map V.int))->Q (.ref p) H'
theorem An{cs:List Nat}{i c:Nat}(h:cs[i]? =some c):cs.take (i+1)=cs.take i++[c]:=by rw[D4,h];rfl
theorem nR{z:Str}{i c:Nat}(h:z.cps[i]? =some c):z.cps.toList[i]? =some c:=by simpa using h
theorem Dv{X:Cx}{scope:Scope}{y z:Str}{j k:Nat}(kind:scope.kind= .function)(names:∀x∈scope.names,x.2= .local->scope.names.lookup x.1=some .local)(nocell:∀x∈scope.names,x.2≠ .cell)
  (free:∀x∈scope.names,x.2= .free->x.1∈([y,z]:List Str))(h1:X.N[j]? =some y)(h2:X.env.kindOf y=some .cell)(h3:(relabel scope X.env).names.lookup y=some .cell)
  (g1:X.N[k]? =some z)(g2:X.env.kindOf z=some .cell)(g3:(relabel scope X.env).names.lookup z=some .cell):GM X scope [y,z] [j,k]:=
 ⟨kind,names,nocell,free,rfl,fun i j' y' e1 e2=>by
  match i with
  |0=>cases e1;cases e2;exact⟨h1,h2,h3⟩
  |1=>cases e1;cases e2;exact⟨g1,g2,g3⟩
  |i+2=>simp at e1⟩
theorem Dw{X:Cx}{y z:Str}{c d:Addr}(h:X.env.cells.lookup y=some c)(g:X.env.cells.lookup z=some d):∀u e,([(y,c),(z,d)]:List (Str×Addr)).lookup u=some e->X.env.cells.lookup u=some e:=fun u e he=>by
 by_cases hu:u=y
 ·subst hu
  simp at he
  rw[<- he];exact h
 ·by_cases hv:u=z
  ·subst hv
   simp [DY,show(u==y)=false from by simpa using hu]at he
   rw[<- he];exact g
  ·simp [DY,show(u==y)=false from by simpa using hu,show(u==z)=false from by simpa using hv]at he
end L3
namespace L3
open PySem PySem.Spec PyProof.Rows L2
open Sem (wp)
section
variable{prog:Program}{w:World}{A:Around}{E:FW}{s:Shared}
theorem gC{it t:Addr}{items:Array Value}(hne:t≠it):∀(n i:Nat) (s:Shared) (Q:List Value->Shared->Prop),s.heap.IsListIter it t i->s.heap.IsList t items->i+n<=items.size->
  (∀h',h'.IsListIter it t (i+n)->Heap.SameBut it s.heap h'->Q ((items.toList.drop i).take n) {s with heap:=h'})->wpAny (model prog w) A (draw (.ref it) n) Q E s
 |0,i,s,Q,hit,_,_,hQ=>by
  show wpAny _ _ (pure []) Q E s
  refine Jd ?_
  have:=hQ s.heap hit (Heap.SameBut.refl ..)
  simpa using this
 |n+1,i,s,Q,hit,ht,hle,hQ=>by
  have hlt:i<items.size:=by lia
  show wpAny _ _ (pyNext (.ref it) >>= _) Q E s
  refine Ja (wpAny_pyNext_list_item hit ht (x:=items[i]) (by simp [hlt]) fun h₁ hit₁ hs₁=>?_)
  have ht1:(Shared.heap {s with heap:=h₁}).IsList t items:=let⟨o,e,r⟩:=ht;⟨o,hs₁.extBut _ _ hne e,r⟩
  refine Ja (JL (gC hne n (i+1) _ _ hit₁ ht1 (by lia) fun h₂ hit₂ hs₂=>Jd ?_))
  have hd:items.toList.drop i=items[i]::items.toList.drop (i+1):=by simp [List.drop_eq_getElem_cons,hlt]
  have z:=hQ h₂ (by rw[show i+(n+1)=i+1+n by lia];exact hit₂) (hs₁.trans hs₂)
  rw[hd,List.take_succ_cons]at z;exact z
theorem lj{t:Addr}{items:Array Value}{targets:List (Bool×(Value->Sem Unit))}{Q:Unit->Shared->Prop}(hh:A.handled=none)(ht:s.heap.IsList t items)
  (hn:targets.length=items.size)(hstar:targets.findIdx? (·.1)=none)
  (h:∀h',Heap.ExtBut s.heap.objs.size s.heap h'->wpAny (model prog w) A (assignInOrder (targets.map (·.2)) items.toList) Q E {s with heap:=h'}):
  wpAny (model prog w) A (unpack (.ref t) targets) Q E s:=by
 have hlt:t≠s.heap.objs.size:=by obtain⟨o,ho,_⟩:=ht;exact Jm (Jh ho)
 unfold unpack;rw[hn,hstar];refine Ja (JL ?_)
 unfold unpackItems;refine Ja ?_
 unfold notIterableAtAll;refine Ja (ER ht.typeIs F.slot_list_iter.lookup ?_)
 refine Jd ?_
 simp only[Bool.false_eq_true,JD];refine Ja (JL (EX ht ?_))
 refine Ja (JL (gC hlt items.size 0 _ _ ⟨_,Jo _ rfl,rfl,rfl⟩ (ht.push _) (by lia) fun h₁ hit₁ hs₁=>?_))
 have hall:List.take items.size (List.drop 0 items.toList)=items.toList:=by
  rw[List.drop_zero];exact List.take_of_length_le (by simp)
 rw[hall];rw[Jb (by simp)]
 have ht₁:h₁.IsList t items:=let⟨o,e,r⟩:=ht.push _;⟨o,hs₁.extBut _ _ hlt e,r⟩
 refine Ja (JL (wpAny_pyNext_list_end hh hit₁ ht₁ (by simp) fun h₂ he₂=>?_))
 simp only[Option.isSome_none,Bool.false_eq_true,JD];exact Jd (h h₂ fun b o hb e=>he₂ b o hb (hs₁.extBut b o hb (Ji _ e)))
end
section
variable{X:Cx}{pos:Pos}
def BL(K:Frag)(n:Nat)(t:a9):TG:=fun v σ H Q=>∃a xs,v= .ref a/\Sq K H a xs/\xs.length=n/\t xs σ H Q
theorem Cd{es:List Expr}{k:Nat}{t:a9}{n:Nat}(hc:X.calm=true)(h:oJ X es t)
  (hn:(assignEach es X.env).length=n:=by rfl)(hst:(assignEach es X.env).findIdx? (·.1)=none:=by rfl):PG X (.Tuple es k pos) (BL X.K n t):=by
 intro tx s σ H v u Q I r hw;obtain⟨a,xs,e1,hq,hl,hw⟩:=hw;rcases hq with hq|hq
 ·subst e1
  cases r;obtain⟨its,rv,ht,hz⟩:=I.list hq;rw[assign_Tuple];refine Ja (Ej (lj (I.ok.hd hc) ht.isList (by simp [hn,<- hl,rv.length]) hst fun h' hx=>?_))
  have I1:L2.F3 X tx σ H {s with heap:=h'}:=I.kept (t':=s.toks) fun b o e=>hx b o (Jm (Jh e)) e
  exact h tx _ σ H xs _ Q I1 (by simpa using rv) hw
 ·exact km hc h hn hst tx s σ H v u Q I r ⟨a,xs,e1,hq,hl,hw⟩
theorem zw{es:List Expr}{k:Nat}{t:a9}{n:Nat}(hc:X.calm=true)(h:IP X es t)
  (hn:(assignEach es X.env).length=n:=by rfl)(hst:(assignEach es X.env).findIdx? (·.1)=none:=by rfl):QG X (.Tuple es k pos) (BL X.K n t):=⟨Cd hc h.h hn hst⟩
end
end L3
namespace L3
open PySem PySem.Spec PyProof.Rows L2
def Z3(c d:Int):List Int:=[c%16,c/16%16,c/256,d]
def Z6(c d:Int):List Int:=Z3 c d++[(Z3 c d).sum%16]
def iL(t ks:List Int)(z:Str):List Int:=QF t ks (bA (Q6 z.cps.toList))
def bU(t ks:List Int)(z:Str)(c d:Int):List Int:=QF t (iL t ks z) (Z6 c d)
def j5(r:List Int):Option (Int×Int):=if r.getD 4 0=(r.getD 0 0+r.getD 1 0+r.getD 2 0+r.getD 3 0)%16 then some (r.getD 0 0+r.getD 1 0*16+r.getD 2 0*256,r.getD 3 0)else none
def Zp(t ks:List Int)(z:Str)(ds:List Int):Option (Int×Int):=j5 (Za (zC t) (iL t ks z) ds)
theorem bW(c d:Int):(Z6 c d).length=5:=rfl
theorem wu(c d:Int):(Z3 c d).sum=c%16+c/16%16+c/256+d:=by simp [Z3];lia
theorem gp{c d:Int}(h0:0<=c)(h1:c<4096)(hd:bb d):zA (Z6 c d):=fun x hx=>by
 simp only[Z6,Z3,List.cons_append,List.nil_append,Jk,Js,Jt]at hx;rcases hx with rfl|rfl|rfl|rfl|rfl
 ·exact ac _
 ·exact ac _
 ·exact⟨by lia,by lia⟩
 ·exact hd
 ·exact ac _
theorem rU{c d:Int}(h0:0<=c)(h1:c<4096):j5 (Z6 c d)=some (c,d):=by
 have e:(Z6 c d)=[c%16,c/16%16,c/256,d,(c%16+c/16%16+c/256+d)%16]:=by unfold Z6;rw[wu];rfl
 unfold j5;rw[e]
 show(if(c%16+c/16%16+c/256+d)%16=(c%16+c/16%16+c/256+d)%16 then some (c%16+c/16%16*16+c/256*256,d)else none)=_
 rw[Jc rfl,show c%16+c/16%16*16+c/256*256=c by lia]
theorem yv{r:List Int}(hl:r.length=5):∃a b c d e:Int,r=[a,b,c,d,e]:=by
 match r,hl with
 | [a,b,c,d,e],_=>exact⟨a,b,c,d,e,rfl⟩
theorem tL(t ks:List Int)(z:Str)(c d:Int):(bU t ks z c d).length=5:=by unfold bU;rw[cy,bW]
theorem v8{t ks:List Int}(p:t.Perm Gz){z:Str}{c d:Int}(h0:0<=c)(h1:c<4096)(hd:bb d):zA (bU t ks z c d):=lf p (gp h0 h1 hd)
theorem i8{t ks:List Int}(p:t.Perm Gz){z:Str}{c d:Int}(h0:0<=c)(h1:c<4096)(hd:bb d):Zp t ks z (bU t ks z c d)=some (c,d):=by
 unfold Zp bU;rw[mB p (gp h0 h1 hd) (by rw[bW];decide),rU h0 h1]
def cQ(H:Hp)(x:V):Option (Int×Int)->Prop
 |none=>x= .non
 |some (c,d)=>∃p,x= .ref p/\H p=some (.tup [.int c,.int d])
def B1:Sp:=fun vs H Q _=>∃c:Int,vs=[.int c]/\∀p H',FZ H H'->H' p=some (.tup [.int (c%16),.int (c/16%16),.int (c/256)])->Q (.ref p) H'
def nW(K:Frag):Sp:=fun vs H Q _=>∃(a b:Addr) (z:Str) (age c d:Int) (t ks:List Int),vs=[.ref a,.ref b,.str z,.int age,.int c,.int d]/\Sq K H a (t.map V.int)/\Sq K H b (ks.map V.int)/\QV z/\t.length=16/\0<=c/\c<4096/\bb d/\
 ∀p pc H',FZ H H'->H' p=some (.tup [.str z,.int age,.ref pc])->H' pc=some (.tup ((bU t ks z c d).map V.int))->Q (.ref p) H'
def mj(K:Frag):Sp:=fun vs H Q _=>∃(a b pr pc:Addr) (z:Str) (age:Int) (t ks ds:List Int),vs=[.ref a,.ref b,.ref pr]/\Sq K H a (t.map V.int)/\Sq K H b (ks.map V.int)/\Sq K H pr [.str z,.int age,.ref pc]/\Sq K H pc (ds.map V.int)/\QV z/\t.Perm Gz/\ds.length=5/\zA ds/\
 ∀x H',FZ H H'->cQ H' x (Zp t ks z ds)->Q x H'
def bz(K:Frag)(H:Hp)(a:Addr)(f:Str)(v:V):Prop:=∃C dx fs,H a=some (.ins C dx fs)/\Iq K C/\Gq K C f/\fs.lookup f=some v
def Bu(K:Frag)(H:Hp)(a:Addr)(f:Str)(v:V)(H':Hp):Prop:=∃C dx fs,H a=some (.ins C dx fs)/\Iq K C/\Gq K C f/\fs.length<1000/\H'=F5 H a (.ins C dx (Qx f v fs))
def Db(C:Addr)(H:Hp)(a:Addr)(m:Str):Prop:=∃dx fs,H a=some (.ins C dx fs)/\fs.lookup m=none
def w9(K:Frag)(ta:TE)(f:Str):TE:=fun σ H Q=>ta σ H fun x H1=>∃a v,x= .ref a/\bz K H1 a f v/\Q v H1
def CZ(K:Frag)(ta tv:TE)(f:Str):TS:=fun D σ H=>tv σ H fun y H1=>ta σ H1 fun x H2=>∃a H3,x= .ref a/\Bu K H2 a f y H3/\D.nx σ H3
def tK(C:Addr)(m:Str)(sp:Sp)(ta:TE)(t:TA):TE:=fun σ H Q=>ta σ H fun x H1=>∃a,x= .ref a/\Db C H1 a m/\t σ H1 fun vs H2=>sp (x::(vs++[])) H2 Q E0
section
variable{X:Cx}{o e value:Expr}{f:Str}{pos pos':Pos}{ta tv:TE}
theorem qY(he:QE X e ta)(hb:attributeBase e f X.env (eval e X.env)=eval e X.env:=by rfl):QE X (.Attribute e f pos) (w9 X.K ta f):=⟨by
 intro tx s σ H Q I h;refine y7 hb (qz (he.h tx s σ H _ I h) fun u s1 zq=>?_)
 obtain⟨x,H1,I1,rx,a,v,ex,⟨C,dx,fs,ea,c,n,l⟩,q⟩:=zq;subst ex
 obtain rfl:u=Value.ref a:=rx
 exact pO I1 ea c n l fun u' s2 I2 ru=>⟨v,H1,I2,ru,q⟩⟩
theorem zW(ha:QE X o ta)(hv:QE X value tv)(hs:swapsWith value (some (.Attribute o f pos')) pos.line X.env=pure false:=by rfl):QS X (.Assign [.Attribute o f pos'] value pos) (CZ X.K ta tv f):=⟨by
 intro tx s σ H D I h;refine plainObj_wpAny_Assign_Attribute (qz (hv.h tx s σ H _ I h) fun u s1 ⟨y,H1,I1,ry,q⟩=>qz (ha.h tx s1 σ H1 _ I1 q) fun ov s2 zq=>?_) hs
 obtain⟨x,H2,I2,rx,a,H3,ex,⟨C,dx,fs,ea,c,n,l,e3⟩,q2⟩:=zq;subst ex e3
 obtain rfl:ov=Value.ref a:=rx
 exact pZ I2 ea c n l ry fun s3 I3=>⟨σ,_,I3,q2⟩⟩
end
structure Mf(P:Program)(w:World)(K:Frag)(mg:FX)(base:Heap)(C:Addr)(m:Str)(ps:List Str)(k:Nat)(sp:Sp):Prop where
 ex:∃(f:Addr) (fd:FuncData),Hl P w K mg base aO k f fd ps sp/\IG K C m f/\GU K fd ps []
structure HS(K:Frag)(C:Addr)(m IX:Str)(st:Stmt)(ps:List Str):Prop where
 ex:∃(f:Addr) (fd:FuncData),Io K m IX st f fd/\IG K C m f/\GU K fd ps []
structure Mi(P:Program)(w:World)(K:Frag)(mg:FX)(base:Heap)(C:Addr)(x:Str)(ps:List Str)(k:Nat)(sp:Sp):Prop where
 ex:∃(f:Addr) (fd:FuncData),Hl P w K mg base aO k f fd ps sp/\Mk K C f/\mg x=some (.ref C)/\GU K fd ps []
section
variable{P:Program}{w:World}{K:Frag}{mg:FX}{base:Heap}{C:Addr}
theorem HS.mq{m IX:Str}{st:Stmt}{ps N:List Str}{k:Nat}{sp:Sp}(a:HS K C m IX st ps)(S:F0 N ps (qh st))
  (hbody:∀(f:Addr) (cdv:Value) (A:Around) (outer:List Env) (s:Shared) (H:Hp) (vs:List V) (Q:VK) (E:XK),Gh k (A.deeper (envOfC IX (qh st) s.heap.objs.size f cdv))->sp vs H Q E->
   ∃t,Ir (bj aO P w K mg base N IX (qh st) f cdv A outer s H E).nox (zH st) t/\t {nx:=fun _ H'=>Q .non H',rt:=Q} (Q3 N vs) H)(len:∀vs H Q E,sp vs H Q E->vs.length=ps.length:=by intro vs H Q E h;(repeat first|obtain⟨rfl,h⟩:=h|obtain⟨_,h⟩:=h);all_goals rfl):Mf P w K mg base C m ps (k+1) sp:=by
 obtain⟨f,fd,F,m,bd⟩:=a.ex
 exact⟨f,fd,F.ok S len (fun cdv A outer s H vs Q E hr h=>let⟨t,q1,q2⟩:=hbody f cdv A outer s H vs Q E hr h;⟨t,q1.h,q2⟩),m,bd⟩
theorem Mf.mi{x:Str}{ps:List Str}{k:Nat}{sp:Sp}(a:Mf P w K mg base C "__init__" ps k sp)(mk:W.makesIn K C=true)(kc:W.keepIn K (.ref C)=true)(hx:mg x=some (.ref C)):Mi P w K mg base C x ps k sp:=
 let⟨f,fd,F,m,bd⟩:=a.ex;⟨f,fd,F,⟨mk,m.at_,m.fn,kc⟩,hx,bd⟩
end
section
variable{X:Cx}{C:Addr}{x m:Str}{ps:List Str}{k:Nat}{sp:Sp}{o e:Expr}{es:List Expr}{p pos apos:Pos}{ta:TE}{t:TA}
theorem zi{pl:Sem Bool}(M:Mf X.prog X.w X.K X.mg X.base C m ps k sp)(c:Iq X.K C)(hr:Gh k X.A)(he:QE X o ta)(ha:QA X (e::es) t)
  (hst:starEach (e::es) X.env=(false,eval e X.env)::starEach es X.env:=by rfl)(hpl:(backTo pos (starEach es X.env)).any (·.1)=false:=by rfl)
  (ht:eval (.Call (.Attribute o m apos) (e::es) [] pos) X.env=(do
   let ov <- eval o X.env
   standAt apos.atName
   let(f,first) <- holding [ov] (getMethod ov m pl)
   callWith pos f first (backTo pos (starEach (e::es) X.env)) (backToKw pos (keywordEach [] X.env))):=by rfl):
  QE X (.Call (.Attribute o m apos) (e::es) [] pos) (tK C m sp ta t):=⟨by
 obtain⟨f,fd,F,hm,hb⟩:=M.ex;intro tx s σ H Q I h;refine W.methodCall_KW (pl:=pl) (qz (he.h tx s σ H _ I h) fun u s1 zq=>?_) ht
 obtain⟨x,H1,I1,rx,a,ex,⟨dx,fs,ea,l⟩,q⟩:=zq;subst ex
 obtain rfl:u=Value.ref a:=rx
 refine gR I1 ea c hm l ?_
 refine W.callWith_K (first:=[.ref a]) (h₀:=X.base) I.ok.mod.kin hm.kp (qz (ha.h pos tx s1 σ H1 _ I1 q) fun us s2 ⟨vs,H2,I2,r,q2⟩=>⟨I2.kIn,?_⟩) hst hpl
 exact mM (us:= .ref a::us) (vs:= .ref a::vs) F hr hb .nil j7 I2 (.cons rfl r) q2⟩
theorem Zb{pl:Sem Bool}(M:Mf X.prog X.w X.K X.mg X.base C m ps k sp)(c:Iq X.K C)(hr:Gh k X.A)(he:QE X o ta)
  (ht:eval (.Call (.Attribute o m apos) [] [] pos) X.env=(do
   let ov <- eval o X.env
   standAt apos.atName
   let(f,first) <- holding [ov] (getMethod ov m pl)
   callWith pos f first (backTo pos (starEach [] X.env)) (backToKw pos (keywordEach [] X.env))):=by rfl):
  QE X (.Call (.Attribute o m apos) [] [] pos) (tK C m sp ta wF):=⟨by
 obtain⟨f,fd,F,hm,hb⟩:=M.ex;intro tx s σ H Q I h;refine W.methodCall_KW (pl:=pl) (qz (he.h tx s σ H _ I h) fun u s1 zq=>?_) ht
 obtain⟨x,H1,I1,rx,a,ex,⟨dx,fs,ea,l⟩,q⟩:=zq;subst ex
 obtain rfl:u=Value.ref a:=rx
 refine gR I1 ea c hm l ?_
 exact W.callWith_K0 (first:=[.ref a]) I1.kIn hm.kp (mM (us:=[.ref a]) (vs:=[.ref a]) F hr hb .nil j7 I1 (.cons rfl .nil) q)⟩
theorem Aa(M:Mi X.prog X.w X.K X.mg X.base C x ps k sp)(hr:Gh (k+1) X.A)(ha:QA X (e::es) t)(hg:Gl X x:=by rfl)(hdb:(x==("__debug__":Str))=false:=by decide)
  (he:starEach (e::es) X.env=(false,eval e X.env)::starEach es X.env:=by rfl)(hpl:(backTo pos (starEach es X.env)).any (·.1)=false:=by rfl):
  QE X (.Call (.Name x p) (e::es) [] pos) (yf C sp [] E0 t):=⟨by
 obtain⟨f,fd,F,mk,hx,hb⟩:=M.ex;exact yr mk F hr hg hx hb .nil j7 ha.h hdb he hpl⟩
end
section
variable{X:Cx}{o e:Expr}{es:List Expr}{to:TE}{t:TA}{name:Str}{apos cpos:Pos}{T id:String}{r:V->List V->Hp->VK->Prop}{K:Frag}
theorem Bo(hK:X.K=K)(pa:PlainAttrs T)(slot:Slot T name id)(hty:typeOf (.builtin id)=pure (.type "method_descriptor"))(hm:oV X id r)(ho:QE X o to)(ha:QA X (e::es) t)
  (hbase:attributeBase o name X.env (eval o X.env)=eval o X.env:=by rfl)
  (hfew:((backTo cpos (starEach (e::es) X.env)).all (fun x=> !x.1)&&(backToKw cpos (keywordEach [] X.env)).all (fun x=>x.1.isSome)
   &&decide ((e::es).length+([]:List Keyword).length+(if([]:List Keyword).isEmpty then 0 else 1)<30))=true:=by rfl)
  (hline:(apos.endLine==cpos.line)=true:=by rfl)(hs:starEach (e::es) X.env=(false,eval e X.env)::starEach es X.env:=by rfl)(hplain:(backTo cpos (starEach es X.env)).any (·.1)=false:=by rfl):
  QE X (.Call (.Attribute o name apos) (e::es) [] cpos) (BZ K T r to t):=by
 subst hK;exact Z4 pa slot hty hm ho ha hbase hfew hline hs hplain
theorem vC:oV X "list.pop" sL:=vD
end
theorem jA{f:Str}{v:V}:∀{fs:List (Str×V)} (i:Nat),fs[i]? =some (f,v)->(fs.map (·.1)).Nodup->fs.lookup f=some v
 | [],i,h,_=>by cases h
 |(g,x)::r,0,h,_=>by
  cases Jy h
  exact List.lookup_cons_self
 |(g,x)::r,i+1,h,nd=>by
  have h':r[i]? =some (f,v):=h
  have nd':g∉r.map (·.1)/\(r.map (·.1)).Nodup:=Ek.mp nd
  have hm:f∈r.map (·.1):=JA.mpr ⟨(f,v),DX h',rfl⟩
  have ne:f≠g:=fun z=>nd'.1 (z▸hm)
  rw[DY,E8 ne];exact jA i h' nd'.2
theorem iS{f:Str}:∀{fs:List (Str×V)},f∉fs.map (·.1)->fs.lookup f=none
 | [],_=>rfl
 |(g,x)::r,h=>by
  have ne:f≠g:=fun z=>h (z▸Jz ..)
  rw[DY,E8 ne];exact iS fun z=>h (JG _ z)
theorem lc{f:Str}{v:V}:∀{fs:List (Str×V)},f∉fs.map (·.1)->Qx f v fs=fs++[(f,v)]
 | [],_=>rfl
 |(g,x)::r,h=>by
  have ne:¬g=f:=fun z=>h (z▸Jz ..)
  show(if g=f then _ else(g,x)::Qx f v r)=_
  rw[Jb ne,lc fun z=>h (JG _ z)];rfl
def Mv(S:List Addr)(H H':Hp):Prop:=∀c o,c∉S->H c=some o->H' c=some o
theorem Mv.trans{S:List Addr}{H H1 H2:Hp}(a:Mv S H H1)(b:Mv S H1 H2):Mv S H H2:=fun c o n e=>b c o n (a c o n e)
theorem Mv.mono{S S':List Addr}{H H':Hp}(a:Mv S H H')(h:∀c,c∉S'->c∉S):Mv S' H H':=fun c o n e=>a c o (h c n) e
theorem _root_.L2.FZ.mv{S:List Addr}{H H':Hp}(a:FZ H H'):Mv S H H':=fun c o _ e=>a c o e
theorem Mv.upd1{a:Addr}{H:Hp}{o:HO}:Mv [a] H (F5 H a o):=fun c u n e=>by
 rw[qj (fun z=>n (Jl.mpr z))];exact e
def wT:HO->Prop
 | .tup _=>False
 | .frz _ (.dK _)=>True
 | .frz _ _=>False
 |_=>True
def NT(S:List Addr)(H:Hp):Prop:=∀c,c∈S->∃o,H c=some o/\wT o
theorem Mv.rd{S:List Addr}{H H':Hp}{a:Addr}{xs:List V}(m:Mv S H H')(n:NT S H)(h:Rd H a (.tup xs)):Rd H' a (.tup xs):=by
 have hn:a∉S:=fun z=>by
  obtain⟨o,e,no⟩:=n a z;rcases h with h|⟨o',h⟩
  ·rw[e]at h;cases h;exact no
  ·rw[e]at h;cases h;exact no
 rcases h with h|⟨o',h⟩
 ·exact .inl (m _ _ hn h)
 ·exact .inr ⟨o',m _ _ hn h⟩
theorem Mv.sqt{K:Frag}{S:List Addr}{H H':Hp}{a:Addr}{xs:List V}(m:Mv S H H')(n:NT S H)(h:Ga K H a xs):Ga K H' a xs:=by
 rcases h with h|h
 ·exact .inl (m.rd n h)
 ·exact .inr h
def lI:Sp:=fun vs H Q _=>∃(b:Addr) (c:Nat),vs=[.ref b]/\GZ H b c/\c<100000000/\∀p (t:List Int) H',HQ b (c+16) H H'->H p=none->H' p=some (.tup (t.map V.int))->t.Perm Gz->Q (.ref p) H'
def oP:Sp:=fun vs H Q _=>∃(b:Addr) (c:Nat),vs=[.ref b]/\GZ H b c/\c<100000000/\∀p (ks:List Int) H',HQ b (c+9) H H'->H p=none->H' p=some (.tup (ks.map V.int))->zA ks->1<=ks.length->ks.length<=8->Q (.ref p) H'
theorem HQ.fresh{b c:Addr}{n:Nat}{H H':Hp}(g:HQ b n H H')(hb:GZ H b n)(h:H' c=Option.none):H c=Option.none:=by
 cases e:H c with
 |none=>rfl
 |some o=>
  by_cases z:c=b
  ·subst z
   obtain⟨_,_,_,e',_⟩:=g.bx;rw[e']at h;cases h
  ·rw[g.kp c o z e]at h;cases h
theorem vt{K:Frag}{H:Hp}{a:Addr}{xs:List V}{Q:VK}(h:Sq K H a xs)(q:∀l H',FZ H H'->Ga K H' l xs->Q (.ref l) H'):(F8 K H a xs/\∀l,H l=none->Q (.ref l) (F5 H l (.tup xs)))\/(Ga K H a xs/\Q (.ref a) H):=
 h.elim (fun h=> .inl ⟨h,fun l hl=>q l _ (FZ.upd hl) (Ga.of qb)⟩) fun h=> .inr ⟨h,q a H (FZ.refl _) h⟩
theorem fi{K:Frag}{C p dx a:Addr}{H:Hp}{fs:List (Str×V)}{xs:List V}{o:HO}(e:H p=some (.ins C dx fs))(h:Ga K H a xs):Ga K (F5 H p o) a xs:=by
 rcases h with(h|⟨u,h⟩)|h
 ·exact .inl (.inl (by rw[qj (Q5 h e (by intro z;cases z))];exact h))
 ·exact .inl (.inr ⟨u,by rw[qj (Q5 h e (by intro z;cases z))];exact h⟩)
 ·exact .inr h
theorem jT{X:Cx}{K:Frag}(hK:X.K=K):qT X (.builtin "len") (fun xs H Q=>∃p ys,xs=[.ref p]/\(F8 K H p ys\/Ga K H p ys)/\Q (.int (ys.length:Nat)) H):=by
 subst hK;exact qP
theorem lZ{k n:Nat}(h:k<n):seqIndex? (k:Int) n=some k:=by
 unfold seqIndex?
 simp
 omega
theorem vw{ms zs:List Int}{k:Nat}(h:k<ms.length):(zs++[ms[k]]++ms.eraseIdx k).Perm (zs++ms):=by
 rw[El];refine List.Perm.append_left zs ?_
 rw[List.eraseIdx_eq_take_drop_succ];have e:ms=ms.take k++ms[k]::ms.drop (k+1):=by rw[<- List.drop_eq_getElem_cons h,List.take_append_drop]
 refine List.Perm.trans (List.perm_middle (a:=ms[k]) (l₁:=ms.take k) (l₂:=ms.drop (k+1))).symm ?_
 rw[<- e]
theorem pj(ms:List Int)(k:Nat):(ms.map V.int).eraseIdx k=(ms.eraseIdx k).map V.int:=by
 rw[List.eraseIdx_eq_take_drop_succ,List.eraseIdx_eq_take_drop_succ,JU,List.map_take,List.map_drop]
theorem bv{X:Cx}:qT X (.type "tuple") (fun xs H Q=>∃p ys,xs=[.ref p]/\Sq X.K H p ys/\∀l H',FZ H H'->Ga X.K H' l ys->Q (.ref l) H'):=by
 intro tx s σ H xs us Q I r h;obtain⟨p,ys,e,hs,q⟩:=h;exact q9 tx s σ H xs us Q I r ⟨p,ys,e,vt hs q⟩
section
variable{H:Hp}{b:Addr}{n:Nat}
theorem zr{a x:Addr}(h:a≠x):a∉[x]:=fun z=>h (Jl.mp z)
theorem QQ(hb:GZ H b n):NT [b] H:=fun c hc=>by
 obtain⟨_,_,_,e,_⟩:=hb;rw[Jl.mp hc]
 exact⟨_,e,trivial⟩
end
theorem GZ.mv{H H':Hp}{S:List Addr}{b:Addr}{n:Nat}(h:GZ H b n)(m:Mv S H H')(ne:b∉S):GZ H' b n:=by
 obtain⟨a1,a2,a3,e,r⟩:=h
 exact⟨a1,a2,a3,m _ _ ne e,r⟩
theorem yg(n:Nat)(h:n<=100:=by omega):n<sizeLine:=Nat.lt_of_le_of_lt h (by decide)
theorem NT.one{H:Hp}{a:Addr}{o:HO}(e:H a=some o)(n:wT o):NT [a] H:=fun c hc=>⟨o,by rw[Jl.mp hc];exact e,n⟩
end L3
namespace L2
open PySem PySem.Spec PyProof.Rows
section
variable{κ:Type} [DecidableEq κ]
def Zo(kvs:List (κ×V))(k:κ):Option V:=(kvs.find? fun kv=>decide (kv.1=k)).map (·.2)
def GP(kvs:List (κ×V))(k:κ)(v:V):List (κ×V):=
 if(kvs.any fun kv=>decide (kv.1=k))=true then kvs.map (fun kv=>if kv.1=k then(kv.1,v)else kv)else kvs++[(k,v)]
theorem aK{p:κ×V}{r:List (κ×V)}{k:κ}(e:p.1=k):Zo (p::r) k=some p.2:=by simp [Zo,ES,e]
theorem aP{p:κ×V}{r:List (κ×V)}{k:κ}(e:¬p.1=k):Zo (p::r) k=Zo r k:=by simp [Zo,ES,e]
theorem lh(k:κ):∀kvs:List (κ×V),(kvs.any fun kv=>decide (kv.1=k))=(Zo kvs k).isSome
 | []=>rfl
 |p::r=>by
  rw[J7]
  by_cases e:p.1=k
  ·simp only[aK e,Jg e,Bool.true_or,Option.isSome_some]
  ·rw[aP e,Jn e,Bool.false_or];exact lh k r
theorem bo(kvs:List (κ×V))(k:κ)(v:V):(GP kvs k v).length<=kvs.length+1:=by
 unfold GP;split
 ·rw[Jf];lia
 ·rw[JC,JN,List.length_nil];lia
theorem GY.isSome_eq{o:Option V}{u:Option Value}(r:GY o u):o.isSome=u.isSome:=by
 cases o with
 |none=>cases u with
  |none=>rfl
  |some _=>exact(show False from r).elim
 |some _=>cases u with
  |none=>exact(show False from r).elim
  |some _=>rfl
theorem GY.getD{o:Option V}{u:Option Value}{d:V}{d':Value}(r:GY o u)(rd:F9 d d'):F9 (o.getD d) (u.getD d'):=by
 cases o with
 |none=>cases u with
  |none=>exact rd
  |some _=>exact(show False from r).elim
 |some _=>cases u with
  |none=>exact(show False from r).elim
  |some _=>exact r
theorem KV.val{kvs:List (κ×V)}{vs:List (κ×Value)}(r:KV kvs vs)(k:κ):GY (Zo kvs k) (valueAt vs k):=by
 unfold KV at r
 induction r with
 |nil=>exact True.intro
 | @cons p q ps qs h t ih=>
  obtain⟨h1,h2⟩:=h
  by_cases e:p.1=k
  ·have e':q.1=k:=h1.symm.trans e
   have b:valueAt (q::qs) k=some q.2:=by simp [valueAt,ES,e']
   rw[aK e,b];exact h2
  ·have e':¬q.1=k:=fun z=>e (h1.trans z)
   have b:valueAt (q::qs) k=valueAt qs k:=by simp [valueAt,ES,e']
   rw[aP e,b];exact ih
theorem KV.any{kvs:List (κ×V)}{vs:List (κ×Value)}(r:KV kvs vs)(k:κ):(kvs.any fun kv=>decide (kv.1=k))=vs.any fun kv=>decide (kv.1=k):=by
 unfold KV at r
 induction r with
 |nil=>rfl
 |cons h t ih=>rw[J7,J7,ih,h.1]
theorem KV.repl{kvs:List (κ×V)}{vs:List (κ×Value)}(r:KV kvs vs)(k:κ){y:V}{u:Value}(ry:F9 y u):
  KV (kvs.map fun kv=>if kv.1=k then(kv.1,y)else kv) (vs.map fun kv=>if kv.1=k then(kv.1,u)else kv):=by
 unfold KV at r⊢
 induction r with
 |nil=>exact .nil
 | @cons p q ps qs h t ih=>
  rw[JR,JR];refine .cons ?_ ih
  obtain⟨h1,h2⟩:=h
  by_cases e:p.1=k
  ·rw[Jc e,Jc (h1.symm.trans e)];exact⟨h1,ry⟩
  ·rw[Jb e,Jb (fun z=>e (h1.trans z))];exact⟨h1,h2⟩
theorem KV.put{kvs:List (κ×V)}{vs:List (κ×Value)}(r:KV kvs vs)(k:κ){y:V}{u:Value}(ry:F9 y u):KV (GP kvs k y) (stored vs k u):=by
 unfold GP stored;rw[r.any k]
 by_cases e:(vs.any fun kv=>decide (kv.1=k))=true
 ·rw[Jc e,Jc e];exact r.repl k ry
 ·rw[Jb e,Jb e];exact Paired.snoc r ⟨rfl,ry⟩
theorem KV.keys{kvs:List (κ×V)}{vs:List (κ×Value)}(r:KV kvs vs):kvs.map (·.1)=vs.map (·.1):=by
 unfold KV at r
 induction r with
 |nil=>rfl
 |cons h t ih=>rw[JR,JR,ih,h.1]
theorem KV.length{kvs:List (κ×V)}{vs:List (κ×Value)}(r:KV kvs vs):kvs.length=vs.length:=Paired.length r
end
theorem fu{P:Program}{w:World}{k:qL}{u:Value}(r:F9 (kV k) u):(qX P w).is k u=true:=by
 cases k with
 |inl i=>obtain⟨t,e⟩:=(show∃t,u=Value.int i t from r);subst e;exact mU P w i t
 |inr x=>obtain⟨t,e⟩:=(show∃t,u=Value.str x t from r);subst e;exact mO P w x t
theorem iY{P:Program}{w:World}:∀{ks:List qL} {us:List Value},F6 (ks.map kV) us->ItemsAre (qX P w) ks us
 | [],_,r=>by rw[Fd]at r;cases r;exact .nil
 |k::ks,_,r=>by
  rw[JR]at r;cases r with
  |cons h t=>exact .cons (fu h) (iY t)
abbrev KT(H:Hp):List (List qL×V)->List (List qL×Addr×Value)->Prop:=Paired fun p q=>p.1=q.1/\H q.2.1=some (.tup (p.1.map kV))/\F9 p.2 q.2.2
theorem KT.val{H:Hp}{kvs:List (List qL×V)}{xs:List (List qL×Addr×Value)}(r:KT H kvs xs)(k:List qL):GY (Zo kvs k) ((atKey xs k).map (·.2)):=by
 induction r with
 |nil=>exact True.intro
 | @cons p q ps qs h t ih=>
  obtain⟨h1,_,h2⟩:=h
  by_cases e:p.1=k
  ·have e':q.1=k:=h1.symm.trans e
   have b:atKey (q::qs) k=some q.2:=by simp [atKey,ES,e']
   rw[aK e,b];exact h2
  ·have e':¬q.1=k:=fun z=>e (h1.trans z)
   have b:atKey (q::qs) k=atKey qs k:=by simp [atKey,ES,e']
   rw[aP e,b];exact ih
theorem KT.repl{H:Hp}{kvs:List (List qL×V)}{xs:List (List qL×Addr×Value)}(r:KT H kvs xs)(k:List qL){y:V}{u:Value}(ry:F9 y u):
  KT H (kvs.map fun kv=>if kv.1=k then(kv.1,y)else kv) (xs.map (putAt k u)):=by
 induction r with
 |nil=>exact .nil
 | @cons p q ps qs h t ih=>
  rw[JR,JR];refine .cons ?_ ih
  obtain⟨h1,h2,h3⟩:=h;unfold putAt
  by_cases e:p.1=k
  ·rw[Jc e,Jc (h1.symm.trans e)];exact⟨h1,h2,ry⟩
  ·rw[Jb e,Jb (fun z=>e (h1.trans z))];exact⟨h1,h2,h3⟩
theorem KT.put{H:Hp}{kvs:List (List qL×V)}{xs:List (List qL×Addr×Value)}(r:KT H kvs xs)(k:List qL){b:Addr}{y:V}{u:Value}(hb:H b=some (.tup (k.map kV)))(ry:F9 y u):
  KT H (GP kvs k y) (storedH xs k b u):=by
 have e:(kvs.any fun kv=>decide (kv.1=k))=(atKey xs k).isSome:=by
  rw[lh,(r.val k).isSome_eq,Option.isSome_map]
 unfold GP storedH;rw[e]
 by_cases q:(atKey xs k).isSome=true
 ·rw[Jc q,Jc q];exact r.repl k ry
 ·rw[Jb q,Jb q];exact Paired.snoc r ⟨rfl,hb,ry⟩
theorem KT.keeps{H H':Hp}{kvs:List (List qL×V)}{xs:List (List qL×Addr×Value)}(r:KT H kvs xs)(ht:∀b ys,H b=some (.tup ys)->H' b=some (.tup ys)):KT H' kvs xs:=
 Paired.mapP r fun _ _ z=>⟨z.1,ht _ _ z.2.1,z.2.2⟩
section
variable{P:Program}{w:World}{H:Hp}{h:Heap}{a:Addr}
theorem xn{u:HO}(ok:Ht P w H h)(e:Rd H a u):Gg P w H h a u:=e.ok ok
theorem aY{kvs:List (qL×V)}(ok:Ht P w H h)(e:Rd H a (.dK kvs)):kvs.length<=sizeLine/\(a==sysModules)=false/\∃vs,KV kvs vs/\h.DictOf (qX P w) a vs:=
 show Gg P w H h a (.dK kvs)from xn ok e
theorem pz{kvs:List (qL×V)}(ok:Ht P w H h)(e:H a=some (.dK kvs)):kvs.length<=sizeLine/\(a==sysModules)=false/\∃vs,KV kvs vs/\h.DictOf (qX P w) a vs:=aY ok (.inl e)
theorem dh{ks:List qL}(ok:Ht P w H h)(e:H a=some (.tup (ks.map kV))):(tupleKind (qX P w)).is h ks a:=by
 obtain⟨_,its,r,o,h1,h2,n,h3⟩:=(show Gg P w H h a (.tup (ks.map kV))from ok a _ e)
 exact⟨o,its.toArray,n,h1,h2,h3,by simpa using iY r⟩
theorem fc{kvs:List (List qL×V)}(ok:Ht P w H h)(e:Rd H a (.dT kvs)):kvs.length<=sizeLine/\(a==sysModules)=false/\
  ∃xs,KT H kvs xs/\h.DictOfH (tupleKind (qX P w)) a xs:=by
 obtain⟨z,y,xs,r,o,es,ep,h1,h2,h3,h4,h5⟩:=(show Gg P w H h a (.dT kvs)from xn ok e)
 refine⟨z,y,xs,r,o,es,ep,h1,h2,h3,h4,fun x hx=>?_,h5⟩
 have all:∀{l:List (List qL×V)} {m:List (List qL×Addr×Value)},KT H l m->∀x∈m,(tupleKind (qX P w)).is h x.1 x.2.1:=by
  intro l m q
  induction q with
  |nil=>intro x hx;exact nomatch hx
  | @cons p q ps qs hq t ih=>
   intro x hx;rcases Jk.mp hx with e|hx
   ·subst e
    exact dh ok (by rw[<- hq.1];exact hq.2.1)
   ·exact ih x hx
 exact all r x hx
theorem CL{kvs:List (List qL×V)}(ok:Ht P w H h)(e:H a=some (.dT kvs)):kvs.length<=sizeLine/\(a==sysModules)=false/\
  ∃xs,KT H kvs xs/\h.DictOfH (tupleKind (qX P w)) a xs:=fc ok (.inl e)
end
def GV(H:Hp)(a:Addr)(y:V)(r:Option V):Prop:=
 (∃kvs k,Rd H a (.dK kvs)/\y=kV k/\r=Zo kvs k)\/∃kvs k b,Rd H a (.dT kvs)/\y= .ref b/\H b=some (.tup (k.map kV))/\r=Zo kvs k
def Ii(H:Hp)(a:Addr)(y v:V)(H':Hp):Prop:=
 (∃kvs k,H a=some (.dK kvs)/\y=kV k/\kvs.length<sizeLine/\H'=F5 H a (.dK (GP kvs k v)))\/
 ∃kvs k b,H a=some (.dT kvs)/\y= .ref b/\H b=some (.tup (k.map kV))/\kvs.length<sizeLine/\H'=F5 H a (.dT (GP kvs k v))
theorem GV.k{H:Hp}{a:Addr}{kvs:List (qL×V)}{k:qL}(e:H a=some (.dK kvs)):GV H a (kV k) (Zo kvs k):= .inl ⟨kvs,k,.inl e,rfl,rfl⟩
theorem Ii.k{H:Hp}{a:Addr}{kvs:List (qL×V)}{k:qL}{v:V}(e:H a=some (.dK kvs))(hl:kvs.length<sizeLine):Ii H a (kV k) v (F5 H a (.dK (GP kvs k v))):= .inl ⟨kvs,k,e,rfl,hl,rfl⟩
section
variable{X:Cx}{tx:FY}{σ:St}{H:Hp}{s:Shared}{a:Addr}{y v:V}{u r:Value}{o:Option V}{A:Around}{E:FW}
theorem F3.big(I:F3 X tx σ H s):sysModules<s.heap.objs.size:=by
 have h:mainGlobals<s.heap.objs.size:=(I.mod.glob.keeps I.bk).lt
 exact Nat.lt_trans (by decide) h
theorem uH{Q:FW}(hu:A.units+1<cLine)(I:F3 X tx σ H s)(g:GV H a y (some v))(ry:F9 y u)(h:∀w' s',F3 X tx σ H s'->F9 v w'->Q w' s'):
  wpAny (model X.prog X.w) A (getItem (.ref a) u) Q E s:=by
 rcases g with⟨kvs,k,e,ey,l⟩|⟨kvs,k,b,e,ey,eb,l⟩
 ·subst ey
  obtain⟨z,hd,vs,rel,dd⟩:=aY I.hok e;obtain⟨w',hw,rw'⟩:=GY.some_of (v:=v) (o:=valueAt vs k) (by rw[l];exact rel.val k)
  exact wpAny_getItem_of (fu ry) dd.mapOf hw (h w' _ (I.tok _) rw')
 ·subst ey
  cases(show u=Value.ref b from ry)
  obtain⟨z,hd,xs,rel,dd⟩:=fc I.hok e;obtain⟨w',hw,rw'⟩:=GY.some_of (v:=v) (o:=(atKey xs k).map (·.2)) (by rw[l];exact rel.val k)
  obtain⟨p,hp,hp2⟩:=DQ.mp hw;refine wpAny_getItem_heap (FD hu) (dh I.hok eb) dd hp ?_
  rw[hp2];exact h w' _ (I.tok _) rw'
theorem DD{Q:FW}(hu:A.units+1<cLine)(I:F3 X tx σ H s)(g:GV H a y o)(ry:F9 y u)(h:∀s',F3 X tx σ H s'->Q (.bool o.isSome) s'):
  wpAny (model X.prog X.w) A (compareOp .In u (.ref a)) Q E s:=by
 rcases g with⟨kvs,k,e,ey,l⟩|⟨kvs,k,b,e,ey,eb,l⟩
 ·subst ey
  obtain⟨z,hd,vs,rel,dd⟩:=aY I.hok e;refine wpAny_in_of (fu ry) hd dd.mapOf ?_
  rw[<- (rel.val k).isSome_eq,<- l];exact h _ (I.tok _)
 ·subst ey
  cases(show u=Value.ref b from ry)
  obtain⟨z,hd,xs,rel,dd⟩:=fc I.hok e;refine wpAny_in_heap (FD hu) (dh I.hok eb) hd dd ?_
  have q:=(rel.val k).isSome_eq;rw[Option.isSome_map]at q;rw[<- q,<- l];exact h _ (I.tok _)
theorem ii{h':Heap}{t':Nat}{ob:HO}(I:F3 X tx σ H s)(mu:sM (H a))(hs:Heap.SameBut a s.heap h')(he:∃q,h'.get? a=some q)(new:Gg X.prog X.w (F5 H a ob) h' a ob):
  F3 X tx σ (F5 H a ob) {s with heap:=h',toks:=t'}:=
 I.write (x:=a) (e:=a) mu (.inl rfl) (fun b q hb z=>(hs.2 b hb).trans z) he new
theorem lw{P:Program}{w:World}{H':Hp}{h':Heap}{kvs:List (qL×V)}{vs:List (qL×Value)}(z:kvs.length<=sizeLine)(hd:(a==sysModules)=false)(rel:KV kvs vs)(dd:h'.DictOf (qX P w) a vs):
  Gg P w H' h' a (.dK kvs):=⟨z,hd,vs,rel,dd⟩
theorem rZ{H':Hp}{Q:Unit->Shared->Prop}(hu:A.units+1<cLine)(I:F3 X tx σ H s)(g:Ii H a y v H')(ry:F9 y u)(rv:F9 v r)(h:∀s',F3 X tx σ H' s'->Q () s'):
  wpAny (model X.prog X.w) A (setItem (.ref a) u r) Q E s:=by
 rcases g with⟨kvs,k,e,ey,l,eH⟩|⟨kvs,k,b,e,ey,eb,l,eH⟩
 ·subst ey eH
  obtain⟨z,hd,vs,rel,dd⟩:=pz I.hok e;have hz:vs.length<=sizeLine:=by rw[<- rel.length];exact z
  have hl:(GP kvs k v).length<=sizeLine:=by have:=bo kvs k v;lia
  refine wpAny_setItem_pairs (hsz:=hz) (fu ry) dd fun h' dd' hs=>h _ ?_
  have he:∃q,h'.get? a=some q:=let⟨q,_,_,hq,_⟩:=dd';⟨q,hq⟩
  exact ii I (by rw[e];exact True.intro) hs he (lw hl hd (rel.put k rv) dd')
 ·subst ey eH
  cases(show u=Value.ref b from ry)
  obtain⟨z,hd,xs,rel,dd⟩:=CL I.hok e;have hz:xs.length<=sizeLine:=by rw[<- Paired.length rel];exact z
  have hl:(GP kvs k v).length<=sizeLine:=by have:=bo kvs k v;lia
  refine wpAny_setItem_heap (hsz:=hz) (FD hu) (dh I.hok eb) dd fun h' dd' hs=>h _ ?_
  obtain⟨q,es,ep,hq,h2,h3,h4,_,h5⟩:=dd';refine ii I (by rw[e];exact True.intro) hs ⟨q,hq⟩ ⟨hl,hd,_,(rel.put k eb rv).keeps fun c ys ec=>?_,q,es,ep,hq,h2,h3,h4,h5⟩
  rw[qj (Q5 ec e (fun z=>nomatch z))]
  exact ec
end
section
variable{X:Cx}{tx:FY}{σ:St}{H:Hp}{s:Shared}{a:Addr}{kvs:List (qL×V)}{A:Around}{E:FW}
theorem C1{Q:FW}(I:F3 X tx σ H s)(e:Rd H a (.dK kvs))(h:∀t s',F3 X tx σ H s'->Q (.int kvs.length t) s'):wpAny (model X.prog X.w) A (call (.builtin "len") [.ref a]) Q E s:=by
 obtain⟨z,hd,vs,rel,dd⟩:=aY I.hok e;refine call_len_dict hd dd (by rw[<- rel.length];rw[JH]at z;lia) ?_
 rw[<- rel.length];exact h _ _ (I.tok _)
end
def vX(i:Expr):Prop:=∀ov iv,subscripted i false ov iv=operate [ov,iv] (getItem ov iv)
theorem y8{prog:Program}{w:World}{A:Around}{E:FW}{s:Shared}{env:Env}{value slice:Expr}{pos:Pos}{T id:String}{Q:FW}
  (hl:typeLookup (.type T) "__getitem__"=pure (some (.builtin id)))(hs:vX slice)
  (h:wpAny (model prog w) A (eval value env) (fun o s₁=>wpAny (model prog w) A (eval slice env) (fun i s₂=>s₂.TypeIs o T/\wpAny (model prog w) A (getItem o i) Q E s₂) E s₁) E s):
  wpAny (model prog w) A (eval (.Subscript value slice pos) env) Q E s:=by
 refine Subscript_ (JF h (fun o s₁ h₁=>JF h₁ (fun i s₂ h₂=>?_) fun _ _ x=>x) fun _ _ x=>x)
 obtain⟨hT,h₂⟩:=h₂;unfold subscriptTail;refine Ja ?_
 rw[getitemInPython_of_ne hT.not_modules];refine Ja (ER hT hl ?_)
 have fin:wpAny (model prog w) A (subscripted slice false o i) (fun r s₃=>wpAny (model prog w) A (letTemporaryGo value o r >>= fun _=>pure r) Q E s₃) E s₂:=by
  rw[hs o i];exact wpAny_operating (JF h₂ (fun r s₃ h₃=>Ja (wpAny_letTemporaryGo (Jd h₃))) fun _ _ x=>x)
 first
  |exact Jd (Ja fin)
  |exact Ja (Jd (Ja fin))
  |exact Ja fin
theorem mP{X:Cx}{tx:FY}{σ:St}{H:Hp}{s:Shared}{a:Addr}{y:V}{o:Option V}(I:F3 X tx σ H s)(g:GV H a y o):s.TypeIs (.ref a) "dict":=by
 rcases g with⟨kvs,k,e,_,_⟩|⟨kvs,k,b,e,_,_,_⟩
 ·obtain⟨_,_,vs,_,dd⟩:=aY I.hok e
  exact dd.typeIs
 ·obtain⟨_,_,xs,_,dd⟩:=fc I.hok e
  exact dd.typeIs
def xp(td ty:TE):TE:=fun σ H Q=>td σ H fun x H1=>ty σ H1 fun y H2=>∃a v,x= .ref a/\GV H2 a y (some v)/\Q v H2
def Cy(ty td:TE):TE:=fun σ H Q=>ty σ H fun y H1=>td σ H1 fun x H2=>∃a o,x= .ref a/\GV H2 a y o/\Q (.bl o.isSome) H2
def xh(td ty tv:TE):TS:=fun D σ H=>tv σ H fun v H1=>td σ H1 fun x H2=>ty σ H2 fun y H3=>∃a H4,x= .ref a/\Ii H3 a y v H4/\D.nx σ H4
section
variable{X:Cx}{o i value:Expr}{pos pos':Pos}{td ty tv:TE}
theorem Au(hu:X.A.units+1<cLine)(ho:PE X o td)(hi:PE X i ty)(hs:vX i):PE X (.Subscript o i pos) (xp td ty):=by
 intro tx s σ H Q I h;refine y8 PySem.F.slot_dict_getitem.lookup hs (qz (ho tx s σ H _ I h) fun u s1 ⟨x,H1,I1,rx,q1⟩=>qz (hi tx s1 σ H1 _ I1 q1) fun iv s2 zq=>?_)
 obtain⟨y,H2,I2,ry,a,v,ex,g,q2⟩:=zq;subst ex
 obtain rfl:u=Value.ref a:=rx
 exact⟨mP I2 g,uH hu I2 g ry fun w' s3 I3 rw'=>⟨v,H2,I3,rw',q2⟩⟩
theorem CF(hu:X.A.units+1<cLine)(hi:PE X i ty)(ho:PE X o td):PC X .In i o (Cy ty td):=by
 intro tx s σ H Q I h;refine qz (hi tx s σ H _ I h) fun iv s1 ⟨y,H1,I1,ry,q1⟩=>qz (ho tx s1 σ H1 _ I1 q1) fun u s2 zq=>?_
 obtain⟨x,H2,I2,rx,a,ov,ex,g,q2⟩:=zq;subst ex
 obtain rfl:u=Value.ref a:=rx
 exact DD hu I2 g ry fun s3 I3=>⟨.bl ov.isSome,H2,I3,rfl,q2⟩
theorem yW(hu:X.A.units+1<cLine)(ho:PE X o td)(hi:PE X i ty)(hv:PE X value tv)(hs:swapsWith value (some (.Subscript o i pos')) pos.line X.env=pure false):
  PS X (.Assign [.Subscript o i pos'] value pos) (xh td ty tv):=by
 intro tx s σ H D I h;refine wpAny_Assign_Subscript (qz (hv tx s σ H _ I h) fun r s1 ⟨v,H1,I1,rv,q1⟩=>qz (ho tx s1 σ H1 _ I1 q1) fun u s2 ⟨x,H2,I2,rx,q2⟩=>qz (hi tx s2 σ H2 _ I2 q2) fun iv s3 zq=>?_) hs
 obtain⟨y,H3,I3,ry,a,H4,ex,g,q3⟩:=zq;subst ex
 obtain rfl:u=Value.ref a:=rx
 exact rZ hu I3 g ry rv fun s4 I4=>⟨σ,H4,I4,q3⟩
end
theorem lD{P:Program}{w:World}{H:Hp}(h:Heap)(hb:sysModules<h.objs.size):Gg P w H (h.push {cls:= .type "dict",data:= .dict #[]}) h.objs.size (.dK []):=
 ⟨JB _,Eh.mpr (Ne.symm (Jm hb)),[],.nil,Heap.DictOf.new h⟩
def tS:TE:=fun _ H Q=>∀p,H p=none->Q (.ref p) (F5 H p (.dK []))
section
variable{X:Cx}{pos:Pos}
theorem wI:PE X (.Dict [] [] pos) tS:=fun tx s σ H Q I h=>
 wpAny_Dict_empty ⟨.ref s.heap.objs.size,_,I.laid (a:=s.heap.objs.size) (o:= .dK []) (t':=s.toks) (fun _ _ q=>Ji _ q) (Je _) (lD s.heap I.big),rfl,h _ (I.hok.fresh (Je _))⟩
end
def me:List (TE×TE)->St->Hp->(List (V×V)->Hp->Prop)->Prop
 | [],_,H,Q=>Q [] H
 |(tk,tv)::r,σ,H,Q=>tk σ H fun x H1=>tv σ H1 fun y H2=>me r σ H2 fun ps H3=>Q ((x,y)::ps) H3
abbrev VV:List (V×V)->List (Value×Value)->Prop:=Paired fun p q=>F9 p.1 q.1/\F9 p.2 q.2
def uU(X:Cx)(pos:Pos)(keys:List (Option Expr))(values:List Expr)(trs:List (TE×TE)):Prop:=
 ∀(tx:FY) (s:Shared) (σ:St) (H:Hp) (Q:List (V×V)->Hp->Prop),F3 X tx σ H s->me trs σ H Q->
  wpAny (model X.prog X.w) X.A (evalPairs (pairTrees keys values X.env pos)) (fun vs s'=>∃ps H',F3 X tx σ H' s'/\VV ps vs/\Q ps H') X.xe s
theorem AB{X:Cx}{pos:Pos}:uU X pos [] [] []:=fun tx s σ H Q I h=>pairTrees_nil_walk ⟨[],H,I,.nil,h⟩
theorem vQ{X:Cx}{pos:Pos}{k v:Expr}{ks:List (Option Expr)}{vs:List Expr}{tk tv:TE}{trs:List (TE×TE)}(hk:PE X k tk)(hv:PE X v tv)(hr:uU X pos ks vs trs):
  uU X pos (some k::ks) (v::vs) ((tk,tv)::trs):=fun tx s σ H Q I h=>
 pairTrees_cons_walk (qz (hk tx s σ H _ I h) fun u s1 ⟨x,H1,I1,rx,q1⟩=>qz (hv tx s1 σ H1 _ I1 q1) fun w2 s2 ⟨y,H2,I2,ry,q2⟩=>
  qz (hr tx s2 σ H2 _ I2 q2) fun ws s3 ⟨ps,H3,I3,rel,q3⟩=>⟨(x,y)::ps,H3,I3,.cons ⟨rx,ry⟩ rel,q3⟩)
def Zu(kvs more:List (qL×V)):List (qL×V):=more.foldl (fun acc kv=>GP acc kv.1 kv.2) kvs
theorem KV.merge:∀{more:List (qL×V)} {rs:List (qL×Value)} {kvs:List (qL×V)} {vs:List (qL×Value)},KV more rs->KV kvs vs->KV (Zu kvs more) (merged vs rs):=by
 intro more rs kvs vs r;unfold KV at r
 induction r generalizing kvs vs with
 |nil=>intro q;exact q
 | @cons p q ps qs h t ih=>
  intro r0;have e:KV (GP kvs p.1 p.2) (stored vs q.1 q.2):=by
   have:=r0.put p.1 h.2
   rw[<- h.1];exact this
  exact ih e
theorem cG:∀(more kvs:List (qL×V)),(Zu kvs more).length<=kvs.length+more.length
 | [],kvs=>by show kvs.length<=kvs.length+0;lia
 |p::r,kvs=>by
  have h1:=cG r (GP kvs p.1 p.2);have h2:=bo kvs p.1 p.2
  show(Zu (GP kvs p.1 p.2) r).length<=_
  rw[JN];lia
theorem gJ{P:Program}{w:World}:∀{kvs:List (qL×V)} {ws:List (Value×Value)},VV (kvs.map fun kv=>(kV kv.1,kv.2)) ws->∃rs,Carries (qX P w) ws rs/\KV kvs rs
 | [],_,r=>by rw[Fd]at r;cases r;exact⟨[],True.intro,.nil⟩
 |p::kvs,_,r=>by
  rw[JR]at r;cases r with
  | @cons a b as bs h t=>
   obtain⟨rs,c,q⟩:=gJ (P:=P) (w:=w) t
   obtain⟨b1,b2⟩:=b
   exact⟨(p.1,b2)::rs,⟨fu h.1,rfl,c⟩,.cons ⟨rfl,h.2⟩ q⟩
def xg(trs:List (TE×TE)):TE:=fun σ H Q=>∀p,H p=none->me trs σ (F5 H p (.dK [])) fun ps H2=>H2 p=some (.dK [])/\∃kvs:List (qL×V),ps=kvs.map (fun kv=>(kV kv.1,kv.2))/\kvs.length<=15/\Q (.ref p) (F5 H2 p (.dK (Zu [] kvs)))
theorem yO{X:Cx}{pos:Pos}{keys:List (Option Expr)}{values:List Expr}{trs:List (TE×TE)}(h:uU X pos keys values trs)(hall:keys.all (·.isSome)=true)(hl:keys.length=values.length)(h0:keys≠[])
  (h15:keys.length<=15):PE X (.Dict keys values pos) (xg trs):=by
 intro tx s σ H Q I q;have hn:=I.hok.fresh (Je s.heap.objs.size);have I1:=I.laid (a:=s.heap.objs.size) (o:= .dK []) (h':=s.heap.push {cls:= .type "dict",data:= .dict #[]}) (t':=s.toks) (fun _ _ q=>Ji _ q) (Je _) (lD s.heap I.big)
 refine wpAny_Dict_walk (knd:=qX X.prog X.w) hall hl h0 h15 (qz (h tx _ σ _ _ I1 (q _ hn)) fun ws s2 zq=>?_)
 obtain⟨ps,H2,I2,rel,e,kvs,ep,lk,q2⟩:=zq;subst ep;obtain⟨rs,c,rk⟩:=gJ (P:=X.prog) (w:=X.w) rel
 obtain⟨z,hd,vs0,r0,dd⟩:=pz I2.hok e;cases r0;refine⟨rs,c,dd,fun h' dd' hs=>⟨.ref s.heap.objs.size,_,?_,rfl,q2⟩⟩
 have hz:(Zu [] kvs).length<=sizeLine:=by
  have h1:=cG kvs [];rw[List.length_nil]at h1;rw[JH];lia
 have he:∃q,h'.get? s.heap.objs.size=some q:=let⟨q,_,_,hq,_⟩:=dd';⟨q,hq⟩
 exact ii I2 (by rw[e];exact True.intro) hs he (lw hz hd (rk.merge .nil) dd')
structure M1(X:Cx)(o:Expr)(m:Str)(apos:Pos)(e:Expr)(cpos:Pos):Prop where
 base:attributeBase o m X.env (eval o X.env)=eval o X.env
 few:((backTo cpos (starEach [e] X.env)).all (fun x=> !x.1)&&(backToKw cpos (keywordEach [] X.env)).all (fun x=>x.1.isSome)
  &&decide (([e]:List Expr).length+([]:List Keyword).length+(if([]:List Keyword).isEmpty then 0 else 1)<30))=true
 line:(apos.endLine==cpos.line)=true
 trees:backTo cpos (starEach [e] X.env)=[(false,eval e X.env)]
def Dc(H:Hp)(a:Addr):Prop:=(∃kvs,Rd H a (.dK kvs))\/∃kvs,Rd H a (.dT kvs)
theorem Bm{X:Cx}{tx:FY}{σ:St}{H:Hp}{s:Shared}{a:Addr}(I:F3 X tx σ H s)(d:Dc H a):
  s.TypeIs (.ref a) "dict"/\(∀b,Value.ref a= .ref b->∃ob,s.heap.get? b=some ob/\ob.dict=none)/\(a==sysModules)=false:=by
 rcases d with⟨kvs,e⟩|⟨kvs,e⟩
 ·obtain⟨_,hd,vs,_,dd⟩:=aY I.hok e
  refine⟨dd.typeIs,fun b q=>?_,hd⟩
  cases q;obtain⟨ob,_,_,h1,h2,_⟩:=dd
  exact⟨ob,h1,h2.2.1⟩
 ·obtain⟨_,hd,xs,_,dd⟩:=fc I.hok e
  refine⟨dd.typeIs,fun b q=>?_,hd⟩
  cases q;obtain⟨ob,_,_,h1,h2,_⟩:=dd
  exact⟨ob,h1,h2.2.1⟩
section
variable{X:Cx}{tx:FY}{σ:St}{H:Hp}{s:Shared}{a:Addr}{y:V}{u:Value}{o:Option V}{A:Around}{E:FW}
theorem Ce{Q:FW}(hu:A.units+1<cLine)(I:F3 X tx σ H s)(g:GV H a y o)(ry:F9 y u)(h:∀w' s',F3 X tx σ H s'->F9 (o.getD .non) w'->Q w' s'):
  wpAny (model X.prog X.w) A (call (.builtin "dict.get") [.ref a,u]) Q E s:=by
 rcases g with⟨kvs,k,e,ey,l⟩|⟨kvs,k,b,e,ey,eb,l⟩
 ·subst ey
  obtain⟨z,hd,vs,rel,dd⟩:=aY I.hok e;refine call_meetsIn FM dd.typeIs PySem.F.entry_dict_get (PySem.F.args_dict_get_2 _ _) (meets_dict_get (qX X.prog X.w) a (fu ry) hd) ⟨_,dd.mapOf,h _ _ (I.tok _) ?_⟩
  rw[l]
  exact(rel.val k).getD rfl
 ·subst ey
  cases(show u=Value.ref b from ry)
  obtain⟨z,hd,xs,rel,dd⟩:=fc I.hok e;refine call_meetsIn FM dd.typeIs PySem.F.entry_dict_get (PySem.F.args_dict_get_2 _ _) (meetsH_dict_get (tupleKind (qX X.prog X.w)) a b hd) ⟨FD hu,k,xs,dh I.hok eb,dd,h _ _ (I.tok _) ?_⟩
  rw[l]
  exact(rel.val k).getD rfl
end
def rR(td ty:TE):TE:=fun σ H Q=>td σ H fun x H1=>∃a,x= .ref a/\Dc H1 a/\ty σ H1 fun y H2=>∃o,GV H2 a y o/\Q (o.getD .non) H2
section
variable{X:Cx}{o e:Expr}{apos cpos:Pos}{td ty:TE}
theorem v5(hu:X.A.units+1<cLine)(ho:PE X o td)(he:PE X e ty)(m:M1 X o "get" apos e cpos):PE X (.Call (.Attribute o "get" apos) [e] [] cpos) (rR td ty):=by
 intro tx s σ H Q I h;refine wpAny_Call_method m.base m.few m.line PySem.F.plainAttrs_dict FM PySem.F.type_dict_get (qz (ho tx s σ H _ I h) fun u s1 zq=>?_)
 obtain⟨x,H1,I1,rx,a,ex,d,q1⟩:=zq;subst ex
 obtain rfl:u=Value.ref a:=rx
 obtain⟨t1,t2,_⟩:=Bm I1 d;refine⟨t1,t2,?_⟩
 rw[m.trees];refine Calls.callWith_builtin rfl (Calls.evalArgs_plain (Calls.spliced_cons (qz (he tx s1 σ H1 _ I1 q1) fun iv s2 ⟨y,H2,I2,ry,ov,g,q2⟩=>Calls.spliced_nil ?_)))
 exact Ce hu I2 g ry fun w' s3 I3 rw'=>⟨_,H2,I3,rw',q2⟩
end
section
variable{X:Cx}
theorem rT:qT X (.builtin "len") (fun xs H Q=>∃a kvs,xs=[V.ref a]/\H a=some (.dK kvs)/\Q (.int kvs.length) H):=by
 intro tx s σ H xs us Q I r h;obtain⟨a,kvs,rfl,ha,q⟩:=h;obtain⟨u,rfl,ru⟩:=zL r;cases ru;exact C1 I (.inl ha) fun t s' I'=>⟨.int kvs.length,H,I',⟨t,rfl⟩,q⟩
end
end L2
namespace L3
open PySem PySem.Spec PyProof.Rows L2
open PySem.W (kdl_dict kdl_extend)
section
variable{prog:Program}{w:World}{A:Around}{E:FW}{s:Shared}
theorem k6{d:Addr}{kvs:List (qL×Value)}{ep:Nat}{Q:List Value->Shared->Prop}(hh:A.handled=none)(hm:s.heap.DictAt (qX prog w) d kvs ep)(lo:(d==sysModules)=false)(hn:kvs.length<=sizeLine)
  (h:∀(vs:List Value) (h':Heap) (tk:Nat),s.heap.objs.size<h'.objs.size->(∀b o,s.heap.get? b=some o->h'.get? b=some o)->vs.length=kvs.length->(∀(j:Nat) (v:Value),vs[j]? =some v->∃k x,kvs[j]? =some (k,x)/\(qX prog w).is k v=true)->Q vs {s with heap:=h',toks:=tk}):
  wpAny (model prog w) A (collect (.ref d)) Q E s:=by
 unfold collect;refine Ja (wpAny_runValue (Ew entry_proto_collect' ?_))
 show wpAny _ _ (do again (.builtin "list.__iadd__" ⟨[<- newList [],.ref d],[]⟩)) _ _ s
 refine Ja (wpAny_newList (Jd ⟨Code.quiet_builtin _ (by decide +kernel),Ew entry_list_iadd' ?_⟩))
 rw[Around.under_plainId PySem.F.plain_list_iadd _];have hlt:d<s.heap.objs.size:=hm.lt_size
 refine kdl_extend (s:={s with heap:=s.heap.push (seqObj "list" #[] 0)}) (R:=fun r s'=>match r with
   | .ok (.ret v)=>wpAny (model prog w) A (match v with
    | .ref a=>(do
     let o <- load a
     match o.data with
     | .seq xs _=>pure xs.toList
     |_=>unsupported "internal:collect")
    |_=>unsupported "internal:collect") Q E s'
   | .ok _=>False
   | .error e=>E e s') (kdl_dict (knd:=qX prog w) (ep:=ep) (kvs:=kvs) lo) hh (hm.push _) s.heap.objs.size (JY hlt) (JY hlt) _ 0 (Jo _ rfl) (fun h' tk acc' c' hk hS hI=>?_) hn
 show wpAny (model prog w) A (do
   let o <- load s.heap.objs.size
   match o.data with
   | .seq xs _=>pure xs.toList
   |_=>unsupported "internal:collect") Q E {s with heap:=h',toks:=tk}
 refine Ja (wpAny_load hS ?_)
 refine Jd (h acc'.toList h' tk (Jh hS) (fun b o e=>hk b o (Jm (Jh e)) (Ji _ e)) (by rw[Jp];exact hI.1) fun j v e=>hI.2 j v (by rw[<- Array.getElem?_toList];exact e))
theorem iw:∀{us:List Value} {ss:List Str},us.length=ss.length->(∀(j:Nat) (v:Value),us[j]? =some v->∃x t,ss[j]? =some x/\v= .str x t)->StrsAre us ss
 | [],[],_,_=> .nil
 |u::us,x::ss,hl,h=>by
  obtain⟨y,t,e1,e2⟩:=h 0 u rfl;cases e1;subst e2;exact .cons _ _ (iw (Nat.succ.inj hl) fun j v e=>h (j+1) v e)
 | [],_::_,hl,_=>by cases hl
 |_::_,[],hl,_=>by cases hl
theorem ny{d:Addr}{kvs:List (qL×Value)}{ep:Nat}{ss:List Str}{Q:FW}(hh:A.handled=none)(hm:s.heap.DictAt (qX prog w) d kvs ep)(lo:(d==sysModules)=false)(hks:kvs.map (·.1)=ss.map Sum.inr)(h64:ss.length<64)
  (h:∀(h':Heap) (tk:Nat) (l:Addr) (its:List Value) (n:Nat) (ss':List Str),s.heap.objs.size<=l->(∀b o,s.heap.get? b=some o->h'.get? b=some o)->h'.get? l=some (seqObj "list" its.toArray n)->StrsAre its ss'->ss'.Perm ss->sortedS ss'=true->Q (.ref l) {s with heap:=h',toks:=tk}):
  wpAny (model prog w) A (call (.builtin "sorted") [.ref d]) Q E s:=by
 have hlen:kvs.length=ss.length:=by have:=J0 List.length hks;rwa [Jf,Jf]at this
 refine Calls.call_function_entry kind_sorted plain_sorted entry_sorted (args_sorted1 _) ?_
 unfold Builtin.«sorted»
 refine Ja (m:=checkCount "sorted" 1 1 _) (Jd ?_)
 refine Ja (k6 (ep:=ep) (kvs:=kvs) hh hm lo (by rw[JH];lia) fun us h' tk hlt hk hl hv=>?_)
 have hS:StrsAre us ss:=iw (hl.trans hlen) fun j v e=>by
  obtain⟨k,x,e1,e2⟩:=hv j v e;have e3:(kvs.map (·.1))[j]? =some k:=by rw[Jq,e1];rfl
  rw[hks,Jq]at e3;cases e4:ss[j]? with
  |none=>rw[e4]at e3;cases e3
  |some y=>
   rw[e4]at e3;have e5:Sum.inr y=k:=Jy e3
   subst e5;have e6:Value.isStrOf y v=true:=e2
   cases v<;>simp [Value.isStrOf]at e6
   subst e6
   exact⟨_,_,rfl,rfl⟩
 refine Ja (wpAny_newList ?_)
 have hoL:(h'.push (seqObj "list" us.toArray 0)).get? h'.objs.size=some (seqObj "list" us.toArray 0):=Jo _ rfl
 show wpAny _ _ _ _ _ {s with heap:=h'.push (seqObj "list" us.toArray 0),toks:=tk}
 refine Ja (JL (JT slot_list_sort ⟨_,hoL,rfl⟩ entry_list_sort (list_sort_treeK (κ:=PyProof.Rows.strKind) strKind_oneLt hoL hS.keysOf (fun v₁ v₂ rest e=>keyKind_strs (by rw[<- e];exact hS)) (by rw[hl,hlen];exact h64) fun st' a1 a2=>⟨_,rfl,?_⟩) (args_list_sort _)))
 obtain⟨ss',b1,b2,b3⟩:=sorted_out_str hS a1 a2;obtain⟨n',hn'⟩:∃n',(sortedHeap (h'.push (seqObj "list" us.toArray 0)) h'.objs.size us ((arrOf st').map (·.2))).get? h'.objs.size=some (seqObj "list" ((arrOf st').map (·.2)) n'):=sortedHeap_at hoL
 refine Jd ⟨_,rfl,h _ tk h'.objs.size ((arrOf st').map (·.2)).toList n' ss' (Fb hlt) (fun b o e=>?_) (by rw[hn']) b1 b2 b3⟩
 have e':=hk b o e;have hb:b<h'.objs.size:=Jh e'
 rw[sortedHeap_old (Jm hb) (by rw[JX];exact Ec hb)]
 exact Ji _ e'
end
theorem aT:∀{us:List Value} {ss:List Str},StrsAre us ss->F6 (ss.map V.str) us
 | [],[],.nil=> .nil
 |_,_::_,.cons _ _ t=> .cons ⟨_,rfl⟩ (aT t)
theorem k9{X:Cx}(hc:X.calm=true):qT X (.builtin "sorted") (fun xs H Q=>∃(d:Addr) (kvs:List (qL×V)) (ss:List Str),xs=[.ref d]/\H d=some (.dK kvs)/\kvs.map (·.1)=ss.map Sum.inr/\ss.length<64/\
  ∀l ss',H l=none->ss'.Perm ss->sortedS ss'=true->Q (.ref l) (F5 H l (.lst (ss'.map V.str)))):=by
 intro tx s σ H xs us Q I r h;obtain⟨d,kvs,ss,rfl,hH,hks,h64,q⟩:=h;obtain⟨u,rfl,ru⟩:=zL r;cases ru;obtain⟨z,lo,vs,rel,o,es,ep,d1,d2,d3,d4,d5,d6⟩:=pz I.hok hH;have hks':vs.map (·.1)=ss.map Sum.inr:=by rw[<- hks,rel.keys]
 refine ny (I.ok.hd hc) (⟨o,es,d1,d2,d3,d4,d5,d6⟩:s.heap.DictAt (qX X.prog X.w) d vs ep) lo hks' h64 fun h' tk l its n ss' hl hk hL b1 b2 b3=>?_
 refine⟨.ref l,_,I.laid (a:=l) (o:= .lst (ss'.map V.str)) (t':=tk) hk hl ?_,rfl,q l ss' (I.hok.fresh hl) b2 b3⟩
 have vl:=aT b1;refine⟨?_,its,n,vl,hL⟩
 have:=b2.length_eq
 rw[Jf,JH];lia
end L3
namespace L3
open PySem PySem.Spec PyProof.Rows L2
open Sem (wp)
variable{X:Cx}
section
variable{o i value:Expr}{pos pos':Pos}{td ty tv:TE}
theorem zD{k:Nat}(hr:Gh k X.A)(ho:QE X o td)(hi:QE X i ty)(hs:vX i:=by exact fun _ _=>rfl):QE X (.Subscript o i pos) (xp td ty):=⟨Au (by have:=hr.un;lia) ho.h hi.h hs⟩
theorem ZA{k:Nat}(hr:Gh k X.A)(ho:QE X o td)(hi:QE X i ty)(hv:QE X value tv)(hs:swapsWith value (some (.Subscript o i pos')) pos.line X.env=pure false:=by rfl):
  QS X (.Assign [.Subscript o i pos'] value pos) (xh td ty tv):=⟨yW (by have:=hr.un;lia) ho.h hi.h hv.h hs⟩
structure IV(X:Cx)(pos:Pos)(keys:List (Option Expr))(values:List Expr)(trs:List (TE×TE)):Prop where
 h:uU X pos keys values trs
theorem AS:IV X pos [] [] []:=⟨AB⟩
theorem aJ{k v:Expr}{ks:List (Option Expr)}{vs:List Expr}{tk tv:TE}{trs:List (TE×TE)}(hk:QE X k tk)(hv:QE X v tv)(hr:IV X pos ks vs trs):IV X pos (some k::ks) (v::vs) ((tk,tv)::trs):=⟨vQ hk.h hv.h hr.h⟩
theorem Al{keys:List (Option Expr)}{values:List Expr}{trs:List (TE×TE)}(h:IV X pos keys values trs)(hall:keys.all (·.isSome)=true:=by rfl)(hl:keys.length=values.length:=by rfl)(h0:keys≠[]:=by(intro z;cases z))
  (h15:keys.length<=15:=by decide):QE X (.Dict keys values pos) (xg trs):=⟨yO h.h hall hl h0 h15⟩
end
theorem oz{k:qL}{v:V}:∀{kvs:List (qL×V)} (i:Nat),kvs[i]? =some (k,v)->(kvs.map (·.1)).Nodup->Zo kvs k=some v
 | [],i,h,_=>by cases h
 |p::r,0,h,_=>by
  cases Jy h
  exact aK rfl
 |p::r,i+1,h,nd=>by
  have h':r[i]? =some (k,v):=h
  have nd':p.1∉r.map (·.1)/\(r.map (·.1)).Nodup:=Ek.mp nd
  have hm:k∈r.map (·.1):=JA.mpr ⟨(k,v),DX h',rfl⟩
  have ne:p.1≠k:=fun z=>nd'.1 (z▸hm)
  rw[aP ne];exact oz i h' nd'.2
theorem yx{k:qL}{v:V}{kvs:List (qL×V)}(h:k∉kvs.map (·.1)):GP kvs k v=kvs++[(k,v)]:=by
 unfold GP;rw[Jb];intro z;obtain⟨p,hp,e⟩:=List.any_eq_true.mp z;exact h (JA.mpr ⟨p,hp,Jv e⟩)
end L3
namespace L3
open PySem PySem.Spec PyProof.Rows L2
section
variable{X:Cx}{o e:Expr}{apos cpos pos:Pos}{td ty:TE}
theorem li{k:Nat}(hr:Gh k X.A)(ho:QE X o td)(ha:QE X e ty)(m:M1 X o "get" apos e cpos:=by exact⟨rfl,rfl,rfl,rfl⟩):QE X (.Call (.Attribute o "get" apos) [e] [] cpos) (rR td ty):=⟨v5 (by have:=hr.un;lia) ho.h ha.h m⟩
theorem gr:QE X (.Dict [] [] pos) tS:=⟨wI⟩
theorem B0{k:Nat}(hr:Gh k X.A)(hi:QE X e ty)(ho:QE X o td)(h1:behindInMarks CmpOp.In o=false:=by rfl):QT X (.Compare e [.In] [o] pos) (gY (Cy ty td)):=⟨Cf (CF (by have:=hr.un;lia) hi.h ho.h) (h1:=h1)⟩
end
structure Kb where
 age:Int
 last:Int
 wt:Option (Int×Int)
abbrev Kw:=List (Str×Kb)
def Wt(H:Hp)(v:V):Option (Int×Int)->Prop
 |none=>v= .non
 |some (x,c)=>∃w,v= .ref w/\H w=some (.tup [.int x,.int c])
def GI(H:Hp)(a:Addr)(e:Kb):Prop:=∃v,H a=some (.tup [.int e.age,.int e.last,v])/\Wt H v e.wt
def fP(kn:Kw)(f:Str->Addr):List (qL×V):=kn.map fun e=>(Sum.inr e.1,V.ref (f e.1))
def HJ(H:Hp)(d:Addr)(kn:Kw):Prop:=∃f:Kw×(Str->Addr),H d=some (.dK (fP f.1 f.2))/\(∀e∈kn,GI H (f.2 e.1) e.2)/\f.1.Perm kn/\(kn.map (·.1)).Nodup
def ze(kn:Kw)(nm:Str)(e:Kb):Kw:=if nm∈kn.map (·.1)then kn.map (fun p=>if p.1=nm then(nm,e)else p)else kn++[(nm,e)]
theorem Mv.tup{S:List Addr}{H H':Hp}{a:Addr}{xs:List V}(m:Mv S H H')(n:NT S H)(h:H a=some (.tup xs)):H' a=some (.tup xs):=m _ _ (fun z=>by
 obtain⟨o,e,no⟩:=n a z;rw[e]at h;cases h;exact no) h
theorem Wt.mv{S:List Addr}{H H':Hp}{v:V}{o:Option (Int×Int)}(m:Mv S H H')(n:NT S H)(h:Wt H v o):Wt H' v o:=by
 cases o with
 |none=>exact h
 |some p=>obtain⟨w,e,r⟩:=h;exact⟨w,e,m.tup n r⟩
theorem GI.mv{S:List Addr}{H H':Hp}{a:Addr}{e:Kb}(m:Mv S H H')(n:NT S H)(h:GI H a e):GI H' a e:=by
 obtain⟨v,r,w⟩:=h
 exact⟨v,m.tup n r,w.mv m n⟩
theorem GI.same{H H':Hp}{a:Addr}{e:Kb}(s:FZ H H')(h:GI H a e):GI H' a e:=h.mv (S:=[]) s.mv (fun c h=>nomatch h)
theorem HJ.mv{S:List Addr}{H H':Hp}{d:Addr}{kn:Kw}(m:Mv S H H')(n:NT S H)(hd:d∉S)(h:HJ H d kn):HJ H' d kn:=by
 obtain⟨f,r,w,p⟩:=h
 exact⟨f,m _ _ hd r,fun e he=>(w e he).mv m n,p⟩
theorem oF(f:Str->Addr)(nm:Str):∀kn:Kw,Zo (fP kn f) (Sum.inr nm:qL)=(kn.lookup nm).map fun _=>V.ref (f nm)
 | []=>rfl
 |(m,e)::r=>by
  show Zo ((Sum.inr m,V.ref (f m))::fP r f) (Sum.inr nm)=_
  by_cases q:m=nm
  ·subst q
   rw[aK rfl,List.lookup_cons_self];rfl
  ·rw[aP (by intro z;injection z with z;exact q z),DY,E8 (fun z=>q z.symm)]
   exact oF f nm r
theorem zv{nm:Str}{e:Kb}:∀{kn:Kw},kn.lookup nm=some e->(nm,e)∈kn
 |(m,x)::r,h=>by
  rw[DY]at h
  by_cases q:nm=m
  ·subst q
   rw[EI]at h;cases h;exact Jz ..
  ·rw[E8 q]at h
   exact JG _ (zv h)
theorem Ge{nm:Str}:∀{kn:Kw},(kn.lookup nm).isSome=true↔nm∈kn.map (·.1)
 | []=>by simp
 |(m,x)::r=>by
  rw[DY,JR,Jk]
  by_cases q:nm=m
  ·subst q;simp
  ·rw[E8 q]
   simp only[q,false_or];exact Ge
theorem ZU(kn:Kw)(nm:Str)(e:Kb):(ze kn nm e).map (·.1)=if nm∈kn.map (·.1)then kn.map (·.1)else kn.map (·.1)++[nm]:=by
 unfold ze;split
 ·rw[Eg]
  refine Fj fun p hp=>?_
  simp only[Function.comp]
  by_cases y:p.1=nm
  ·rw[Jc y,y]
  ·rw[Jb y]
 ·rw[JU];rfl
theorem mF(kn:Kw)(nm:Str)(e:Kb):(ze kn nm e).length<=kn.length+1:=by
 have:=J0 List.length (ZU kn nm e)
 rw[Jf]at this;rw[this];split
 ·rw[Jf];lia
 ·rw[JC,Jf];exact Je _
theorem iK{kn:Kw}(nd:(kn.map (·.1)).Nodup)(nm:Str)(e:Kb):((ze kn nm e).map (·.1)).Nodup:=by
 rw[ZU];split
 ·exact nd
 ·rename_i z
  exact E9.mpr ⟨nd,by simp,fun a ha b hb=>by rw[Jl.mp hb];exact fun w=>z (w▸ha)⟩
theorem ZL{nm:Str}{e:Kb}:∀{kn:Kw},(kn.map (·.1)).Nodup->kn.lookup nm=some e->∀p∈kn,p.1=nm->p=(nm,e)
 | [],_,h,_,hp,_=>by cases hp
 |(m,x)::r,nd,h,p,hp,hn=>by
  have nd':m∉r.map (·.1)/\(r.map (·.1)).Nodup:=Ek.mp nd
  rw[DY]at h
  by_cases q:nm=m
  ·subst q
   rw[EI]at h;cases h;rcases Jk.mp hp with rfl|hp
   ·rfl
   ·exact absurd (JA.mpr ⟨p,hp,hn⟩) nd'.1
  ·rw[E8 q]at h
   rcases Jk.mp hp with rfl|hp
   ·exact absurd hn.symm q
   ·exact ZL nd'.2 h p hp hn
theorem mY{k0 kn:Kw}(pm:k0.Perm kn)(nd:(kn.map (·.1)).Nodup)(nm:Str):k0.lookup nm=kn.lookup nm:=by
 cases e:k0.lookup nm with
 |none=>
  cases e':kn.lookup nm with
  |none=>rfl
  |some x=>
   have:(k0.lookup nm).isSome=true:=Ge.mpr ((pm.map (·.1)).mem_iff.mpr (Ge.mp (by rw[e'];rfl)))
   rw[e]at this;cases this
 |some x=>
  obtain⟨y,hy⟩:∃y,kn.lookup nm=some y:=FG.mp (Ge.mpr (JA.mpr ⟨_,pm.mem_iff.mp (zv e),rfl⟩))
  rw[hy]
  have:=ZL nd hy _ (pm.mem_iff.mp (zv e)) rfl
  cases this;rfl
theorem HJ.get{H:Hp}{d:Addr}{kn:Kw}(h:HJ H d kn)(nm:Str):(kn.lookup nm=none/\GV H d (.str nm) none)\/∃e a,kn.lookup nm=some e/\GV H d (.str nm) (some (.ref a))/\GI H a e:=by
 obtain⟨⟨k0,f⟩,hd,hb,pm,nd⟩:=h;have g:=GV.k (k:=Sum.inr nm) hd
 rw[oF,mY pm nd]at g;cases q:kn.lookup nm with
 |none=>rw[q]at g;exact .inl ⟨rfl,g⟩
 |some e=>rw[q]at g;exact .inr ⟨e,f nm,rfl,g,hb _ (zv q)⟩
theorem jp{k0 kn:Kw}(pm:k0.Perm kn)(nm:Str)(e:Kb):(ze k0 nm e).Perm (ze kn nm e):=by
 unfold ze
 by_cases z:nm∈kn.map (·.1)
 ·rw[Jc ((pm.map (·.1)).mem_iff.mpr z),Jc z];exact pm.map _
 ·rw[Jb (fun w=>z ((pm.map (·.1)).mem_iff.mp w)),Jb z];exact pm.append_right _
theorem HJ.put{H:Hp}{d a:Addr}{kn:Kw}{e:Kb}(h:HJ H d kn)(nm:Str)(hl:kn.length<=100)(hb:GI H a e):∃H',Ii H d (.str nm) (.ref a) H'/\Mv [d] H H'/\HJ H' d (ze kn nm e):=by
 obtain⟨⟨k0,f⟩,hd,hk0,pm,nd⟩:=h;have hlen:(fP k0 f).length=kn.length:=(Jf _).trans pm.length_eq
 have hk:∀e∈k0,GI H (f e.1) e.2:=fun e he=>hk0 e (pm.mem_iff.mp he)
 refine⟨_,Ii.k (k:=Sum.inr nm) hd (by rw[hlen];exact yg _),Mv.upd1,(ze k0 nm e,fun n=>if n=nm then a else f n),?_,?_,jp pm nm e,iK nd nm e⟩
 ·rw[qb]
  congr 2
  unfold GP ze fP;have ea:((k0.map fun e=>((Sum.inr e.1:qL),V.ref (f e.1))).any fun kv=>decide (kv.1=(Sum.inr nm:qL)))=true↔nm∈k0.map (·.1):=by
   rw[List.any_eq_true];constructor
   ·rintro⟨p,hp,z⟩
    obtain⟨q,hq,rfl⟩:=JA.mp hp;have z':(Sum.inr q.1:qL)=Sum.inr nm:=Jv z
    injection z' with z'
    exact JA.mpr ⟨q,hq,z'⟩
   ·intro z
    obtain⟨q,hq,e⟩:=JA.mp z
    exact⟨_,JA.mpr ⟨q,hq,rfl⟩,Jg (by rw[e])⟩
  by_cases z:nm∈k0.map (·.1)
  ·rw[Jc (ea.mpr z),Jc z,Eg,Eg]
   refine Fj fun p hp=>?_
   simp only[Function.comp]
   by_cases y:p.1=nm
   ·rw[Jc (by rw[y]),Jc y]
    simp [y]
   ·rw[Jb (by intro w;injection w with w;exact y w),Jb y]
    simp [y]
  ·rw[Jb (fun w=>z (ea.mp w)),Jb z,JU]
   congr 1
   ·refine Fj fun p hp=>?_
    have y:¬p.1=nm:=fun w=>z (JA.mpr ⟨p,hp,w⟩)
    simp [y]
   ·simp
 ·have nt:NT [d] H:=NT.one hd trivial
  intro p hp;have hp:=(jp pm nm e).mem_iff.mpr hp;have hb':=hb.mv (Mv.upd1 (o:= .dK (GP (fP k0 f) (Sum.inr nm) (.ref a)))) nt
  unfold ze at hp;split at hp
  ·obtain⟨q,hq,rfl⟩:=JA.mp hp
   by_cases y:q.1=nm
   ·rw[Jc y];simp only[D8];exact hb'
   ·rw[Jb y]
    show GI _ (if q.1=nm then a else f q.1) q.2
    rw[Jb y]
    exact(hk q hq).mv Mv.upd1 nt
  ·rename_i z
   rcases JW.mp hp with hq|hq
   ·have y:¬p.1=nm:=fun w=>z (JA.mpr ⟨p,hq,w⟩)
    show GI _ (if p.1=nm then a else f p.1) p.2
    rw[Jb y]
    exact(hk p hq).mv Mv.upd1 nt
   ·rw[Jl.mp hq];simp only[D8];exact hb'
def Gm(K:Frag)(H:Hp)(hk:Addr)(kss:List (List Int)):Prop:=∃as:List Addr,H hk=some (.lst (as.map V.ref))/\as.length=kss.length/\∀(i:Nat) (a:Addr) (ks:List Int),as[i]? =some a->kss[i]? =some ks->Ga K H a (ks.map V.int)
theorem Gm.mv{K:Frag}{S:List Addr}{H H':Hp}{hk:Addr}{kss:List (List Int)}(m:Mv S H H')(n:NT S H)(hd:hk∉S)(h:Gm K H hk kss):Gm K H' hk kss:=by
 obtain⟨as,e,l,r⟩:=h
 exact⟨as,m _ _ hd e,l,fun i a ks e1 e2=>m.sqt n (r i a ks e1 e2)⟩
structure Dr where
 t:List Int
 kss:List (List Int)
 near:Int
 far:Int
 most:Int
 least:Int
 kn:Kw
def dF(D:Dr)(ta hk bd lg:Addr):List (Str×V):=
 [("table",.ref ta),("house_keys",.ref hk),("near",.int D.near),("far",.int D.far),("most",.int D.most),("least_age",.int D.least),("buttons",.ref bd),("log",.ref lg)]
def dN:List Str:=["table","house_keys","near","far","most","least_age","buttons","log"]
theorem CN:dN.Nodup:=by decide +kernel
theorem C6(D:Dr)(ta hk bd lg:Addr):((dF D ta hk bd lg).map (·.1)).Nodup:=CN
structure G0(K:Frag)(C:Addr):Prop where
 cl:Iq K C
 n_table:Gq K C "table"
 n_house_keys:Gq K C "house_keys"
 n_near:Gq K C "near"
 n_far:Gq K C "far"
 n_most:Gq K C "most"
 n_least_age:Gq K C "least_age"
 n_buttons:Gq K C "buttons"
 n_log:Gq K C "log"
structure F2(K:Frag)(C:Addr)(H:Hp)(p ta hk bd lg:Addr)(n:Nat)(D:Dr):Prop where
 ob:∃dx,H p=some (.ins C dx (dF D ta hk bd lg))
 tb:Ga K H ta (D.t.map V.int)
 ks:Gm K H hk D.kss
 kb:HJ H bd D.kn
 lo:∃rs:List Addr,H lg=some (.lst (rs.map V.ref))/\rs.length<=n
 ne:lg≠hk
section
variable{K:Frag}{C:Addr}{H H':Hp}{p ta hk bd lg dx:Addr}{n:Nat}{D:Dr}
theorem F2.has(b:F2 K C H p ta hk bd lg n D)(U:G0 K C)(i:Nat){f:Str}{v:V}(h:(dF D ta hk bd lg)[i]? =some (f,v))(na:Gq K C f):bz K H p f v:=by
 obtain⟨dx,e⟩:=b.ob
 exact⟨C,dx,_,e,U.cl,na,jA i h (C6 ..)⟩
theorem F2.h_table(b:F2 K C H p ta hk bd lg n D)(U:G0 K C):bz K H p "table" (.ref ta):=b.has U 0 rfl U.n_table
theorem F2.h_house_keys(b:F2 K C H p ta hk bd lg n D)(U:G0 K C):bz K H p "house_keys" (.ref hk):=b.has U 1 rfl U.n_house_keys
theorem F2.h_near(b:F2 K C H p ta hk bd lg n D)(U:G0 K C):bz K H p "near" (.int D.near):=b.has U 2 rfl U.n_near
theorem F2.h_far(b:F2 K C H p ta hk bd lg n D)(U:G0 K C):bz K H p "far" (.int D.far):=b.has U 3 rfl U.n_far
theorem F2.h_most(b:F2 K C H p ta hk bd lg n D)(U:G0 K C):bz K H p "most" (.int D.most):=b.has U 4 rfl U.n_most
theorem F2.h_least_age(b:F2 K C H p ta hk bd lg n D)(U:G0 K C):bz K H p "least_age" (.int D.least):=b.has U 5 rfl U.n_least_age
theorem F2.h_buttons(b:F2 K C H p ta hk bd lg n D)(U:G0 K C):bz K H p "buttons" (.ref bd):=b.has U 6 rfl U.n_buttons
theorem F2.h_log(b:F2 K C H p ta hk bd lg n D)(U:G0 K C):bz K H p "log" (.ref lg):=b.has U 7 rfl U.n_log
theorem F2.no(b:F2 K C H p ta hk bd lg n D){m:Str}(h:m∉dN:=by decide +kernel):Db C H p m:=by
 obtain⟨dx,e⟩:=b.ob
 exact⟨dx,_,e,iS h⟩
theorem F2.mv{S:List Addr}(b:F2 K C H p ta hk bd lg n D)(m:Mv S H H')(nt:NT S H)(hp:p∉S)(hh:hk∉S)(hb:bd∉S)(hl:lg∉S):F2 K C H' p ta hk bd lg n D:=by
 obtain⟨dx,e⟩:=b.ob;obtain⟨rs,el,l⟩:=b.lo
 exact⟨⟨dx,m _ _ hp e⟩,m.sqt nt b.tb,b.ks.mv m nt hh,b.kb.mv m nt hb,⟨rs,m _ _ hl el,l⟩,b.ne⟩
theorem F2.same(b:F2 K C H p ta hk bd lg n D)(s:FZ H H'):F2 K C H' p ta hk bd lg n D:=b.mv (S:=[]) s.mv (fun c h=>nomatch h) (fun h=>nomatch h) (fun h=>nomatch h) (fun h=>nomatch h) (fun h=>nomatch h)
end
def Ds:R2:=fun x y H Q=>∃(o:Option (Int×Int)) (b:Addr) (a c:Int),Wt H x o/\y= .ref b/\Rd H b (.tup [.int a,.int c])/\Q (.bl (decide (o=some (a,c)))) H
theorem uv{X:Cx}{k:Nat}(hr:Gh k X.A):zx X (compareOp .Eq) Ds:=by
 intro tx s σ H x y v u Q I rx ry h;obtain⟨o,b,a,c,hw,rfl,hb,q⟩:=h;cases ry;obtain⟨its2,r2,p2,_⟩:=I.tuple (.inl hb)
 have hu:X.A.units<cLine:=by have:=hr.un;lia
 cases o with
 |none=>
  have hw':x= .non:=hw
  subst hw';cases rx;rw[Jn (by intro z;cases z)]at q
  exact SeqAt.RcAt.none_tuple p2 hu _ _ _ _ ⟨.bl false,H,I,rfl,q⟩
 |some pr=>
  obtain⟨x1,x2⟩:=pr;obtain⟨w,rfl,hw'⟩:=hw;cases rx;obtain⟨its,r1,p1,_⟩:=I.tuple (.inl (.inl hw'))
  have l1:=r1.length;have l2:=r2.length;have e1:=SeqAt.RcAt.tuples (A:=X.A) (e:=fun j=>[x1,x2].getD j 0==[a,c].getD j 0) (show s.heap.IsTuple w its.toArray from p1) (show s.heap.IsTuple b its2.toArray from p2) hu (fun j h1 h2=>by
   have h1':j<its.length:=by simpa using h1
   have h2':j<its2.length:=by simpa using h2
   obtain⟨t,e⟩:=fj (ns:=[x1,x2]) r1 j h1' (by rw[<- l1]at h1';exact h1')
   obtain⟨t',e'⟩:=fj (ns:=[a,c]) r2 j h2' (by rw[<- l2]at h2';exact h2')
   simp only[List.getElem_toArray,e,e',JE,Jj (show j<[x1,x2].length by rw[<- l1]at h1';exact h1'),Jj (show j<[a,c].length by rw[<- l2]at h2';exact h2'),Ep]
   exact SeqAt.EqAt.int_int _ _ _ _)
  have z1:its.toArray.size=2:=by rw[Jr,<- l1];rfl
  have z2:its2.toArray.size=2:=by rw[Jr,<- l2];rfl
  refine e1 _ _ _ _ ⟨.bl _,H,I,?_,q⟩
  show Value.bool _=Value.bool _
  congr 1
  rw[z1,z2,show min 2 2=([x1,x2]:List Int).length from rfl,vI [x1,x2] [a,c] rfl]
  simp
def pC(c l n f:Int):Str:=if c<=l then "old" else if c<=l+n then "near" else if c<=l+f then "far" else "beyond"
def oO:Sp:=fun vs H Q _=>∃c l n f:Int,vs=[.int c,.int l,.int n,.int f]/\Q (.str (pC c l n f)) H
def zf(near far:Int)(e:Kb)(age c:Int):Str×Kb:=
 if c<=e.last then("old",e)else if c<=e.last+near then("near",⟨age,c,none⟩)
 else if c<=e.last+far then(if e.wt=some (age,c-1)then("near",⟨age,c,none⟩)else("far",⟨e.age,e.last,some (age,c)⟩))else("beyond",e)
def iO:Sp:=fun vs H Q _=>∃(a:Addr) (e:Kb) (age c near far:Int),vs=[.ref a,.int age,.int c,.int near,.int far]/\GI H a e/\
 ∀q a' H',FZ H H'->H' q=some (.tup [.str (zf near far e age c).1,.ref a'])->GI H' a' (zf near far e age c).2->Q (.ref q) H'
def QH(D:Dr)(age:Int):Bool:=decide (D.least<=age)&&decide (age<D.kss.length)
def qH(D:Dr)(e:Kb)(age:Int):Bool:=QH D age&&decide (e.age<=age)
def zj(D:Dr)(nm:Str)(age:Int)(r:Option (Int×Int)):List V×Kw:=
 match D.kn.lookup nm with
 |none=>([.str "held",.str "unknown"],D.kn)
 |some e=>if qH D e age=true then(match r with
   |none=>([.str "held",.str "false"],D.kn)
   |some (c,d)=>if(zf D.near D.far e age c).1="near" then([.str "open",.str nm,.int d],ze D.kn nm (zf D.near D.far e age c).2)else([.str "held",.str (zf D.near D.far e age c).1],ze D.kn nm (zf D.near D.far e age c).2))
  else([.str "held",.str "age"],D.kn)
structure G5(D:Dr):Prop where
 tp:D.t.Perm Gz
 l0:0<=D.least
 kl:D.kss.length<=8
 nl:D.kn.length<=60
 nd:(D.kn.map (·.1)).Nodup
section
variable(K:Frag)(C:Addr)
def nP:Sp:=fun vs H Q _=>∃(p ta hk bd lg:Addr) (n:Nat) (D:Dr),vs=[.ref p]/\F2 K C H p ta hk bd lg n D/\Q (.bl (decide (D.most<=(D.kn.length:Int)))) H
def gd:Sp:=fun vs H Q _=>∃(p ta hk bd lg:Addr) (n:Nat) (D:Dr) (age:Int),vs=[.ref p,.int age]/\F2 K C H p ta hk bd lg n D/\Q (.bl (QH D age)) H
def bL:Sp:=fun vs H Q _=>∃(p ta hk bd lg a:Addr) (n:Nat) (D:Dr) (e:Kb) (age:Int),vs=[.ref p,.ref a,.int age]/\F2 K C H p ta hk bd lg n D/\GI H a e/\Q (.bl (qH D e age)) H
def j4:Sp:=fun vs H Q _=>∃(p ta hk bd lg:Addr) (n:Nat) (D:Dr) (nm:Str),vs=[.ref p,.str nm]/\F2 K C H p ta hk bd lg n D/\
 (D.kn.lookup nm=none->Q .non H)/\(∀e a,D.kn.lookup nm=some e->GI H a e->Q (.ref a) H)
def nU:Sp:=fun vs H Q _=>∃(p ta hk bd lg a:Addr) (n:Nat) (D:Dr) (e:Kb) (age c:Int),vs=[.ref p,.ref a,.int age,.int c]/\F2 K C H p ta hk bd lg n D/\GI H a e/\qH D e age=true/\
 ∀q a' H',FZ H H'->H' q=some (.tup [.str (zf D.near D.far e age c).1,.ref a'])->GI H' a' (zf D.near D.far e age c).2->Q (.ref q) H'
def Gx(H:Hp)(pr:Addr)(nm:Str)(age:Int)(ds:List Int):Prop:=∃pc,H pr=some (.tup [.str nm,.int age,.ref pc])/\H pc=some (.tup (ds.map V.int))
def Qy(D:Dr)(age:Int):List Int:=D.kss.getD age.toNat []
def iU:Sp:=fun vs H Q _=>∃(p ta hk bd lg pr:Addr) (n:Nat) (D:Dr) (nm:Str) (age:Int) (ds:List Int),vs=[.ref p,.ref pr]/\F2 K C H p ta hk bd lg n D/\G5 D/\Gx H pr nm age ds/\QV nm/\ds.length=5/\zA ds/\
 ∀q H',Mv [bd] H H'->H' q=some (.tup (zj D nm age (Zp D.t (Qy D age) nm ds)).1)->F2 K C H' p ta hk bd lg n {D with kn:=(zj D nm age (Zp D.t (Qy D age) nm ds)).2}->Q (.ref q) H'
end
theorem Gx.mv{S:List Addr}{H H':Hp}{pr:Addr}{nm:Str}{age:Int}{ds:List Int}(m:Mv S H H')(n:NT S H)(h:Gx H pr nm age ds):Gx H' pr nm age ds:=by
 obtain⟨pc,e1,e2⟩:=h
 exact⟨pc,m.tup n e1,m.tup n e2⟩
theorem Gx.same{H H':Hp}{pr:Addr}{nm:Str}{age:Int}{ds:List Int}(s:FZ H H')(h:Gx H pr nm age ds):Gx H' pr nm age ds:=by
 obtain⟨pc,e1,e2⟩:=h
 exact⟨pc,s _ _ e1,s _ _ e2⟩
theorem jq{X:Cx}:zx X (compareOp .LtE) (fun x y H Q=>∃i j,x= .str i/\y= .str j/\Q (.bl (!decide (j.cps.toList<i.cps.toList))) H):=by
 intro tx s σ H x y v u Q I rx ry h;obtain⟨i,j,rfl,rfl,q⟩:=h;obtain⟨t,rfl⟩:=rx;obtain⟨t',rfl⟩:=ry;exact PySem.P.le_str (qN I q rfl)
theorem wz{js:List Nat}{te:TE}{σ:L2.St}{H:Hp}{Q:VK}{x:Str}(hn:x.cps.size<=sizeLine)(Pv:Nat->List V->Hp->Prop)(h0:Pv 0 [] H)
  (hs:∀i ys H c,x.cps[i]? =some c->ys.length=i->Pv i ys H->te (some (.str ⟨#[c]⟩)::ZQ js σ) H fun v H3=>Pv (i+1) (ys++[v]) H3)
  (hd:∀ys H,ys.length=x.cps.size->Pv x.cps.size ys H->∀p,H p=none->Q (.ref p) (F5 H p (.lst ys))):gU (wW x) js te σ H Q:=
 cw hn (fun i v=>∃c,x.cps[i]? =some c/\v= .str ⟨#[c]⟩) Pv h0 (fun i ys H hi p=>hi) (fun ys H p=>Je _) (fun i ys H v H' _ p y=>y) (fun i ys H v hi hl p hx=>by
  obtain⟨c,hc,rfl⟩:=hx;exact hs i ys H c hc hl p) hd
theorem vJ{ds:List Int}(h:zA ds):(ds.map V.int).all bY=true:=by
 rw[EF];intro x hx;obtain⟨i,hi,rfl⟩:=JA.mp hx
 have:=h i hi
 show(decide (0<=i)&&decide (i<16))=true
 rw[Jg this.1,Jg this.2];rfl
theorem Qk{c:Bool}{a b:Prop}(h:c=true)(x:a):if c=true then a else b:=by rw[Jc h];exact x
theorem Qz{c:Bool}{a b:Prop}(h:c=false)(x:b):if c=true then a else b:=by rw[Jb (by rw[h];intro z;cases z)];exact x
theorem zk{K:Frag}{C p dx:Addr}{H:Hp}{fs:List (Str×V)}{f:Str}{v:V}(c:Iq K C)(e:H p=some (.ins C dx fs))(n:Gq K C f)(i:Nat)(hns:fs.map (·.1)=dN.take i:=by rfl)(hn:f∉dN.take i:=by decide +kernel):
  Bu K H p f v (F5 H p (.ins C dx (fs++[(f,v)]))):=⟨C,dx,fs,e,c,n,by
  have h1:fs.length=(dN.take i).length:=by rw[<- hns,Jf]
  have h2:(dN.take i).length<=8:=by rw[DW];exact Nat.min_le_right _ _
  lia,by rw[lc (by rw[hns];exact hn)]⟩
theorem Gm.upd{K:Frag}{C p dx b:Addr}{H:Hp}{fs:List (Str×V)}{kss:List (List Int)}{o:HO}(e:H p=some (.ins C dx fs))(h:Gm K H b kss):Gm K (F5 H p o) b kss:=by
 obtain⟨as,e1,l,r⟩:=id h;exact h.mv Mv.upd1 (NT.one e trivial) (zr (Q5 e1 e (by intro z;cases z)))
theorem Gm.same{K:Frag}{H H':Hp}{b:Addr}{kss:List (List Int)}(s:FZ H H')(h:Gm K H b kss):Gm K H' b kss:=h.mv (S:=[]) s.mv (fun c h=>nomatch h) (fun h=>nomatch h)
theorem Mv.nfree{S:List Addr}{H H':Hp}{x:Addr}(m:Mv S H H')(hn:x∉S)(h:H' x=none):H x=none:=by
 cases e:H x with
 |none=>rfl
 |some o=>rw[m x o hn e]at h;cases h
theorem Gm.at{K:Frag}{H:Hp}{hk:Addr}{D:Dr}{age:Int}(h:Gm K H hk D.kss)(h0:0<=age)(h1:age<D.kss.length):∃(xs:List V) (ak:Addr),H hk=some (.lst xs)/\Zl xs age=some (.ref ak)/\Ga K H ak ((Qy D age).map V.int):=by
 obtain⟨as,e,l,r⟩:=h;obtain⟨i,rfl⟩:∃i:Nat,age=(i:Int):=⟨age.toNat,by lia⟩
 have hi:i<D.kss.length:=by lia
 have hi':i<as.length:=by lia
 refine⟨_,as[i],e,Qv (by rw[Jq,Jj hi'];rfl),?_⟩
 have:=r i as[i] D.kss[i] (Jj hi') (Jj hi)
 unfold Qy;rw[DZ,JE,Jj hi];exact this
theorem Zh{D:Dr}{e:Kb}{age:Int}(h:qH D e age=true)(h0:0<=D.least):0<=age/\age<D.kss.length:=by
 unfold qH QH at h;rw[Jx,Jx]at h;have h1:=Jv h.1.1;have h2:=Jv h.1.2;lia
theorem F2.putK{K:Frag}{C:Addr}{H H':Hp}{p ta hk bd lg:Addr}{n:Nat}{D:Dr}{kn':Kw}(b:F2 K C H p ta hk bd lg n D)(m:Mv [bd] H H')(kb:HJ H' bd kn'):F2 K C H' p ta hk bd lg n {D with kn:=kn'}:=by
 obtain⟨dx,e⟩:=b.ob;obtain⟨f,hd,_⟩:=b.kb;obtain⟨rs,el,l⟩:=b.lo;obtain⟨as,eh,_⟩:=id b.ks;have nt:NT [bd] H:=NT.one hd trivial
 exact⟨⟨dx,m _ _ (zr (Q5 e hd (by intro z;cases z))) e⟩,m.sqt nt b.tb,b.ks.mv m nt (zr (Q5 eh hd (by intro z;cases z))),kb,⟨rs,m _ _ (zr (Q5 el hd (by intro z;cases z))) el,l⟩,b.ne⟩
theorem F2.putL{K:Frag}{C:Addr}{H:Hp}{p ta hk bd lg r:Addr}{n:Nat}{D:Dr}{rs:List Addr}(b:F2 K C H p ta hk bd lg n D)(el:H lg=some (.lst (rs.map V.ref)))(hl:rs.length<=n):F2 K C (F5 H lg (.lst (rs.map V.ref++[.ref r]))) p ta hk bd lg (n+1) D:=by
 obtain⟨dx,e⟩:=b.ob;obtain⟨f,hd,_⟩:=id b.kb;have nt:NT [lg] H:=NT.one el trivial
 have m:Mv [lg] H (F5 H lg (.lst (rs.map V.ref++[.ref r]))):=Mv.upd1
 exact⟨⟨dx,m _ _ (zr (Q5 e el (by intro z;cases z))) e⟩,m.sqt nt b.tb,b.ks.mv m nt (zr b.ne.symm),b.kb.mv m nt (zr (Q5 hd el (by intro z;cases z))),⟨rs++[r],by rw[qb,JU];rfl,by rw[JC];exact Nat.succ_le_succ hl⟩,b.ne⟩
theorem Il.pair{H:Hp}{a b:Addr}{z:Str}{i:Int}(h1:H a=some (.tup [.str z,.int i]))(h2:H b=some (.tup [.str z,.int i])):Il H 1 (.ref a) (.ref b):=
 .tup (n:=0) (.inl h1) (.inl h2) rfl fun j x y ex ey=>by
  match j,ex,ey with
  |0,ex,ey=>cases ex;cases ey;exact .str _ _
  |1,ex,ey=>cases ex;cases ey;exact .int _ _
  |j+2,ex,ey=>cases ex
abbrev xk(a b:Str):Prop:=a.cps.toList<=b.cps.toList
theorem B2{a b:Str}(h:ltCps b.cps.toList a.cps.toList=false):xk a b:=by
 rw[ltCps_eq]at h;exact List.not_lt.mp (of_decide_eq_false h)
theorem je:∀{l:List Str} {p:Str},risingS p l=true->(p::l).Pairwise xk
 | [],p,_=>by simp
 |x::r,p,h=>by
  have h':(!ltCps x.cps.toList p.cps.toList&&risingS x r)=true:=h
  rw[Jx,FN]at h';have ih:=je h'.2;have hpx:=B2 h'.1;refine List.pairwise_cons.mpr ⟨fun y hy=>?_,ih⟩
  rcases Jk.mp hy with rfl|hy
  ·exact hpx
  ·exact List.le_trans hpx ((List.pairwise_cons.mp ih).1 y hy)
theorem gX{l:List Str}(h:sortedS l=true):l.Pairwise xk:=by
 cases l with
 |nil=>exact .nil
 |cons x r=>exact je h
theorem fS{l a b:List Str}(pa:a.Perm l)(sa:sortedS a=true)(pb:b.Perm l)(sb:sortedS b=true):a=b:=by
 refine List.Perm.eq_of_pairwise (le:=xk) (fun x y _ _ h1 h2=>?_) (gX sa) (gX sb) (pa.trans pb.symm)
 have e:x.cps.toList=y.cps.toList:=List.le_antisymm h1 h2
 cases x with
 |mk u=>cases y with
  |mk v=>
   have:u=v:=Array.toList_inj.mp e
   rw[this]
def Dx(H:Hp)(q:Addr)(ss:List Str)(kn:Kw):Prop:=∃as:List Addr,H q=some (.tup (as.map V.ref))/\as.length=ss.length/\∀(i:Nat) (a:Addr) (nm:Str) (e:Kb),as[i]? =some a->ss[i]? =some nm->kn.lookup nm=some e->∃v,H a=some (.tup [.str nm,.int e.age,.int e.last,v])/\Wt H v e.wt
def kE(K:Frag)(C:Addr):Sp:=fun vs H Q _=>∃(p ta hk bd lg:Addr) (n:Nat) (D:Dr),vs=[.ref p]/\F2 K C H p ta hk bd lg n D/\G5 D/\
 ∀q ss H',FZ H H'->ss.Perm (D.kn.map (·.1))->sortedS ss=true->Dx H' q ss D.kn->Q (.ref q) H'
theorem As{X:Cx}{K:Frag}{e:Expr}{f:Str}{pos:Pos}{ta:TE}(hK:X.K=K)(he:QE X e ta)(hb:attributeBase e f X.env (eval e X.env)=eval e X.env:=by rfl):QE X (.Attribute e f pos) (w9 K ta f):=by
 subst hK;exact qY he hb
theorem AI(kn:Kw)(f:Str->Addr):(fP kn f).map (·.1)=(kn.map (·.1)).map Sum.inr:=by
 unfold fP;rw[Eg,Eg];rfl
theorem ZY{kn:Kw}{nm:Str}(h:nm∈kn.map (·.1)):∃e,kn.lookup nm=some e:=FG.mp (Ge.mpr h)
theorem mL:∀(more kvs:List (qL×V)),((kvs++more).map (·.1)).Nodup->Zu kvs more=kvs++more
 | [],kvs,_=>by simp [Zu]
 |p::r,kvs,nd=>by
  have hn:p.1∉kvs.map (·.1):=fun z=>by
   rw[JU,JR]at nd
   exact(E9.mp nd).2.2 _ z _ (Jz ..) rfl
  show Zu (GP kvs p.1 p.2) r=_
  rw[yx hn,mL r (kvs++[(p.1,p.2)]) (by rw[El];exact nd),El]
  rfl
theorem fZ{kn:Kw}{nm:Str}{x:Kb}{e:Str×Kb}(h:e∈ze kn nm x):e∈kn\/e=(nm,x):=by
 unfold ze at h;split at h
 ·obtain⟨p,hp,rfl⟩:=JA.mp h
  by_cases y:p.1=nm
  ·rw[Jc y];exact .inr rfl
  ·rw[Jb y];exact .inl hp
 ·rcases JW.mp h with h|h
  ·exact .inl h
  ·exact .inr (Jl.mp h)
theorem lB{kn:Kw}{nm:Str}{e:Kb}:∀{l:Kw},(∀p∈l,p.1=nm->p=(nm,e))->l.map (fun p=>if p.1=nm then(nm,e)else p)=l
 | [],_=>rfl
 |p::r,h=>by
  rw[JR,lB (kn:=kn) fun q hq=>h q (JG _ hq)]
  by_cases y:p.1=nm
  ·rw[Jc y,h p (Jz ..) y]
  ·rw[Jb y]
theorem uT{kn:Kw}{nm:Str}{e:Kb}(nd:(kn.map (·.1)).Nodup)(h:kn.lookup nm=some e):ze kn nm e=kn:=by
 unfold ze;rw[Jc (Ge.mp (by rw[h];rfl))]
 exact lB (kn:=kn) (ZL nd h)
theorem pq{kn:Kw}{nm:Str}{e x:Kb}(h:kn.lookup nm=some e):(ze kn nm x).map (·.1)=kn.map (·.1):=by
 rw[ZU,Jc (Ge.mp (by rw[h];rfl))]
theorem Ah{X:Cx}:∀u e,([]:List (Str×Addr)).lookup u=some e->X.env.cells.lookup u=some e:=fun u e h=>by cases h
theorem gx{X:Cx}{y:Str}{c:Addr}{l:List (Str×Addr)}(h:X.env.cells.lookup y=some c)(r:∀u e,l.lookup u=some e->X.env.cells.lookup u=some e):∀u e,((y,c)::l).lookup u=some e->X.env.cells.lookup u=some e:=fun u e he=>by
 by_cases hu:u=y
 ·subst hu
  simp at he
  rw[<- he];exact h
 ·rw[DY,show(u==y)=false from by simpa using hu]at he
  exact r u e he
end L3
namespace L2
open PySem PySem.Spec PyProof.Rows
section
variable{X:Cx}{tx:FY}{σ:St}{H:Hp}{s:Shared}{a:Addr}{kvs:List (qL×V)}{A:Around}{E:FW}
theorem vh{Q:FW}(I:F3 X tx σ H s)(e:Rd H a (.dK kvs))(h:∀p s',H p=none->F3 X tx σ (F5 H p (.dK kvs)) s'->Q (.ref p) s'):wpAny (model X.prog X.w) A (call (.type "dict") [.ref a]) Q E s:=by
 obtain⟨z,hd,vs,rel,dd⟩:=aY I.hok e;refine kt_call_dict hd dd (by rw[<- rel.length];exact z) fun h' dd' hs=>?_
 refine h _ _ (I.hok.fresh (Je _)) (I.laid (a:=s.heap.objs.size) (o:= .dK kvs) (t':=s.toks) (fun b q hq=>?_) (Je _) (lw z (Eh.mpr (Ne.symm (Jm I.big))) rel dd'))
 exact(hs.2 b (Jm (Jh hq))).trans (Ji _ hq)
end
end L2
namespace L3
open PySem PySem.Spec PyProof.Rows L2
theorem gH{X:Cx}:qT X (.type "dict") (fun xs H Q=>∃(d:Addr) (kvs:List (qL×V)),xs=[.ref d]/\H d=some (.dK kvs)/\∀p,H p=none->Q (.ref p) (F5 H p (.dK kvs))):=by
 intro tx s σ H xs us Q I r h;obtain⟨d,kvs,rfl,hd,q⟩:=h;obtain⟨u,rfl,ru⟩:=zL r;cases ru;exact vh I (.inl hd) fun p s' hp I'=>⟨.ref p,_,I',rfl,q p hp⟩
theorem kM{kn:Kw}{nm:Str}{x:Kb}(nd:(kn.map (·.1)).Nodup):(ze kn nm x).lookup nm=some x:=by
 have hm:(nm,x)∈ze kn nm x:=by
  unfold ze;split
  ·rename_i h
   obtain⟨p,hp,e⟩:=JA.mp h;exact JA.mpr ⟨p,hp,Jc e⟩
  ·exact J1 _ (Jl.mpr rfl)
 obtain⟨y,hy⟩:=ZY (JA.mpr ⟨_,hm,rfl⟩)
 have:=ZL (iK nd nm x) hy _ hm rfl
 cases this;exact hy
def zc(D:Dr)(e:Kb)(age c:Int):Str×Kb:=if qH D e age=true then zf D.near D.far e age c else("age",e)
def kZ(K:Frag)(C:Addr):Sp:=fun vs H Q _=>∃(p ta hk bd lg a:Addr) (n:Nat) (D:Dr) (e:Kb) (age c:Int),vs=[.ref p,.ref a,.int age,.int c]/\F2 K C H p ta hk bd lg n D/\GI H a e/\
 ∀q a' H',FZ H H'->H' q=some (.tup [.str (zc D e age c).1,.ref a'])->GI H' a' (zc D e age c).2->Q (.ref q) H'
section
variable(K:Frag)(C:Addr)
def oW:Sp:=fun vs H Q _=>∃(p ta hk bd lg:Addr) (n:Nat) (D:Dr),vs=[.ref p]/\F2 K C H p ta hk bd lg n D/\
 ∀t (as:List Addr) H',FZ H H'->Ga K H' t (as.map V.ref)->as.length=D.kss.length->(∀(i:Nat) (a:Addr) (ks:List Int),as[i]? =some a->D.kss[i]? =some ks->Ga K H' a (ks.map V.int))->Q (.ref t) H'
def jc:Sp:=fun vs H Q _=>∃(p ta hk bd lg:Addr) (n:Nat) (D:Dr),vs=[.ref p]/\F2 K C H p ta hk bd lg n D/\Q (.int D.least) H
def cP:Sp:=fun vs H Q _=>∃(p ta hk bd lg:Addr) (n:Nat) (D:Dr),vs=[.ref p]/\F2 K C H p ta hk bd lg n D/\∀t H',FZ H H'->H' t=some (.tup [.int D.near,.int D.far,.int D.most])->Q (.ref t) H'
end
structure Ac(K:Frag)(mg:FX)(x:Str)(st:Stmt):Prop where
 ex:∃(f:Addr) (fd:FuncData),Io K x x st f fd/\mg x=some (.ref f)
structure HY(K:Frag)(C:Addr)(m IX:Str)(st:Stmt):Prop where
 ex:∃(f:Addr) (fd:FuncData),Io K m IX st f fd/\IG K C m f
section
variable{K:Frag}{mg:FX}{h:Heap}{x m IX:Str}{st:Stmt}{C f:Addr}{oc:Value}{od an:Option Addr}{osl:Array (Option Value)}{kV doc pm cdv ct:Value}{ps:List Str}
theorem wZ(X:K.In h)(G:h.Ns mainGlobals mg)(a:W.nsIn K mainGlobals x=some (some (.ref f)))(l:K.lookup f=some ⟨oc,od,.func (W.fnOf x x (Qw st) (zH st) (qh st) .none kV doc pm an cdv ct),osl⟩)(c:W.codeIn K cdv x=true)(k:W.keepIn K (.ref f)=true):Ac K mg x st:=⟨f,_,mr l c k,Ez X G a⟩
theorem CD(a:W.findIn K (.ref C) m=some (some (.ref f)))(i:W.isFn K (.ref f)=true)(l:K.lookup f=some ⟨oc,od,.func (W.fnOf m IX (Qw st) (zH st) (qh st) .none kV doc pm an cdv ct),osl⟩)(c:W.codeIn K cdv IX=true)(k:W.keepIn K (.ref f)=true):HY K C m IX st:=⟨f,_,mr l c k,a,i,k⟩
theorem DO{p:List Value->Prop}(h:p []):∀us:List Value,us.length=0->p us:=by
 intro us hl;rw[List.eq_nil_of_length_eq_zero hl];exact h
theorem nZ{n:Nat}{p:List Value->Prop}(h:∀a us,us.length=n->p (a::us)):∀us:List Value,us.length=n+1->p us:=by
 intro us hl;cases us with
 |nil=>cases hl
 |cons a r=>exact h a r (Nat.succ.inj hl)
theorem QU{p:List Value->Prop}(h:∀a0,p [a0]):∀us:List Value,us.length=1->p us:=nZ fun a=>DO (p:=fun r=>p (a::r)) (h a)
theorem Zw{p:List Value->Prop}(h:∀a0 a1,p [a0,a1]):∀us:List Value,us.length=2->p us:=nZ fun a=>QU (p:=fun r=>p (a::r)) (h a)
theorem fL{p:List Value->Prop}(h:∀a0 a1 a2,p [a0,a1,a2]):∀us:List Value,us.length=3->p us:=nZ fun a=>Zw (p:=fun r=>p (a::r)) (h a)
theorem jn{p:List Value->Prop}(h:∀a0 a1 a2 a3,p [a0,a1,a2,a3]):∀us:List Value,us.length=4->p us:=nZ fun a=>fL (p:=fun r=>p (a::r)) (h a)
theorem Dg{p:List Value->Prop}(h:∀a0 a1 a2 a3 a4,p [a0,a1,a2,a3,a4]):∀us:List Value,us.length=5->p us:=nZ fun a=>jn (p:=fun r=>p (a::r)) (h a)
theorem C9{p:List Value->Prop}(h:∀a0 a1 a2 a3 a4 a5,p [a0,a1,a2,a3,a4,a5]):∀us:List Value,us.length=6->p us:=nZ fun a=>Dg (p:=fun r=>p (a::r)) (h a)
theorem Ac.at(a:Ac K mg x st)(b:∀(kV doc pm:Value) (an:Option Addr) (cdv ct:Value) (us:List Value),us.length=ps.length->bindArgs (W.fnOf x x (Qw st) (zH st) (qh st) .none kV doc pm an cdv ct) ⟨us,[]⟩=pure (ps.zip us)):At K mg x st ps:=by
 obtain⟨_,_,F,m⟩:=a.ex;exact CM F m (F.binds b)
theorem HY.at(a:HY K C m IX st)(b:∀(kV doc pm:Value) (an:Option Addr) (cdv ct:Value) (us:List Value),us.length=ps.length->bindArgs (W.fnOf m IX (Qw st) (zH st) (qh st) .none kV doc pm an cdv ct) ⟨us,[]⟩=pure (ps.zip us)):HS K C m IX st ps:=by
 obtain⟨_,_,F,m⟩:=a.ex
 exact⟨_,_,F,m,F.binds b⟩
end
structure Ps where
 nm:Str
 age:Int
 ds:List Int
def ci(H:Hp)(p:Addr)(P:Ps):Prop:=Gx H p P.nm P.age P.ds
structure Ij(P:Ps):Prop where
 nm:QV P.nm
 l:P.ds.length=5
 dg:zA P.ds
def gE(D:Dr)(P:Ps):Option (Int×Int):=if QH D P.age=true then Zp D.t (Qy D P.age) P.nm P.ds else none
def kj(c:Nat):Bool:=decide (97<=c)&&decide (c<=122)
def AY(z:Str):Bool:=z.cps.toList.all kj
def wV(z:Str):Bool:=decide (1<=z.length)&&decide (z.length<=8)&&AY z
theorem IH{z:Str}:wV z=true↔QV z:=by
 unfold wV AY QV;rw[Jx,Jx,Fg,Fg,EF];have zl:z.length=z.cps.toList.length:=rfl
 rw[zl];constructor
 ·rintro⟨⟨h1,h2⟩,h3⟩
  refine⟨fun c hc=>?_,h1,h2⟩
  have:=h3 c hc
  unfold kj at this;rw[Jx,Fg,Fg]at this;exact this
 ·rintro⟨h3,h1,h2⟩
  refine⟨⟨h1,h2⟩,fun c hc=>?_⟩
  unfold kj;rw[Jg (h3 c hc).1,Jg (h3 c hc).2];rfl
theorem g9{a b:Nat}:([a]:List Nat)<[b]↔a<b:=by
 rw[List.cons_lt_cons_iff];constructor
 ·rintro(h|⟨_,h⟩)
  ·exact h
  ·exact absurd h (List.not_lt_nil _)
 ·exact .inl
theorem rh(c:Nat):(!decide ((⟨#[c]⟩:Str).cps.toList<("a":Str).cps.toList))=decide (97<=c)/\(!decide (("z":Str).cps.toList<(⟨#[c]⟩:Str).cps.toList))=decide (c<=122):=by
 have e1:("a":Str).cps.toList=[97]:=by decide +kernel
 have e2:("z":Str).cps.toList=[122]:=by decide +kernel
 rw[e1,e2]
 show(!decide ([c]<[97]))=_/\(!decide ([122]<[c]))=_
 constructor
 ·by_cases h:97<=c
  ·rw[Jg h,Jn (by rw[g9];lia)];rfl
  ·rw[Jn h,Jg (by rw[g9];lia)];rfl
 ·by_cases h:c<=122
  ·rw[Jg h,Jn (by rw[g9];lia)];rfl
  ·rw[Jn h,Jg (by rw[g9];lia)];rfl
theorem kD{H:Hp}{x:V}{t:String}(h:kd H x=some t):Iy H x t:=by
 cases x with
 |non=>cases h;exact .non
 |bl b=>cases h;exact .bl b
 |int i=>cases h;exact .int i
 |str x=>cases h;exact .str x
 |byt b=>cases h
 |flt b=>cases h
 |ty b=>cases h
 |ref a=>
  rcases gG h with⟨xs,e,rfl⟩|⟨xs,e,rfl⟩
  ·exact .lst e
  ·exact .tup (.inl e)
def Dj(H:Hp)(x:V)(b:Bool):Prop:=(∃z,x= .str z/\z.cps.all (· <128)=true/\z.length<=100/\b=wV z)\/(∃t,kd H x=some t/\zo t "str"=false/\b=false)
def IS(H:Hp)(x:V)(b:Bool):Prop:=(∃(p:Addr) (ds:List V),x= .ref p/\H p=some (.tup ds)/\ds.length<=100/\(∀v∈ds,∃t,kd H v=some t)/\b=(decide (ds.length=5)&&ds.all bY))\/(∃t,kd H x=some t/\zo t "tuple"=false/\b=false)
inductive IJ (H:Hp) (x:V):Bool->Prop where
 |kd {t:String} (h:kd H x=some t) (n:zo t "tuple"=false):IJ H x false
 |len {a:Addr} {xs:List V} (e:x= .ref a) (h:H a=some (.tup xs)) (l:xs.length<=100) (n:xs.length≠3):IJ H x false
 |tup {a:Addr} {n y c:V} {bn bc:Bool} {ty:String} (e:x= .ref a) (h:H a=some (.tup [n,y,c])) (hn:Dj H n bn) (hy:L3.kd H y=some ty) (hc:IS H c bc):IJ H x (bn&&f8 y&&bc)
theorem IS.same{H H':Hp}{x:V}{b:Bool}(s:FZ H H')(h:IS H x b):IS H' x b:=h.elim (fun⟨p,ds,e,h1,h2,h3,h4⟩=> .inl ⟨p,ds,e,s _ _ h1,h2,(fun v hv=>let⟨t,ht⟩:=h3 v hv;⟨t,ft s ht⟩),h4⟩) (fun⟨t,h1,h2⟩=> .inr ⟨t,ft s h1,h2⟩)
def Tg(H:Hp)(x:V)(o:Option Ps):Prop:=match o with
 |none=>IJ H x false
 |some P=>∃pr,x= .ref pr/\ci H pr P/\Ij P
theorem Tg.b{H:Hp}{x:V}{o:Option Ps}(h:Tg H x o):IJ H x o.isSome:=by
 cases o with
 |none=>exact h
 |some P=>
  obtain⟨pr,e,⟨pc,h1,h2⟩,ok⟩:=h;have t:=IJ.tup (bn:=true) (bc:=true) e h1 (.inl ⟨P.nm,rfl,mN ok.nm,by have:=ok.nm.2.2;show P.nm.cps.toList.length<=100;lia,(IH.mpr ok.nm).symm⟩) (ty:="int") rfl (.inl ⟨pc,_,rfl,h2,by rw[Jf,ok.l];decide,(fun v hv=>by obtain⟨i,_,rfl⟩:=JA.mp hv;exact⟨_,rfl⟩),by rw[Jf,ok.l,vJ ok.dg];rfl⟩)
  exact t
def jy:Sp:=fun vs H Q _=>∃x b,vs=[x]/\Dj H x b/\∀H',FZ H H'->Q (.bl b) H'
def jh:Sp:=fun vs H Q _=>∃x b,vs=[x]/\IS H x b/\∀H',FZ H H'->Q (.bl b) H'
def bQ:Sp:=fun vs H Q _=>∃x b,vs=[x]/\IJ H x b/\∀H',FZ H H'->Q (.bl b) H'
section
variable(K:Frag)(C:Addr)
def i7:Sp:=fun vs H Q _=>∃(p ta hk bd lg:Addr) (n:Nat) (D:Dr) (x:V) (o:Option Ps),vs=[.ref p,x]/\F2 K C H p ta hk bd lg n D/\G5 D/\Tg H x o/\∀y H',FZ H H'->cQ H' y (o.bind (gE D))->Q y H'
end
theorem Mf.weak{P:Program}{w:World}{K:Frag}{mg:FX}{base:Heap}{C:Addr}{m:Str}{ps:List Str}{k:Nat}{sp sp':Sp}(M:Mf P w K mg base C m ps k sp)(h:∀vs H Q E,sp' vs H Q E->sp vs H Q E):Mf P w K mg base C m ps k sp':=by
 obtain⟨f,fd,F,hm,hb⟩:=M.ex
 exact⟨f,fd,⟨fun vs H Q E q=>F.len vs H Q E (h vs H Q E q),fun A outer s H args us vs Q E hr e0 hb hv hs=>F.run A outer s H args us vs Q E hr e0 hb hv (h _ _ _ _ hs)⟩,hm,hb⟩
end L3
namespace L3
open PySem PySem.Spec PyProof.Rows L2
open Sem (wp)
section
variable{X:Cx}{tx:FY}{σ:L2.St}{H:Hp}{s:Shared}
def vR(a1 a2:Addr):It:=
  ⟨fun i H=>∃xs ys x y,Rd H a1 (.lst xs)/\Rd H a2 (.lst ys)/\xs[i]? =some x/\ys[i]? =some y,
   fun i H v H'=>∃p x y,H p=none/\v= .ref p/\(∀xs,Rd H a1 (.lst xs)->xs[i]? =some x)/\(∀ys,Rd H a2 (.lst ys)->ys[i]? =some y)/\H'=F5 H p (.tup [x,y]),
   fun i H=>∃xs,Rd H a1 (.lst xs)/\xs.length=i⟩
theorem tN{P:Program}{w:World}{K:Frag}{elts:List Expr}{x1}{pos:Pos}(a1 a2 z TI TO i1 i2:Addr)(d1:TI≠z)(d2:TO≠z)(d3:i1≠z)(d4:i2≠z)(d5:TI≠TO)(d6:TI≠i1)(d7:TI≠i2)(d8:TO≠i1)(d9:TO≠i2)(d10:i1≠i2):
  HI P w K (.Tuple elts x1 pos) (vR a1 a2) [z,TI,TO,i1,i2] z (fun i h=>IsZip h z TI TO .none/\IsPair h TI (.ref i1) (.ref i2)/\(∃a b,IsPair h TO a b)/\h.IsListIter i1 a1 i/\h.IsListIter i2 a2 i) where
 mem:=by simp
 obj:=fun i h st b hb=>by
  obtain⟨hz,hTI,⟨a,b',hTO⟩,⟨o1,ho1,_,hd1⟩,⟨o2,ho2,_,hd2⟩⟩:=st;simp only[Jk,Js,Jt]at hb;rcases hb with rfl|rfl|rfl|rfl|rfl
  ·exact⟨_,hz,fun v y=>by have y':Data.fields _=Data.cell v:=y;cases y'⟩
  ·exact⟨_,hTI,fun v y=>by have y':Data.seq _ _=Data.cell v:=y;cases y'⟩
  ·exact⟨_,hTO,fun v y=>by have y':Data.seq _ _=Data.cell v:=y;cases y'⟩
  ·exact⟨_,ho1,fun v y=>by rw[hd1]at y;cases y⟩
  ·exact⟨_,ho2,fun v y=>by rw[hd2]at y;cases y⟩
 keep:=fun i h h' st k=>by
  obtain⟨hz,hTI,⟨a,b',hTO⟩,h1,h2⟩:=st
  exact⟨k z (by simp) _ hz,k TI (by simp) _ hTI,⟨a,b',k TO (by simp) _ hTO⟩,h1.at fun o e=>k i1 (by simp) o e,h2.at fun o e=>k i2 (by simp) o e⟩
 item:=by
  intro X hP hw hK hc i tx s σ H E I hf st hg;subst hP hw hK;obtain⟨xs,ys,x,y,ha1,ha2,hx,hy⟩:=hg;obtain⟨its,rv,p,hz0⟩:=I.list (.inl ha1)
  obtain⟨its2,rv2,p2,hz2⟩:=I.list (.inl ha2)
  obtain⟨u,hu,ru⟩:=rv.get hx;obtain⟨u2,hu2,ru2⟩:=rv2.get hy;obtain⟨hz,hTI,⟨a,b',hTO⟩,h1,h2⟩:=st;have n1:∀c∈[z,TI,TO,i1,i2],a1≠c:=fun c hc=>eM ha1 (hf c hc).1
  have n2:∀c∈[z,TI,TO,i1,i2],a2≠c:=fun c hc=>eM ha2 (hf c hc).1
  have Z:HH z TI TO i1 i2 [i1,a1] [i2,a2]:=⟨d1,d2,d3,d4,d5,d6,d7,d8,d9,d10,by simp [Ne.symm d3,Ne.symm (n1 z (by simp))],by simp [Ne.symm d4,Ne.symm (n2 z (by simp))],by simp [d8,Ne.symm (n1 TO (by simp))],by simp [d9,Ne.symm (n2 TO (by simp))],by simp [Ne.symm d10,Ne.symm (n1 i2 (by simp))],by simp [d10,Ne.symm (n2 i1 (by simp))]⟩
  have hil:i<its.toArray.size:=by have:=(Jw.mp hu).1;simpa using this
  have hil2:i<its2.toArray.size:=by have:=(Jw.mp hu2).1;simpa using this
  have hT:s.TypeIs (.ref z) "zip":=⟨_,hz,rfl⟩
  unfold pyNext;refine Ja (Ed (wpAny_callSpecial?_slot (name:=Str.ofString "__next__") hT EG
   (JT EG hT FA
    (i4 (Draws.list (A:=X.A.in1) (I.ok.hd hc) i1 a1 (n1 i1 (by simp)) its.toArray) (Draws.list (A:=X.A.in1) (I.ok.hd hc) i2 a2 (n2 i2 (by simp)) its2.toArray) Z hz hTI hTO ⟨h1,p.isList⟩ ⟨h2,p2.isList⟩ hil hil2
     fun v v2 h' tk hv hv2 ho hTO' q1 q2 ht hk=>Jd ⟨_,rfl,?_⟩) (FB _))))
  have ev:v=u:=by
   have hv':its[i]? =some v:=by simpa using hv
   rw[hu]at hv';exact(Jy hv').symm
  have ev2:v2=u2:=by
   have hv':its2[i]? =some v2:=by simpa using hv2
   rw[hu2]at hv';exact(Jy hv').symm
  subst ev ev2;refine wpAny_letOwnedTupleGo_zip ho fun h'' hz'' hs''=>?_
  have lt:∀c∈[z,TI,TO,i1,i2],c<s.heap.objs.size:=fun c hc=>by
   simp only[Jk,Js,Jt]at hc;rcases hc with rfl|rfl|rfl|rfl|rfl
   ·exact Jh hz
   ·exact Jh hTI
   ·exact Jh hTO
   ·obtain⟨_,e,_⟩:=h1;exact Jh e
   ·obtain⟨_,e,_⟩:=h2;exact Jh e
  have hTI':IsPair h'' TI (.ref i1) (.ref i2):=hs''.extBut _ _ d1 (hk _ _ d1 d5 d6 d7 hTI)
  have hTO'':IsPair h'' TO v v2:=hs''.extBut _ _ d2 hTO'
  have h1':h''.IsListIter i1 a1 (i+1):=q1.1.extBut hs''.extBut d3
  have h2':h''.IsListIter i2 a2 (i+1):=q2.1.extBut hs''.extBut d4
  refine⟨.ref s.heap.objs.size,F5 H s.heap.objs.size (.tup [x,y]),?_,rfl,⟨_,x,y,I.hok.fresh (Je _),rfl,fun zs hy'=>by rw[I.list_inj (.inl hy') (.inl ha1)];exact hx,fun zs hy'=>by rw[I.list_inj (.inl hy') (.inl ha2)];exact hy,rfl⟩,⟨hz'',hTI',⟨_,_,hTO''⟩,h1',h2'⟩,?_⟩
  ·show L2.F3 X tx σ _ {s with heap:=h'',toks:=tk}
   refine eP (s:=s) (its:=[v,v2]) I (ch:=[z,TI,TO,i1,i2]) (fun b o hb q=>?_) hf (fun b hb=>?_) (Je _) (by show 2<=sizeLine;decide) (.cons ru (.cons ru2 .nil)) ?_
   ·simp only[Jk,Js,Jt,not_or]at hb
    exact hs''.extBut b o hb.1 (hk b o hb.1 hb.2.2.1 hb.2.2.2.1 hb.2.2.2.2 q)
   ·simp only[Jk,Js,Jt]at hb
    rcases hb with rfl|rfl|rfl|rfl|rfl
    ·exact⟨_,hz''⟩
    ·exact⟨_,hTI'⟩
    ·exact⟨_,hTO''⟩
    ·obtain⟨o,e,_⟩:=h1';exact⟨o,e⟩
    ·obtain⟨o,e,_⟩:=h2';exact⟨o,e⟩
   ·exact⟨_,hs''.extBut _ _ (JY (lt z (by simp))) ht,rfl,_,rfl⟩
  ·intro b hb
   rw[qj (Jm (lt b hb))]
   exact(hf b hb).1
 done:=by
  intro X hP hw hK hc i tx s σ H E I hf st hg;subst hP hw hK;obtain⟨xs,ha1,hx⟩:=hg;obtain⟨its,rv,p,hz0⟩:=I.list (.inl ha1)
  obtain⟨hz,hTI,⟨a,b',hTO⟩,h1,h2⟩:=st;have n1:∀c∈[z,TI,TO,i1,i2],a1≠c:=fun c hc=>eM ha1 (hf c hc).1
  have Z:HH z TI TO i1 i2 [i1,a1] [i2]:=⟨d1,d2,d3,d4,d5,d6,d7,d8,d9,d10,by simp [Ne.symm d3,Ne.symm (n1 z (by simp))],by simp [Ne.symm d4],by simp [d8,Ne.symm (n1 TO (by simp))],by simp [d9],by simp [Ne.symm d10,Ne.symm (n1 i2 (by simp))],by simp [d10]⟩
  have hl:its.toArray.size=i:=by rw[Jr,<- rv.length];exact hx
  have hT:s.TypeIs (.ref z) "zip":=⟨_,hz,rfl⟩
  unfold pyNext;refine Ja (Ed (wpAny_callSpecial?_slot (name:=Str.ofString "__next__") hT EG
   (JT EG hT FA
    (kX (Draws.list (A:=X.A.in1) (I.ok.hd hc) i1 a1 (n1 i1 (by simp)) its.toArray) Z hz hTI ⟨by rw[hl];exact h1,p.isList⟩ fun h' e hk he=>?_) (FB _))))
  obtain⟨o,ho,hcl⟩:=he;refine Ja (Et (T:="StopIteration") (b:=true) ⟨o,ho,hcl⟩ Fh ?_)
  refine Jd ⟨rfl,oS (t':=s.toks) I (ch:=[z,i1]) (fun b o hb e=>?_) (fun b hb=>hf b ?_)⟩
  ·simp only[Jk,Js,Jt,not_or]at hb
   exact hk b o hb.1 hb.2 e
  ·simp only[Jk,Js,Jt]at hb
   rcases hb with rfl|rfl<;>simp
 self:=fun _ _ _ _ _ st h=>FC st.1 h
def xo(ta:TA):TI:=fun σ H R=>ta σ H fun vs H1=>∃a1 a2 xs ys,vs=[.ref a1,.ref a2]/\Rd H1 a1 (.lst xs)/\Rd H1 a2 (.lst ys)/\R (vR a1 a2) H1
theorem Ay{a b:Expr}{ta:TA}{p pos:Pos}{elts:List Expr}{x1}{tpos:Pos}(hg:Gl X "zip")(hm:X.mg "zip"=none)(ha:PA X [a,b] ta)(h1:Qa a=true:=by rfl)(h2:Qa b=true:=by rfl):
  PI X (.Tuple elts x1 tpos) (.Call (.Name "zip" p) [a,b] [] pos) (xo ta):=by
 intro tx s σ H R I h;have hs2:starEach [b] X.env=[(false,eval b X.env)]:=Zf h2
 refine Call_ (Q1 I hg hm PyProof.Rows.boot_zip (ED (qz (ha pos tx s σ H _ I h) fun us s1 zq=>?_) (by rw[Zf h1,hs2]) (by rw[hs2];rfl)))
 obtain⟨vs,H1,I1,r1,q1⟩:=zq;obtain⟨a1,a2,xs,ys,e,e1,e2,q⟩:=q1;subst e;obtain⟨u,v,rfl,ru,rv⟩:=r1.two;cases ru;cases rv;obtain⟨its,r1',p1,hz⟩:=I1.list (.inl e1)
 obtain⟨its2,r2',p2,hz2⟩:=I1.list (.inl e2)
 have ad:∀(n i j:Nat),i≠j->n+i≠n+j:=fun n i j h=>by lia
 refine call_zip_2 p1.isList p2.isList fun h' hz hTI hTO h1 h2 _ hk=>FC hz ?_
 refine⟨s1.heap.objs.size+4,[s1.heap.objs.size+4,s1.heap.objs.size+2,s1.heap.objs.size+3,s1.heap.objs.size,s1.heap.objs.size+1],_,_,H1,rfl,I1.kept (t':=s1.toks) hk,
  tN a1 a2 (s1.heap.objs.size+4) (s1.heap.objs.size+2) (s1.heap.objs.size+3) s1.heap.objs.size (s1.heap.objs.size+1) (ad _ 2 4 (by decide)) (ad _ 3 4 (by decide)) (ad _ 0 4 (by decide)) (ad _ 1 4 (by decide)) (ad _ 2 3 (by decide)) (ad _ 2 0 (by decide)) (ad _ 2 1 (by decide)) (ad _ 3 0 (by decide)) (ad _ 3 1 (by decide)) (ad _ 0 1 (by decide)),⟨hz,hTI,⟨_,_,hTO⟩,h1,h2⟩,fun b hb=>?_,q⟩
 have hb':s1.heap.objs.size<=b:=by
  simp only[Jk,Js,Jt]at hb;rcases hb with rfl|rfl|rfl|rfl|rfl
  ·exact Eu _ 4
  ·exact Eu _ 2
  ·exact Eu _ 3
  ·exact Je _
  ·exact Eu _ 1
 exact I1.fpOk hb' (I1.hok.fresh hb')
end
theorem uO{K:Frag}{js:List Nat}{te:TE}{σ:L2.St}{H:Hp}{Q:VK}{a1 a2:Addr}{xs ys:List V}(hl:xs.length=ys.length)(hn:xs.length<=sizeLine)(Pv:Nat->List V->Hp->Prop)(h0:Pv 0 [] H)
  (hk:∀i zs H,Pv i zs H->Rd H a1 (.lst xs)/\Rd H a2 (.lst ys))
  (hs:∀i zs H p x y,xs[i]? =some x->ys[i]? =some y->zs.length=i->Pv i zs H->H p=none->te (some x::some y::ZQ js σ) (F5 H p (.tup [x,y])) fun v H3=>Pv (i+1) (zs++[v]) H3)
  (hd:∀zs H,zs.length=xs.length->Pv xs.length zs H->∀p,H p=none->Q (.ref p) (F5 H p (.lst zs))):
  j0 2 js (mJ K 2 (fv (Q2 0) (fv (Q2 1) rJ))) te σ Q (vR a1 a2) H:=by
 refine⟨fun i m zs τ H=>m=xs.length-i/\i<=xs.length/\zs.length=i/\Pv i zs H/\∃o o',τ=o::o'::ZQ js σ,⟨xs.length,by simp,JB _,rfl,h0,none,none,rfl⟩,?_⟩
 rintro i m zs τ H ⟨rfl,hi,hzl,p,o,o',rfl⟩
 obtain⟨e1,e2⟩:=hk i zs H p
 by_cases hlt:i<xs.length
 ·have hlt2:i<ys.length:=by lia
  refine .inr ⟨⟨xs,ys,xs[i],ys[i],e1,e2,by simp [hlt],by simp [hlt2]⟩,by lia,fun v H' y=>?_⟩
  obtain⟨pp,x,y,hp,rfl,hx,hy,rfl⟩:=y;refine⟨pp,_,rfl,Ga.of qb,rfl,_,_,rfl,_,_,rfl,rfl,?_⟩
  exact⟨fun v H3=>Pv (i+1) (zs++[v]) H3,fun v H3 p3=>⟨xs.length-(i+1),by lia,rfl,hlt,by simp [hzl],p3,_,_,rfl⟩,hs i zs _ pp x y (hx xs e1) (hy ys e2) hzl p hp⟩
 ·have e:i=xs.length:=by lia
  subst e;exact .inl ⟨⟨xs,e1,rfl⟩,hd zs H hzl p⟩
theorem Ad{X:Cx}{a b:Expr}{ta:TA}{p pos:Pos}{elts:List Expr}{x1}{tpos:Pos}(hg:Gl X "zip")(hm:X.mg "zip"=none)(ha:QA X [a,b] ta)(h1:Qa a=true:=by rfl)(h2:Qa b=true:=by rfl):
  QI X (.Tuple elts x1 tpos) (.Call (.Name "zip" p) [a,b] [] pos) (xo ta):=⟨Ay hg hm ha.h h1 h2⟩
inductive HU (H:Hp):Nat->V->V->Prop where
 |int (n:Nat) (i:Int):HU H n (.int i) (.int i)
 |str (n:Nat) (x:Str):HU H n (.str x) (.str x)
 |non (n:Nat):HU H n .non .non
 | tup {n:Nat} {a b:Addr} {xs ys:List V} (h1:Rd H a (.tup xs)) (h2:Rd H b (.tup ys)) (hl:xs.length=ys.length) (hz:xs.length<=sizeLine)
   (hi:∀(i:Nat) (x y:V),xs[i]? =some x->ys[i]? =some y->HU H n x y):HU H (n+1) (.ref a) (.ref b)
 | lst {n:Nat} {a b:Addr} {xs ys:List V} (h1:H a=some (.lst xs)) (h2:H b=some (.lst ys)) (hl:xs.length=ys.length) (hz:xs.length<=sizeLine)
   (hi:∀(i:Nat) (x y:V),xs[i]? =some x->ys[i]? =some y->HU H n x y):HU H (n+1) (.ref a) (.ref b)
theorem HU.same{H H':Hp}(s:FZ H H'):∀{n:Nat} {x y:V},HU H n x y->HU H' n x y:=fun h=>by
 induction h with
 |int n i=>exact .int n i
 |str n x=>exact .str n x
 |non n=>exact .non n
 |tup h1 h2 hl hz _ ih=>exact .tup (Rd.same s h1) (Rd.same s h2) hl hz ih
 |lst h1 h2 hl hz _ ih=>exact .lst (s _ _ h1) (s _ _ h2) hl hz ih
theorem HU.ltwo{H:Hp}{n:Nat}{a b:Addr}{x1 x2 y1 y2:V}(h1:H a=some (.lst [x1,x2]))(h2:H b=some (.lst [y1,y2]))(e1:HU H n x1 y1)(e2:HU H n x2 y2):HU H (n+1) (.ref a) (.ref b):=
 .lst h1 h2 rfl (by show 2<=sizeLine;decide) fun i x y ex ey=>by
  match i,ex,ey with
  |0,ex,ey=>cases ex;cases ey;exact e1
  |1,ex,ey=>cases ex;cases ey;exact e2
  |i+2,ex,ey=>cases ex
def BT(n:Nat):Sp:=fun vs H Q _=>∃x y,vs=[x,y]/\HU H n x y/\∀H',FZ H H'->Q (.bl true) H'
end L3
namespace L3
open PySem PySem.Spec PyProof.Rows L2
def Iu(K:Frag)(H:Hp)(b:Addr)(kss:List (List Int)):Prop:=∃as:List Addr,Ga K H b (as.map V.ref)/\as.length=kss.length/\∀(i:Nat) (a:Addr) (ks:List Int),as[i]? =some a->kss[i]? =some ks->Ga K H a (ks.map V.int)
theorem Iu.same{K:Frag}{H H':Hp}{b:Addr}{kss:List (List Int)}(h:Iu K H b kss)(s:FZ H H'):Iu K H' b kss:=by
 obtain⟨as,e,l,r⟩:=h
 exact⟨as,FZ.sqt s e,l,fun i a ks e1 e2=>FZ.sqt s (r i a ks e1 e2)⟩
theorem Iu.upd{K:Frag}{C p dx:Addr}{H:Hp}{b:Addr}{kss:List (List Int)}{fs:List (Str×V)}{o:HO}(h:Iu K H b kss)(e:H p=some (.ins C dx fs)):Iu K (F5 H p o) b kss:=by
 obtain⟨as,eb,l,r⟩:=h
 exact⟨as,fi e eb,l,fun i a ks e1 e2=>fi e (r i a ks e1 e2)⟩
theorem DG{X:Cx}{y1 y2 y3:Str}{c1 c2 c3:Addr}(h1:X.env.cells.lookup y1=some c1)(h2:X.env.cells.lookup y2=some c2)(h3:X.env.cells.lookup y3=some c3):
  ∀u e,([(y1,c1),(y2,c2),(y3,c3)]:List (Str×Addr)).lookup u=some e->X.env.cells.lookup u=some e:=gx h1 (gx h2 (gx h3 Ah))
theorem Dn{X:Cx}{scope:Scope}{y1 y2 y3:Str}{j1 j2 j3:Nat}(kind:scope.kind= .function)(names:∀x∈scope.names,x.2= .local->scope.names.lookup x.1=some .local)(nocell:∀x∈scope.names,x.2≠ .cell)
  (free:∀x∈scope.names,x.2= .free->x.1∈([y1,y2,y3]:List Str))(a1:X.N[j1]? =some y1)(a2:X.env.kindOf y1=some .cell)(a3:(relabel scope X.env).names.lookup y1=some .cell)
  (b1:X.N[j2]? =some y2)(b2:X.env.kindOf y2=some .cell)(b3:(relabel scope X.env).names.lookup y2=some .cell)(c1:X.N[j3]? =some y3)(c2:X.env.kindOf y3=some .cell)(c3:(relabel scope X.env).names.lookup y3=some .cell):GM X scope [y1,y2,y3] [j1,j2,j3]:=
 ⟨kind,names,nocell,free,rfl,fun i j' y' e1 e2=>by
  match i with
  |0=>cases e1;cases e2;exact⟨a1,a2,a3⟩
  |1=>cases e1;cases e2;exact⟨b1,b2,b3⟩
  |2=>cases e1;cases e2;exact⟨c1,c2,c3⟩
  |i+3=>simp at e1⟩
inductive Rw where
 |learn (P R:Ps)
 |forget (nm:Str)
 |turn (ks:List Int)
 |close (age:Int)
 |hear (P:Ps) (ans:List V)
def ux:V->Prop
 | .int _=>True
 | .str _=>True
 |_=>False
def Ip(H:Hp)(a:Addr):Rw->Prop
 | .learn P R=>∃p1 p2,Rd H a (.tup [.str "learn",.ref p1,.ref p2])/\ci H p1 P/\ci H p2 R/\Ij P/\Ij R
 | .forget nm=>Rd H a (.tup [.str "forget",.str nm])
 | .turn ks=>∃k,Rd H a (.tup [.str "turn",.ref k])/\Rd H k (.tup (ks.map V.int))/\ks.length<=8
 | .close age=>Rd H a (.tup [.str "close",.int age])
 | .hear P ans=>∃p q,Rd H a (.tup [.str "hear",.ref p,.ref q])/\ci H p P/\Ij P/\H q=some (.tup ans)/\ans.length<=3/\∀v∈ans,ux v
def GN(H:Hp)(rs:List Addr)(L:List Rw):Prop:=rs.length=L.length/\∀(i:Nat) (a:Addr) (r:Rw),rs[i]? =some a->L[i]? =some r->Ip H a r
def HL(H:Hp)(lg:Addr)(L:List Rw):Prop:=∃rs:List Addr,H lg=some (.lst (rs.map V.ref))/\GN H rs L
section
variable{S:List Addr}{H H':Hp}{a lg:Addr}{r:Rw}{rs:List Addr}{L:List Rw}
theorem Ip.mv(m:Mv S H H')(n:NT S H)(h:Ip H a r):Ip H' a r:=by
 cases r with
 |learn P R=>obtain⟨p1,p2,h1,h2,h3,h4⟩:=h;exact⟨p1,p2,m.rd n h1,Gx.mv m n h2,Gx.mv m n h3,h4⟩
 |forget nm=>exact m.rd n h
 |turn ks=>obtain⟨k,h1,h2,h3⟩:=h;exact⟨k,m.rd n h1,m.rd n h2,h3⟩
 |close age=>exact m.rd n h
 |hear P ans=>obtain⟨p,q,h1,h2,h3,h4,h5⟩:=h;exact⟨p,q,m.rd n h1,Gx.mv m n h2,h3,m.tup n h4,h5⟩
theorem GN.mv(m:Mv S H H')(n:NT S H)(h:GN H rs L):GN H' rs L:=⟨h.1,fun i a r e1 e2=>(h.2 i a r e1 e2).mv m n⟩
theorem HL.mv(m:Mv S H H')(n:NT S H)(hl:lg∉S)(h:HL H lg L):HL H' lg L:=by
 obtain⟨rs,e,r⟩:=h
 exact⟨rs,m _ _ hl e,r.mv m n⟩
theorem jd:NT [] H:=fun c h=>nomatch h
theorem GN.same(s:FZ H H')(h:GN H rs L):GN H' rs L:=h.mv (S:=[]) s.mv jd
theorem HL.same(s:FZ H H')(h:HL H lg L):HL H' lg L:=h.mv (S:=[]) s.mv jd (fun z=>nomatch z)
theorem GN.add(h:GN H rs L)(hr:Ip H a r):GN H (rs++[a]) (L++[r]):=by
 refine⟨by simp [h.1],fun i b q e1 e2=>?_⟩
 by_cases hi:i<rs.length
 ·rw[DR hi]at e1
  rw[DR (by rw[<- h.1];exact hi)]at e2
  exact h.2 i b q e1 e2
 ·rw[J9 (by lia)]at e1
  rw[J9 (by rw[<- h.1];lia),<- h.1]at e2
  cases e:i-rs.length with
  |zero=>rw[e]at e1 e2;cases e1;cases e2;exact hr
  |succ k=>rw[e]at e1;cases e1
end
theorem _root_.L2.Ga.up{K:Frag}{H:Hp}{a:Addr}{xs:List V}(h:Ga [] H a xs):Ga K H a xs:=h.elim .inl fun⟨_,_,_,z,_⟩=>nomatch z
theorem _root_.L2.Ga.rd{H:Hp}{a:Addr}{xs:List V}(h:Ga [] H a xs):Rd H a (.tup xs):=h.elim id fun⟨_,_,_,z,_⟩=>nomatch z
theorem Gm.up{K:Frag}{H:Hp}{a:Addr}{kss:List (List Int)}(h:Gm [] H a kss):Gm K H a kss:=by
 obtain⟨as,e,l,r⟩:=h
 exact⟨as,e,l,fun i a ks e1 e2=>(r i a ks e1 e2).up⟩
def AE(K:Frag)(C:Addr):Sp:=fun vs H Q _=>∃(p a b dx:Addr) (near far most:Int) (t:List Int) (kss:List (List Int)),vs=[.ref p,.ref a,.ref b,.int near,.int far,.int most]/\H p=some (.ins C dx [])/\Sq K H a (t.map V.int)/\Gm [] H b kss/\kss.length<=8/\
 ∀ta hk bd lg H',H hk=none->H bd=none->H lg=none->Mv [p] H H'->F2 K C H' p ta hk bd lg 0 ⟨t,kss,near,far,most,0,[]⟩->Gm [] H' hk kss->Q .non H'
def mz(K:Frag)(C:Addr):Sp:=fun vs H Q _=>∃(p a b dx:Addr) (near far most:Int) (t:List Int) (kss:List (List Int)),vs=[.ref p,.ref a,.ref b,.int near,.int far,.int most]/\H p=some (.ins C dx [])/\Sq K H a (t.map V.int)/\Iu [] H b kss/\kss.length<=8/\
 ∀ta hk bd lg H',H hk=none->H bd=none->H lg=none->Mv [p] H H'->F2 K C H' p ta hk bd lg 0 ⟨t,kss,near,far,most,0,[]⟩->Gm [] H' hk kss->Q .non H'
structure Da where
 p:Addr
 ta:Addr
 hk:Addr
 bd:Addr
 lg:Addr
structure GQ(K:Frag)(C:Addr)(H:Hp)(a:Da)(D:Dr)(L:List Rw):Prop where
 dr:F2 K C H a.p a.ta a.hk a.bd a.lg L.length D
 lo:HL H a.lg L
 kr:Gm [] H a.hk D.kss
section
variable{K:Frag}{C:Addr}{S:List Addr}{H H':Hp}{a:Da}{D:Dr}{L:List Rw}{r:Addr}{rw:Rw}{rs:List Addr}
theorem GQ.mv(b:GQ K C H a D L)(m:Mv S H H')(nt:NT S H)(hp:a.p∉S)(hh:a.hk∉S)(hb:a.bd∉S)(hl:a.lg∉S):GQ K C H' a D L:=⟨b.dr.mv m nt hp hh hb hl,b.lo.mv m nt hl,Gm.mv m nt hh b.kr⟩
theorem GQ.same(b:GQ K C H a D L)(s:FZ H H'):GQ K C H' a D L:=⟨b.dr.same s,b.lo.same s,Gm.same s b.kr⟩
theorem GQ.push(b:F2 K C H a.p a.ta a.hk a.bd a.lg L.length D)(el:H a.lg=some (.lst (rs.map V.ref)))(ro:GN H rs L)(kr:Gm [] H a.hk D.kss)(hr:Ip H r rw):GQ K C (F5 H a.lg (.lst (rs.map V.ref++[.ref r]))) a D (L++[rw]):=by
 have nt:NT [a.lg] H:=NT.one el trivial
 have e:=b.putL (r:=r) el (Fq ro.1)
 rw[show L.length+1=(L++[rw]).length by simp]at e
 exact⟨e,⟨rs++[r],by rw[qb,JU];rfl,(ro.add hr).mv Mv.upd1 nt⟩,Gm.mv Mv.upd1 nt (zr b.ne.symm) kr⟩
theorem xi{p ta hk bd lg:Addr}{n:Nat}{f0:List (qL×V)}(e:H bd=some (.dK f0))(b:F2 K C H p ta hk bd lg n D):hk≠bd:=by
 obtain⟨as,eh,_⟩:=b.ks;exact Q5 eh e (by intro z;cases z)
theorem F2.dl{p ta hk bd lg:Addr}(b:F2 K C H p ta hk bd lg 0 D)(kr:Gm [] H hk D.kss):GQ K C H ⟨p,ta,hk,bd,lg⟩ D []:=by
 obtain⟨rs,e,l⟩:=id b.lo
 obtain rfl:rs=[]:=List.length_eq_zero_iff.mp (Nat.le_zero.mp l)
 exact⟨b,⟨[],e,rfl,fun i a r h=>by cases h⟩,kr⟩
end
def bT(D:Dr)(P:Ps):List V×Kw:=zj D P.nm P.age (Zp D.t (Qy D P.age) P.nm P.ds)
section
variable(K:Frag)(C:Addr)(x:Xa)
def nH:Sp:=fun vs H Q _=>∃(a:Da) (D:Dr) (L:List Rw) (x:V) (o:Option Ps),vs=[.ref a.p,x]/\GQ K C H a D L/\L.length<=1000/\G5 D/\Tg H x o/\
 (o=none->∀q H',FZ H H'->H' q=some (.tup [.str "held",.str "bad"])->Q (.ref q) H')/\
 ∀P,o=some P->∀pr q H',x= .ref pr->Mv [a.bd,a.lg] H H'->ci H' pr P->H' q=some (.tup (bT D P).1)->GQ K C H' a {D with kn:=(bT D P).2} (L++[.hear P (bT D P).1])->Q (.ref q) H'
def DL(H:Hp)(k:Addr)(ks:List Int):Prop:=H k=some (.lst (ks.map V.int))\/Rd H k (.tup (ks.map V.int))
end
theorem fM{X:Cx}:qT X (.type "tuple") (fun xs H Q=>∃kt ks,xs=[.ref kt]/\DL H kt ks/\∀t H2,FZ H H2->Rd H2 t (.tup (ks.map V.int))->Q (.ref t) H2):=by
 intro tx s σ H xs us Q I r h;obtain⟨kt,ks,e,h,q⟩:=h;refine q9 tx s σ H xs us Q I r ⟨kt,ks.map V.int,e,?_⟩
 rcases h with h|h
 ·exact .inl ⟨F8.of h,fun t ht=>q t _ (FZ.upd ht) (.inl qb)⟩
 ·exact .inr ⟨.inl h,q kt _ (FZ.refl _) h⟩
section
variable{D:Dr}{P:Ps}
theorem jw(D:Dr)(nm:Str)(age:Int)(r:Option (Int×Int)):(zj D nm age r).1.length<=3/\∀v∈(zj D nm age r).1,ux v:=by
 have two:∀a b:Str,([V.str a,.str b]:List V).length<=3/\∀v∈([V.str a,.str b]:List V),ux v:=fun a b=>⟨by show 2<=3;decide,fun v hv=>by simp at hv;rcases hv with rfl|rfl<;>trivial⟩
 have three:∀(a b:Str) (i:Int),([V.str a,.str b,.int i]:List V).length<=3/\∀v∈([V.str a,.str b,.int i]:List V),ux v:=fun a b i=>⟨by show 3<=3;decide,fun v hv=>by simp at hv;rcases hv with rfl|rfl|rfl<;>trivial⟩
 unfold zj;split
 ·exact two _ _
 ·split
  ·split
   ·exact two _ _
   ·split
    ·exact three _ _ _
    ·exact two _ _
  ·exact two _ _
theorem rS(D:Dr)(P:Ps):(bT D P).1.length<=3:=(jw ..).1
theorem vb(D:Dr)(P:Ps):∀v∈(bT D P).1,ux v:=(jw ..).2
end
theorem eZ{t u:TS}{D:GX}{σ:L2.St}{H:Hp}(G:L2.St->Hp->Prop)(h:∀D':GX,D'.rt=D.rt->(∀σ' H',G σ' H'->D'.nx σ' H')->t D' σ H)(hG:∀σ' H',G σ' H'->u D σ' H'):kS t u D σ H:=h {D with nx:=u D} rfl hG
section
variable{K:Frag}{S:List Addr}{H H':Hp}
theorem Iu.mv{b:Addr}{kss:List (List Int)}(h:Iu K H b kss)(m:Mv S H H')(n:NT S H):Iu K H' b kss:=by
 obtain⟨as,e,l,r⟩:=h
 exact⟨as,m.sqt n e,l,fun i a ks e1 e2=>m.sqt n (r i a ks e1 e2)⟩
end
structure Gn(D:Dr)(e:Kb):Prop where
 a0:0<=e.age
 a1:e.age<D.kss.length
 l0:1<=e.last
 l1:e.last<4096
 w:∀x c,e.wt=some (x,c)->e.age<=x/\x<D.kss.length/\e.last+D.near<c/\c<=e.last+D.far/\0<=c/\c<4096
section
variable{K:Frag}{C:Addr}{H:Hp}{a:Da}{D:Dr}{L:List Rw}
def dS(a:Da):List Addr:=[a.p,a.hk,a.bd,a.lg]
theorem GQ.nt(d:GQ K C H a D L):NT (dS a) H:=fun c hc=>by
 obtain⟨dx,ep⟩:=id d.dr.ob;obtain⟨f0,hd,_⟩:=id d.dr.kb;obtain⟨as,eh,_⟩:=id d.dr.ks;obtain⟨rs,el,_⟩:=id d.lo;simp only[dS,Jk,Js,Jt]at hc;rcases hc with rfl|rfl|rfl|rfl
 ·exact⟨_,ep,trivial⟩
 ·exact⟨_,eh,trivial⟩
 ·exact⟨_,hd,trivial⟩
 ·exact⟨_,el,trivial⟩
theorem GQ.outD{x:Addr}{xs:List (qL×V)}(d:GQ K C H a D L)(hx:H x=some (.dK xs))(n1:x≠a.bd):x∉dS a:=fun hc=>by
 obtain⟨dx,ep⟩:=id d.dr.ob;obtain⟨as,eh,_⟩:=id d.dr.ks;obtain⟨rs,el,_⟩:=id d.lo;simp only[dS,Jk,Js,Jt]at hc;rcases hc with z|z|z|z
 ·rw[z,ep]at hx;cases hx
 ·rw[z,eh]at hx;cases hx
 ·exact n1 z
 ·rw[z,el]at hx;cases hx
end
theorem Gn.mono{D D':Dr}{e:Kb}(k:Gn D e)(h:D.kss.length<=D'.kss.length)(hn:D'.near=D.near:=by rfl)(hf:D'.far=D.far:=by rfl):Gn D' e:=⟨k.a0,by have:=k.a1;lia,k.l0,k.l1,fun x c z=>by have:=k.w x c z;rw[hn,hf];lia⟩
theorem mt{D:Dr}{e:Kb}{age c:Int}(k:Gn D e)(a0:e.age<=age)(a1:age<D.kss.length)(c0:0<=c)(c1:c<4096):Gn D (zf D.near D.far e age c).2:=by
 have e0:=k.a0;have l0:=k.l0;have new:e.last<c->Gn D ⟨age,c,none⟩:=fun h=>⟨by show 0<=age;lia,a1,by show 1<=c;lia,c1,fun x y z=>by cases z⟩
 unfold zf;split
 ·exact k
 ·split
  ·exact new (by lia)
  ·split
   ·split
    ·exact new (by lia)
    ·exact⟨k.a0,k.a1,k.l0,k.l1,fun x y z=>by cases z;exact⟨a0,a1,by show e.last+D.near<c;lia,by show c<=e.last+D.far;lia,c0,c1⟩⟩
   ·exact k
theorem cC{D:Dr}{e:Kb}{age:Int}(h:qH D e age=true):e.age<=age:=by
 unfold qH at h;rw[Jx]at h;exact Jv h.2
theorem ZB{i:Nat}{v:V}{σ:L2.St}{H:Hp}{t u:TS}{D:GX}{rt:VK}{bk ct:L2.St->Hp->Prop}(G:L2.St->Hp->Prop)(h:∀D':GX,D'.rt=D.rt->(∀σ' H',G σ' H'->D'.nx σ' H')->t D' (σ.set i (some v)) H)(hG:∀σ' H',G σ' H'->u D σ' H'):Q2 i v σ H (GX.nx {nx:=kS t u D,rt:=rt,bk:=bk,ct:=ct}):=h {D with nx:=u D} rfl hG
theorem Bl{K:Frag}{H:Hp}{D:Dr}{age:Int}{as:List Addr}(la:as.length=D.kss.length)(hks:∀(i:Nat) (a:Addr) (ks:List Int),as[i]? =some a->D.kss[i]? =some ks->Ga K H a (ks.map V.int))(h0:0<=age)(h1:age<D.kss.length):∃ak,Zl (as.map V.ref) age=some (.ref ak)/\Ga K H ak ((Qy D age).map V.int):=by
 obtain⟨i,rfl⟩:∃i:Nat,age=(i:Int):=⟨age.toNat,by lia⟩
 have hi:i<D.kss.length:=by lia
 have hi':i<as.length:=by lia
 refine⟨as[i],Qv (by rw[Jq,Jj hi'];rfl),?_⟩
 have:=hks i as[i] D.kss[i] (Jj hi') (Jj hi)
 unfold Qy;rw[DZ,JE,Jj hi];exact this
theorem yq{nms:List Str}{r:Int}(h0:0<=r)(h1:r<((nms.map V.str).length:Int))(ok:∀z∈nms,QV z):∃z:Str,Zl (nms.map V.str) r=some (.str z)/\QV z:=by
 obtain⟨x,hx,hm⟩:=ab (xs:=nms.map V.str) h0 h1
 obtain⟨z,hz,rfl⟩:=JA.mp hm
 exact⟨z,hx,ok z hz⟩
theorem Wt.same{H H':Hp}{v:V}{o:Option (Int×Int)}(s:FZ H H')(h:Wt H v o):Wt H' v o:=h.mv (S:=[]) s.mv jd
theorem re{kn:Kw}{nm:Str}(h:nm∉kn.map (·.1)):kn.lookup nm=none:=by
 cases e:kn.lookup nm with
 |none=>rfl
 |some x=>exact absurd (Ge.mp (by rw[e];rfl)) h
theorem Be{a:Da}{x:Addr}(h:x∈dS a):x=a.p\/x=a.hk\/x=a.bd\/x=a.lg:=by
 simpa only[dS,Jk,Js,Jt]using h
theorem Bq(a:Da):a.p∈dS a:=by simp [dS]
theorem yb(a:Da):a.hk∈dS a:=by simp [dS]
theorem xx(a:Da):a.bd∈dS a:=by simp [dS]
theorem xq(a:Da):a.lg∈dS a:=by simp [dS]
theorem sU{a:Da}{H H':Hp}(m:Mv [a.bd,a.lg] H H'):Mv (dS a) H H':=m.mono (fun c h z=>h (by simp [dS]at z⊢;rcases z with z|z<;>simp [z]))
def aV(D:Dr)(kd:Addr):List (qL×V):=[(.inr "near",.int D.near),(.inr "far",.int D.far),(.inr "keys",.int (D.kss.length:Int)),(.inr "closed",.int D.least),(.inr "known",.ref kd)]
theorem tF(D:Dr)(kd:Addr):((aV D kd).map (·.1)).Nodup:=by
 have:([.inr "near",.inr "far",.inr "keys",.inr "closed",.inr "known"]:List qL).Nodup:=by decide +kernel
 exact this
theorem wb(D:Dr)(kd:Addr):Zu [] (aV D kd)=aV D kd:=by
 have:=mL (aV D kd) [] (tF D kd)
 rwa [List.nil_append]at this
structure Gf(H:Hp)(m kd:Addr)(D:Dr):Prop where
 di:H m=some (.dK (aV D kd))
 kn:HJ H kd D.kn
 ne:m≠kd
section
variable{S:List Addr}{H H':Hp}{m kd:Addr}{D:Dr}
theorem Gf.get(a:Gf H m kd D)(i:Nat){k:qL}{x:V}(h:(aV D kd)[i]? =some (k,x)):GV H m (kV k) (some x):=by
 have:=GV.k (k:=k) a.di
 rw[oz i h (tF ..)]at this;exact this
theorem Gf.g_near(a:Gf H m kd D):GV H m (.str "near") (some (.int D.near)):=a.get (k:= .inr "near") 0 rfl
theorem Gf.g_far(a:Gf H m kd D):GV H m (.str "far") (some (.int D.far)):=a.get (k:= .inr "far") 1 rfl
theorem Gf.g_keys(a:Gf H m kd D):GV H m (.str "keys") (some (.int (D.kss.length:Int))):=a.get (k:= .inr "keys") 2 rfl
theorem Gf.g_closed(a:Gf H m kd D):GV H m (.str "closed") (some (.int D.least)):=a.get (k:= .inr "closed") 3 rfl
theorem Gf.g_known(a:Gf H m kd D):GV H m (.str "known") (some (.ref kd)):=a.get (k:= .inr "known") 4 rfl
theorem Gf.mv(a:Gf H m kd D)(v:Mv S H H')(n:NT S H)(h1:m∉S)(h2:kd∉S):Gf H' m kd D:=⟨v _ _ h1 a.di,a.kn.mv v n h2,a.ne⟩
theorem Gf.same(a:Gf H m kd D)(s:FZ H H'):Gf H' m kd D:=a.mv (S:=[]) s.mv jd (fun h=>nomatch h) (fun h=>nomatch h)
theorem Gf.putK{kn':Kw}(a:Gf H m kd D)(v:Mv [kd] H H')(kb:HJ H' kd kn'):Gf H' m kd {D with kn:=kn'}:=⟨v _ _ (zr a.ne) a.di,kb,a.ne⟩
end
structure Em where
 e:Addr
 a:Da
 m:Addr
 kd:Addr
def eS(x:Em):List Addr:=dS x.a++[x.m,x.kd]
structure HK(K:Frag)(C:Addr)(H:Hp)(x:Em)(D:Dr)(L:List Rw)(E:Dr):Prop where
 tu:H x.e=some (.tup [.ref x.a.p,.ref x.m])
 dl:GQ K C H x.a D L
 md:Gf H x.m x.kd E
 n1:x.m≠x.a.bd
 n2:x.kd≠x.a.bd
section
variable{K:Frag}{C:Addr}{S:List Addr}{H H':Hp}{x:Em}{D D' E E':Dr}{L L':List Rw}{z:Addr}
theorem uL(h:z∈eS x):z∈dS x.a\/z=x.m\/z=x.kd:=by
 rcases JW.mp h with h|h
 ·exact .inl h
 ·simp only[Jk,Js,Jt]at h;exact .inr h
theorem k5(h:z∈dS x.a):z∈eS x:=JW.mpr (.inl h)
theorem Du:x.m∈eS x:=JW.mpr (.inr (by simp))
theorem Dz:x.kd∈eS x:=JW.mpr (.inr (by simp))
theorem HK.nt(b:HK K C H x D L E):NT (eS x) H:=fun z hz=>by
 rcases uL hz with h|rfl|rfl
 ·exact b.dl.nt z h
 ·exact⟨_,b.md.di,trivial⟩
 ·obtain⟨f,e,_⟩:=b.md.kn;exact⟨_,e,trivial⟩
theorem HK.some(b:HK K C H x D L E)(h:z∈eS x):H z≠none:=fun w=>by
 obtain⟨o,e,_⟩:=b.nt z h;rw[w]at e;cases e
theorem HK.mv(b:HK K C H x D L E)(m:Mv S H H')(nt:NT S H)(h:∀z∈eS x,z∉S):HK K C H' x D L E:=⟨m.tup nt b.tu,b.dl.mv m nt (h _ (k5 (Bq _))) (h _ (k5 (yb _))) (h _ (k5 (xx _))) (h _ (k5 (xq _))),b.md.mv m nt (h _ Du) (h _ Dz),b.n1,b.n2⟩
theorem HK.same(b:HK K C H x D L E)(s:FZ H H'):HK K C H' x D L E:=b.mv (S:=[]) s.mv jd (fun z _ h=>nomatch h)
theorem HK.m_out(b:HK K C H x D L E):x.m∉dS x.a:=b.dl.outD b.md.di b.n1
theorem HK.k_out(b:HK K C H x D L E):x.kd∉dS x.a:=by
 obtain⟨f,e,_⟩:=b.md.kn;exact b.dl.outD e b.n2
theorem HK.door(b:HK K C H x D L E)(m:Mv (dS x.a) H H')(d:GQ K C H' x.a D' L'):HK K C H' x D' L' E:=⟨m.tup b.dl.nt b.tu,d,b.md.mv m b.dl.nt b.m_out b.k_out,b.n1,b.n2⟩
theorem HK.model(b:HK K C H x D L E)(m:Mv [x.m,x.kd] H H')(md:Gf H' x.m x.kd E'):HK K C H' x D L E':=by
 have nt:NT [x.m,x.kd] H:=fun z hz=>b.nt z (JW.mpr (.inr hz))
 have o:∀z∈dS x.a,z∉[x.m,x.kd]:=fun z hz w=>by
  simp only[Jk,Js,Jt]at w;rcases w with rfl|rfl
  ·exact b.m_out hz
  ·exact b.k_out hz
 exact⟨m.tup nt b.tu,b.dl.mv m nt (o _ (Bq _)) (o _ (yb _)) (o _ (xx _)) (o _ (xq _)),md,b.n1,b.n2⟩
theorem nD(m:Mv (dS x.a) H H'):Mv (eS x) H H':=m.mono fun c h z=>h (k5 z)
theorem ou(m:Mv [x.m,x.kd] H H'):Mv (eS x) H H':=m.mono fun c h z=>h (JW.mpr (.inr z))
end
abbrev En:=Em×Dr×List Rw
structure Pw(K:Frag)(C:Addr)(H0 H:Hp)(b:Addr)(c:Nat)(pl:Addr)(xs:List En):Prop where
 s:Mv [b] H0 H
 bx:GZ H b c
 b0:H0 b≠none
 en:∀(i:Nat) (x:En),xs[i]? =some x->HK K C H x.1 x.2.1 x.2.2 x.2.1
 dj:∀(i j:Nat) (x y:En),i≠j->xs[i]? =some x->xs[j]? =some y->∀z∈eS x.1,z∉eS y.1
 fr:∀(i:Nat) (x:En),xs[i]? =some x->∀z∈eS x.1,H0 z=none
 pe:H pl=some (.lst (xs.map fun x=> .ref x.1.e))
 np:∀(i:Nat) (x:En),xs[i]? =some x->pl∉eS x.1
 fp:H0 pl=none
section
variable{K:Frag}{C:Addr}{H0 H H':Hp}{b:Addr}{c c':Nat}{pl:Addr}{xs:List En}{i:Nat}{x:En}{D':Dr}{L':List Rw}
theorem Pw.nb(p:Pw K C H0 H b c pl xs)(hi:xs[i]? =some x):b∉eS x.1:=fun z=>p.b0 (p.fr i x hi b z)
theorem Pw.npb(p:Pw K C H0 H b c pl xs):pl≠b:=fun z=>p.b0 (z▸p.fp)
theorem Pw.grc(p:Pw K C H0 H b c pl xs)(g:HQ b c' H H'):Pw K C H0 H' b c' pl xs:=by
 have m:Mv [b] H H':=fun c o h e=>g.kp c o (fun z=>h (Jl.mpr z)) e
 exact⟨p.s.trans m,g.bx,p.b0,fun i x hi=>(p.en i x hi).mv m (QQ p.bx) (fun z hz w=>p.nb hi (Jl.mp w▸hz)),p.dj,p.fr,g.kp _ _ p.npb p.pe,p.np,p.fp⟩
theorem Pw.same(p:Pw K C H0 H b c pl xs)(s:FZ H H'):Pw K C H0 H' b c pl xs:=p.grc (s.grc p.bx)
theorem Pw.mono(p:Pw K C H0 H b c pl xs)(h:c<=c'):Pw K C H0 H b c' pl xs:=⟨p.s,p.bx.mono h,p.b0,p.en,p.dj,p.fr,p.pe,p.np,p.fp⟩
theorem Pw.step(p:Pw K C H0 H b c pl xs)(hi:xs[i]? =some x)(m:Mv (eS x.1) H H')(e:HK K C H' x.1 D' L' D'):Pw K C H0 H' b c pl (xs.set i (x.1,D',L')):=by
 have hl:i<xs.length:=(Jw.mp hi).1
 have nt:=(p.en i x hi).nt;have key:∀{j:Nat} {y:En},(xs.set i (x.1,D',L'))[j]? =some y->(j=i/\y=(x.1,D',L'))\/(j≠i/\xs[j]? =some y):=fun{j y} h=>by
  rw[List.getElem?_set]at h;split at h
  ·rename_i z
   subst z;injection h with h
   exact .inl ⟨rfl,h.symm⟩
  ·rename_i z
   exact .inr ⟨fun w=>z w.symm,h⟩
 have same:∀{j:Nat} {y:En},(xs.set i (x.1,D',L'))[j]? =some y->∃y',xs[j]? =some y'/\y'.1=y.1:=fun h=>by
  rcases key h with⟨rfl,rfl⟩|⟨_,h⟩
  ·exact⟨x,hi,rfl⟩
  ·exact⟨_,h,rfl⟩
 refine⟨fun c o hc e=>m c o (fun z=>?_) (p.s c o hc e),p.bx.mv m (p.nb hi),p.b0,fun j y hj=>?_,fun j k y z hjk hj hk=>?_,fun j y hj=>?_,?_,fun j y hj=>?_,p.fp⟩
 ·rw[p.fr i x hi c z]at e;cases e
 ·rcases key hj with⟨rfl,rfl⟩|⟨n,hj⟩
  ·exact e
  ·exact(p.en j y hj).mv m nt (fun z hz w=>p.dj j i y x n hj hi z hz w)
 ·obtain⟨y',hy,ey⟩:=same hj
  obtain⟨z',hz,ez⟩:=same hk;rw[<- ey,<- ez];exact p.dj j k y' z' hjk hy hz
 ·obtain⟨y',hy,ey⟩:=same hj
  rw[<- ey];exact p.fr j y' hy
 ·have:(xs.set i (x.1,D',L')).map (fun x=>V.ref x.1.e)=xs.map fun x=>V.ref x.1.e:=by
   refine List.ext_getElem? fun j=>?_
   rw[Jq,Jq,List.getElem?_set];split
   ·rename_i z
    subst z;rw[hi];rfl
   ·rfl
  rw[this];exact m _ _ (p.np i x hi) p.pe
 ·obtain⟨y',hy,ey⟩:=same hj
  rw[<- ey];exact p.np j y' hy
theorem Pw.at(p:Pw K C H0 H b c pl xs)(hi:xs[i]? =some x):Zl (xs.map fun x=>V.ref x.1.e) (i:Int)=some (.ref x.1.e):=Qv (by rw[Jq,hi];rfl)
theorem Pw.add{Ha:Hp}{y:Em}{D:Dr}(p:Pw K C H0 H b c pl xs)(s:FZ H Ha)(e:HK K C Ha y D [] D)(f:∀z∈eS y,H z=none):Pw K C H0 (F5 Ha pl (.lst ((xs.map fun x=>V.ref x.1.e)++[.ref y.e]))) b c pl (xs++[(y,D,[])]):=by
 have pa:=p.same s;have m:Mv [pl] Ha (F5 Ha pl (.lst ((xs.map fun x=>V.ref x.1.e)++[.ref y.e]))):=Mv.upd1
 have nt:NT [pl] Ha:=NT.one pa.pe trivial
 have npy:pl∉eS y:=fun z=>by have:=p.pe;rw[f pl z]at this;cases this
 have key:∀{j:Nat} {w:En},(xs++[(y,D,[])])[j]? =some w->xs[j]? =some w\/(j=xs.length/\w=(y,D,[])):=fun{j w} h=>by
  by_cases hj:j<xs.length
  ·rw[DR hj]at h;exact .inl h
  ·rw[J9 (by lia)]at h
   cases q:j-xs.length with
   |zero=>rw[q]at h;cases h;exact .inr ⟨by lia,rfl⟩
   |succ k=>rw[q]at h;cases h
 have fz:∀z∈eS y,H0 z=none:=fun z hz=>by
  cases q:H0 z with
  |none=>rfl
  |some o=>
   by_cases w:z=b
   ·subst w;obtain⟨_,_,_,e1,_⟩:=p.bx;rw[f z hz]at e1;cases e1
   ·have:=p.s z o (zr w) q;rw[f z hz]at this;cases this
 refine⟨fun c o hc e1=>?_,pa.bx.mv m (zr p.npb.symm),p.b0,fun j w hj=>?_,fun j k w u hjk hj hk=>?_,fun j w hj=>?_,?_,fun j w hj=>?_,p.fp⟩
 ·rw[qj (fun z=>by rw[z,p.fp]at e1;cases e1)]
  exact s _ _ (p.s c o hc e1)
 ·rcases key hj with hj|⟨_,rfl⟩
  ·exact(pa.en j w hj).mv m nt (fun z hz u=>p.np j w hj (Jl.mp u▸hz))
  ·exact e.mv m nt (fun z hz u=>npy (Jl.mp u▸hz))
 ·rcases key hj with hj'|⟨ej,rfl⟩
  ·rcases key hk with hk'|⟨_,rfl⟩
   ·exact p.dj j k w u hjk hj' hk'
   ·exact fun z hz v=>(p.en j w hj').some hz (f z v)
  ·rcases key hk with hk'|⟨ek,rfl⟩
   ·exact fun z hz v=>(p.en k u hk').some v (f z hz)
   ·lia
 ·rcases key hj with hj'|⟨_,rfl⟩
  ·exact p.fr j w hj'
  ·exact fz
 ·rw[qb,JU];rfl
 ·rcases key hj with hj'|⟨_,rfl⟩
  ·exact p.np j w hj'
  ·exact npy
end
def qA(D:Dr)(nm:Str)(age c:Int):Str:=match D.kn.lookup nm with
 |none=>""
 |some e=>if qH D e age=true then(if c-e.last<1\/c-e.last>D.far then "" else if c-e.last<=D.near\/e.wt=some (age,c-1)then "open" else "wait")else ""
def F4(D:Dr)(nm:Str)(age c:Int):Kw:=(zj D nm age (some (c,0))).2
theorem uA(D:Dr)(nm:Str)(age c d:Int):(zj D nm age (some (c,d))).2=F4 D nm age c:=by
 unfold F4 zj;split
 ·rfl
 ·split
  ·simp only
   split
   ·rfl
   ·rfl
  ·rfl
theorem rz{D:Dr}{nm:Str}{age c:Int}(nd:(D.kn.map (·.1)).Nodup)(nf:D.near<=D.far):F4 D nm age c=match D.kn.lookup nm with
  |none=>D.kn
  |some e=>if qA D nm age c="open" then ze D.kn nm ⟨age,c,none⟩else if qA D nm age c="wait" then ze D.kn nm ⟨e.age,e.last,some (age,c)⟩else D.kn:=by
 unfold F4;cases e1:D.kn.lookup nm with
 |none=>unfold zj;rw[e1]
 |some e=>
  simp only
  have no1:¬(("":Str)="open"):=by decide
  have no2:¬(("":Str)="wait"):=by decide
  have no3:¬(("wait":Str)="open"):=by decide
  have self:=uT nd e1
  by_cases ht:qH D e age=true
  ·have eh:(zj D nm age (some (c,0))).2=ze D.kn nm (zf D.near D.far e age c).2:=by
    unfold zj;rw[e1];simp only
    rw[Jc ht];split<;>rfl
   have ew:qA D nm age c=(if c-e.last<1\/c-e.last>D.far then("":Str)else if c-e.last<=D.near\/e.wt=some (age,c-1)then("open":Str)else("wait":Str)):=by
    unfold qA;rw[e1];simp only
    rw[Jc ht]
   rw[eh];unfold zf
   by_cases h1:c<=e.last
   ·rw[Jc (show c-e.last<1\/c-e.last>D.far from .inl (by lia))]at ew
    rw[Jc h1,ew,Jb no1,Jb no2];exact self
   ·rw[Jb h1]
    by_cases h2:c<=e.last+D.near
    ·rw[Jb (show¬(c-e.last<1\/c-e.last>D.far) by lia),Jc (show c-e.last<=D.near\/_ from .inl (by lia))]at ew
     rw[Jc h2,ew,Jc rfl]
    ·rw[Jb h2]
     by_cases h3:c<=e.last+D.far
     ·rw[Jb (show¬(c-e.last<1\/c-e.last>D.far) by lia)]at ew
      rw[Jc h3]
      by_cases h4:e.wt=some (age,c-1)
      ·rw[Jc (show c-e.last<=D.near\/_ from .inr h4)]at ew
       rw[Jc h4,ew,Jc rfl]
      ·rw[Jb (show¬(c-e.last<=D.near\/e.wt=some (age,c-1))from fun z=>z.elim (fun z=>by lia) h4)]at ew
       rw[Jb h4,ew,Jb no3,Jc rfl]
     ·rw[Jc (show c-e.last<1\/c-e.last>D.far from .inr (by lia))]at ew
      rw[Jb h3,ew,Jb no1,Jb no2];exact self
  ·have eh:(zj D nm age (some (c,0))).2=D.kn:=by
    unfold zj;rw[e1];simp only
    rw[Jb ht]
   have ew:qA D nm age c="":=by
    unfold qA;rw[e1];simp only
    rw[Jb ht]
   rw[eh,ew,Jb no1,Jb no2]
section
variable(K:Frag)(C:Addr)
def iT:Sp:=fun vs H Q _=>∃(a:Da) (D:Dr) (L:List Rw) (p1 p2:Addr) (P R:Ps) (c d d':Int),vs=[.ref a.p,.ref p1,.ref p2]/\GQ K C H a D L/\L.length<=1000/\G5 D/\ci H p1 P/\ci H p2 R/\Ij P/\Ij R/\gE D P=some (c,d)/\gE D R=some (c+1,d')/\R.nm=P.nm/\R.age=P.age/\D.kn.lookup R.nm=none/\(D.kn.length:Int)<D.most/\
 ∀H',Mv [a.bd,a.lg] H H'->GQ K C H' a {D with kn:=ze D.kn R.nm ⟨R.age,c+1,none⟩} (L++[.learn P R])->Q .non H'
end
def zn(D:Dr)(e:Kb)(age:Int):List (Int×Int):=if qH D e age=true then
  (if e.last+1<4096 then [(e.last+1,if 4095<e.last+D.near then 4095 else e.last+D.near)]else [])++
  (match e.wt with
   |none=>[]
   |some (x,w)=>if x=age/\w+1<=(if 4095<e.last+D.far then 4095 else e.last+D.far)then [(w+1,w+1)]else [])
 else []
def HZ(H:Hp)(t:Addr)(zs:List (Int×Int)):Prop:=∃as:List Addr,H t=some (.tup (as.map V.ref))/\as.length=zs.length/\∀(i:Nat) (a:Addr) (z:Int×Int),as[i]? =some a->zs[i]? =some z->H a=some (.tup [.int z.1,.int z.2])
def IQ(H:Hp)(t:Addr)(zs:List (Int×Int)):Prop:=∃as:List Addr,H t=some (.lst (as.map V.ref))/\as.length=zs.length/\∀(i:Nat) (a:Addr) (z:Int×Int),as[i]? =some a->zs[i]? =some z->H a=some (.tup [.int z.1,.int z.2])
section
variable{S:List Addr}{H H':Hp}{t x:Addr}{zs:List (Int×Int)}{z:Int×Int}
theorem HZ.mv(m:Mv S H H')(n:NT S H)(h:HZ H t zs):HZ H' t zs:=by
 obtain⟨as,e,l,r⟩:=h
 exact⟨as,m.tup n e,l,fun i a z e1 e2=>m.tup n (r i a z e1 e2)⟩
theorem HZ.same(s:FZ H H')(h:HZ H t zs):HZ H' t zs:=h.mv (S:=[]) s.mv jd
theorem IQ.add{as:List Addr}(e:H t=some (.lst (as.map V.ref)))(l:as.length=zs.length)(r:∀(i:Nat) (a:Addr) (z:Int×Int),as[i]? =some a->zs[i]? =some z->H a=some (.tup [.int z.1,.int z.2]))(hx:H x=some (.tup [.int z.1,.int z.2])):IQ (F5 H t (.lst (as.map V.ref++[.ref x]))) t (zs++[z]):=by
 have nt:NT [t] H:=NT.one e trivial
 refine⟨as++[x],by rw[qb,JU];rfl,by simp [l],fun i a y e1 e2=>(Mv.upd1 (a:=t)).tup nt ?_⟩
 by_cases hi:i<as.length
 ·rw[DR hi]at e1
  rw[DR (by rw[<- l];exact hi)]at e2
  exact r i a y e1 e2
 ·rw[J9 (by lia)]at e1
  rw[J9 (by rw[<- l];lia),<- l]at e2
  cases q:i-as.length with
  |zero=>rw[q]at e1 e2;cases e1;cases e2;exact hx
  |succ k=>rw[q]at e1;cases e1
end
section
variable(K:Frag)(C:Addr)
def Iz(H:Hp)(v:V):Option Kb->Prop
 |none=>v= .non
 |some e=>∃a,v= .ref a/\GI H a e
def xu:Sp:=fun vs H Q _=>∃(p ta hk bd lg:Addr) (n:Nat) (D:Dr) (v:V) (o:Option Kb) (age:Int),vs=[.ref p,v,.int age]/\F2 K C H p ta hk bd lg n D/\Iz H v o/\∀t H',FZ H H'->HZ H' t (match o with
 |none=>[]
 |some e=>zn D e age)->Q (.ref t) H'
def oy:Sp:=fun vs H Q _=>∃(D:Dr),vs=[.int D.near,.int D.far,.int (D.kss.length:Int)]/\D.least=0/\D.kn=[]/\∀m kd H',FZ H H'->H m=none->H kd=none->Gf H' m kd D->Q (.ref m) H'
def fk:Sp:=fun vs H Q _=>∃(m kd p:Addr) (D:Dr) (nm:Str) (age c:Int),vs=[.ref m,.ref p]/\Gf H m kd D/\H p=some (.tup [.str nm,.int age,.int c])/\∀H',FZ H H'->Q (.str (qA D nm age c)) H'
def iC:Sp:=fun vs H Q _=>∃(m kd p:Addr) (D:Dr) (nm:Str) (age c:Int),vs=[.ref m,.ref p]/\Gf H m kd D/\H p=some (.tup [.str nm,.int age,.int c])/\G5 D/\D.near<=D.far/\∀H',Mv [m,kd] H H'->Gf H' m kd {D with kn:=F4 D nm age c}->Q (.bl (decide (qA D nm age c="open"))) H'
structure GW(H:Hp)(cd tb kt:Addr)(t:List Int)(kss:List (List Int)):Prop where
 e:H cd=some (.tup [.ref tb,.ref kt])
 tb:Rd H tb (.tup (t.map V.int))
 ks:Iu [] H kt kss
def Qt(t:List Int)(kss:List (List Int))(nm:Str)(age c d:Int):Ps:=⟨nm,age,bU t (kss.getD age.toNat []) nm c d⟩
def gq:Sp:=fun vs H Q _=>∃(cd tb kt p:Addr) (t:List Int) (kss:List (List Int)) (nm:Str) (age c d:Int),vs=[.ref cd,.ref p,.int d]/\GW H cd tb kt t kss/\H p=some (.tup [.str nm,.int age,.int c])/\t.Perm Gz/\QV nm/\0<=age/\age<kss.length/\0<=c/\c<4096/\bb d/\∀pr H',FZ H H'->ci H' pr (Qt t kss nm age c d)->Q (.ref pr) H'
end
section
variable{S:List Addr}{H H':Hp}{cd tb kt:Addr}{t:List Int}{kss:List (List Int)}
theorem GW.mv(h:GW H cd tb kt t kss)(m:Mv S H H')(n:NT S H):GW H' cd tb kt t kss:=⟨m.tup n h.e,m.rd n h.tb,h.ks.mv m n⟩
theorem GW.same(h:GW H cd tb kt t kss)(s:FZ H H'):GW H' cd tb kt t kss:=h.mv (S:=[]) s.mv jd
end
end L3
namespace S0
open PySem PyProof.Rows
def Rs(xs:Array Nat):Prop:=xs.toList.Pairwise (· < ·)
theorem Rs.at{xs:Array Nat}(h:Rs xs){i j:Nat}(hi:i<xs.size)(hj:j<xs.size)(hij:i<j):xs[i]<xs[j]:=by
 have:=List.pairwise_iff_getElem.mp h i j (by simpa using hi) (by simpa using hj) hij
 simpa using this
theorem iy{xs:Array Nat}(h:Rs xs)(j:Nat):∀(f lo hi:Nat),lo<=hi->hi<=xs.size->hi-lo<=f->(∀i (hx:i<xs.size),i<lo->xs[i]<j)->(∀i (hx:i<xs.size),hi<=i->j<=xs[i])->
  SetTable.below.go xs j f lo hi<=xs.size/\(∀i (hx:i<xs.size),i<SetTable.below.go xs j f lo hi->xs[i]<j)/\(∀i (hx:i<xs.size),SetTable.below.go xs j f lo hi<=i->j<=xs[i])
 |0,lo,hi,h1,h2,h3,h4,h5=>by
  have e:lo=hi:=by lia
  subst e
  exact⟨h2,h4,h5⟩
 |f+1,lo,hi,h1,h2,h3,h4,h5=>by
  unfold SetTable.below.go
  by_cases hlt:lo<hi
  ·rw[Jc hlt]
   have hm:(lo+hi)/2<xs.size:=by lia
   dsimp only
   have eg:xs.getD ((lo+hi)/2) j=xs[(lo+hi)/2]:=by simp [Array.getD,hm]
   rw[eg]
   by_cases hc:xs[(lo+hi)/2]<j
   ·rw[Jc hc]
    refine iy h j f _ _ (by lia) h2 (by lia) (fun i hi' hi2=>?_) h5
    by_cases e:i=(lo+hi)/2
    ·subst e;exact hc
    ·exact Nat.lt_trans (h.at hi' hm (by lia)) hc
   ·rw[Jb hc]
    refine iy h j f _ _ (by lia) (by lia) (by lia) h4 fun i hi' hi2=>?_
    by_cases e:i=(lo+hi)/2
    ·subst e;lia
    ·have:=h.at hm hi' (by lia)
     lia
  ·rw[Jb hlt]
   exact⟨by lia,h4,fun i hx hi2=>h5 i hx (by lia)⟩
theorem cr{xs:Array Nat}(h:Rs xs)(j:Nat):SetTable.below xs j<=xs.size/\(∀i (hi:i<xs.size),i<SetTable.below xs j->xs[i]<j)/\(∀i (hx:i<xs.size),SetTable.below xs j<=i->j<=xs[i]):=
 iy h j xs.size 0 xs.size (JB _) (Je _) (by lia) (fun i _ h=>absurd h (Nat.not_lt_zero _)) fun i hx hi=>absurd hx (by lia)
theorem Rs.put{xs:Array Nat}(h:Rs xs){j:Nat}(hj:(xs[SetTable.below xs j]? ==some j)=false):Rs (SetTable.insertAt xs (SetTable.below xs j) j):=by
 obtain⟨h1,h2,h3⟩:=cr h j;generalize SetTable.below xs j=p at *
 unfold Rs;rw[SetTable.toList_insertAt,List.pairwise_append];have hs:(xs.toList.take p++xs.toList.drop p).Pairwise (· < ·):=by rw[List.take_append_drop];exact h
 obtain⟨a1,a2,a3⟩:=List.pairwise_append.mp hs;have lo:∀x∈xs.toList.take p,x<j:=by
  intro x hx;obtain⟨m,hm,rfl⟩:=List.mem_iff_getElem.mp hx;simp at hm
  simpa using h2 m (by lia) (by lia)
 have hi:∀x∈xs.toList.drop p,j<x:=by
  intro x hx;obtain⟨m,hm,rfl⟩:=List.mem_iff_getElem.mp hx;simp at hm
  have hpm:p+m<xs.size:=by lia
  have hp:p<xs.size:=by lia
  have e0:j<=xs[p]:=h3 p hp (Je _)
  have e1:xs[p]≠j:=by
   intro e;rw[getElem?_pos xs p hp,e]at hj;simp at hj
  simp only[List.getElem_drop,Array.getElem_toList]
  by_cases em:m=0
  ·subst em;simp only[Nat.add_zero];lia
  ·have:=h.at hp hpm (by lia)
   lia
 refine⟨a1,List.pairwise_cons.mpr ⟨hi,a2⟩,fun x hx y hy=>?_⟩
 rcases Jk.mp hy with rfl|hy
 ·exact lo x hx
 ·exact a3 x hx y hy
theorem cq{t:SetTable}{h:Int}:∀(f:Nat) (p:SetTable.Probe) {j:Nat} {d:Option Nat},(∀j',p.dummy=some j'->t.slot j'= .dummy)->
  SetTable.probe.go t (fun _=>h+1) h f p=some (.empty j d)->t.slot j= .empty/\∀j',d=some j'->t.slot j'= .dummy
 |0,p,j,d,hp,e=>nomatch e
 |f+1,p,j,d,hp,e=>by
  unfold SetTable.probe.go at e;have ha:∀q:SetTable.Probe,(t.advance q).dummy=q.dummy:=fun q=>by
   unfold SetTable.advance;split
   ·rfl
   ·rfl
  cases hs:t.slot p.j with
  |empty=>
   rw[hs]at e;simp only[Option.some.injEq,SetTable.Met.empty.injEq]at e;obtain⟨rfl,rfl⟩:=e
   exact⟨hs,hp⟩
  |dummy=>
   rw[hs]at e;refine cq f _ (fun j' h'=>?_) e
   rw[ha]at h';have h':some p.j=some j':=h'
   injection h' with h'
   rw[<- h'];exact hs
  |live i=>
   rw[hs]at e;have hne:((h+1:Int)==h)=false:=by simp;lia
   simp only[hne,Bool.false_eq_true,JD]at e;exact cq f _ (fun j' h'=>hp j' (by rw[<- ha p];exact h')) e
theorem uh{t:SetTable}{h:Int}{j:Nat}{b:Bool}(e:t.freeSlot h=some (j,b)):∀i,t.slot j≠ .live i:=by
 unfold SetTable.freeSlot at e;split at e
 ·rename_i j' d he
  obtain⟨a1,a2⟩:=cq _ _ (fun j' h'=>by cases h') he
  simp only[Option.some.injEq,Prod.mk.injEq]at e;obtain⟨e1,_⟩:=e;intro i z;cases d with
  |none=>
   have e1:j'=j:=e1
   rw[<- e1,a1]at z;cases z
  |some k=>
   have e1:k=j:=e1
   rw[<- e1,a2 k rfl]at z;cases z
 ·cases e
def TOk(t:SetTable):Prop:=t.plain=true->Rs t.place
theorem TOk.standIn(t:SetTable)(n:Nat):TOk (t.standIn n):=fun h=>nomatch h
theorem Bz{t:SetTable}{j:Nat}(h:TOk t)(h3:∀i,t.slot j≠ .live i):TOk (t.put j).1:=by
 intro hp;have h1:=h hp;unfold SetTable.put
 dsimp only
 refine h1.put ?_
 cases e:(t.place[SetTable.below t.place j]? ==some j)with
 |false=>rfl
 |true=>
  refine absurd ?_ (h3 (SetTable.below t.place j))
  unfold SetTable.slot
  dsimp only
  rw[e];rfl
theorem um{t:SetTable}(h:TOk t)(es:Array (Int×Value))(hh:Int)(x:Value):TOk (layNew t es hh x).2.1/\(layNew t es hh x).2.1.led=t.led:=by
 unfold layNew;split
 ·rename_i slot wd he
  dsimp only
  have hk:=Bz (j:=slot) h (uh he)
  unfold SetTable.orStandIn;split
  ·exact⟨hk,rfl⟩
  ·exact⟨TOk.standIn _ _,rfl⟩
 ·exact⟨TOk.standIn _ _,rfl⟩
theorem fT(f:Nat->Option Nat):∀l:List Nat,(l.filterMap fun j=>(f j).map (j,·)).map (·.1)=l.filter fun j=>(f j).isSome
 | []=>rfl
 |j::l=>by
  rw[JP,List.filter_cons];cases e:f j with
  |none=>simpa using fT f l
  |some k=>simpa using fT f l
theorem nV{mask fg mv:Nat}{led plain:Bool}{hs:Array Int}{t:SetTable}{o:Array Nat}(e:SetTable.laid mask fg mv led plain hs=some (t,o)):Rs t.place/\t.dummies= #[]/\t.led=led:=by
 unfold SetTable.laid at e;cases hl:SetTable.layClean mask hs with
 |none=>rw[hl]at e;exact nomatch e
 |some ow=>
  rw[hl]at e;have e':some (({mask,place:=(((List.range (mask+1)).filterMap fun j=>(ow.getD j none).map (j,·)).map (·.1)).toArray,dummies:= #[],finger:=fg,led,moves:=mv,plain}:SetTable),(((List.range (mask+1)).filterMap fun j=>(ow.getD j none).map (j,·)).map (·.2)).toArray)=some (t,o):=e
  injection e' with e'
  injection e' with e1 e2
  subst e1;refine⟨?_,rfl,rfl⟩
  unfold Rs
  dsimp only
  rw[fT];exact List.Pairwise.filter _ List.pairwise_lt_range
theorem vN(t:SetTable)(es:Array (Int×Value))(wn:Nat):TOk (relayAll t es wn).2.1/\(relayAll t es wn).2.1.led=t.led:=by
 unfold relayAll;split
 ·rename_i t' order he
  dsimp only
  obtain⟨a1,a2,a3⟩:=nV he;split
  ·exact⟨fun _=>a1,a3⟩
  ·exact⟨TOk.standIn _ _,rfl⟩
 ·exact⟨TOk.standIn _ _,rfl⟩
end S0
namespace S0
open PySem PySem.Spec PyProof.Rows
def zt(w:World):Bool:=w.params.followText "set-order"
def TW(w:World)(t:SetTable):Prop:=zt w=true\/(t.led=true/\TOk t)
section
variable{prog:Program}{w:World}{K:Type} [DecidableEq K](knd:PySem.KeyKind prog w K)(kf:Value->K)
def SetK(h:Heap)(a:Addr)(ks:List K):Prop:=∃o es ep t,h.get? a=some o/\o.ExactSet/\o.data= .set es ep t/\t.fits es.size=true/\es.size<scanBound/\
 ElemsOf knd es.toList/\(es.toList.map fun e=>kf e.2).Perm ks/\TW w t
variable{knd kf}
theorem SetK.at{h h':Heap}{a:Addr}{ks:List K}(x:SetK knd kf h a ks)(e:∀o,h.get? a=some o->h'.get? a=some o):SetK knd kf h' a ks:=by
 obtain⟨o,es,ep,t,h1,r⟩:=x
 exact⟨o,es,ep,t,e _ h1,r⟩
theorem SetK.lt{h:Heap}{a:Addr}{ks:List K}(x:SetK knd kf h a ks):a<h.objs.size:=by
 obtain⟨o,es,ep,t,h1,r⟩:=x;exact Jh h1
theorem SetK.len{h:Heap}{a:Addr}{ks:List K}(x:SetK knd kf h a ks):ks.length<scanBound:=by
 obtain⟨o,es,ep,t,h1,h2,h3,h4,h5,h6,h7,h8⟩:=x;rw[<- h7.length_eq,Jf,Jp];exact h5
theorem lM(hkf:∀k v,knd.is k v=true->kf v=k){es:Array (Int×Value)}(hel:ElemsOf knd es.toList)(k:K):
  k∈(es.toList.map fun e=>kf e.2)↔∃e∈es.toList,knd.is k e.2=true:=by
 rw[JA];constructor
 ·rintro⟨e,he,rfl⟩
  obtain⟨⟨k',hk',_⟩,_⟩:=hel e he
  exact⟨e,he,by rw[hkf k' _ hk'];exact hk'⟩
 ·rintro⟨e,he,hk⟩
  exact⟨e,he,hkf k _ hk⟩
theorem Zi{h:Heap}{a:Addr}{o:Obj}{es:Array (Int×Value)}{ep:Nat}{t:SetTable}(ho:h.get? a=some o)(hd:o.data= .set es ep t)(es':Array (Int×Value))(t':SetTable):
  (h.update a (Obj.putSet es' t')).get? a=some {o with data:= .set es' (ep+1) t'}:=by
 have:=EE (Obj.putSet es' t') ho (by rw[putSet_of es' t' hd];rfl)
 rw[putSet_of es' t' hd]at this;exact this
variable{A:Around}{E:FW}{s:Shared}
theorem pV(hkf:∀k v,knd.is k v=true->kf v=k){a:Addr}{ks:List K}{k:K}{x:Value}{Q:Bool->Shared->Prop}(hkey:knd.is k x=true)(hsc:x.scannable=true)
  (hS:SetK knd kf s.heap a ks)(hroom:ks.length+1<scanBound)
  (h:∀h',Heap.SameBut a s.heap h'->SetK knd kf h' a (if k∈ks then ks else ks++[k])->Q (decide (k∉ks)) {s with heap:=h'}):
  wpAny (model prog w) A (setAddHashed a x (knd.hash k)) Q E s:=by
 obtain⟨o,es,ep,t,ho,hex,hd,hf,hb,hel,hpm,htw⟩:=hS;have hmem:k∈ks↔∃e∈es.toList,knd.is k e.2=true:=by rw[<- hpm.mem_iff];exact lM hkf hel k
 have hsz:es.size=ks.length:=by rw[<- hpm.length_eq,Jf,Jp]
 unfold setAddHashed setAddHashedIn;refine JL (Ja (wpAny_setState_of ho hd hf ?_))
 dsimp only
 rw[byScan_of hsc hb hel];simp only[↓reduceIte];unfold setAddByScan;refine Ja (Ja (DV (Ja (wpAny_setScan_of hkey ho hd hf hel ?_))))
 cases hr:List.findIdx? (fun e=>knd.is k e.2) es.toList with
 |some j=>
  obtain⟨hj,hpj,_⟩:=List.findIdx?_eq_some_iff_getElem.mp hr
  have hk:k∈ks:=hmem.mpr ⟨es.toList[j],Er hj,hpj⟩
  refine Jd (Jd ?_)
  have:=h s.heap (Heap.SameBut.refl a s.heap) (by rw[Jc hk];exact⟨o,es,ep,t,ho,hex,hd,hf,hb,hel,hpm,htw⟩)
  rw[Jn (by simpa using hk)]at this
  exact this
 |none=>
  have hk:k∉ks:=fun z=>by
   obtain⟨e,he,hp⟩:=hmem.mp z
   have:=List.findIdx?_eq_none_iff.mp hr e he
   rw[hp]at this;cases this
  have hgw:∀(b:Bool) {s₁:Shared} {Q':Unit->Shared->Prop},Q' () s₁->wpAny (model prog w) A (match b with|true=>rule "set.scan.the-table-gave-way"|false=>pure ()) Q' E s₁:=
   fun b s₁ Q' hq=>by cases b<;>first|exact Jd hq|exact DV hq
  have hperm:=layNew_perm t es (knd.hash k) x;have hfits:=layNew_fits t es (knd.hash k) x;have htk:TW w (layNew t es (knd.hash k) x).2.1:=by
   rcases htw with z|⟨z1,z2⟩
   ·exact .inl z
   ·obtain⟨b1,b2⟩:=um z2 es (knd.hash k) x
    exact .inr ⟨b2.trans z1,b1⟩
  dsimp only
  generalize hL:layNew t es (knd.hash k) x=L at hperm hfits htk⊢
  obtain⟨es1,t1,wd,gave⟩:=L
  dsimp only at hperm hfits htk⊢
  rw[Array.toList_push]at hperm;have hel1:ElemsOf knd es1.toList:=(hel.push hkey hsc).perm hperm
  have hpm1:(es1.toList.map fun e=>kf e.2).Perm (ks++[k]):=by
   refine(hperm.map _).trans ?_
   rw[JU];refine hpm.append ?_
   show [kf x].Perm [k]
   rw[hkf k x hkey]
  have hsz1:es1.size=ks.length+1:=by rw[<- Jp,hperm.length_eq,JC,Jp,hsz];rfl
  have hb1:es1.size<scanBound:=by rw[hsz1];exact hroom
  have key:∀t2:SetTable,t2.fits es1.size=true->TW w t2->∀(Z:Option Bool->Shared->Prop),(∀h',Heap.SameBut a s.heap h'->SetK knd kf h' a (ks++[k])->Z (some true) {s with heap:=h'})->
    wpAny (model prog w) A (do
     storeSet a es1 t2
     if(!wd&&t2.tooFull)=true then do
       (match(relayAll t2 es1 (SetTable.grown es1.size)).2.2 with|true=>rule "set.scan.the-table-gave-way"|false=>pure ())
       storeSet a (relayAll t2 es1 (SetTable.grown es1.size)).1 (relayAll t2 es1 (SetTable.grown es1.size)).2.1
       pure (some true)
      else pure (some true)) Z E s:=by
   intro t2 f2 w2 Z hZ;refine Ja (wpAny_storeSet_of ho hd ?_ (fits_of_scanBound hb1))
   have ho1:=Zi ho hd es1 t2;have sb1:=J6 s.heap a (Obj.putSet es1 t2);split
   ·have hp:=relayAll_perm t2 es1 (SetTable.grown es1.size)
    have hfr:=relayAll_fits t2 es1 (SetTable.grown es1.size);obtain⟨k1,k2⟩:=vN t2 es1 (SetTable.grown es1.size)
    have wr:TW w (relayAll t2 es1 (SetTable.grown es1.size)).2.1:=by
     rcases w2 with z|⟨z1,z2⟩
     ·exact .inl z
     ·exact .inr ⟨k2.trans z1,k1⟩
    generalize relayAll t2 es1 (SetTable.grown es1.size)=Rl at hp hfr wr⊢
    obtain⟨es2,t3,g2⟩:=Rl
    dsimp only at hp hfr wr⊢
    have hb2:es2.size<scanBound:=by rw[<- Jp,hp.length_eq,Jp];exact hb1
    refine Ja (hgw _ (Ja (wpAny_storeSet_of ho1 rfl ?_ (fits_of_scanBound hb2))))
    exact Jd (hZ _ (sb1.trans (J6 _ a _)) ⟨_,es2,_,t3,Zi ho1 rfl es2 t3,hex,rfl,hfr,hb2,hel1.perm hp,(hp.map _).trans hpm1,wr⟩)
   ·exact Jd (hZ _ sb1 ⟨_,es1,_,t2,ho1,hex,rfl,f2,hb1,hel1,hpm1,w2⟩)
  have fin:∀h',Heap.SameBut a s.heap h'->SetK knd kf h' a (ks++[k])->Q true {s with heap:=h'}:=fun h' b1 b2=>by
   have:=h h' b1 (by rw[Jb hk];exact b2)
   rw[Jg (by simpa using hk)]at this
   exact this
  refine Ja (hgw _ ?_)
  split
  ·refine Ja ?_
   rw[hashByValue_scannable 8 hsc];refine Jd ?_
   refine key _ ?_ ?_ _ fun h' b1 b2=>Jd (fin h' b1 b2)
   ·split
    ·exact hfits
    ·exact SetTable.fits_plain_off hfits
   ·split
    ·exact htk
    ·rcases htk with z|⟨z1,z2⟩
     ·exact .inl z
     ·exact .inr ⟨z1,fun z=>nomatch z⟩
  ·refine Ja (Jd ?_)
   simp only[↓reduceIte];exact key _ hfits htk _ fun h' b1 b2=>Jd (fin h' b1 b2)
end
def Q7{K:Type} [DecidableEq K](acc:List K)(k:K):List K:=if k∈acc then acc else acc++[k]
def bH{K:Type} [DecidableEq K](val:Nat->K)(i:Nat):List K:=((List.range i).map val).foldl Q7 []
theorem mG{K:Type} [DecidableEq K](val:Nat->K)(i:Nat):bH val (i+1)=Q7 (bH val i) (val i):=by
 unfold bH;rw[List.range_succ,JU,List.foldl_append];rfl
theorem oI{K:Type} [DecidableEq K](val:Nat->K):∀i,(bH val i).length<=i
 |0=>Je _
 |i+1=>by
  rw[mG];unfold Q7
  have:=oI val i
  split
  ·lia
  ·rw[JC,Eo];lia
def ddL{K:Type} [DecidableEq K](l:List K):List K:=l.foldl Q7 []
theorem rW{K:Type} [DecidableEq K] [Inhabited K](l:List K):bH (fun i=>l.getD i default) l.length=ddL l:=by
 unfold bH ddL;congr 1
 apply List.ext_getElem
 ·simp
 ·intro i h1 h2
  simp [JE,h2]
abbrev Qj(led:Bool):Obj:={cls:= .type "set",dict:=none,data:= .set #[] 0 (.fresh 0 0 led)}
section
variable{prog:Program}{w:World}{K:Type} [DecidableEq K]{knd:PySem.KeyKind prog w K}{kf:Value->K}
theorem Af{h:Heap}{a:Addr}(hg:h.get? a=some (Qj (!zt w))):SetK knd kf h a []:=by
 refine⟨_,#[],0,_,hg,⟨rfl,rfl,rfl⟩,rfl,rfl,by unfold scanBound;simp,(fun e he=>nomatch he),List.Perm.nil,?_⟩
 cases e:zt w with
 |true=>exact .inl e
 |false=>exact .inr ⟨rfl,fun _=>List.Pairwise.nil⟩
section
variable{A:Around}{R:Result->Shared->Prop}{I:Addr}{fp wr:List Addr}{G:Array GenState->Array GenState->Prop}{n:Nat}{P:Nat->Value->Prop}{St:Nat->Shared->Prop}
theorem B4(hkf:∀k v,knd.is k v=true->kf v=k)(W:WalksS prog w A.in1 I fp wr G n P St)(S:Addr)(hSf:S∉fp)
  (val:Nat->K)(hval:∀i v,P i v->knd.is (val i) v=true/\v.scannable=true)(hb:n+1<scanBound):
  ∀(k i:Nat) (s:Shared),n-i=k->i<=n->St i s->SetK knd kf s.heap S (bH val i)->
   (∀s',Moved (S::wr) G s s'->SetK knd kf s'.heap S (bH val n)->R (.ok (.ret .none)) s')->
   codeAny (model prog w) A (.builtin "set.update.loop" ⟨[.ref S,.ref I],[]⟩) R s:=by
 have hSw:S∉wr:=fun h=>hSf (W.sub _ h)
 have hsub:∀b∈wr,b∈S::wr:=fun b hb=>JG _ hb
 intro k
 induction k with
 |zero=>
  intro i s hk hi hst hS hR;have hin:i=n:=by lia
  subst hin;refine Ew PyProof.Rows.F.entry_set_update_loop ?_
  rw[Around.under_plainId PyProof.Rows.F.plain_set_update_loop _]
  show wpAny _ A.in1 (pyNext (.ref I) >>= _) _ _ s
  refine Ja (W.done s _ _ hst fun s' hm=>?_)
  show wpAny _ A.in1 (ret Value.none) _ _ s'
  exact Jd (hR s' (hm.mono hsub) (hS.at fun o e=>hm.heap S _ hSw e))
 |succ k ih=>
  intro i s hk hi hst hS hR;have hlt:i<n:=by lia
  refine Ew PyProof.Rows.F.entry_set_update_loop ?_
  rw[Around.under_plainId PyProof.Rows.F.plain_set_update_loop _]
  show wpAny _ A.in1 (pyNext (.ref I) >>= _) _ _ s
  refine Ja (W.item i s _ _ hlt hst fun v s' hP hst' hm=>?_)
  obtain⟨hv1,hv2⟩:=hval i v hP;have hS':SetK knd kf s'.heap S (bH val i):=hS.at fun o e=>hm.heap S _ hSw e
  show wpAny _ A.in1 (holding [v] (setAdd S v) >>= _) _ _ s'
  refine Ja (JL ?_)
  unfold setAdd;refine JL (Ja (knd.pyHash (k:=val i) hv1 ?_))
  have:=oI val i
  refine pV (s:={s' with toks:=s'.toks+1}) hkf hv1 hv2 hS' (by lia) fun h' hsb hS2=>?_
  have hSi:SetK knd kf h' S (bH val (i+1)):=by rw[mG];exact hS2
  refine Jd ⟨plainId_quiet PyProof.Rows.F.plain_set_update_loop _,ih (i+1) _ (by lia) hlt (W.frame _ s' _ _ hst' (Eb _) fun b hb o e=>?_) hSi fun s'' hm'' hS''=>?_⟩
  ·rw[hsb.2 b (fun h:b=S=>hSf (by rw[<- h];exact hb))];exact e
  ·refine hR s'' (Moved.trans W.gtrans ((hm.mono hsub).then_heap (Eb _) fun b o hb e=>?_) hm'') hS''
   rw[hsb.2 b (fun h:b=S=>hb (by rw[h];exact Jz))];exact e
end
variable{A:Around}{E:FW}{s:Shared}
theorem CS(a:Value){Q₁:FW}(h:Q₁ (.ref s.heap.objs.size) {s with heap:=s.heap.push (Qj (!zt w))}):
  codeAny (model prog w) A (.call (.builtin "set.__new__") ⟨[.type "set",a],[]⟩) (wants Q₁ E) s:=by
 refine codeAny_of_tree ?_
 show wpAny _ A.in1 (do checkBuiltinCall "set.__new__" ⟨[.type "set",a],[]⟩;again (.builtin "set.__new__" ⟨[.type "set",a],[]⟩)) _ _ s
 refine Ja (D3 (PySem.F.newCall_set_1 a) (Jd ⟨plainId_quiet PySem.F.plain_set_new _,Ew PySem.F.entry_set_new ?_⟩))
 rw[Around.under_plainId PySem.F.plain_set_new _];unfold Builtin.«set.__new__» Builtin.Frozenset.newClass
 have hsub:=sub_set_self;obtain⟨hp,g,d,tk,os⟩:=s
 dsimp only
 wp_walk
 refine wpAny_askSetting (Jd ?_)
 dsimp only
 simp only[newObj];refine Ja (wpAny_alloc (Jd ?_))
 exact Jd h
def yd(knd:PySem.KeyKind prog w K)(kf:Value->K)(s:Shared)(ks:List K)(r:Value)(s₂:Shared):Prop:=
 r= .none/\∃h' tk,s₂={s with heap:=h',toks:=tk}/\SetK knd kf h' s.heap.objs.size ks/\∀b o,b<s.heap.objs.size->s.heap.get? b=some o->h'.get? b=some o
theorem Bw(hkf:∀k v,knd.is k v=true->kf v=k){t:Addr}{items:Array Value}{val:Nat->K}(hh:A.handled=none)(ht:s.heap.IsList t items)
  (hv:∀i v,items[i]? =some v->knd.is (val i) v=true/\v.scannable=true)(hb:items.size+1<scanBound):
  wpAny (model prog w) A.in1.in1 (Builtin.«set.__init__» ⟨[.ref s.heap.objs.size,.ref t],[]⟩) (fun fin s'=>∃v,fin= .done (.ret v)/\yd knd kf s (bH val items.size) v s') E {s with heap:=s.heap.push (Qj (!zt w))}:=by
 obtain⟨⟨oc,od,ot,os⟩,e1,e2,n,e3⟩:=ht;simp only at e2 e3
 subst e2 e3;have e1':(s.heap.push (Qj (!zt w))).get? t=some ⟨.type "list",od,.seq items n,os⟩:=Ji _ e1
 have f1:=PySem.F.sub_list_set;have f2:=PySem.F.sub_list_frozenset;have f3:(Value.type "list"==Value.type "dict")=false:=by decide
 have t1:(s.heap.push (Qj (!zt w))).IsList t items:=⟨_,e1',rfl,n,rfl⟩
 have hS:(s.heap.push (Qj (!zt w))).get? s.heap.objs.size=some (Qj (!zt w)):=Jo _ rfl
 unfold Builtin.«set.__init__» noKeywords Builtin.Frozenset.updateFrom
 generalize hPI:pyIter=PI
 wp_walk
 subst hPI;refine EX t1 (Ja (wpAny_runValue ?_))
 have lt:t<s.heap.objs.size:=Jh e1
 have sz:(s.heap.push (Qj (!zt w))).objs.size=s.heap.objs.size+1:=JX ..
 have h3:A.in1.in1.in1.handled=none:=by simp [hh]
 have ni:t≠(s.heap.push (Qj (!zt w))).objs.size:=by rw[sz];exact Jm (Ec lt)
 have nS:s.heap.objs.size∉[(s.heap.push (Qj (!zt w))).objs.size,t]:=by
  rw[sz];simp only[Jk,Js,Jt,not_or]
  exact⟨Jm (D6 _),JY lt⟩
 refine B4 hkf ((Walks.list h3 _ t ni items).toS) s.heap.objs.size nS val hv hb items.size 0 _ (by lia) (JB _) ⟨⟨_,Jo _ rfl,rfl,rfl⟩,t1.push _⟩ (Af (Ji _ hS)) fun s' mv hS'=>?_
 obtain⟨h',g',d',tk',os'⟩:=s'
 obtain rfl:g'=s.gens:=mv.gens
 obtain rfl:d'=s.drawn:=mv.drawn
 obtain rfl:os'=s.os:=mv.os
 show wpAny _ _ _ _ _ _
 refine Jd ?_
 show wpAny _ _ (ret Value.none) _ _ _
 refine Jd ⟨_,rfl,rfl,h',tk',rfl,hS',fun b o hb' e=>mv.heap b o ?_ (Ji _ (Ji _ e))⟩
 rw[sz];simp only[Jk,Js,Jt,not_or]
 exact⟨Jm hb',Jm (Ec hb')⟩
theorem uy(hkf:∀k v,knd.is k v=true->kf v=k){t:Addr}{items:Array Value}{val:Nat->K}{Q:FW}(hh:A.handled=none)(ht:s.heap.IsList t items)
  (hv:∀i v,items[i]? =some v->knd.is (val i) v=true/\v.scannable=true)(hb:items.size+1<scanBound)
  (h:∀(h':Heap) (tk:Nat),SetK knd kf h' s.heap.objs.size (bH val items.size)->(∀b o,s.heap.get? b=some o->h'.get? b=some o)->Q (.ref s.heap.objs.size) {s with heap:=h',toks:=tk}):
  wpAny (model prog w) A (call (.type "set") [.ref t]) Q E s:=by
 obtain⟨c,tl,hmro⟩:=PySem.F.called_set.mro;have m1:=PySem.F.called_set.made;have m2:=PySem.F.called_set.sub;have m3:=PySem.F.called_set.notType;have m4:=PySem.F.called_set.canCreate;have m5:=PySem.F.typeCall_set_1 (.ref t);refine wpAny_call (codeAny_of_tree ?_)
 show wpAny _ _ (callAny (.type "set") _) _ _ _
 refine Jd ⟨Code.quiet_builtin _ (by decide +kernel),Ew PySem.F.entry_type_call ?_⟩
 rw[Around.under_plain (weight_type_call_type "set" [.ref t] []) rfl]
 repeat (any_goals (first|assumption|wp_step))
 refine EM (CS (.ref t) (E:=E) (Q₁:=fun obj s₁=>obj= .ref s.heap.objs.size/\s₁={s with heap:=s.heap.push (Qj (!zt w))}) ⟨rfl,rfl⟩) fun r s₁ hr=>?_
 cases r with
 |error e=>exact hr
 |ok fl=>
  cases fl with
  |ret obj=>
   obtain⟨rfl,rfl⟩:=hr;have hT:Shared.TypeIs {s with heap:=s.heap.push (Qj (!zt w))} (.ref s.heap.objs.size) "set":=⟨_,Jo _ rfl,rfl⟩
   have n1:=PySem.F.called_set.init.lookup;have n2:=PySem.F.called_set.init.bind (.ref s.heap.objs.size)
   repeat (any_goals (first|assumption|wp_step))
   refine EM (codeAny_call_builtin (R:=wants (yd knd kf s (bH val items.size)) E) PySem.F.called_set.init.plain PySem.F.entry_set_init (check_set_init_1 hT (JF (Bw hkf hh ht hv hb) (fun fin s' ⟨v,e,d⟩=>by subst e;exact d) fun _ _ z=>z))) fun r₂ s₂ hr₂=>?_
   cases r₂ with
   |error e=>exact hr₂
   |ok fl₂=>
    cases fl₂ with
    |ret r=>
     obtain⟨rfl,h',tk,rfl,hS',hk'⟩:=hr₂
     repeat (any_goals (first|assumption|wp_step))
     exact h _ _ hS' fun b o e=>hk' b o (Jh e) e
    |_=>exact hr₂.elim
  |_=>exact hr.elim
end
theorem cg{α:Type}:∀(l:List α) (i:Nat) (x:α),l[i]? =some x->(x::l.eraseIdx i).Perm l
 | [],i,x,h=>by simp at h
 |y::l,0,x,h=>by simp at h;subst h;exact List.Perm.refl _
 |y::l,i+1,x,h=>by
  have ih:=cg l i x (by simpa using h)
  rw[List.eraseIdx_cons_succ]
  exact(List.Perm.swap y x _).trans (ih.cons y)
theorem oM{α:Type}(next:Nat->Nat):∀(f k:Nat) (l:List α) (out:Array α),l.length=f->(pickOrder.go next f k l out).toList.Perm (out.toList++l)
 |0,k,l,out,h=>by
  have e:l=[]:=List.length_eq_zero_iff.mp h
  subst e;unfold pickOrder.go;simp
 |f+1,k,l,out,h=>by
  unfold pickOrder.go;have hm:next k%l.length<l.length:=Nat.mod_lt _ (by lia)
  have hg:=Jj hm;rw[hg]
  dsimp only
  have hp:=cg l _ _ hg;refine(oM next f (k+1) _ _ (by rw[List.length_eraseIdx,Jc hm];lia)).trans ?_
  rw[Array.toList_push,El];exact List.Perm.append_left _ hp
theorem i5{α:Type}(next:Nat->Nat)(xs:Array α):(pickOrder next xs).toList.Perm xs.toList:=by
 have:=oM next xs.size 0 xs.toList #[] (by simp)
 simpa [pickOrder]using this
section
variable{M:Model}{A:Around}{E:FW}
theorem lT{s:Shared}{src:Source}{n:Nat}{Q:Nat->Shared->Prop}(hn:n≠0)(h:∀i,i<n->Q i {s with drawn:=s.drawn.bump src}):wpAny M A (choose src n) Q E s:=
 fun _ _ _=>⟨hn,h _ (Nat.mod_lt _ (Nat.pos_of_ne_zero hn))⟩
theorem hJ{α:Type}:∀(n:Nat) (xs:List α) {s:Shared} {Q:List α->Shared->Prop},xs.length<=n->(∀ys d,ys.Perm xs->Q ys {s with drawn:=d})->wpAny M A (drawOrder n xs) Q E s
 |0,xs,s,Q,hl,h=>by
  have e:xs=[]:=List.length_eq_zero_iff.mp (by lia)
  subst e;exact Jd (h [] s.drawn (List.Perm.refl _))
 |n+1,[],s,Q,hl,h=>Jd (h [] s.drawn (List.Perm.refl _))
 |n+1,x::xs,s,Q,hl,h=>by
  show wpAny M A (do
   let i <- choose .order (x::xs).length
   match(x::xs)[i]? with
   |some y=>return y::(<- drawOrder n ((x::xs).eraseIdx i))
   |none=>unsupported "internal:drawOrder") Q E s
  refine Ja (lT (by simp) fun i hi=>?_)
  have hg:=Jj hi;rw[hg]
  dsimp only
  refine Ja (hJ n _ (by rw[List.length_eraseIdx,Jc hi];simp at hl⊢;lia) fun ys d hp=>Jd (h _ d ?_))
  exact(hp.cons _).trans (cg _ _ _ hg)
end
abbrev lR(f:Value)(i:Nat)(a:Addr)(n ep:Nat):Obj:={cls:= .type "set_iterator",data:= .fields #[f,.int i 0,.ref a,.int n 0,.int ep 0]}
def Way(w:World)(a T:Addr)(es:Array (Int×Value))(ep:Nat)(t:SetTable)(vs:List Value)(i:Nat)(f:Value)(h:Heap):Prop:=
 (zt w=true/\(∃z:Nat,f= .int z 0)/\vs=(pickOrder (w.params.setOrder a ep) es).toList.map (·.2))\/
 (zt w=false/\(!t.plain&&decide (es.size>1))=false/\t.led=true/\Rs t.place/\(∃z:Nat,f= .int z 0/\SetTable.below t.place z=i)/\vs=es.toList.map (·.2))\/
 (∃ps:List Nat,f= .ref T/\h.IsTuple T (ps.map fun p:Nat=>Value.int (p:Int) 0).toArray/\vs.map some=ps.map fun p=>es[p]?.map (·.2))
theorem Way.keep{w:World}{a T:Addr}{es:Array (Int×Value)}{ep:Nat}{t:SetTable}{vs:List Value}{i:Nat}{f:Value}{h h':Heap}(x:Way w a T es ep t vs i f h)
  (e:∀o,h.get? T=some o->h'.get? T=some o):Way w a T es ep t vs i f h':=by
 rcases x with x|x|⟨ps,x1,⟨o,x2,x3⟩,x4⟩
 ·exact .inl x
 ·exact .inr (.inl x)
 ·exact .inr (.inr ⟨ps,x1,⟨o,e _ x2,x3⟩,x4⟩)
theorem rL(a:Addr)(sl gv ep:Nat):setNext a sl gv ep=(do
 let(es,ec,t) <- setState a
 if <- setsByText then
  if ec != ep then unsupported "set_iterator.__next__:elements-changed"
  return ((<- setWalk a)[gv]?).map fun e=>(e.2,sl)
 if !t.plain&&es.size>1 then unsupported "set_iterator.__next__:the-table-is-plain-no-more"
 (do if !t.led&& !es.isEmpty then unsupported "set:maker-not-led":Sem Unit)
 let i:=SetTable.below t.place sl
 return match es[i]?,t.place[i]? with
  |some (_,x),some j=>some (x,j+1)
  |_,_=>none):=rfl
section
variable{prog:Program}{w:World}{A:Around}{E:FW}{s:Shared}
theorem QL{Q:Bool->Shared->Prop}(h:Q (zt w) s):wpAny (model prog w) A setsByText Q E s:=
 Ja (wpAny_askSetting (Jd h))
variable{a T:Addr}{o:Obj}{es:Array (Int×Value)}{ep:Nat}{t:SetTable}{vs:List Value}{i:Nat}
theorem oB{Q:Option (Value×Nat)->Shared->Prop}(ho:s.heap.get? a=some o)(hd:o.data= .set es ep t)(hf:t.fits es.size=true){z:Nat}(W:Way w a T es ep t vs i (.int z 0) s.heap)
  (h:∀r,r.map (·.1)=vs[i]? ->(∀z':Nat,r.map (·.2)=some z'->Way w a T es ep t vs (i+1) (.int z' 0) s.heap)->Q r s):wpAny (model prog w) A (setNext a z i ep) Q E s:=by
 rw[rL];refine Ja (wpAny_setState_of ho hd hf ?_)
 dsimp only
 refine Ja (QL ?_)
 rcases W with⟨w1,⟨z1,w2⟩,w3⟩|⟨w1,w2,w3,w4,⟨z1,w5,w6⟩,w7⟩|⟨ps,w1,_⟩
 ·rw[w1,Jc rfl]
  simp only[bne_self_eq_false,Bool.false_eq_true,JD];refine Ja ?_
  unfold setWalk;refine Ja (wpAny_setState_of ho hd hf ?_)
  dsimp only
  refine Ja (QL ?_)
  rw[w1,Jc rfl];refine Ja (wpAny_askSetting (Jd (Jd (h _ ?_ fun z' _=> .inl ⟨w1,⟨z',rfl⟩,w3⟩))))
  rw[w3,Jq,Option.map_map,Array.getElem?_toList];rfl
 ·rw[w1,Jb (by decide),w2]
  simp only[Bool.false_eq_true,JD,w3,Bool.not_true,DU];refine Ja (Jd ?_)
  have ez:z=z1:=by injection w5 with w5;lia
  subst ez;rw[w6];have hps:t.place.size=es.size:=by
   simp only[SetTable.fits,Jx,J3]at hf;exact hf.1
  refine Jd (h _ ?_ fun z' hz=> .inr (.inl ⟨w1,w2,w3,w4,⟨z',rfl,?_⟩,w7⟩))
  ·rw[w7,Jq,Array.getElem?_toList]
   by_cases hi:i<es.size
   ·rw[getElem?_pos es i hi,getElem?_pos t.place i (by lia)];rfl
   ·rw[Array.getElem?_eq_none (by lia)];rfl
  ·by_cases hi:i<es.size
   ·have hi':i<t.place.size:=by lia
    rw[getElem?_pos es i hi,getElem?_pos t.place i hi']at hz;simp only[Option.map_some,Option.some.injEq]at hz;subst hz;obtain⟨b1,b2,b3⟩:=cr w4 (t.place[i]+1)
    generalize SetTable.below t.place (t.place[i]+1)=p at *
    have c1:¬p<=i:=fun c=>by have:=b3 i hi' c;lia
    have c2:¬i+2<=p:=fun c=>by
     have hj:i+1<t.place.size:=by lia
     have d1:=b2 (i+1) hj (by lia)
     have d2:=w4.at hi' hj (by lia)
     lia
    lia
   ·rw[Array.getElem?_eq_none (by lia)]at hz;simp at hz
 ·cases w1
end
theorem slot_si_next:Slot "set_iterator" "__next__" "set_iterator.__next__":=
 .of (owner:="set_iterator") (n:="__next__") (by rw[E6,E7];kernel_rfl) (by decide +kernel) (by decide +kernel) (by decide +kernel)
  (by first|exact .inl (by decide +kernel)|exact .inr (by decide +kernel)) (by rw[EH];kernel_rfl)
theorem cE:entryFor table "set_iterator.__next__"=some Builtin.«set_iterator.__next__»:=entryFor_of_tree (by kernel_rfl)
theorem cT(a:Value):argsOk "set_iterator.__next__" ⟨[a],[]⟩:=by unfold argsOk;kernel_rfl
theorem cV:Slot "set_iterator" "__iter__" "set_iterator.__iter__":=
 .of (owner:="set_iterator") (n:="__iter__") (by rw[E6,E7];kernel_rfl) (by decide +kernel) (by decide +kernel) (by decide +kernel)
  (by first|exact .inl (by decide +kernel)|exact .inr (by decide +kernel)) (by rw[EH];kernel_rfl)
theorem jL:entryFor table "set_iterator.__iter__"=some Builtin.«dict_keyiterator.__iter__»:=
 entryFor_alias (id':="dict_keyiterator.__iter__") (by kernel_rfl) rfl (by decide +kernel) (by kernel_rfl)
theorem kg(a:Value):argsOk "set_iterator.__iter__" ⟨[a],[]⟩:=by unfold argsOk;kernel_rfl
theorem iE:entryFor table "set.__iter__"=some Builtin.«frozenset.__iter__»:=
 entryFor_alias (id':="frozenset.__iter__") (by kernel_rfl) rfl (by decide +kernel) (by kernel_rfl)
section
variable{prog:Program}{w:World}{A:Around}{E:FW}{s:Shared}
variable{a T:Addr}{o:Obj}{es:Array (Int×Value)}{ep:Nat}{t:SetTable}{vs:List Value}{i:Nat}{f:Value}
theorem eO{h:Heap}{I:Addr}{o:Obj}{xs:Array Value}(ho:h.get? I=some o)(hd:o.data= .fields xs)(k:Nat)(x:Value):
  (h.update I (Obj.mapFields (·.setIfInBounds k x))).get? I=some {o with data:= .fields (xs.setIfInBounds k x)}:=by
 rw[EE _ ho (Fy (EO hd _))];obtain⟨c,d,dt,sl⟩:=o
 dsimp only at hd
 subst hd;rfl
theorem Am{I:Addr}{v:Value}{Q:Option Value->Shared->Prop}(hI:s.heap.get? I=some (lR f i a es.size ep))(ho:s.heap.get? a=some o)(hd:o.data= .set es ep t)(hf:t.fits es.size=true)
  (W:Way w a T es ep t vs i f s.heap)(nT:T≠I)(hv:vs[i]? =some v)
  (hQ:∀f' h',Heap.SameBut I s.heap h'->h'.get? I=some (lR f' (i+1) a es.size ep)->Way w a T es ep t vs (i+1) f' h'->Q (some v) {s with heap:=h'}):
  wpAny (model prog w) A (pyNext (.ref I)) Q E s:=by
 have hT:s.TypeIs (.ref I) "set_iterator":=⟨_,hI,rfl⟩
 unfold pyNext;refine Ja (Ed (wpAny_callSpecial?_slot (name:=Str.ofString "__next__") hT slot_si_next (JT slot_si_next hT cE ?_ (cT _))))
 unfold Builtin.«set_iterator.__next__»
 refine Ja (Jd (Ja (wpAny_fieldsOf hI rfl ?_)))
 dsimp only
 refine Ja ?_
 unfold setEntries;refine Ja (wpAny_setState_of ho hd hf (Jd ?_))
 dsimp only
 simp only[bne_self_eq_false,Bool.false_eq_true,JD];have keep:∀(k:Nat) (x:Value),∀(h:Heap),∀o,h.get? T=some o->(h.update I (Obj.mapFields (·.setIfInBounds k x))).get? T=some o:=fun k x h o e=>by
  rw[EZ _ _ (Ne.symm nT)];exact e
 have fin:∀(E':FW) (z:Nat),f= .int z 0->wpAny (model prog w) A.in1 (do
   match <- setNext a z i ep with
   |some (x,next)=>
    setField (.ref I) 0 (rawInt next)
    setField (.ref I) 1 (rawInt ((i:Int)+1))
    ret x
   |none=>setField (.ref I) 2 .none;raiseNew (<- newExc (.type "StopIteration") [])) (fun fin s'=>∃v,fin= .done (.ret v)/\(wpAny (model prog w) A (pure (some v)) Q E s')) E' s:=by
  intro E' z hz;subst hz;refine Ja (oB ho hd hf W fun r h1 h2=>?_)
  rw[hv]at h1;cases r with
  |none=>cases h1
  |some p=>
   obtain⟨x,j⟩:=p;simp only[Option.map_some,Option.some.injEq]at h1;subst h1
   dsimp only
   refine Ja (D9 hI rfl (by simp) ?_)
   have g1:=eO hI rfl 0 (rawInt (j:Int))
   refine Ja (D9 g1 rfl (by simp) ?_)
   have g2:=eO g1 rfl 1 (rawInt ((i:Int)+1))
   refine Jd ⟨_,rfl,Jd (hQ (.int j 0) _ ((J6 ..).trans (J6 ..)) ?_ ((h2 j rfl).keep fun o e=>keep _ _ _ _ (keep _ _ _ _ e)))⟩
   rw[g2];simp [rawInt]
 rcases id W with⟨_,⟨z,rfl⟩,_⟩|⟨_,_,_,_,⟨z,rfl,_⟩,_⟩|⟨ps,rfl,⟨oT,k1,k2,n,k3⟩,k4⟩
 ·exact fin _ z rfl
 ·exact fin _ z rfl
 ·dsimp only
  refine Ja (Es k1 k3 ?_)
  dsimp only
  have h1:(vs.map some)[i]? =some (some v):=by rw[Jq,hv];rfl
  rw[k4,Jq]at h1;obtain⟨p,hp,h2⟩:=DQ.mp h1;obtain⟨e,he,h3⟩:=DQ.mp h2;have h4:((ps.map fun p:Nat=>Value.int (p:Int) 0).toArray)[((i:Nat):Int).toNat]? =some (.int (p:Int) 0):=by
   rw[DZ,List.getElem?_toArray,Jq,hp];rfl
  rw[h4]
  dsimp only
  refine Ja ?_
  unfold setNextDrawn;refine Ja (wpAny_setState_of ho hd hf ?_)
  dsimp only
  rw[DZ,DZ,he];simp only[bne_self_eq_false,Bool.false_eq_true,JD];refine Jd (Ja (D9 hI rfl (by simp) ?_))
  have g1:=eO hI rfl 1 (rawInt ((i:Int)+1))
  refine Jd ⟨_,rfl,Jd ?_⟩
  rw[h3];refine hQ (.ref T) _ (J6 ..) ?_ (.inr (.inr ⟨ps,rfl,⟨oT,keep _ _ _ _ k1,k2,n,k3⟩,k4⟩))
  rw[g1];simp [rawInt]
theorem uG{B:Around}{s:Shared}{Q:Option Value->Shared->Prop}(hh:B.handled=none)(h:∀h',(∀b o,s.heap.get? b=some o->h'.get? b=some o)->Q none {s with heap:=h'}):
  wpAny (model prog w) B.in1 (newExc (.type "StopIteration") [] >>= raiseNew) (fun(fin:Fin) s'=>∃v,fin= .done (.ret v)/\wpAny (model prog w) B (pure (some v)) Q E s')
   (fun e s'=>wpAny (model prog w) B (do
     let __do_lift <- isInstance e (Value.type "StopIteration")
     if __do_lift=true then pure none else throw e) Q E s') s:=by
 refine Ja ?_
 simp only[newExc,newTuple];refine Ja (DS ?_ (by size_fits))
 refine Ja (m:=firstArgMember _ _) (D3 (a:=Value.none) (by first|rfl|(simp only[firstArgMember];rfl)) ?_)
 refine DS ?_ (by size_fits)
 simp only[raiseNew];refine Ja (wpAny_handled ?_)
 rw[show B.in1.handled=none from hh]
 refine Ja (Jd (wpAny_throw ?_))
 refine Ja (Et (T:="StopIteration") (b:=true) ⟨_,Jo _ rfl,rfl⟩ Fh ?_)
 exact Jd (h _ fun b o e=>Ji _ (Ji _ e))
theorem Cs{I:Addr}{Q:Option Value->Shared->Prop}(hh:A.handled=none)(hI:s.heap.get? I=some (lR f i a es.size ep))(ho:s.heap.get? a=some o)(hd:o.data= .set es ep t)(hf:t.fits es.size=true)
  (W:Way w a T es ep t vs i f s.heap)(hv:vs[i]? =none)
  (hQ:∀h',(∀b o,b≠I->s.heap.get? b=some o->h'.get? b=some o)->Q none {s with heap:=h'}):
  wpAny (model prog w) A (pyNext (.ref I)) Q E s:=by
 have hT:s.TypeIs (.ref I) "set_iterator":=⟨_,hI,rfl⟩
 unfold pyNext;refine Ja (Ed (wpAny_callSpecial?_slot (name:=Str.ofString "__next__") hT slot_si_next (JT slot_si_next hT cE ?_ (cT _))))
 unfold Builtin.«set_iterator.__next__»
 refine Ja (Jd (Ja (wpAny_fieldsOf hI rfl ?_)))
 dsimp only
 refine Ja ?_
 unfold setEntries;refine Ja (wpAny_setState_of ho hd hf (Jd ?_))
 dsimp only
 simp only[bne_self_eq_false,Bool.false_eq_true,JD];have oth:∀(k:Nat) (x:Value) (h:Heap) (b:Addr) (o:Obj),b≠I->h.get? b=some o->(h.update I (Obj.mapFields (·.setIfInBounds k x))).get? b=some o:=fun k x h b o n e=>by
  rw[EZ _ _ (Ne.symm n)];exact e
 have fin:∀(z:Nat),f= .int z 0->wpAny (model prog w) A.in1 (do
   match <- setNext a z i ep with
   |some (x,next)=>
    setField (.ref I) 0 (rawInt next)
    setField (.ref I) 1 (rawInt ((i:Int)+1))
    ret x
   | none=>setField (.ref I) 2 .none;raiseNew (<- newExc (.type "StopIteration") [])) (fun fin s'=>∃v,fin= .done (.ret v)/\(wpAny (model prog w) A (pure (some v)) Q E s')) (fun e s'=>wpAny (model prog w) A (do
     let __do_lift <- isInstance e (Value.type "StopIteration")
     if __do_lift=true then pure none else throw e) Q E s') s:=by
  intro z hz;subst hz;refine Ja (oB ho hd hf W fun r h1 h2=>?_)
  rw[hv]at h1;cases r with
  |some p=>cases h1
  |none=>
   dsimp only
   refine Ja (D9 hI rfl (by simp) ?_)
   exact uG hh fun h' hk=>hQ h' fun b o n e=>hk b o (oth _ _ _ _ _ n e)
 rcases id W with⟨_,⟨z,rfl⟩,_⟩|⟨_,_,_,_,⟨z,rfl,_⟩,_⟩|⟨ps,rfl,⟨oT,k1,k2,n,k3⟩,k4⟩
 ·exact fin z rfl
 ·exact fin z rfl
 ·dsimp only
  refine Ja (Es k1 k3 ?_)
  dsimp only
  have h1:(vs.map some)[i]? =none:=by rw[Jq,hv];rfl
  rw[k4,Jq]at h1;have h4:((ps.map fun p:Nat=>Value.int (p:Int) 0).toArray)[((i:Nat):Int).toNat]? =none:=by
   rw[DZ,List.getElem?_toArray,Jq];cases hp:ps[i]? with
   |none=>rfl
   |some p=>rw[hp]at h1;cases h1
  rw[h4]
  dsimp only
  refine Ja (D9 hI rfl (by simp) ?_)
  have g1:=eO hI rfl 0 (rawInt 0);refine Ja (D9 g1 rfl (by simp) ?_)
  exact uG hh fun h' hk=>hQ h' fun b o n e=>hk b o (oth _ _ _ _ _ n (oth _ _ _ _ _ n e))
theorem vo{I:Addr}(hh:A.handled=none)(nT:T≠I)(na:a≠I)(hl:vs.length=es.size):Walks prog w A I [I,a,T] [I] es.size (fun i v=>vs[i]? =some v)
  (fun i h=>(∃o,h.get? a=some o/\o.data= .set es ep t/\t.fits es.size=true)/\∃f,h.get? I=some (lR f i a es.size ep)/\Way w a T es ep t vs i f h) where
 sub:=fun b hb=>by simp at hb;simp [hb]
 frame:=fun i h h' ⟨⟨o,x1,x2⟩,f,x3,x4⟩ hk=>⟨⟨o,hk a (by simp) o x1,x2⟩,f,hk I (by simp) _ x3,x4.keep fun o e=>hk T (by simp) o e⟩
 item:=fun i s Q E hi ⟨⟨o,x1,x2,x2'⟩,f,x3,x4⟩ hQ=>by
  have hv:vs[i]? =some vs[i]:=Jj (by omega)
  refine Am x3 x1 x2 x2' x4 nT hv fun f' h' hs h1 h2=>hQ _ h' s.toks hv ⟨⟨o,by rw[hs.2 a na];exact x1,x2,x2'⟩,f',h1,h2⟩ fun b o hb e=>?_
  rw[hs.2 b (fun h=>hb (by simp [h]))];exact e
 done:=fun s Q E ⟨⟨o,x1,x2,x2'⟩,f,x3,x4⟩ hQ=>Cs hh x3 x1 x2 x2' x4 (FL (by omega)) fun h' hk=>hQ h' s.toks fun b o hb e=>hk b o (fun h=>hb (by simp [h])) e
 self:=fun i s Q E ⟨_,f,x3,_⟩ hQ=>by
  have hT:s.TypeIs (.ref I) "set_iterator":=⟨_,x3,rfl⟩
  refine wpAny_pyIter_slot hT cV (JT cV hT jL ?_ (kg _))
  show wpAny _ _ (ret (.ref I)) _ _ s
  exact Jd ⟨_,rfl,"set_iterator",_,hT,slot_si_next.lookup,hQ⟩
end
section
variable{prog:Program}{w:World}{A:Around}{E:FW}{s:Shared}
variable{a:Addr}{o:Obj}{es:Array (Int×Value)}{ep:Nat}{t:SetTable}
theorem rF{xs:Array Nat}(h:Rs xs):SetTable.below xs 0=0:=by
 obtain⟨h1,h2,h3⟩:=cr h 0;generalize SetTable.below xs 0=p at *
 cases p with
 |zero=>rfl
 |succ p=>exact absurd (h2 0 (by lia) (by lia)) (Nat.not_lt_zero _)
theorem Rs.few{xs:Array Nat}(h:xs.size<=1):Rs xs:=by
 unfold Rs;rw[List.pairwise_iff_getElem];intro i j hi hj hij;simp at hi hj
 lia
theorem pU{ps:List Nat}(hp:ps.Perm (List.range es.size)):∃vs:List Value,vs.map some=(ps.map fun p=>es[p]?.map (·.2))/\vs.Perm (es.toList.map (·.2)):=by
 refine⟨ps.map fun p=>(es[p]?.map (·.2)).getD .none,?_,?_⟩
 ·rw[Eg]
  refine Fj fun p h=>?_
  have hlt:p<es.size:=J4.mp (hp.mem_iff.mp h)
  show some ((es[p]?.map (·.2)).getD .none)=_
  rw[getElem?_pos es p hlt];rfl
 ·refine(hp.map _).trans (List.Perm.of_eq ?_)
  apply List.ext_getElem
  ·simp
  ·intro i h1 h2
   simp at h1
   simp [h1]
theorem BD{Q:FW}(ho:s.heap.get? a=some o)(hex:o.ExactSet)(hd:o.data= .set es ep t)(hf:t.fits es.size=true)(hb:es.size<scanBound)(tw:TW w t)
  (hQ:∀(h':Heap) (d:Drawn) (I T:Addr) (vs:List Value) (f:Value),s.heap.objs.size<=I->T≠I->a≠I->(T=a\/s.heap.objs.size<=T)->(∀b o,s.heap.get? b=some o->h'.get? b=some o)->vs.Perm (es.toList.map (·.2))->
   h'.get? I=some (lR f 0 a es.size ep)->Way w a T es ep t vs 0 f h'->Q (.ref I) {s with heap:=h',drawn:=d}):
  wpAny (model prog w) A (pyIter (.ref a)) Q E s:=by
 have hT:s.TypeIs (.ref a) "set":=⟨o,ho,hex.1⟩
 have hlt:a<s.heap.objs.size:=Jh ho
 refine wpAny_pyIter_slot hT PySem.F.slot_set_iter (JT PySem.F.slot_set_iter hT iE ?_ (PySem.F.args_set_iter_1 _))
 unfold Builtin.«frozenset.__iter__»
 refine Ja ?_
 show wpAny _ _ (pure a) _ _ _
 refine Jd (Ja ?_)
 unfold Builtin.Frozenset.sizeOf setEntries;refine Ja (Ja (wpAny_setState_of ho hd hf (Jd (Jd ?_))))
 refine Ja ?_
 unfold setDrawn;refine Ja (wpAny_setState_of ho hd hf ?_)
 dsimp only
 refine Ja (QL (Jd ?_))
 show wpAny _ _ (if(!zt w&&(!t.plain&&decide (es.size>1)))=true then _ else _) _ _ _
 by_cases hdr:(!zt w&&(!t.plain&&decide (es.size>1)))=true
 ·rw[Jc hdr]
  refine Ja (hJ _ _ (by simp) fun ps d hp=>?_)
  obtain⟨vs,v1,v2⟩:=pU hp;refine Ja (wpAny_newTuple (items:=ps.map fun i:Nat=>rawInt (i:Int)) ?_ (by rw[Jf,hp.length_eq,List.length_range];exact fits_of_scanBound hb))
  have hT1:(s.heap.push {cls:= .type "tuple",data:= .seq (ps.map fun i:Nat=>rawInt (i:Int)).toArray}).get? s.heap.objs.size=some {cls:= .type "tuple",data:= .seq (ps.map fun i:Nat=>rawInt (i:Int)).toArray}:=Jo _ rfl
  have ho1:=Ji {cls:= .type "tuple",data:= .seq (ps.map fun i:Nat=>rawInt (i:Int)).toArray} ho
  unfold setEpoch;refine Ja (Ja (wpAny_setState_of (s:={s with heap:=s.heap.push {cls:= .type "tuple",data:= .seq (ps.map fun i:Nat=>rawInt (i:Int)).toArray},drawn:=d}) ho1 hd hf (Jd ?_)))
  unfold newFields;refine Ja (DS (Jd ⟨_,rfl,"set_iterator",_,⟨_,Jo _ rfl,rfl⟩,slot_si_next.lookup,?_⟩))
  refine hQ _ d _ s.heap.objs.size vs (.ref s.heap.objs.size) (by rw[JX];exact Eb _) (by rw[JX];exact Jm (D6 _)) (by rw[JX];exact Jm (Ec hlt)) (.inr (Je _))
   (fun b o e=>Ji _ (Ji _ e)) v2 (Jo _ rfl) (.inr (.inr ⟨ps,rfl,?_,v1⟩))
  exact⟨_,Ji _ hT1,rfl,0,rfl⟩
 ·rw[Jb hdr]
  refine Ja (Jd ?_)
  unfold setEpoch;refine Ja (Ja (wpAny_setState_of ho hd hf (Jd ?_)))
  unfold newFields;refine Ja (DS (Jd ⟨_,rfl,"set_iterator",_,⟨_,Jo _ rfl,rfl⟩,slot_si_next.lookup,?_⟩))
  have go:∀vs:List Value,vs.Perm (es.toList.map (·.2))->Way w a a es ep t vs 0 (.int (0:Nat) 0) (s.heap.push (lR (.int (0:Nat) 0) 0 a es.size ep))->Q (.ref s.heap.objs.size) {s with heap:=s.heap.push (lR (.int (0:Nat) 0) 0 a es.size ep)}:=fun vs b1 b2=>
   hQ _ s.drawn _ a vs (.int (0:Nat) 0) (Je _) (Jm hlt) (Jm hlt) (.inl rfl) (fun b o e=>Ji _ e) b1 (Jo _ rfl) b2
  cases hbt:zt w with
  |true=>exact go _ ((i5 _ es).map _) (.inl ⟨hbt,⟨0,rfl⟩,rfl⟩)
  |false=>
   rw[hbt]at hdr;have hdr':(!t.plain&&decide (es.size>1))=false:=by simpa using hdr
   rcases tw with z|⟨z1,z2⟩
   ·rw[hbt]at z;cases z
   ·have hRs:Rs t.place:=by
     cases hp:t.plain with
     |true=>exact z2 hp
     |false=>
      rw[hp]at hdr';refine Rs.few ?_
      simp only[SetTable.fits,Jx,J3]at hf;simp at hdr'
      lia
    exact go _ (List.Perm.refl _) (.inr (.inl ⟨hbt,hdr',z1,hRs,⟨0,rfl,rF hRs⟩,rfl⟩))
theorem vH{Q:Bool->Shared->Prop}(hT:s.TypeIs (.ref a) "set")(h:Q false s):wpAny (model prog w) A (Builtin.List.listLengthHint (.ref a)) Q E s:=by
 unfold Builtin.List.listLengthHint;refine Ja (ER hT PySem.F.slot_set_len.lookup ?_)
 generalize hid:("set.__len__":String)=id0
 wp_delta
 rw[show splitId id0=some ("set","__len__")from by subst hid;decide +kernel]
 subst hid;refine Ja (Et (T:="set") (b:=true) hT (by rw[EH];kernel_rfl) ?_)
 refine wpAny_ite_split (fun hab=>absurd hab (by decide)) (fun _=>?_)
 refine wpAny_ite_split (fun _=>?_) (fun hab=>absurd (by decide +kernel) hab)
 exact Ja (EY hT (Jd h))
theorem iZ{Q:List Value->Shared->Prop}(hh:A.handled=none)(ho:s.heap.get? a=some o)(hex:o.ExactSet)(hd:o.data= .set es ep t)(hf:t.fits es.size=true)(hb:es.size<scanBound)(tw:TW w t)
  (h:∀(vs:List Value) (h':Heap) (tk:Nat) (d:Drawn),(∀b o,s.heap.get? b=some o->h'.get? b=some o)->s.heap.objs.size<=h'.objs.size->vs.Perm (es.toList.map (·.2))->Q vs {s with heap:=h',toks:=tk,drawn:=d}):
  wpAny (model prog w) A (collect (.ref a)) Q E s:=by
 unfold collect;refine Ja (wpAny_runValue (Ew entry_proto_collect' ?_))
 show wpAny _ _ (do again (.builtin "list.__iadd__" ⟨[<- newList [],.ref a],[]⟩)) _ _ s
 refine Ja (wpAny_newList (Jd ⟨Code.quiet_builtin _ (by decide +kernel),Ew entry_list_iadd' ?_⟩))
 rw[Around.under_plainId PySem.F.plain_list_iadd _];have hlt:a<s.heap.objs.size:=Jh ho
 have hLs:(s.heap.push (seqObj "list" #[] 0)).get? s.heap.objs.size=some (seqObj "list" #[] 0):=Jo _ rfl
 have ho1:=Ji (seqObj "list" #[] 0) ho
 show wpAny _ _ (Builtin.List.listExtendWith (.ref s.heap.objs.size) (.ref a) (.ref s.heap.objs.size)) _ _ {s with heap:=s.heap.push (seqObj "list" #[] 0)}
 unfold Builtin.List.listExtendWith;have hT1:Shared.TypeIs {s with heap:=s.heap.push (seqObj "list" #[] 0)} (.ref a) "set":=⟨o,ho1,hex.1⟩
 refine Ja (EY hT1 ?_)
 have e1:Builtin.List.listSameRef (.ref s.heap.objs.size) (.ref a)=false:=by
  simp [Builtin.List.listSameRef,JY hlt]
 have e2:(Value.type "set"==Value.type "list")=false:=by decide
 have e3:(Value.type "set"==Value.type "tuple")=false:=by decide
 simp only[e1,e2,e3,Bool.or_false,Bool.false_eq_true,JD];refine Ja (BD ho1 hex hd hf hb tw fun h1 d I T vs f b1 b2 b3 b4 b5 b6 b7 b8=>?_)
 have sz:(s.heap.push (seqObj "list" #[] 0)).objs.size=s.heap.objs.size+1:=JX ..
 dsimp only at b1 b4
 rw[sz]at b1 b4;have hT2:Shared.TypeIs {s with heap:=h1,drawn:=d} (.ref a) "set":=⟨o,b5 _ _ ho1,hex.1⟩
 refine Ja (JL (vH hT2 ?_))
 have hL1:=b5 _ _ hLs;have hvl:vs.length=es.size:=by rw[b6.length_eq,Jf,Jp]
 have W:=vo (prog:=prog) (w:=w) (A:=A.in1) (ep:=ep) (t:=t) (by simp [hh]) b2 b3 hvl
 have nL:s.heap.objs.size∉[I,a,T]:=by
  simp only[Jk,Js,Jt,not_or];refine⟨by lia,JY hlt,?_⟩
  rcases b4 with z|z
  ·rw[z];exact JY hlt
  ·lia
 have key:∀(h:Heap) (c₁:Nat),(∀b o,b≠s.heap.objs.size->h1.get? b=some o->h.get? b=some o)->h.get? s.heap.objs.size=some {cls:= .type "list",data:= .seq #[] c₁}->
   ∀R:Result->Shared->Prop,(∀(vs':Array Value) (h':Heap) (tk c':Nat),vs'.toList=vs->(∀b o,s.heap.get? b=some o->h'.get? b=some o)->h'.get? s.heap.objs.size=some {cls:= .type "list",dict:=none,data:= .seq vs' c',slots:= #[]}->
    R (.ok (.ret (.ref s.heap.objs.size))) {s with heap:=h',toks:=tk,drawn:=d})->
   codeAny (model prog w) A (.builtin "list.extend.loop" ⟨[.ref s.heap.objs.size,.ref I,.ref s.heap.objs.size],[]⟩) R {s with heap:=h,drawn:=d}:=by
  intro h c₁ hk hS₁ R hR;have nI:I≠s.heap.objs.size:=JY b1
  refine codeAny_extend_loopS W.toS (fits_of_scanBound hb) s.heap.objs.size nL _ es.size 0 _ #[] c₁ (by lia) (JB _) ⟨⟨o,hk _ _ (Jm hlt) (b5 _ _ ho1),hd,hf⟩,f,hk _ _ nI b7,b8.keep fun o e=>hk _ _ ?_ e⟩ hS₁ (ItemsOf.nil _) fun s' acc' c' hm hS' hacc=>?_
  ·rcases b4 with z|z
   ·rw[z];exact Jm hlt
   ·lia
  ·rw[Moved.eq_with hm]
   refine hR acc' s'.heap s'.toks c' ?_ (fun b o e=>hm.heap b o (fun hmem=>?_) (hk b o (Jm (Jh e)) (b5 _ _ (Ji _ e)))) hS'
   ·apply List.ext_getElem?
    intro j;rw[Array.getElem?_toList]
    by_cases hj:j<es.size
    ·have hj':j<acc'.size:=by rw[hacc.1];exact hj
     have:=hacc.2 j acc'[j] (getElem?_pos acc' j hj')
     rw[getElem?_pos acc' j hj',this]
    ·rw[Array.getElem?_eq_none (by rw[hacc.1];lia),FL (by lia)]
   ·have hb':=Jh e
    rcases Jk.mp hmem with z|z
    ·exact absurd z (Jm hb')
    ·exact absurd (Jl.mp z) (Jm (Nat.lt_trans hb' b1))
 have fin:∀(vs':Array Value) (h':Heap) (tk c':Nat),vs'.toList=vs->(∀b o,s.heap.get? b=some o->h'.get? b=some o)->h'.get? s.heap.objs.size=some {cls:= .type "list",dict:=none,data:= .seq vs' c',slots:= #[]}->
   wpAny (model prog w) A (do
    let o <- load s.heap.objs.size
    match o.data with
    | .seq xs _=>pure xs.toList
    |_=>unsupported "internal:collect") Q E {s with heap:=h',toks:=tk,drawn:=d}:=by
  intro vs' h' tk c' c1 c2 c3;refine Ja (wpAny_load c3 (Jd (h _ h' tk d c2 (Fb (Jh c3)) ?_)))
  rw[c1];exact b6
 refine wpAny_ite_split (fun _=>?_) (fun _=>Jd ⟨plainId_quiet PySem.F.plain_extend_loop _,key h1 0 (fun _ _ _ e=>e) hL1 _ fin⟩)
 refine Ja (DV (Ja ?_))
 show wpAny _ _ (updateSeq s.heap.objs.size (·.push .none) >>= fun _=>updateSeq s.heap.objs.size (·.pop)) _ _ _
 refine Ja (wpAny_updateSeq hL1 rfl ?_)
 have hL2:=EE (Obj.mapSeq (·.push Value.none)) hL1 rfl
 refine wpAny_updateSeq (hz:=by seq_fits) hL2 rfl ?_
 have hL3:=EE (Obj.mapSeq (·.pop)) hL2 rfl
 refine Jd ⟨plainId_quiet PySem.F.plain_extend_loop _,key _ _ (fun b o hb e=>?_) hL3 _ fin⟩
 exact(EZ _ _ (Ne.symm hb)).trans ((EZ _ _ (Ne.symm hb)).trans e)
end
end S0
namespace L3
open PySem PySem.Spec PyProof.Rows L2 S0
def az(prog:Program)(w:World)(a:Addr)(ks:List Int):HO:= .ext fun h=>SetK (PySem.intKind prog w) numOf h a ks
theorem sT(prog:Program)(w:World):∀k v,(PySem.intKind prog w).is k v=true->numOf v=k:=fun k v h=>by
 obtain⟨t,rfl⟩:=Value.isInt_shape h;rfl
theorem _root_.L2.F3.drw{X:Cx}{tx:FY}{σ:List (Option V)}{H:Hp}{s:Shared}(I:F3 X tx σ H s)(d:Drawn):F3 X tx σ H {s with drawn:=d}:=
 ⟨I.ok,I.os,I.bare,I.base,I.loc,I.cell,I.free,I.freeC,I.pin,I.hok,I.len⟩
section
variable{X:Cx}
theorem gA(hc:X.calm=true):qT X (.type "set") (fun xs H Q=>∃(p:Addr) (ns:List Int),xs=[.ref p]/\F8 X.K H p (ns.map V.int)/\ns.length+1<scanBound/\∀l,H l=none->Q (.ref l) (F5 H l (az X.prog X.w l (ddL ns)))):=by
 intro tx s σ H xs us Q I r h;obtain⟨p,ns,rfl,hp,hb,q⟩:=h;obtain⟨u,rfl,ru⟩:=zL r;cases ru;obtain⟨its,rv,pt,_⟩:=I.list hp;have hl:=rv.length;rw[Jf]at hl;have hI:IntsAre its ns:=rD rv
 refine uy (knd:=PySem.intKind X.prog X.w) (kf:=numOf) (val:=fun i=>ns.getD i default) (sT _ _) (I.ok.hd hc) pt.isList (fun i v hv=>?_) (by rw[Jr];omega) fun h' tk hS kp=>?_
 ·obtain⟨t,rfl⟩:=IntsAre.int_at hI i v (by rw[List.getElem?_toArray]at hv;exact hv)
  exact⟨intKind_is _ _ _ _,rfl⟩
 ·have e:its.toArray.size=ns.length:=by rw[Jr];exact hl.symm
  rw[e,rW]at hS;refine⟨.ref s.heap.objs.size,_,I.laid (t':=tk) (o:=az X.prog X.w s.heap.objs.size (ddL ns)) kp (Je _) ⟨hS,?_,fun h1 h2 z1 z2=>z1.at z2⟩,rfl,q _ (I.hok.fresh (Je _))⟩
  obtain⟨o,_,_,_,e,_⟩:=hS
  exact⟨o,e⟩
end
end L3
namespace S0
open PySem PySem.Spec PyProof.Rows
theorem rM(a:Addr):setWalk a=(do
 let(es,epoch,t) <- setState a
 if <- setsByText then return pickOrder ((<- ask).params.setOrder a epoch) es
 if !t.plain&&es.size>1 then return (<- drawOrder es.size es.toList).toArray
 (do if !t.led&&es.size>1 then unsupported "set:maker-not-led":Sem Unit)
 return es):=rfl
section
variable{prog:Program}{w:World}{K:Type} [DecidableEq K]{knd:PySem.KeyKind prog w K}{kf:Value->K}
variable{A:Around}{E:FW}{s:Shared}
theorem yU{Q:Bool->Shared->Prop}{bs:List Addr}(hS:∀b∈bs,∃ks,SetK knd kf s.heap b ks)(h:Q true s):wpAny (model prog w) A (setsQuiet bs) Q E s:=by
 unfold setsQuiet;refine Ja (wpAny_forIn_list _ (fun rest b s'=>b.1=none/\s'=s/\∀x∈rest,∃ks,SetK knd kf s.heap x ks) _ ?_ ?_ bs _ ⟨rfl,rfl,hS⟩)
 ·rintro x rest b s' ⟨hb,rfl,hr⟩
  obtain⟨ks,o,es,ep,t,ho,hex,hd,hf,_,hel,_,_⟩:=hr x Jz;unfold setEntries;refine Ja (Ja (wpAny_setState_of ho hd hf (Jd ?_)))
  refine Ja (PySem.MeetsSeq2.wpAny_forIn_array _ (fun rest2 b2 s2=>b2.1=none/\s2=s'/\∀e∈rest2,e.2.scannable=true) _ ?_ ?_ es _ ⟨rfl,rfl,fun e he=>(hel e he).2⟩)
  ·rintro⟨h1,y⟩ r2 b2 s2 ⟨hb2,rfl,hr2⟩
   have hy:=hr2 _ Jz;have hrest:∀e∈r2,e.2.scannable=true:=fun e he=>hr2 e (JG _ he)
   cases y<;>first|(cases hy;done)|exact Jd ⟨rfl,rfl,hrest⟩
  ·rintro⟨b21,b22⟩ s2 ⟨hb2,rfl,_⟩
   simp only at hb2
   subst hb2;exact Jd ⟨rfl,rfl,fun y hy=>hr y (JG _ hy)⟩
 ·rintro⟨b1,b2⟩ s' ⟨hb,rfl,_⟩
  simp only at hb
  subst hb;exact Jd h
theorem ZD{a:Addr}{Q:Bool->Shared->Prop}(hT:s.TypeIs (.ref a) "set")(h:Q true s):wpAny (model prog w) A (Builtin.Frozenset.isAnySet (.ref a)) Q E s:=by
 unfold Builtin.Frozenset.isAnySet;refine Ja (Et hT sub_set_self ?_)
 exact Jd h
theorem SetK.type{h:Heap}{a:Addr}{ks:List K}{s:Shared}(x:SetK knd kf s.heap a ks):s.TypeIs (.ref a) "set":=by
 obtain⟨o,es,ep,t,h1,h2,_⟩:=x
 exact⟨o,h1,h2.1⟩
theorem k7{K:Type} [DecidableEq K]:∀(l acc:List K),acc.Nodup->(l.foldl Q7 acc).Nodup
 | [],acc,h=>h
 |k::l,acc,h=>by
  refine k7 l _ ?_
  unfold Q7;split
  ·exact h
  ·rw[E9]
   exact⟨h,by simp,fun x hx y hy=>by rw[Jl.mp hy];rintro rfl;contradiction⟩
theorem uP{K:Type} [DecidableEq K]:∀(l acc:List K) (k:K),k∈l.foldl Q7 acc↔k∈acc\/k∈l
 | [],acc,k=>by simp
 |x::l,acc,k=>by
  rw[List.foldl_cons,uP l _ k];unfold Q7;split
  ·rename_i hx
   constructor
   ·rintro(h|h)
    ·exact .inl h
    ·exact .inr (JG _ h)
   ·rintro(h|h)
    ·exact .inl h
    ·rcases Jk.mp h with rfl|h
     ·exact .inl hx
     ·exact .inr h
  ·rw[JW,Jl,Jk]
   constructor
   ·rintro((h|h)|h)
    ·exact .inl h
    ·exact .inr (.inl h)
    ·exact .inr (.inr h)
   ·rintro(h|h|h)
    ·exact .inl (.inl h)
    ·exact .inl (.inr h)
    ·exact .inr h
theorem tH{K:Type} [DecidableEq K]:∀(l acc:List K),(l.foldl Q7 acc).length<=acc.length+l.length
 | [],acc=>by simp
 |x::l,acc=>by
  have:=tH l (Q7 acc x)
  rw[List.foldl_cons,JN];have h2:(Q7 acc x).length<=acc.length+1:=by
   unfold Q7;split
   ·lia
   ·rw[JC,Eo];lia
  lia
theorem mH{Q:FW}(h:Q (.ref s.heap.objs.size) {s with heap:=s.heap.push (Qj (!zt w))}):wpAny (model prog w) A (newSet (.type "set")) Q E s:=by
 unfold newSet;obtain⟨hp,g,d,tk,os⟩:=s
 wp_walk
 refine wpAny_askSetting (Jd ?_)
 dsimp only
 simp only[newObj];exact Ja (wpAny_alloc (Jd h))
end
end S0
namespace L3
open PySem PySem.Spec PyProof.Rows L2 S0
def cv:Value->Str
 | .str x _=>x
 |_=>Str.empty
def aE(prog:Program)(w:World)(a:Addr)(ks:List Str):HO:= .ext fun h=>SetK (PySem.strKind prog w) cv h a ks
theorem t8(prog:Program)(w:World):∀k v,(PySem.strKind prog w).is k v=true->cv v=k:=fun k v h=>by
 obtain⟨t,rfl⟩:=Value.isStrOf_shape h;rfl
section
variable{prog:Program}{w:World}{A:Around}{E:FW}{s:Shared}
theorem uE{a:Addr}{ks:List Str}{Q:FW}(hh:A.handled=none)(hS:SetK (PySem.strKind prog w) cv s.heap a ks)(h64:ks.length<64)
  (h:∀(h':Heap) (tk:Nat) (d:Drawn) (l:Addr) (its:List Value) (n:Nat) (ss:List Str),s.heap.objs.size<=l->(∀b o,s.heap.get? b=some o->h'.get? b=some o)->h'.get? l=some (seqObj "list" its.toArray n)->
   StrsAre its ss->ss.Perm ks->sortedS ss=true->Q (.ref l) {s with heap:=h',toks:=tk,drawn:=d}):
  wpAny (model prog w) A (call (.builtin "sorted") [.ref a]) Q E s:=by
 obtain⟨o,es,ep,t,ho,hex,hd,hf,hb,hel,hpm,htw⟩:=hS;refine Calls.call_function_entry kind_sorted plain_sorted entry_sorted (args_sorted1 _) ?_
 unfold Builtin.«sorted»
 refine Ja (m:=checkCount "sorted" 1 1 _) (Jd ?_)
 refine Ja (iZ hh ho hex hd hf hb htw fun vs h' tk d hk hz hp=>?_)
 have hI:StrsAre vs (vs.map cv):=by
  refine iw (by rw[Jf]) fun j v e=>?_
  obtain⟨e1,he,rfl⟩:=JA.mp (hp.mem_iff.mp (DX e))
  obtain⟨⟨k,h1,_⟩,_⟩:=hel e1 he;obtain⟨tt,h2⟩:=Value.isStrOf_shape h1;refine⟨k,tt,by rw[Jq,e,h2];rfl,h2⟩
 have hvk:(vs.map cv).Perm ks:=by
  refine(hp.map cv).trans ?_
  rw[Eg];exact hpm
 have hvl:vs.length<=sizeLine:=by
  rw[hp.length_eq,Jf,Jp];exact fits_of_scanBound hb
 have hl64:vs.length<64:=by
  have:=hvk.length_eq
  rw[Jf]at this;lia
 refine Ja (wpAny_newList ?_ hvl)
 have hoL:(h'.push (seqObj "list" vs.toArray 0)).get? h'.objs.size=some (seqObj "list" vs.toArray 0):=Jo _ rfl
 show wpAny _ _ _ _ _ {s with heap:=h'.push (seqObj "list" vs.toArray 0),toks:=tk,drawn:=d}
 refine Ja (JL (JT slot_list_sort ⟨_,hoL,rfl⟩ entry_list_sort (list_sort_treeK (κ:=PyProof.Rows.strKind) strKind_oneLt hoL hI.keysOf (fun v₁ v₂ rest e=>keyKind_strs (by rw[<- e];exact hI)) hl64 fun st' a1 a2=>⟨_,rfl,?_⟩) (args_list_sort _)))
 obtain⟨ss',b1,b2,b3⟩:=sorted_out_str hI a1 a2;obtain⟨n',hn'⟩:∃n',(sortedHeap (h'.push (seqObj "list" vs.toArray 0)) h'.objs.size vs ((arrOf st').map (·.2))).get? h'.objs.size=some (seqObj "list" ((arrOf st').map (·.2)) n'):=sortedHeap_at hoL
 refine Jd ⟨_,rfl,h _ tk d h'.objs.size ((arrOf st').map (·.2)).toList n' ss' hz (fun b o e=>?_) (by rw[hn']) b1 (b2.trans hvk) b3⟩
 have e':=hk b o e;have hb':b<h'.objs.size:=Jh e'
 rw[sortedHeap_old (Jm hb') (by rw[JX];exact Ec hb')]
 exact Ji _ e'
end
theorem aF:∀{us:List Value} {ss:List Str},StrsAre us ss->∀(i:Nat) (v:Value),us[i]? =some v->∃t,v= .str (ss.getD i default) t
 |_,_,.nil,i,v,e=>by simp at e
 |_,_,.cons x t r,0,v,e=>by
  simp at e;subst e;exact⟨t,rfl⟩
 |_,_,.cons x t r,i+1,v,e=>by
  have e':=aF r i v (by simpa using e)
  simpa [JE]using e'
section
variable{X:Cx}
theorem gB(hc:X.calm=true):qT X (.type "set") (fun xs H Q=>∃(p:Addr) (ss:List Str),xs=[.ref p]/\F8 X.K H p (ss.map V.str)/\ss.length+1<scanBound/\∀l,H l=none->Q (.ref l) (F5 H l (aE X.prog X.w l (ddL ss)))):=by
 intro tx s σ H xs us Q I r h;obtain⟨p,ss,rfl,hp,hb,q⟩:=h;obtain⟨u,rfl,ru⟩:=zL r;cases ru;obtain⟨its,rv,pt,_⟩:=I.list hp;have hl:=rv.length;rw[Jf]at hl;refine uy (knd:=PySem.strKind X.prog X.w) (kf:=cv) (val:=fun i=>ss.getD i default) (t8 _ _) (I.ok.hd hc) pt.isList (fun i v hv=>?_) (by rw[Jr];lia) fun h' tk hS kp=>?_
 ·have hv':its[i]? =some v:=by rw[List.getElem?_toArray]at hv;exact hv
  have hi:i<ss.length:=by rw[hl];exact(Jw.mp hv').1
  obtain⟨t,rfl⟩:=aF (bK rv) i v hv'
  exact⟨strKind_is _ _ _ _,rfl⟩
 ·have e:its.toArray.size=ss.length:=by rw[Jr];exact hl.symm
  rw[e,rW]at hS;refine⟨.ref s.heap.objs.size,_,I.laid (t':=tk) (o:=aE X.prog X.w s.heap.objs.size (ddL ss)) kp (Je _) ⟨hS,?_,fun h1 h2 z1 z2=>z1.at z2⟩,rfl,q _ (I.hok.fresh (Je _))⟩
  obtain⟨o,_,_,_,e,_⟩:=hS
  exact⟨o,e⟩
theorem jP(hc:X.calm=true):qT X (.builtin "sorted") (fun xs H Q=>∃(p:Addr) (ks:List Str),xs=[.ref p]/\H p=some (aE X.prog X.w p ks)/\ks.length<64/\
  ∀l (ss:List Str),H l=none->ss.Perm ks->sortedS ss=true->Q (.ref l) (F5 H l (.lst (ss.map V.str)))):=by
 intro tx s σ H xs us Q I r h;obtain⟨p,ks,rfl,hp,h64,q⟩:=h;obtain⟨u,rfl,ru⟩:=zL r;cases ru;obtain⟨hS,_⟩:=I.hok p _ hp;refine uE (I.ok.hd hc) hS h64 fun h' tk d l its n ss hl hk hL b1 b2 b3=>?_
 refine⟨.ref l,_,(I.laid (a:=l) (o:= .lst (ss.map V.str)) (t':=tk) hk hl ?_).drw d,rfl,q l ss (I.hok.fresh hl) b2 b3⟩
 refine⟨?_,its,n,aT b1,hL⟩
 have:=b2.length_eq
 rw[Jf,JH];lia
end
theorem aW{K:Type} [DecidableEq K](l:List K):(ddL l).Nodup:=k7 l [] Fl
theorem ae{K:Type} [DecidableEq K](l:List K)(k:K):k∈ddL l↔k∈l:=by unfold ddL;rw[uP];simp
theorem eQ{K:Type} [DecidableEq K](l:List K):(ddL l).length<=l.length:=by have:=tH l ([]:List K);simpa [ddL]using this
end L3
namespace L3
open PySem PySem.Spec PyProof.Rows L2
def BG(k:Nat)(js:List Nat)(g:TG)(wi2:TI)(g2:TG)(te:TE)(σ:L2.St)(Q:VK)(J:It)(H1:Hp):Prop:=∃W:Nat->Nat->List V->L2.St->Hp->Prop,(∃m,W 0 m [] (σ0 k js σ) H1)/\∀i m ys τ H,W i m ys τ H->
 (J.stop i H/\∀p,H p=none->Q (.ref p) (F5 H p (.lst ys)))\/(J.go i H/\∀x H',J.yld i H x H'->g x τ H' fun τ2 H2=>wi2 τ2 H2 fun J2 H3=>∃W2:Nat->Nat->List V->L2.St->Hp->Prop,(∃m2,W2 0 m2 ys τ2 H3)/\∀i2 m2 zs τ3 H4,W2 i2 m2 zs τ3 H4->
  (J2.stop i2 H4/\∃m',m'<m/\W (i+1) m' zs τ3 H4)\/(J2.go i2 H4/\zs.length<sizeLine/\∀x2 H5,J2.yld i2 H4 x2 H5->g2 x2 τ3 H5 fun τ4 H6=>∃N:V->Hp->Prop,(∀v H7,N v H7->∃m2',m2'<m2/\W2 (i2+1) m2' (zs++[v]) τ4 H7)/\te τ4 H6 N))
def uz(k:Nat)(js:List Nat)(wi:TI)(g:TG)(wi2:TI)(g2:TG)(te:TE):TE:=fun σ H Q=>wi σ H (BG k js g wi2 g2 te σ Q)
section
variable{prog:Program}{w:World}{A:Around}{R:Result->Shared->Prop}{s:Shared}
theorem lu(elt tg iter tg2 iter2:Expr)(scope:Scope)(pos:Pos)(it acc:Value)(env:Env):
  compTurn (.ListComp elt [⟨tg,iter,[],0⟩,⟨tg2,iter2,[],0⟩] scope pos) 0 it acc env=(standAt iter.pos >>= fun _=>pyNext it >>= fun r=>match r with
   |none=>pure (.done .next)
   |some v=>letOwnedTupleGo tg it v >>= fun _=>assign tg env v >>= fun _=>
    eval iter2 env >>= fun x=>standAt iter2.pos >>= fun _=>foldedSetIterable iter2 env x >>= fun x=>holding [x] (pyIter x) >>= fun i2=>runOwn (.compStart (.ListComp elt [⟨tg,iter,[],0⟩,⟨tg2,iter2,[],0⟩] scope pos) 1 i2 acc env) env >>= fun _=>
     again (.compLoop (.ListComp elt [⟨tg,iter,[],0⟩,⟨tg2,iter2,[],0⟩] scope pos) 0 it acc env)):=by rfl
theorem nh(elt tg iter tg2 iter2:Expr)(scope:Scope)(pos:Pos)(it acc:Value)(env:Env):
  compTurn (.ListComp elt [⟨tg,iter,[],0⟩,⟨tg2,iter2,[],0⟩] scope pos) 1 it acc env=(standAt iter2.pos >>= fun _=>pyNext it >>= fun r=>match r with
   |none=>pure (.done .next)
   |some v=>letOwnedTupleGo tg2 it v >>= fun _=>assign tg2 env v >>= fun _=>
    (eval elt env >>= fun x=>call (.builtin "list.append") [acc,x] >>= fun _=>pure ()) >>= fun _=>
     again (.compLoop (.ListComp elt [⟨tg,iter,[],0⟩,⟨tg2,iter2,[],0⟩] scope pos) 1 it acc env)):=by rfl
theorem nq{elt tg iter tg2 iter2:Expr}{scope:Scope}{pos:Pos}{it acc:Value}{env:Env}(I:Nat->Shared->Prop)
  (turn:∀n s,I n s->wpAny (model prog w) A (pyNext it) (fun r s₁=>match r with
   |none=>R (.ok .next) s₁
   | some v=>wpAny (model prog w) A (letOwnedTupleGo tg2 it v) (fun _ s₁'=>wpAny (model prog w) A (assign tg2 env v) (fun _ s₂=>wpAny (model prog w) A (eval elt env) (fun x s₃=>
     wpAny (model prog w) A (call (.builtin "list.append") [acc,x]) (fun _ s₄=>∃m,m<n/\I m s₄) (fun _ _=>False) s₃)
     (fun _ _=>False) s₂) (fun _ _=>False) s₁') (fun _ _=>False) s₁) (fun _ _=>False) s)
  (n:Nat)(h:I n s):
  codeAny (model prog w) A (.compLoop (.ListComp elt [⟨tg,iter,[],0⟩,⟨tg2,iter2,[],0⟩] scope pos) 1 it acc env) R s:=by
 refine codeAny_loop rfl I (fun n s hI=>?_) n h
 show wpAny _ _ ((compTurn (.ListComp elt [⟨tg,iter,[],0⟩,⟨tg2,iter2,[],0⟩] scope pos) 1 it acc env).onRaise (fun x=>do noteFrame x env;theTreesLotGoes x)) _ _ s
 refine wpAny_noted ?_
 rw[nh];refine Ja (Ej (Ja (JF (turn n s hI) (fun r s₁ h₁=>?_) fun _ _ h'=>h'.elim)))
 cases r with
 |none=>exact Jd h₁
 |some v=>
  refine Ja (JF h₁ (fun _ s₁' h₁'=>?_) fun _ _ h'=>h'.elim)
  exact Ja (JF h₁' (fun _ s₂ h₂=>Ja (Ja (JF h₂ (fun x s₃ h₃=>Ja (JF h₃
   (fun _ s₄ h₄=>Jd (Jd ⟨rfl,h₄⟩)) fun _ _ h'=>h'.elim)) fun _ _ h'=>h'.elim))) fun _ _ h'=>h'.elim)
theorem kT{elt tg iter tg2 iter2:Expr}{scope:Scope}{pos:Pos}{it acc:Value}{env:Env}(hs2:∀x,foldedSetIterable iter2 env x=pure x)(I:Nat->Shared->Prop)
  (turn:∀n s,I n s->wpAny (model prog w) A (pyNext it) (fun r s₁=>match r with
   |none=>R (.ok .next) s₁
   | some v=>wpAny (model prog w) A (letOwnedTupleGo tg it v) (fun _ s₁'=>wpAny (model prog w) A (assign tg env v) (fun _ s₂=>wpAny (model prog w) A (eval iter2 env) (fun x s₃=>
     wpAny (model prog w) A (pyIter x) (fun i2 s₄=>codeAny (model prog w) A (.compStart (.ListComp elt [⟨tg,iter,[],0⟩,⟨tg2,iter2,[],0⟩] scope pos) 1 i2 acc env) (fun r s₅=>match r with| .ok _=>∃m,m<n/\I m s₅| .error _=>False) s₄) (fun _ _=>False) s₃)
     (fun _ _=>False) s₂) (fun _ _=>False) s₁') (fun _ _=>False) s₁) (fun _ _=>False) s)
  (n:Nat)(h:I n s):
  codeAny (model prog w) A (.compLoop (.ListComp elt [⟨tg,iter,[],0⟩,⟨tg2,iter2,[],0⟩] scope pos) 0 it acc env) R s:=by
 refine codeAny_loop rfl I (fun n s hI=>?_) n h
 show wpAny _ _ ((compTurn (.ListComp elt [⟨tg,iter,[],0⟩,⟨tg2,iter2,[],0⟩] scope pos) 0 it acc env).onRaise (fun x=>do noteFrame x env;theTreesLotGoes x)) _ _ s
 refine wpAny_noted ?_
 rw[lu];refine Ja (Ej (Ja (JF (turn n s hI) (fun r s₁ h₁=>?_) fun _ _ h'=>h'.elim)))
 cases r with
 |none=>exact Jd h₁
 |some v=>
  refine Ja (JF h₁ (fun _ s₁' h₁'=>?_) fun _ _ h'=>h'.elim)
  refine Ja (JF h₁' (fun _ s₂ h₂=>Ja (JF h₂ (fun x s₃ h₃=>?_) fun _ _ h'=>h'.elim)) fun _ _ h'=>h'.elim)
  refine Ja (Ej (Ja ?_))
  rw[hs2];refine Jd (Ja (JL (JF h₃ (fun i2 s₄ h₄=>?_) fun _ _ h'=>h'.elim)))
  refine Ja (wpAny_runOwn (EM h₄ fun r s₅ h₅=>?_))
  cases r with
  |ok f=>exact Jd ⟨rfl,h₅⟩
  |error x=>exact h₅.elim
theorem lz{elt tg iter tg2 iter2 scope pos it acc env}
  (h0:codeAny (model prog w) A (.compLoop (.ListComp elt [⟨tg,iter,[],0⟩,⟨tg2,iter2,[],0⟩] scope pos) 1 it acc env) R s)
  (h:wpAny (model prog w) A (pyIter it) (fun it' s'=>codeAny (model prog w) A (.compLoop (.ListComp elt [⟨tg,iter,[],0⟩,⟨tg2,iter2,[],0⟩] scope pos) 1 it' acc env) R s')
   (notedBy (model prog w) A env fun x s'=>R (.error x) s') s):
  codeAny (model prog w) A (.compStart (.ListComp elt [⟨tg,iter,[],0⟩,⟨tg2,iter2,[],0⟩] scope pos) 1 it acc env) R s:=by
 refine codeAny_of_tree ?_
 show wpAny _ _ ((compStart (.ListComp elt [⟨tg,iter,[],0⟩,⟨tg2,iter2,[],0⟩] scope pos) 1 it acc env).onRaise (fun x=>do noteFrame x env;standAt theWindowsPlace)) _ _ s
 refine wpAny_notedAt ?_
 unfold compStart
 show wpAny _ _ (ask >>= _) _ _ s
 refine Ja (wpAny_askSetting (wpAny_ite ?_))
 split
 ·first
   |exact Ja (Jd (Jd (And.intro rfl h0)))
   |exact Jd (And.intro rfl h0)
 ·first
   |exact Ja (DV (Ja (Ej (Ja (JF h (fun it' s' h'=>Jd (And.intro rfl h')) fun _ _ x=>x)))))
   |(refine Ja (DV ?_);show wpAny _ _ (standAt iter2.pos >>= _) _ _ s;exact Ja (Ej (Ja (JF h (fun it' s' h'=>Jd (And.intro rfl h')) fun _ _ x=>x))))
end
variable{X:Cx}
theorem ui{elt tg iter tg2 iter2:Expr}{scope:Scope}{cl:List (Str×Addr)}{pos fpos:Pos}{fr own:List Str}{js:List Nat}{wi wi2:TI}{g g2:TG}{te:TE}{use:Option (Value->Sem Unit)}{Post:FW}
  {tx:FY}{s:Shared}{σ:L2.St}{H:Hp}{Q:VK}
  (hc:X.calm=true)(hi:PI X tg iter wi)(hclos:closureFor scope X.env=pure cl)(hcl:∀y c,cl.lookup y=some c->X.env.cells.lookup y=some c)(hfr:cl.map (·.1)=fr)
  (S:GM X scope fr js)
  (hg:∀C s H fp,PG (zJ X (own++fr) scope cl C s H fp) tg g)(hi2:∀C s H fp,PI (zJ X (own++fr) scope cl C s H fp) tg2 iter2 wi2)(hg2:∀C s H fp,PG (zJ X (own++fr) scope cl C s H fp) tg2 g2)(he:∀C s H fp,PE (zJ X (own++fr) scope cl C s H fp) elt te)
  (hs:∀x,foldedSetIterable iter X.env x=pure x)(hs2:∀C x,foldedSetIterable iter2 (compEnvC scope cl C X.env) x=pure x)
  (I:L2.F3 X tx σ H s)(h:uz own.length js wi g wi2 g2 te σ H Q)
  (hfin:∀(acc C:Addr) (s5:Shared) (H':Hp) (m:FX),L2.F3 X tx σ H' s5->s5.heap.Ns C m->IR X tx H' C->Q (.ref acc) H'->compPost (model X.prog X.w) X.A X.xe use Post (.ref acc) C (.ok .next) s5):
  wpAny (model X.prog X.w) X.A (comprehension (.ListComp elt [⟨tg,iter,[],0⟩,⟨tg2,iter2,[],0⟩] scope pos) scope X.env fpos (newList []) false (eval iter X.env) use) Post X.xe s:=by
 refine wpAny_comprehension_free (use:=use) rfl hs hclos S.kind S.names (qz (hi tx s σ H _ I h) fun v s1 h1=>qz h1 fun itv s2 h2=>?_)
 obtain⟨it,fp,tn,J,H2,e,I2,T,st2,f2,W,⟨m0,w0⟩,turn⟩:=h2;subst e;refine DS (wpAny_newFunctionEnv S.nocell (by intro y hy;simp at hy) (fun h₁ hns₁ hsb₁=>?_) S.kind)
 dsimp only at hns₁ hsb₁⊢
 generalize hH2:s2.heap.push {cls:= .type "list",dict:=none,data:= .seq ([]:List Value).toArray}=G at hns₁ hsb₁⊢
 have hC:G.objs.size=s2.heap.objs.size+1:=by rw[<- hH2,JX]
 have hDC:s2.heap.objs.size≠G.objs.size:=by rw[hC];exact Jm (D6 _)
 have below:∀b,b<s2.heap.objs.size->b≠G.objs.size/\b≠s2.heap.objs.size:=fun b hb=>⟨by rw[hC];exact Jm (Ec hb),Jm hb⟩
 have old:∀b o,s2.heap.get? b=some o->h₁.get? b=some o:=fun b o e=>hsb₁.extBut b o (below b (Jh e)).1 (Ji _ (hH2▸Ji _ e))
 have hacc:h₁.get? s2.heap.objs.size=some {cls:= .type "list",data:= .seq ([]:List Value).toArray 0}:=hsb₁.extBut _ _ hDC (Ji _ (hH2▸Jo _ rfl))
 let Y:Cx:=zJ X (own++fr) scope cl G.objs.size s2 H2 fp
 have fplt:∀b∈fp,b<s2.heap.objs.size:=fun b hb=>by obtain⟨o,e,_⟩:=T.obj _ _ st2 b hb;exact Jh e
 have okY:Y.Ok:=by
  refine⟨I2.ok.mod,S.kind,I2.ok.glob,I2.ok.blt,by show s2.heap.objs.size<=G.objs.size;lia,?_,?_,?_,I2.ok.hd,I2.ok.frames,.inl rfl,?_,I2.bs,JM I2.ok.bsz I2.sz,?_,?_,I2.stack,I2.stkFree⟩
  ·exact fun x y c e1 e2=>I2.ok.inj x y c (hcl x c e1) (hcl y c e2)
  ·intro x hx
   have hx':(relabel scope X.env).names.lookup x=some .cell\/(relabel scope X.env).names.lookup x=some .free:=hx
   have hm:∃k,(x,k)∈scope.names/\k= .free:=by
    have aux:∀kk:NameKind,(kk= .cell\/kk= .free)->(relabel scope X.env).names.lookup x=some kk->∃k,(x,k)∈scope.names/\k= .free:=by
     intro kk hk el;obtain⟨⟨n,k⟩,hmem,e⟩:=JA.mp (EN el)
     dsimp only at e
     split at e
     ·rename_i hcond
      cases e;refine⟨k,hmem,?_⟩
      simp only[Jx,J3]at hcond;exact hcond.1.1
     ·cases e
      rcases hk with z|z
      ·subst z;exact absurd rfl (S.nocell _ hmem)
      ·exact⟨_,hmem,z⟩
    rcases hx' with z|z
    ·exact aux _ (.inl rfl) z
    ·exact aux _ (.inr rfl) z
   obtain⟨k,hmem,hk⟩:=hm;exact zV (l:=cl) (by rw[hfr];exact S.free _ hmem hk)
  ·exact fun x c e _=>nomatch e
  ·refine fun b hb=>⟨?_,fun x c e=>(f2 b hb).2.2.2.2.1 x c (hcl x c e)⟩
   show b≠G.objs.size
   exact(below b (fplt b hb)).1
  ·intro b o e hb
   rcases(f2 b hb).2.2.2.1 with z|z
   ·exact I2.ok.noex b o e z
   ·exact absurd (JK (Jh e) (JM I2.ok.bsz z)) (JZ _)
  ·intro b hb hf
   rcases Jk.mp (I2.stkSub b hf)with z|z
   ·exact(f2 b hb).2.1 z
   ·exact(f2 b hb).2.2.1 z
 have lenσ:(σ0 own.length js σ).length=(own++fr).length:=by unfold σ0;simp [S.len]
 have IY:F3 Y [] (σ0 own.length js σ) H2 {s2 with heap:=h₁,toks:=s2.toks+([]:List (Str×Value)).length}:=by
  refine⟨okY,rfl,I2.bare,Un.kept old,⟨_,hns₁,?_⟩,?_,?_,?_,fun p hp=>absurd (show p∈([]:FY)from hp) (by simp),I2.hok.kept old,lenσ⟩
  ·intro i x v hN hv _
   have hN':(own++fr)[i]? =some x:=hN
   unfold σ0 at hv
   by_cases hlt:i<own.length
   ·rw[DR (by simpa using hlt),List.getElem?_replicate]at hv
    split at hv<;>cases hv
   ·rw[J9 (by simpa using Fe hlt),FH,Jq]at hv
    rw[J9 (Fe hlt)]at hN';cases ej:js[i-own.length]? with
    |none=>rw[ej]at hv;cases hv
    |some j=>
     rw[ej]at hv;have hσ:σ[j]? =some (some v):=by
      have hv':(σ[j]?).join=some v:=Jy hv
      cases q:σ[j]? with
      |none=>rw[q]at hv';cases hv'
      |some o=>rw[q]at hv';have:o=some v:=hv';rw[this]
     obtain⟨hNj,hk,hkr⟩:=S.at_ _ j x ej hN';obtain⟨m,hn,hl⟩:=I2.loc;obtain⟨u,ru,lk⟩:=hl j x v hNj hσ (.inr (.inl hk))
     refine⟨u,ru,.inr ?_⟩
     rcases lk with⟨k1,_⟩|⟨_,c,ec,ic⟩
     ·rw[hk]at k1;cases k1
     ·obtain⟨c',hc'⟩:=zV (y:=x) (l:=cl) (by rw[hfr];exact DX hN')
      have:c'=c:=by have:=hcl x c' hc';rw[ec]at this;exact(Jy this).symm
      subst this;refine⟨?_,c',hc',?_⟩
      ·show(relabel scope X.env).names.lookup x=some .cell\/(relabel scope X.env).names.lookup x=some .free
       exact .inl hkr
      ·obtain⟨oc,hoc,hd⟩:=ic
       exact⟨oc,old _ _ hoc,hd⟩
  ·intro x c e
   obtain⟨v,oc,hoc,hd⟩:=I2.cell x c (hcl x c e)
   exact⟨v,oc,old _ _ hoc,hd⟩
  ·exact I2.hok.fresh (by show s2.heap.objs.size<=G.objs.size;lia)
  ·exact fun x c e=>I2.freeC x c (hcl x c e)
 have accfs:s2.heap.objs.size∉bJ X.stack:=fun hf=>by
  rcases Jk.mp (I2.stkSub _ hf)with z|z
  ·exact absurd (by rw[<- z];exact Je _:s2.heap.objs.size<=X.env.locals) (Nat.not_le.mpr I2.lt)
  ·exact I2.nofs (Je _) z
 have acccell:∀x c,cl.lookup x=some c->c≠s2.heap.objs.size:=fun x c e z=>by
  obtain⟨v,oc,hoc,_⟩:=I2.cell x c (hcl x c e)
  exact absurd (Jh hoc) (by rw[z];exact JZ _)
 have fpY:∀{H':Hp} {pl:FY},(∀b∈fp,H' b=none)->(∀p∈pl,p.1=s2.heap.objs.size)->∀b∈fp,Zs Y pl H' b:=fun{H' pl} hn hp b hb=>
  ⟨hn b hb,(below b (fplt b hb)).1,okY.exfs b hb,.inl hb,fun x c e=>(f2 b hb).2.2.2.2.1 x c (hcl x c e),fun p hpp=>by
   have hpp':p∈pl:=by simpa [Y,zJ]using hpp
   rw[hp p hpp'];exact Ne.symm (below b (fplt b hb)).2⟩
 have loop:∀s₃:Shared,F3 Y [] (σ0 own.length js σ) H2 s₃->tn 0 s₃.heap->s₃.heap.get? s2.heap.objs.size=some {cls:= .type "list",data:= .seq ([]:List Value).toArray 0}->
   codeAny (model X.prog X.w) X.A (.compLoop (.ListComp elt [⟨tg,iter,[],0⟩,⟨tg2,iter2,[],0⟩] scope pos) 0 (.ref it) (.ref s2.heap.objs.size) (compEnvC scope cl G.objs.size X.env))
    (compPost (model X.prog X.w) X.A X.xe use Post (.ref s2.heap.objs.size) G.objs.size) s₃:=by
  intro s₃ I3 st3 ha3;refine kT (hs2 _) (fun n s'=>∃i ys τ H' its k,F3 Y [(s2.heap.objs.size,{cls:= .type "list",data:= .seq its.toArray k})] τ H' s'/\tn i s'.heap/\(∀b∈fp,H' b=none)/\F6 ys its/\ys.length<=sizeLine/\W i n ys τ H') ?_ m0 ?_
  ·rintro n s4 ⟨i,ys,τ,H4,its,k,I4,st4,fr4,vl,hz,w4⟩
   have pin4:=I4.pin (s2.heap.objs.size,{cls:= .type "list",data:= .seq its.toArray k}) (by simp [Y,zJ])
   rcases turn i n ys τ H4 w4 with⟨stop,qn⟩|⟨go,step⟩
   ·refine qz (T.done Y rfl rfl rfl hc i _ s4 τ H4 _ I4 (fpY fr4 (by simp)) st4 stop) fun r s5 zq=>?_
    obtain⟨hr,I5⟩:=zq;subst hr
    show compPost _ _ _ _ _ _ _ _ _
    obtain⟨m5,hn5,_⟩:=I5.loc;have pin5:=I5.pin (s2.heap.objs.size,{cls:= .type "list",data:= .seq its.toArray k}) (by simp [Y,zJ])
    have nacc:H4 s2.heap.objs.size=none:=pin5.2.1
    have B:=I5.base;have nC:H4 G.objs.size=none:=I5.free
    refine hfin s2.heap.objs.size G.objs.size s5 (F5 H4 s2.heap.objs.size (.lst ys)) m5 ?_ hn5 ?_ (qn _ nacc)
    ·refine I2.call' (s':=s5) (ch:=fp) I5.os ⟨B.keep,B.slot,fun b o e n hx=>?_,B.there,fun b xs e=>?_,fun b o u e=>?_,fun b ps e=>?_⟩ ?_ I5.bare ?_
     ·rw[qj (below b (Jh e)).2];exact B.free b o e n hx
     ·have e1:=B.tups b xs e
      rw[qj (qi e1 nacc)];exact e1
     ·have e1:=B.frzs b o u e
      rw[qj (qi e1 nacc)];exact e1
     ·obtain⟨more,e1⟩:=B.tbls b ps e
      exact⟨more,by rw[qj (qi e1 nacc)];exact e1⟩
     ·intro b u e
      by_cases hb:b=s2.heap.objs.size
      ·subst hb
       rw[qb]at e;cases e
       exact⟨hz,its,k,vl,pin5.1⟩
      ·rw[qj hb]at e
       exact(I5.hok b u e).stay (fun c v _ q=>q) (fun c q=>by rw[qj (qi q nacc)];exact q) fun c xs q=>by rw[qj (qi q nacc)];exact q
     ·exact fun b hb=>⟨(f2 b hb).2.2.2.1,(f2 b hb).2.1,(f2 b hb).2.2.2.2.1,(f2 b hb).2.2.2.2.2⟩
    ·have hge:s2.heap.objs.size<=G.objs.size:=by lia
     refine⟨by rw[qj (Ne.symm hDC)];exact nC,?_,JM I2.sz hge,fun x c e z=>?_,fun p hp z=>?_⟩
     ·exact JY (JK I2.lt hge)
     ·obtain⟨v,oc,hoc,_⟩:=I2.cell x c e
      exact absurd (JK (Jh hoc) hge) (by rw[z];exact JZ _)
     ·exact absurd (JK (Jh (I2.pin p hp).1) hge) (by rw[z];exact JZ _)
   ·refine qz (T.item Y rfl rfl rfl hc i _ s4 τ H4 _ I4 (fpY fr4 (by simp)) st4 go) fun r s5 zq=>?_
    obtain⟨u,hr,h5⟩:=zq;subst hr;refine qz h5 fun _ s6 zq=>?_
    obtain⟨x,H6,I6,r6,y6,st6,fr6⟩:=zq;have I6':=I6.pinned (fpY fr6 (by simp)) (T.obj _ _ st6)
    refine qz (hg _ _ _ _ _ s6 τ H6 x u _ I6' r6 (step x H6 y6)) fun _ s7 zq=>?_
    obtain⟨τ7,H7,I7,q7⟩:=zq;refine qz (hi2 _ _ _ _ _ s7 τ7 H7 _ I7 q7) fun v7 s8 h8=>qz h8 fun itv2 s9 h9=>?_
    obtain⟨it2,fp2,tn2,J2,H9,e9,I9,T2,st9,f9,W2,⟨m2,w2⟩,turn2⟩:=h9;subst e9;have fpI:∀{H':Hp} {its':List Value} {k':Nat},(∀b∈fp2,H' b=none)->∀b∈fp2,Zs Y ((s2.heap.objs.size,{cls:= .type "list",data:= .seq its'.toArray k'})::ZR fp s6.heap) H' b:=fun{H' its' k'} hn b hb=>
     ⟨hn b hb,(f9 b hb).2.1,(f9 b hb).2.2.1,(f9 b hb).2.2.2.1,(f9 b hb).2.2.2.2.1,fun p hp=>by
      have hp':p∈(s2.heap.objs.size,{cls:= .type "list",data:= .seq its'.toArray k'})::ZR fp s6.heap:=by simpa [Y,zJ]using hp
      rcases Jk.mp hp' with z|z
      ·rw[z]
       exact(f9 b hb).2.2.2.2.2 (s2.heap.objs.size,{cls:= .type "list",data:= .seq its.toArray k}) (by simp [zJ])
      ·exact(f9 b hb).2.2.2.2.2 p (by simp [zJ,z])⟩
    have L2:codeAny (model X.prog X.w) X.A (.compLoop (.ListComp elt [⟨tg,iter,[],0⟩,⟨tg2,iter2,[],0⟩] scope pos) 1 (.ref it2) (.ref s2.heap.objs.size) (compEnvC scope cl G.objs.size X.env)) (fun r s₅=>match r with
      | .ok _=>∃m,m<n/\∃i ys τ H' its k,F3 Y [(s2.heap.objs.size,{cls:= .type "list",data:= .seq its.toArray k})] τ H' s₅/\tn i s₅.heap/\(∀b∈fp,H' b=none)/\F6 ys its/\ys.length<=sizeLine/\W i m ys τ H'
      | .error _=>False) s9:=by
     refine nq (fun n2 s'=>∃(i2:Nat) (zs:List V) (τ':L2.St) (H':Hp) (its':List Value) (k':Nat),F3 Y ((s2.heap.objs.size,{cls:= .type "list",data:= .seq its'.toArray k'})::ZR fp s6.heap) τ' H' s'/\tn2 i2 s'.heap/\(∀b∈fp2,H' b=none)/\F6 zs its'/\zs.length<=sizeLine/\W2 i2 n2 zs τ' H') ?_ m2 ⟨0,ys,τ7,H9,its,k,I9,st9,fun b hb=>(f9 b hb).1,vl,hz,w2⟩
     rintro n2 sA ⟨i2,zs,τA,HA,itsA,kA,IA,stA,frA,vlA,hzA,wA⟩
     have pinA:=IA.pin (s2.heap.objs.size,{cls:= .type "list",data:= .seq itsA.toArray kA}) (by simp [Y,zJ])
     rcases turn2 i2 n2 zs τA HA wA with⟨stop2,m',hm',w'⟩|⟨go2,hlt2,step2⟩
     ·refine qz (T2.done Y rfl rfl rfl hc i2 _ sA τA HA _ IA (fpI frA) stA stop2) fun r sB zq=>?_
      obtain⟨hr2,IB⟩:=zq;subst hr2;have pinB:=IB.pin (s2.heap.objs.size,{cls:= .type "list",data:= .seq itsA.toArray kA}) (by simp [Y,zJ])
      have pinO:∀b∈fp,∀o,s6.heap.get? b=some o->sB.heap.get? b=some o/\HA b=none:=fun b hb o e=>by
       have:=IB.pin (b,o) (J1 _ (JG _ (Zr hb e)))
       exact⟨this.1,this.2.1⟩
      refine⟨m',hm',i+1,zs,τA,HA,itsA,kA,IB.pins_of ?_,T.keep _ _ _ st6 fun b hb o e=>(pinO b hb o e).1,fun b hb=>?_,vlA,hzA,w'⟩
      ·intro p hp
       rw[Jl.mp hp]
       exact⟨pinB.1,pinB.2.1,hDC,accfs,fun v z=>by cases z⟩
      ·obtain⟨o,e,_⟩:=T.obj _ _ st6 b hb
       exact(pinO b hb o e).2
     ·refine qz (T2.item Y rfl rfl rfl hc i2 _ sA τA HA _ IA (fpI frA) stA go2) fun r sB zq=>?_
      obtain⟨u2,hr2,hB⟩:=zq;subst hr2;refine qz hB fun _ sC zq=>?_
      obtain⟨x2,HC,IC,rC,yC,stC,frC⟩:=zq;have IC':=IC.pinned (fpI frC) (T2.obj _ _ stC);refine qz (hg2 _ _ _ _ _ sC τA HC x2 u2 _ IC' rC (step2 x2 HC yC)) fun _ sD zq=>?_
      obtain⟨τD,HD,ID,N,hN,qD⟩:=zq;refine qz (he _ _ _ _ _ sD τD HD _ ID qD) fun v' sE zq=>?_
      obtain⟨y,HE,IE,rE,nE⟩:=zq;obtain⟨m2',hm2',wE⟩:=hN _ _ nE;have pinE:=IE.pin (s2.heap.objs.size,{cls:= .type "list",data:= .seq itsA.toArray kA}) (by simp [zJ])
      have pinO:∀p∈ZR fp s6.heap,sE.heap.get? p.1=some p.2/\HE p.1=none/\p.1≠Y.env.locals/\p.1∉Y.fs/\∀v,p.2.data≠ .cell v:=fun p hp=>
       IE.pin p (J1 _ (EL _ (JG _ hp)))
      have pin2:∀b∈fp2,∀o,sC.heap.get? b=some o->sE.heap.get? b=some o/\HE b=none:=fun b hb o e=>by
       have:=IE.pin (b,o) (J1 _ (J1 _ (Zr hb e)))
       exact⟨this.1,this.2.1⟩
      refine wpAny_list_append_plain (items:=itsA.toArray) ⟨kA,pinE.1⟩ (fun h' ha' hs'=>?_) (by have:=vlA.length;simp;lia)
      obtain⟨k',ha'⟩:=ha';have IF:F3 Y [] τD HE {sE with heap:=h'}:=by
       refine(IE.pins_of (pins':=[]) (by simp)).turned (t':=sE.toks) (it:=s2.heap.objs.size) (fun b o hb e=>(hs'.2 b hb).trans e) pinE.2.1 ?_ (.inr (Je _)) (fun x c e=>acccell x c e) (fun p hp=>absurd (show p∈([]:FY)from by simpa [Y,zJ]using hp) (by simp))
       exact hDC
      have ea:(itsA.toArray.push v')=(itsA++[v']).toArray:=by simp
      rw[ea]at ha';refine⟨m2',hm2',i2+1,zs++[y],τD,HE,itsA++[v'],k',IF.pins_of ?_,T2.keep _ _ _ stC fun b hb o e=>?_,fun b hb=>?_,vlA.append (.cons rE .nil),?_,wE⟩
      ·intro p hp
       rcases Jk.mp hp with z|z
       ·rw[z]
        exact⟨ha',pinE.2.1,hDC,accfs,fun v z=>by cases z⟩
       ·obtain⟨p1,p2⟩:=pinO p z
        exact⟨(hs'.2 p.1 (below p.1 (fplt p.1 (jf z).1)).2).trans p1,p2⟩
      ·refine(hs'.2 b fun z=>?_).trans (pin2 b hb o e).1
       exact(f9 b hb).2.2.2.2.2 (s2.heap.objs.size,{cls:= .type "list",data:= .seq its.toArray k}) (by simp [zJ]) z.symm
      ·obtain⟨o,e,_⟩:=T2.obj _ _ stC b hb
       exact(pin2 b hb o e).2
      ·rw[JC,Eo];lia
    exact lz L2 (T2.self _ 0 _ _ _ st9 L2)
  ·refine⟨0,[],σ0 own.length js σ,H2,[],0,I3.pins_of ?_,st3,fun b hb=>(f2 b hb).1,.nil,JB _,w0⟩
   intro p hp;rw[Jl.mp hp]
   exact⟨ha3,I2.hok.fresh (Je _),hDC,accfs,fun v z=>by cases z⟩
 have st1:tn 0 h₁:=T.keep _ _ _ st2 fun b _ o e=>old b o e
 exact codeAny_compStart_list (loop _ IY st1 hacc) (T.self _ 0 _ _ _ st1 (loop _ IY st1 hacc))
theorem vx{elt tg iter tg2 iter2:Expr}{scope:Scope}{cl:List (Str×Addr)}{pos:Pos}{fr own:List Str}{js:List Nat}{wi wi2:TI}{g g2:TG}{te:TE}
  (hc:X.calm=true)(hi:QI X tg iter wi)(hclos:closureFor scope X.env=pure cl)(hcl:∀y c,cl.lookup y=some c->X.env.cells.lookup y=some c)(hfr:cl.map (·.1)=fr)
  (S:GM X scope fr js)
  (hg:∀C s H fp,QG (zJ X (own++fr) scope cl C s H fp) tg g)(hi2:∀C s H fp,QI (zJ X (own++fr) scope cl C s H fp) tg2 iter2 wi2)(hg2:∀C s H fp,QG (zJ X (own++fr) scope cl C s H fp) tg2 g2)(he:∀C s H fp,QE (zJ X (own++fr) scope cl C s H fp) elt te)
  (hs:∀x,foldedSetIterable iter X.env x=pure x:=by intro _;rfl)(hs2:∀C x,foldedSetIterable iter2 (compEnvC scope cl C X.env) x=pure x:=by intro _ _;rfl):
  QE X (.ListComp elt [⟨tg,iter,[],0⟩,⟨tg2,iter2,[],0⟩] scope pos) (uz own.length js wi g wi2 g2 te):=by
 refine⟨fun tx s σ H Q I h=>?_⟩
 rw[eval_ListComp];refine ui (use:=none) hc hi.h hclos hcl hfr S (fun C s H fp=>(hg C s H fp).h) (fun C s H fp=>(hi2 C s H fp).h) (fun C s H fp=>(hg2 C s H fp).h) (fun C s H fp=>(he C s H fp).h) hs hs2 I h fun acc C s5 H' m I5 hn aw q=>?_
 exact⟨m,hn,fun h' hs'=>⟨.ref acc,H',I5.turned (t':=s5.toks) (fun b o hb e=>(hs'.2 b hb).trans e) aw.free aw.loc (.inr aw.new) aw.cell aw.pin,rfl,q⟩⟩
end L3
namespace S0
open PySem PySem.Spec PyProof.Rows
def nK(M x:Nat):Nat:=(x*5+1)%M
def br(M:Nat):Nat->Nat->Nat
 |0,x=>x
 |n+1,x=>br M n (nK M x)
theorem cu(M:Nat):∀(a b x:Nat),br M (a+b) x=br M b (br M a x)
 |0,b,x=>by rw[Nat.zero_add];rfl
 |a+1,b,x=>by rw[Nat.add_right_comm];exact cu M a b (nK M x)
def BP(M:Nat):Nat->Nat->List Nat
 |0,_=>[]
 |n+1,x=>x::BP M n (nK M x)
theorem uB(M:Nat):∀(n x j:Nat),j∈BP M n x->∃m,m<n/\br M m x=j
 |0,x,j,h=>nomatch h
 |n+1,x,j,h=>by
  rcases Jk.mp h with rfl|h
  ·exact⟨0,Nat.succ_pos _,rfl⟩
  ·obtain⟨m,hm,e⟩:=uB M n _ j h
   exact⟨m+1,by lia,e⟩
def xl(M:Nat):Bool:=(br M M 0==0)&&(List.range M).all fun j=>(BP M M 0).contains j
def Qf(M:Nat):Prop:=xl M=true
theorem tG:Qf 8:=by unfold Qf;decide +kernel
theorem yt:Qf 16:=by unfold Qf;decide +kernel
theorem yY:Qf 32:=by unfold Qf;decide +kernel
theorem yy:Qf 64:=by unfold Qf;decide +kernel
theorem wj:Qf 128:=by unfold Qf;decide +kernel
theorem wD:Qf 256:=by unfold Qf;decide +kernel
theorem vU{n:Nat}(h:n<256):Qf (SetTable.sizeAbove n)/\n<SetTable.sizeAbove n/\SetTable.sizeAbove n<=256:=by
 have key:∀n<256,(SetTable.sizeAbove n=8\/SetTable.sizeAbove n=16\/SetTable.sizeAbove n=32\/SetTable.sizeAbove n=64\/SetTable.sizeAbove n=128\/SetTable.sizeAbove n=256)/\n<SetTable.sizeAbove n:=by decide +kernel
 obtain⟨h1,h2⟩:=key n h;rcases h1 with e|e|e|e|e|e<;>(rw[e]at h2⊢;refine⟨?_,h2,by decide⟩)
 ·exact tG
 ·exact yt
 ·exact yY
 ·exact yy
 ·exact wj
 ·exact wD
theorem CY{M i j:Nat}(h:Qf M)(hi:i<M)(hj:j<M):∃m,m<M/\br M m i=j:=by
 unfold Qf xl at h;rw[Jx,J3,EF]at h;obtain⟨h0,h1⟩:=h;have get:∀x,x<M->∃m,m<M/\br M m 0=x:=fun x hx=>uB M M 0 x (by have:=h1 x (J4.mpr hx);simpa using this)
 obtain⟨a,ha,ea⟩:=get i hi;obtain⟨b,hb,eb⟩:=get j hj
 by_cases hab:a<=b
 ·refine⟨b-a,by lia,?_⟩
  rw[<- ea,<- cu,show a+(b-a)=b by lia,eb]
 ·refine⟨M-a+b,by lia,?_⟩
  rw[<- ea,<- cu,show a+(M-a+b)=M+b by lia,cu,h0,eb]
def ZE(mask:Nat):Nat->Nat×Nat->Nat×Nat
 |0,p=>p
 |n+1,p=>ZE mask n (SetTable.leap mask p.1 p.2)
theorem gw(mask:Nat):∀(a b:Nat) (p:Nat×Nat),ZE mask (a+b) p=ZE mask b (ZE mask a p)
 |0,b,p=>by rw[Nat.zero_add];rfl
 |a+1,b,p=>by rw[Nat.add_right_comm];exact gw mask a b _
theorem kP(mask:Nat):∀(n:Nat) (p:Nat×Nat),(ZE mask n p).2=p.2/32 ^ n
 |0,p=>by show p.2=_;rw[Nat.pow_zero,Nat.div_one]
 |n+1,p=>by
  show(ZE mask n (SetTable.leap mask p.1 p.2)).2=_
  rw[kP mask n]
  show p.2/32/32 ^ n=_
  rw[Nat.div_div_eq_div_mul,Nat.pow_succ,Nat.mul_comm]
theorem jB(mask:Nat):∀(n i p:Nat),p/32=0->(ZE mask n (i,p)).1=br (mask+1) n i
 |0,i,p,h=>rfl
 |n+1,i,p,h=>by
  have e:SetTable.leap mask i p=(nK (mask+1) i,0):=by
   unfold SetTable.leap nK;rw[h,Nat.add_zero]
  show(ZE mask n (SetTable.leap mask i p)).1=br (mask+1) n (nK (mask+1) i)
  rw[e];exact jB mask n _ 0 rfl
theorem AV(h:Int):SetTable.bits h<2 ^ 64:=by
 unfold SetTable.bits;have h1:=Ey h (show(0:Int)<2 ^ 64 by decide)
 have h2:=Ex h (show(2 ^ 64:Int)≠0 by decide)
 lia
theorem Cq{mask j:Nat}(hm:Qf (mask+1))(hj:j<=mask)(h:Int)(i:Nat):∃n,n<SetTable.turns mask/\(ZE mask n (i,SetTable.bits h)).1=j:=by
 have hb:=AV h;have e12:(ZE mask 12 (i,SetTable.bits h)).2/32=0:=by
  rw[kP]
  show SetTable.bits h/32 ^ 12/32=0
  rw[Nat.div_div_eq_div_mul];exact Nat.div_eq_of_lt (JK hb (by decide))
 have l12:(ZE mask 12 (i,SetTable.bits h)).1<mask+1:=by
  rw[show(12:Nat)=11+1 from rfl,gw mask 11 1]
  exact Nat.mod_lt _ (Nat.succ_pos _)
 obtain⟨m,hm1,hm2⟩:=CY hm l12 (Nat.lt_succ_of_le hj)
 refine⟨12+m,by unfold SetTable.turns;lia,?_⟩
 rw[gw];generalize ZE mask 12 (i,SetTable.bits h)=p at *
 obtain⟨a,b⟩:=p;rw[jB mask m a b e12];exact hm2
theorem jj{mask:Nat}{ow:Array (Option Nat)}:∀(fuel i p:Nat),SetTable.layClean.free mask ow fuel i p=none->∀n,n<fuel->(ow.getD (ZE mask n (i,p)).1 (some 0)).isNone=false
 |0,i,p,h,n,hn=>absurd hn (Nat.not_lt_zero _)
 |fuel+1,i,p,h,n,hn=>by
  unfold SetTable.layClean.free at h;split at h
  ·cases h
  ·rename_i hf
   cases n with
   |zero=>
    have:=List.find?_eq_none.mp hf 0 (J4.mpr (by unfold SetTable.runEnd;split<;>lia))
    exact ET.mpr this
   |succ n=>exact jj fuel _ _ h n (by lia)
theorem jF{mask:Nat}{ow:Array (Option Nat)}{j:Nat}:∀(fuel i p:Nat),SetTable.layClean.free mask ow fuel i p=some j->(ow.getD j (some 0)).isNone=true
 |0,i,p,h=>nomatch h
 |fuel+1,i,p,h=>by
  unfold SetTable.layClean.free at h;split at h
  ·rename_i k hf
   cases h
   have:=List.find?_some hf
   exact this
  ·exact jF fuel _ _ h
def OwOk(mask:Nat)(ow:Array (Option Nat))(k:Nat):Prop:=ow.size=mask+1/\(ow.toList.filterMap id).Perm (List.range k)
theorem mC:∀l:List (Option Nat),(∀x∈l,x.isNone=false)->(l.filterMap id).length=l.length
 | [],_=>rfl
 |x::l,h=>by
  have hx:=h x Jz;cases x with
  |none=>cases hx
  |some y=>
   rw[JP]
   show(y::l.filterMap id).length=_
   rw[JN,JN,mC l fun z hz=>h z (JG _ hz)]
theorem OwOk.step{mask k:Nat}{ow:Array (Option Nat)}(hm:Qf (mask+1))(o:OwOk mask ow k)(hk:k<=mask)(h:Int):
  ∃j,SetTable.layClean.free mask ow (SetTable.turns mask) (SetTable.bits h%(mask+1)) (SetTable.bits h)=some j/\OwOk mask (ow.setIfInBounds j (some k)) (k+1):=by
 obtain⟨hs,hp⟩:=o;cases e:SetTable.layClean.free mask ow (SetTable.turns mask) (SetTable.bits h%(mask+1)) (SetTable.bits h)with
 |none=>
  exfalso
  have all:∀x∈ow.toList,x.isNone=false:=fun x hx=>by
   obtain⟨j,hj,rfl⟩:=List.mem_iff_getElem.mp hx;have hj':j<ow.size:=by rw[<- Jp];exact hj
   obtain⟨n,hn,en⟩:=Cq hm (show j<=mask by lia) h (SetTable.bits h%(mask+1))
   have:=jj _ _ _ e n hn
   rw[en]at this
   simpa [Array.getD,hj']using this
  have h1:(ow.toList.filterMap id).length=ow.toList.length:=mC _ all
  have h2:(ow.toList.filterMap id).length=(List.range k).length:=hp.length_eq
  rw[List.length_range]at h2;rw[h2,Jp]at h1;lia
 |some j=>
  refine⟨j,rfl,by rw[Array.size_setIfInBounds];exact hs,?_⟩
  have hf:=jF _ _ _ e;have hj:j<ow.size:=by
   refine Nat.lt_of_not_le fun z=>?_
   rw[Array.getD,dif_neg (by lia)]at hf
   cases hf
  have hn:ow[j]=none:=by
   rw[Array.getD,dif_pos hj]at hf;exact Option.isNone_iff_eq_none.mp hf
  have hl:j<ow.toList.length:=by rw[Jp];exact hj
  have hn':ow.toList[j]=none:=by rw[Array.getElem_toList];exact hn
  rw[Array.toList_setIfInBounds];have e1:ow.toList=ow.toList.take j++none::ow.toList.drop (j+1):=by
   rw[<- hn',List.getElem_cons_drop,List.take_append_drop]
  have e2:ow.toList.set j (some k)=ow.toList.take j++some k::ow.toList.drop (j+1):=by rw[List.set_eq_take_append_cons_drop,Jc hl]
  rw[e2,List.filterMap_append,JP]
  show((ow.toList.take j).filterMap id++k::(ow.toList.drop (j+1)).filterMap id).Perm _
  rw[e1,List.filterMap_append,JP]at hp;have hp:((ow.toList.take j).filterMap id++(ow.toList.drop (j+1)).filterMap id).Perm (List.range k):=hp
  rw[List.range_succ];refine List.perm_middle.trans ?_
  exact(List.Perm.cons k hp).trans (List.perm_append_singleton k _).symm
theorem oE{mask:Nat}(hm:Qf (mask+1)):∀(hs:List Int) (ow:Array (Option Nat)) (k:Nat),OwOk mask ow k->k+hs.length<=mask+1->
  ∃ow',hs.foldl (fun(acc:Option (Array (Option Nat)×Nat)) (h:Int)=>do
   let(owner,k) <- acc
   let j <- SetTable.layClean.free mask owner (SetTable.turns mask) (SetTable.bits h%(mask+1)) (SetTable.bits h)
   pure (owner.setIfInBounds j (some k),k+1)) (some (ow,k))=some (ow',k+hs.length)/\OwOk mask ow' (k+hs.length)
 | [],ow,k,o,_=>⟨ow,rfl,o⟩
 |h::hs,ow,k,o,hl=>by
  rw[JN]at hl;obtain⟨j,ej,oj⟩:=o.step hm (by lia) h
  obtain⟨ow',e',o'⟩:=oE hm hs _ _ oj (by lia)
  refine⟨ow',?_,by rw[JN,show k+(hs.length+1)=k+1+hs.length by lia];exact o'⟩
  rw[List.foldl_cons,JN,show k+(hs.length+1)=k+1+hs.length by lia,<- e']
  congr 1
  show(do
   let j <- SetTable.layClean.free mask ow (SetTable.turns mask) (SetTable.bits h%(mask+1)) (SetTable.bits h)
   pure (ow.setIfInBounds j (some k),k+1))=some (ow.setIfInBounds j (some k),k+1)
  rw[ej];rfl
theorem m9(n:Nat):((List.replicate n (none:Option Nat)).filterMap id)=[]:=by
 induction n with
 |zero=>rfl
 |succ n ih=>rw[E2,JP];exact ih
theorem nj{mask:Nat}(hm:Qf (mask+1)){hs:Array Int}(hn:hs.size<=mask+1):∃ow,SetTable.layClean mask hs=some ow/\OwOk mask ow hs.size:=by
 have o0:OwOk mask (Array.replicate (mask+1) none) 0:=⟨Array.size_replicate,by rw[Array.toList_replicate,m9];exact List.Perm.refl _⟩
 obtain⟨ow,e,o⟩:=oE hm hs.toList _ 0 o0 (by rw[Jp];lia)
 rw[Nat.zero_add,Jp]at e o;refine⟨ow,?_,o⟩
 unfold SetTable.layClean;rw[<- Array.foldl_toList];exact J0 (Option.map (·.1)) e
theorem gu(f:Nat->Option Nat):∀l:List Nat,(l.filterMap fun j=>(f j).map (j,·)).map (·.2)=l.filterMap f
 | []=>rfl
 |j::l=>by
  rw[JP,JP];cases e:f j with
  |none=>simpa using gu f l
  |some k=>simpa using gu f l
theorem pL(ow:Array (Option Nat)):(List.range ow.size).filterMap (fun j=>ow.getD j none)=ow.toList.filterMap id:=by
 have e:(List.range ow.size).map (fun j=>ow.getD j none)=ow.toList:=by
  refine List.ext_getElem (by rw[Jf,List.length_range,Jp]) fun i h1 h2=>?_
  have hi:i<ow.size:=by rw[Jp]at h2;exact h2
  simp [Array.getD,hi]
 rw[<- e,List.filterMap_map];rfl
theorem ja{mask fg mv:Nat}{led plain:Bool}{hs:Array Int}(hm:Qf (mask+1))(hn:hs.size<=mask):
  ∃t o,SetTable.laid mask fg mv led plain hs=some (t,o)/\t.fits hs.size=true/\o.toList.Perm (List.range hs.size)/\Rs t.place/\t.dummies= #[]/\t.led=led/\t.plain=plain/\t.mask=mask:=by
 obtain⟨ow,e,hs1,hp⟩:=nj (hs:=hs) hm (by lia)
 have el:SetTable.laid mask fg mv led plain hs=some ({mask,place:=(((List.range (mask+1)).filterMap fun j=>(ow.getD j none).map (j,·)).map (·.1)).toArray,dummies:= #[],finger:=fg,led,moves:=mv,plain},(((List.range (mask+1)).filterMap fun j=>(ow.getD j none).map (j,·)).map (·.2)).toArray):=by
  unfold SetTable.laid;rw[e];rfl
 obtain⟨h1,h2,h3⟩:=nV el;have e2:((List.range (mask+1)).filterMap fun j=>(ow.getD j none).map (j,·)).map (·.2)=ow.toList.filterMap id:=by
  rw[gu,<- hs1];exact pL ow
 have len:((List.range (mask+1)).filterMap fun j=>(ow.getD j none).map (j,·)).length=hs.size:=by
  have:=J0 List.length e2
  rw[Jf,hp.length_eq,List.length_range]at this;exact this
 refine⟨_,_,el,?_,?_,h1,h2,h3,rfl,rfl⟩
 ·unfold SetTable.fits SetTable.fill
  dsimp only
  rw[Jr,Jf,len];simp [hn]
 ·dsimp only
  rw[e2];exact hp
theorem nv(a:Addr)(wanted:Nat):setRelay a wanted=(do
 let(es,_,t) <- setState a
 if SetTable.sizeAbove wanted>sizeLine then unsupported "set:memory"
 let(es,t) <- (do
  let some (t,order):=t.relaid (es.map (·.1)) wanted|unsupported "internal:set-table-without-room"
  let es':=order.filterMap (es[·]?)
  if es'.size != es.size then unsupported "internal:set-table-lost-an-element"
  pure (es',t):Sem (Array (Int×Value)×SetTable))
 storeSet a es t):=rfl
theorem fK(s o:Addr)(each:Sem Unit):setMerge s o each=(do
 if s==o then return
 let(eo,epoch,to) <- setState o
 if eo.isEmpty then return
 setRoomFor s eo.size
 let(_,_,ts) <- setState s
 match ts.road to with
 | .slotForSlot=>storeSet s eo {to with finger:=ts.finger,led:=ts.led&&to.led,moves:=ts.moves,plain:=ts.plain&&to.plain}
 | .clean=>
  let(es,t) <- (do
   let some (t,order):=SetTable.laid ts.mask ts.finger ts.moves (led:=ts.led&&to.led) (plain:=ts.plain&&to.plain) (eo.map (·.1))|unsupported "internal:set-table-without-room"
   let es':=order.filterMap (eo[·]?)
   if es'.size != eo.size then unsupported "internal:set-table-lost-an-element"
   pure (es',t):Sem (Array (Int×Value)×SetTable))
  storeSet s es t
 | .oneByOne=>
  for (h,x)in <- setWalkUnseen o [s] (some s) do
   let _ <- holding [x] (setAddHashed s x h)
   each
   if(<- setState o).2.1 != epoch then unsupported "set.changed-during-merge"):=rfl
theorem g7{α:Type}{es:Array α}{o:Array Nat}(h:o.toList.Perm (List.range es.size)):(o.filterMap (es[·]?)).toList.Perm es.toList:=by
 rw[Array.toList_filterMap];refine(h.filterMap _).trans ?_
 have e:(List.range es.size).filterMap (es[·]?)=es.toList:=by
  have e1:(List.range es.size).map (es[·]?)=es.toList.map some:=by
   refine List.ext_getElem (by simp) fun i h1 h2=>?_
   have hi:i<es.size:=by simpa using h2
   simp [hi]
  have:(List.range es.size).filterMap (es[·]?)=((List.range es.size).map (es[·]?)).filterMap id:=by rw[List.filterMap_map];rfl
  rw[this,e1,List.filterMap_map];exact List.filterMap_some
 rw[e]
section
variable{prog:Program}{w:World}{K:Type} [DecidableEq K]{knd:PySem.KeyKind prog w K}{kf:Value->K}
variable{A:Around}{E:FW}{s:Shared}
theorem nJ{a:Addr}{o:Obj}{es:Array (Int×Value)}{ep:Nat}{t:SetTable}{wn:Nat}{Q:Unit->Shared->Prop}(ho:s.heap.get? a=some o)(hd:o.data= .set es ep t)(hf:t.fits es.size=true)(hw:wn<256)(hn:es.size<=wn)
  (h:∀es' t',es'.toList.Perm es.toList->t'.fits es'.size=true->Rs t'.place->t'.dummies= #[]->t'.led=t.led->t'.plain=t.plain->Qf (t'.mask+1)->wn<=t'.mask->Q () {s with heap:=s.heap.update a (Obj.putSet es' t')}):
  wpAny (model prog w) A (setRelay a wn) Q E s:=by
 obtain⟨p1,p2,p3⟩:=vU hw;rw[nv];refine Ja (wpAny_setState_of ho hd hf ?_)
 dsimp only
 have hsl:¬SetTable.sizeAbove wn>sizeLine:=by rw[JH];lia
 rw[Jb hsl];have hm:SetTable.sizeAbove wn-1+1=SetTable.sizeAbove wn:=by lia
 obtain⟨t',or,el,q1,q2,q3,q4,q5,q6,q7⟩:=ja (mask:=SetTable.sizeAbove wn-1) (fg:=t.finger) (mv:=t.movedTo (SetTable.sizeAbove wn-1)) (led:=t.led) (plain:=t.plain) (hs:=es.map (·.1)) (by rw[hm];exact p1) (by rw[Array.size_map];lia)
 have el:t.relaid (es.map (·.1)) wn=some (t',or):=el
 rw[Array.size_map]at q1 q2;have hp:=g7 (es:=es) q2
 have hsz:(or.filterMap (es[·]?)).size=es.size:=by rw[<- Jp,hp.length_eq,Jp]
 have hbn:es.size<=sizeLine:=by rw[JH];lia
 refine Ja ?_
 rw[el]
 dsimp only
 rw[hsz];simp only[bne_self_eq_false,Bool.false_eq_true,JD];exact Jd (wpAny_storeSet_of ho hd (h _ _ hp (by rw[hsz];exact q1) q3 q4 q5 q6 (by rw[q7,hm];exact p1) (by rw[q7];lia)) (by rw[hsz];exact hbn))
def FrK(w:World)(h:Heap)(a:Addr)(n:Nat):Prop:=∃o ep t,h.get? a=some o/\o.ExactSet/\o.data= .set #[] ep t/\t.fits 0=true/\t.dummies= #[]/\Qf (t.mask+1)/\n<=t.mask/\TW w t
theorem FrK.k{h:Heap}{a:Addr}{n:Nat}(x:FrK w h a n):SetK knd kf h a []:=by
 obtain⟨o,ep,t,h1,h2,h3,h4,h5,h6,h7,h8⟩:=x
 exact⟨o,#[],ep,t,h1,h2,h3,h4,by decide,(fun e he=>nomatch he),List.Perm.refl _,h8⟩
theorem yn{a:Addr}{n:Nat}{Q:Unit->Shared->Prop}(hF:FrK w s.heap a 0)(hn:n<=100)(h:∀h',Heap.SameBut a s.heap h'->FrK w h' a n->Q () {s with heap:=h'}):wpAny (model prog w) A (setRoomFor a n) Q E s:=by
 obtain⟨o,ep,t,h1,h2,h3,h4,h5,h6,h7,h8⟩:=hF;unfold setRoomFor;refine Ja (wpAny_setState_of h1 h3 h4 ?_)
 dsimp only
 have hp0:t.place.size=0:=by
  unfold SetTable.fits at h4;rw[Jx,J3]at h4;exact h4.1
 have hfill:t.fill=0:=by unfold SetTable.fill;rw[hp0,h5];rfl
 unfold SetTable.roomFor;rw[hfill,hp0]
 by_cases c:(0+n)*5 ≥ t.mask*3
 ·rw[Jc c]
  dsimp only
  refine nJ h1 h3 h4 (by lia) (JB _) fun es' t' e1 e2 e3 e4 e5 e6 e7 e8=>?_
  have e0:es'= #[]:=by
   have:=e1.length_eq
   rw[Jp]at this;exact Array.eq_empty_of_size_eq_zero this
  subst e0;refine h _ (J6 s.heap a _) ⟨_,_,t',Zi h1 h3 #[] t',h2,rfl,e2,e4,e7,by lia,?_⟩
  rcases h8 with z|⟨z1,z2⟩
  ·exact .inl z
  ·exact .inr ⟨e5.trans z1,fun _=>e3⟩
 ·rw[Jb c]
  exact Jd (h s.heap (Heap.SameBut.refl a s.heap) ⟨o,ep,t,h1,h2,h3,h4,h5,h6,by lia,h8⟩)
theorem TW.both{t u:SetTable}{fg mv:Nat}(a:TW w t)(b:TW w u)(hp:u.dummies= #[]):TW w {u with finger:=fg,led:=t.led&&u.led,moves:=mv,plain:=t.plain&&u.plain}:=by
 rcases a with z|⟨z1,z2⟩
 ·exact .inl z
 ·rcases b with y|⟨y1,y2⟩
  ·exact .inl y
  ·refine .inr ⟨by show(t.led&&u.led)=true;rw[z1,y1];rfl,fun h=>?_⟩
   have h:(t.plain&&u.plain)=true:=h
   rw[Jx]at h;exact y2 h.2
theorem gt{a b:Addr}{kb:List K}{each:Sem Unit}{Q:Unit->Shared->Prop}(nab:a≠b)(hF:FrK w s.heap a 0)(hB:SetK knd kf s.heap b kb)(lb:kb.length<=100)
  (h:∀h',Heap.SameBut a s.heap h'->SetK knd kf h' a kb->(kb=[]->FrK w h' a 0)->Q () {s with heap:=h'}):wpAny (model prog w) A (setMerge a b each) Q E s:=by
 obtain⟨ob,eb,epb,tb,b1,b2,b3,b4,b5,b6,b7,b8⟩:=id hB;have esz:eb.size=kb.length:=by rw[<- b7.length_eq,Jf,Jp]
 rw[fK];have hne:(a==b)=false:=by rw[Eh];exact nab
 rw[hne];simp only[Bool.false_eq_true,JD];refine Ja (wpAny_setState_of b1 b3 b4 ?_)
 dsimp only
 by_cases c:eb.isEmpty=true
 ·rw[Jc c]
  have e0:kb=[]:=by
   rw[Array.isEmpty_iff_size_eq_zero,esz]at c;exact List.eq_nil_of_length_eq_zero c
  subst e0;exact Jd (h s.heap (Heap.SameBut.refl a s.heap) hF.k fun _=>hF)
 ·rw[Jb c]
  refine Ja (yn hF (by lia) fun h1 sb1 hF1=>?_)
  obtain⟨o,ep,t,q1,q2,q3,q4,q5,q6,q7,q8⟩:=id hF1;refine Ja (wpAny_setState_of (s:={s with heap:=h1}) q1 q3 q4 ?_)
  dsimp only
  have hp0:t.place.size=0:=by
   unfold SetTable.fits at q4;rw[Jx,J3]at q4;exact q4.1
  have hfill:t.fill=0:=by unfold SetTable.fill;rw[hp0,q5];rfl
  have kne:kb≠[]:=fun z=>c (by rw[Array.isEmpty_iff_size_eq_zero,esz,z];rfl)
  have hbs:eb.size<=sizeLine:=fits_of_scanBound b5
  have er:t.road tb=if t.mask==tb.mask&&tb.dummies.isEmpty then .slotForSlot else .clean:=by
   unfold SetTable.road;rw[hfill];rfl
  rw[er]
  by_cases c2:(t.mask==tb.mask&&tb.dummies.isEmpty)=true
  ·rw[Jc c2]
   rw[Jx,Array.isEmpty_iff]at c2;refine wpAny_storeSet_of (s:={s with heap:=h1}) q1 q3 ?_ hbs
   refine h _ (sb1.trans (J6 h1 a _)) ⟨_,eb,_,_,Zi q1 q3 eb _,q2,rfl,?_,b5,b6,b7,TW.both q8 b8 c2.2⟩ fun z=>absurd z kne
   exact b4
  ·rw[Jb c2]
   obtain⟨t',or,el,r1,r2,r3,r4,r5,r6,r7⟩:=ja (mask:=t.mask) (fg:=t.finger) (mv:=t.moves) (led:=t.led&&tb.led) (plain:=t.plain&&tb.plain) (hs:=eb.map (·.1)) q6 (by rw[Array.size_map];exact q7)
   rw[Array.size_map]at r1 r2;have hp:=g7 (es:=eb) r2
   have hsz:(or.filterMap (eb[·]?)).size=eb.size:=by rw[<- Jp,hp.length_eq,Jp]
   dsimp only
   refine Ja ?_
   rw[el]
   dsimp only
   rw[hsz];simp only[bne_self_eq_false,Bool.false_eq_true,JD];refine Jd (wpAny_storeSet_of (s:={s with heap:=h1}) q1 q3 ?_ (by rw[hsz];exact hbs))
   refine h _ (sb1.trans (J6 h1 a _)) ⟨_,_,_,t',Zi q1 q3 _ t',q2,rfl,by rw[hsz];exact r1,by rw[hsz];exact b5,b6.perm hp,(hp.map _).trans b7,?_⟩ fun z=>absurd z kne
   rcases q8 with z|⟨z1,z2⟩
   ·exact .inl z
   ·rcases b8 with y|⟨y1,y2⟩
    ·exact .inl y
    ·exact .inr ⟨by rw[r5,z1,y1];rfl,fun _=>r3⟩
end
section
variable{prog:Program}{w:World}{K:Type} [DecidableEq K]{knd:PySem.KeyKind prog w K}{kf:Value->K}
variable{A:Around}{E:FW}{s:Shared}
theorem BN{a:Addr}{n:Nat}{ks:List K}{Q:Unit->Shared->Prop}(hS:SetK knd kf s.heap a ks)(hn:ks.length+n<=100)(h:∀h',Heap.SameBut a s.heap h'->SetK knd kf h' a ks->Q () {s with heap:=h'}):wpAny (model prog w) A (setRoomFor a n) Q E s:=by
 obtain⟨o,es,ep,t,h1,h2,h3,h4,h5,h6,h7,h8⟩:=id hS;have esz:es.size=ks.length:=by rw[<- h7.length_eq,Jf,Jp]
 unfold setRoomFor;refine Ja (wpAny_setState_of h1 h3 h4 ?_)
 dsimp only
 have hp0:t.place.size=es.size:=by
  unfold SetTable.fits at h4;rw[Jx,J3]at h4;exact h4.1
 unfold SetTable.roomFor;rw[hp0]
 by_cases c:(t.fill+n)*5 ≥ t.mask*3
 ·rw[Jc c]
  dsimp only
  refine nJ h1 h3 h4 (by lia) (by lia) fun es' t' e1 e2 e3 e4 e5 e6 e7 e8=>?_
  have sz:es'.size=es.size:=by rw[<- Jp,e1.length_eq,Jp]
  refine h _ (J6 s.heap a _) ⟨_,es',_,t',Zi h1 h3 es' t',h2,rfl,e2,by rw[sz];exact h5,h6.perm e1,(e1.map _).trans h7,?_⟩
  rcases h8 with z|⟨z1,z2⟩
  ·exact .inl z
  ·exact .inr ⟨e5.trans z1,fun _=>e3⟩
 ·rw[Jb c]
  exact Jd (h s.heap (Heap.SameBut.refl a s.heap) hS)
theorem oH{a r:Addr}{o:Obj}{es:Array (Int×Value)}{ep:Nat}{t:SetTable}{kr:List K}{Q:Array (Int×Value)->Shared->Prop}(ho:s.heap.get? a=some o)(hex:o.ExactSet)(hd:o.data= .set es ep t)(hf:t.fits es.size=true)(hb:es.size<scanBound)(hel:ElemsOf knd es.toList)(tw:TW w t)
  (hR:SetK knd kf s.heap r kr)
  (h:∀arr h',arr.toList.Perm es.toList->Heap.SameBut r s.heap h'->SetK knd kf h' r kr->Q arr {s with heap:=h'}):wpAny (model prog w) A (setWalkUnseen a [r] (some r)) Q E s:=by
 have same:∀arr,arr.toList.Perm es.toList->Q arr s:=fun arr p=>h arr s.heap p (Heap.SameBut.refl r s.heap) hR
 have vE:(zt w||(t.led&&t.plain)||decide (es.size<=1))=true->wpAny (model prog w) A (setWalk a) Q E s:=fun c=>by
  rw[rM];refine Ja (wpAny_setState_of ho hd hf ?_)
  dsimp only
  refine Ja (QL ?_)
  cases hbt:zt w with
  |true=>
   rw[Jc rfl];exact Ja (wpAny_askSetting (Jd (same _ (i5 _ es))))
  |false=>
   rw[Jb (by decide)]
   rw[hbt]at c;have hl:t.led=true:=by
    rcases tw with z|⟨z1,_⟩
    ·rw[hbt]at z;cases z
    ·exact z1
   have hdr:(!t.plain&&decide (es.size>1))=false:=by
    rw[hl]at c;cases hp:t.plain with
    |true=>rfl
    |false=>rw[hp]at c;simp at c;simp;lia
   rw[hdr];simp only[Bool.false_eq_true,JD,hl,Bool.not_true,DU];exact Ja (Jd (Jd (same _ (List.Perm.refl _))))
 unfold setWalkUnseen;refine Ja (wpAny_setState_of ho hd hf ?_)
 dsimp only
 refine Ja (QL ?_)
 by_cases c:(zt w||(t.led&&t.plain)||decide (es.size<=1))=true
 ·rw[Jc c]
  exact vE c
 ·rw[Jb c]
  have hbt:zt w=false:=by
   cases e:zt w with
   |true=>rw[e]at c;simp at c
   |false=>rfl
  have hl:t.led=true:=by
   rcases tw with z|⟨z1,_⟩
   ·rw[hbt]at z;cases z
   ·exact z1
  refine Ja (yU (knd:=knd) (kf:=kf) (fun x hx=>?_) ?_)
  ·simp only[Jk,Js,Jt]at hx
   rcases hx with rfl|rfl
   ·exact⟨_,o,es,ep,t,ho,hex,hd,hf,hb,hel,List.Perm.refl _,tw⟩
   ·exact⟨_,hR⟩
  ·simp only[Bool.not_true,Bool.false_eq_true,JD]
   refine Ja (DV ?_)
   obtain⟨o2,es2,ep2,t2,ho2,hex2,hd2,hf2,hb2,hel2,hpm2,tw2⟩:=hR;refine Ja (wpAny_setState_of ho2 hd2 hf2 ?_)
   dsimp only
   by_cases c2:((t2.led&& !t.led)||(t2.plain&& !t.plain))=true
   ·rw[Jc c2]
    refine Ja (wpAny_storeSet_of ho2 hd2 (Jd ?_) (fits_of_scanBound hb2))
    refine h _ _ (List.Perm.refl _) (J6 s.heap r _) ⟨_,es2,_,_,Zi ho2 hd2 es2 _,hex2,rfl,hf2,hb2,hel2,hpm2,?_⟩
    rcases tw2 with z|⟨z1,z2⟩
    ·exact .inl z
    ·refine .inr ⟨by show(t2.led&&t.led)=true;rw[z1,hl];rfl,fun z=>?_⟩
     have z:(t2.plain&&t.plain)=true:=z
     rw[Jx]at z;exact z2 z.1
   ·rw[Jb c2]
    exact Jd (same _ (List.Perm.refl _))
theorem wc(hkf:∀k v,knd.is k v=true->kf v=k){a b:Addr}(nab:b≠a){o:Obj}{es:Array (Int×Value)}{ep:Nat}{t:SetTable}{ka:List K}{each:Sem Unit}{Q:PUnit->Shared->Prop}(hd:o.data= .set es ep t)(hf:t.fits es.size=true)(arr:Array (Int×Value))(harr:ElemsOf knd arr.toList)(hn:ka.length+arr.size+1<scanBound)
  (heach:∀(s':Shared) (Q':Unit->Shared->Prop),s'.heap.get? b=some o->Q' () s'->wpAny (model prog w) A each Q' E s')
  (ho:s.heap.get? b=some o)(hS:SetK knd kf s.heap a ka)(nd:ka.Nodup)
  (h:∀h' ks,Heap.SameBut a s.heap h'->SetK knd kf h' a ks->ks.Nodup->(∀k,k∈ks↔k∈ka\/k∈(arr.toList.map fun e=>kf e.2))->Q ⟨⟩ {s with heap:=h'}):
  wpAny (model prog w) A (forIn arr PUnit.unit fun x _=>do
   let _ <- holding [x.2] (setAddHashed a x.2 x.1)
   each
   if(<- setState b).2.1 != ep then do
    unsupported "set.changed-during-merge"
    pure (ForInStep.yield PUnit.unit)
   else pure (ForInStep.yield PUnit.unit)) Q E s:=by
 obtain⟨hp,g,dr,tk,os⟩:=s;refine PySem.MeetsSeq2.wpAny_forIn_array _ (fun rest _ s'=>∃h' done ks,s'=⟨h',g,dr,tk,os⟩/\arr.toList=done++rest/\Heap.SameBut a hp h'/\SetK knd kf h' a ks/\ks.Nodup/\(∀k,k∈ks↔k∈ka\/k∈(done.map fun e=>kf e.2))/\ks.length<=ka.length+done.length) _ ?_ ?_ arr _ ⟨hp,[],ka,rfl,rfl,Heap.SameBut.refl a hp,hS,nd,fun k=>by simp,Je _⟩
 ·rintro⟨hh,x⟩ rest _ s' ⟨h',done,ks,rfl,e,sb,hR',nd,mem,len⟩
  have hx:(hh,x)∈arr.toList:=by rw[e];exact J1 _ Jz
  obtain⟨⟨k,hk,hhash⟩,hsc⟩:=harr _ hx
  dsimp only at hk hhash hsc⊢
  subst hhash;have hdl:done.length+1<=arr.size:=by
   have:=J0 List.length e
   rw[Jp,JC,JN]at this;lia
  have kx:kf x=k:=hkf k x hk
  refine Ja (JL (pV (s:=⟨h',g,dr,tk,os⟩) hkf hk hsc hR' (by lia) fun h2 sb2 hR2=>?_))
  have ho2:h2.get? b=some o:=by rw[sb2.2 b nab,sb.2 b nab];exact ho
  refine Ja (heach _ _ ho2 (Ja (wpAny_setState_of (s:=⟨h2,g,dr,tk,os⟩) ho2 hd hf ?_)))
  simp only[bne_self_eq_false,Bool.false_eq_true,JD];refine Jd ⟨h2,done++[(knd.hash k,x)],_,rfl,by rw[e,El];rfl,sb.trans sb2,hR2,?_,fun k'=>?_,?_⟩
  ·split
   ·exact nd
   ·rename_i hnk
    rw[E9]
    exact⟨nd,by simp,fun x1 hx1 y1 hy1 e1=>hnk (by rw[Jl.mp hy1]at e1;rw[<- e1];exact hx1)⟩
  ·rw[JU,JW]
   show _↔_\/_\/k'∈[kf x]
   rw[kx,Jl];split
   ·rename_i hik
    rw[mem];constructor
    ·rintro(h1|h1)
     ·exact .inl h1
     ·exact .inr (.inl h1)
    ·rintro(h1|h1|rfl)
     ·exact .inl h1
     ·exact .inr h1
     ·exact(mem k').mp hik
   ·rw[JW,mem,Jl,or_assoc]
  ·rw[JC,Eo]
   split
   ·lia
   ·rw[JC,Eo];lia
 ·rintro _ s' ⟨h',done,ks,rfl,e,sb,hR',nd,mem,len⟩
  rw[D7]at e;refine h h' ks sb hR' nd (by rw[e];exact mem)
theorem yp(hkf:∀k v,knd.is k v=true->kf v=k){a b:Addr}{ka kb:List K}{each:Sem Unit}{Q:Unit->Shared->Prop}(nab:a≠b)(hA:SetK knd kf s.heap a ka)(hB:SetK knd kf s.heap b kb)(ne:ka≠[])(nd:ka.Nodup)(la:ka.length+kb.length<=100)
  (heach:∀(s':Shared) (Q':Unit->Shared->Prop),(∀o,s.heap.get? b=some o->s'.heap.get? b=some o)->Q' () s'->wpAny (model prog w) A each Q' E s')
  (h:∀h' ks,Heap.SameBut a s.heap h'->SetK knd kf h' a ks->ks.Nodup->(∀k,k∈ks↔k∈ka\/k∈kb)->Q () {s with heap:=h'}):wpAny (model prog w) A (setMerge a b each) Q E s:=by
 obtain⟨ob,eb,epb,tb,b1,b2,b3,b4,b5,b6,b7,b8⟩:=id hB;have esz:eb.size=kb.length:=by rw[<- b7.length_eq,Jf,Jp]
 rw[fK];have hne:(a==b)=false:=by rw[Eh];exact nab
 rw[hne];simp only[Bool.false_eq_true,JD];refine Ja (wpAny_setState_of b1 b3 b4 ?_)
 dsimp only
 by_cases c:eb.isEmpty=true
 ·rw[Jc c]
  have e0:kb=[]:=by
   rw[Array.isEmpty_iff_size_eq_zero,esz]at c;exact List.eq_nil_of_length_eq_zero c
  subst e0;exact Jd (h s.heap ka (Heap.SameBut.refl a s.heap) hA nd fun k=>by simp)
 ·rw[Jb c]
  refine Ja (BN hA (by lia) fun h1 sb1 hA1=>?_)
  obtain⟨o,ea,ep,t,q1,q2,q3,q4,q5,q6,q7,q8⟩:=id hA1;refine Ja (wpAny_setState_of (s:={s with heap:=h1}) q1 q3 q4 ?_)
  dsimp only
  have hp0:t.place.size=ea.size:=by
   unfold SetTable.fits at q4;rw[Jx,J3]at q4;exact q4.1
  have hea:ea.size=ka.length:=by rw[<- q7.length_eq,Jf,Jp]
  have hka:ka.length≠0:=fun z=>ne (List.eq_nil_of_length_eq_zero z)
  have er:t.road tb= .oneByOne:=by
   unfold SetTable.road SetTable.fill;rw[Jc];rw[bne_iff_ne];lia
  rw[er]
  dsimp only
  have ho1:h1.get? b=some ob:=by rw[sb1.2 b nab.symm];exact b1
  refine Ja (oH (s:={s with heap:=h1}) (a:=b) (r:=a) ho1 b2 b3 b4 b5 b6 b8 hA1 fun arr h2 hp sb2 hA2=>?_)
  have asz:arr.size=eb.size:=by rw[<- Jp,hp.length_eq,Jp]
  have ho2:h2.get? b=some ob:=by rw[sb2.2 b nab.symm];exact ho1
  have e4:scanBound=4096:=rfl
  refine Ja (wc (s:={s with heap:=h2}) hkf nab.symm b3 b4 arr (b6.perm hp) (by lia) (fun s' Q' z hq=>heach s' Q' (fun o z2=>?_) hq) ho2 hA2 nd fun h3 ks sb3 hA3 nd3 mem3=>Jd ?_)
  ·rw[b1]at z2;cases z2;exact z
  ·refine h h3 ks ((sb1.trans sb2).trans sb3) hA3 nd3 fun k=>?_
   rw[mem3,(hp.map fun e=>kf e.2).mem_iff,b7.mem_iff]
theorem ly:entryFor table "set.__or__"=some Builtin.«frozenset.__or__»:=
 entryFor_alias (id':="frozenset.__or__") (by kernel_rfl) rfl (by decide +kernel) (by kernel_rfl)
theorem C3(x y:Value):Builtin.«frozenset.__or__» ⟨[x,y],[]⟩=(do
 if !(<- Builtin.Frozenset.isAnySet x <&&> Builtin.Frozenset.isAnySet y)then
  rule s!"frozenset.{"__or__"}.declined"
  return <- ret .notImplemented
 ret (<- (fun(id:String) (l:Addr) (r:Value)=>(do
  let result <- Builtin.Frozenset.copyOf l
  if r != .ref l then holding [result] (Builtin.Frozenset.updateFrom id (<- Builtin.Frozenset.addrOf result) r)
  return result:Sem Value)) s!"frozenset.{"__or__"}" (<- Builtin.Frozenset.addrOf x) y)):=rfl
theorem sH{h:Heap}{a:Addr}(ha:h.get? a=some (Qj (!zt w))):FrK w h a 0:=by
 refine⟨_,0,_,ha,⟨rfl,rfl,rfl⟩,rfl,rfl,rfl,tG,JB _,?_⟩
 cases hb:zt w with
 |true=>exact .inl hb
 |false=>exact .inr ⟨rfl,fun _=>List.Pairwise.nil⟩
theorem Dm(hkf:∀k v,knd.is k v=true->kf v=k){a b:Addr}{ka kb:List K}{Q:FW}(nab:a≠b)(hA:SetK knd kf s.heap a ka)(hB:SetK knd kf s.heap b kb)(na:ka.Nodup)(nb:kb.Nodup)(la:ka.length+kb.length<=100)
  (h:∀h' ks,(∀c o,s.heap.get? c=some o->h'.get? c=some o)->SetK knd kf h' s.heap.objs.size ks->ks.Nodup->(∀k,k∈ks↔k∈ka\/k∈kb)->Q (.ref s.heap.objs.size) {s with heap:=h'}):
  wpAny (model prog w) A (binaryOp .BitOr (.ref a) (.ref b)) Q E s:=by
 have hTa:=hA.type (h:=s.heap)
 have hTb:=hB.type (h:=s.heap)
 refine wpAny_binaryOp_same (op:= .BitOr) (T:="set") hTa hTb PySem.F.fills_set_or PySem.F.slot_set_or (JT PySem.F.slot_set_or hTa ly ?_ (PySem.F.args_set_or_2 _ _))
 rw[C3];refine Ja (Ja (ZD hTa ?_))
 show wpAny _ _ (Builtin.Frozenset.isAnySet (Value.ref b)) _ _ _
 refine ZD hTb ?_
 simp only[Bool.not_true,Bool.false_eq_true,JD];refine Ja (Jd (Ja ?_))
 unfold Builtin.Frozenset.copyOf Builtin.Frozenset.baseOf;refine Ja (Ja (Ja (Et hTa sub_set_self (Jd ?_))))
 rw[Jc rfl];refine Ja (mH ?_)
 refine Ja (Jd ?_)
 have hr:(s.heap.push (Qj (!zt w))).get? s.heap.objs.size=some (Qj (!zt w)):=Jo _ rfl
 have old:∀c o,s.heap.get? c=some o->(s.heap.push (Qj (!zt w))).get? c=some o:=fun c o e=>Ji _ e
 have hA1:SetK knd kf (s.heap.push (Qj (!zt w))) a ka:=hA.at (old a)
 have hB1:SetK knd kf (s.heap.push (Qj (!zt w))) b kb:=hB.at (old b)
 have lta:=hA.lt;have ltb:=hB.lt;have na':s.heap.objs.size≠a:=(Jm lta).symm
 have nb':s.heap.objs.size≠b:=(Jm ltb).symm
 refine Ja (gt (s:={s with heap:=s.heap.push (Qj (!zt w))}) na' (sH hr) hA1 (by lia) fun h1 sb1 hR1 hfr=>Jd ?_)
 have hne:((Value.ref b:Value) != Value.ref a)=true:=by
  rw[bne_iff_ne];intro e;cases e;exact nab rfl
 rw[Jc hne];have hB2:SetK knd kf h1 b kb:=hB1.at fun o1 e1=>by rw[sb1.2 b nb'.symm];exact e1
 have hTb2:Shared.TypeIs {s with heap:=h1} (.ref b) "set":=hB2.type (s:={s with heap:=h1}) (h:=s.heap)
 refine Ja (Jd (Ja (JL ?_)))
 unfold Builtin.Frozenset.updateFrom;refine Ja (ZD hTb2 ?_)
 rw[Jc rfl];refine Ja (Ja (Jd (Jd ?_)))
 unfold Builtin.Frozenset.merge;obtain⟨ob,eb,epb,tb,b1,b2,b3,b4,_⟩:=id hB2;refine Ja (wpAny_setEpoch_of (s:={s with heap:=h1}) b1 b3 b4 ?_)
 have fin:∀h2 ks,Heap.SameBut s.heap.objs.size h1 h2->SetK knd kf h2 s.heap.objs.size ks->ks.Nodup->(∀k,k∈ks↔k∈ka\/k∈kb)->Q (.ref s.heap.objs.size) {s with heap:=h2}:=fun h2 ks sb2 hk nd mem=>by
  refine h h2 ks (fun c o e=>?_) hk nd mem
  have nc:c≠s.heap.objs.size:=Jm (Jh e)
  rw[sb2.2 c nc,sb1.2 c nc];exact old c o e
 by_cases ce:ka=[]
 ·subst ce
  refine gt (s:={s with heap:=h1}) nb' (hfr rfl) hB2 (by lia) fun h2 sb2 hR2 _=>?_
  exact Jd (Jd ⟨_,rfl,(fun e=>nomatch e),fin h2 kb sb2 hR2 nb fun k=>by simp⟩)
 ·refine yp (s:={s with heap:=h1}) hkf nb' hR1 hB2 ce na la (fun s' Q' z hq=>?_) fun h2 ks sb2 hR2 nd mem=>?_
  ·unfold Builtin.Frozenset.unchanged
   refine Ja (wpAny_setEpoch_of (s:=s') (z _ b1) b3 b4 ?_)
   simp only[bne_self_eq_false,Bool.false_eq_true,JD];exact Jd hq
  ·exact Jd (Jd ⟨_,rfl,(fun e=>nomatch e),fin h2 ks sb2 hR2 nd mem⟩)
end
theorem cz{α:Type}(xs:Array α)(i:Nat):(SetTable.eraseAt xs i).toList=xs.toList.eraseIdx i:=by
 unfold SetTable.eraseAt;rw[Array.toList_append,Array.toList_extract,Array.toList_extract,List.eraseIdx_eq_take_drop_succ];congr 1
 simp
 exact List.take_of_length_le (by simp)
theorem nn{α:Type}{l:List α}{j:Nat}(hj:j<l.length):(l[j]::l.eraseIdx j).Perm l:=by
 rw[List.eraseIdx_eq_take_drop_succ];refine List.perm_middle.symm.trans ?_
 rw[List.getElem_cons_drop,List.take_append_drop]
theorem Rs.erase{xs:Array Nat}(h:Rs xs)(i:Nat):Rs (SetTable.eraseAt xs i):=by
 unfold Rs;rw[cz];exact List.Pairwise.sublist (List.eraseIdx_sublist _ _) h
theorem Ao{t:SetTable}{n i:Nat}(hf:t.fits n=true)(hi:i<n):(t.drop i).fits (n-1)=true/\(TOk t->TOk (t.drop i))/\(t.drop i).led=t.led:=by
 unfold SetTable.fits at hf;rw[Jx,J3,decide_eq_true_eq]at hf;have hp:i<t.place.size:=by lia
 have e:t.place[i]? =some t.place[i]:=getElem?_pos t.place i hp
 unfold SetTable.drop;rw[e]
 dsimp only
 have s1:(SetTable.eraseAt t.place i).size=n-1:=by rw[<- Jp,cz,List.length_eraseIdx_of_lt (by rw[Jp];exact hp),Jp];lia
 have s2:(SetTable.insertAt t.dummies (SetTable.below t.dummies t.place[i]) t.place[i]).size=t.dummies.size+1:=by
  rw[<- Jp,SetTable.toList_insertAt,JC,JN,DW,Fu,Jp];lia
 refine⟨?_,fun h hpl=>(h hpl).erase i,rfl⟩
 unfold SetTable.fits SetTable.fill
 dsimp only
 rw[s1,s2];unfold SetTable.fill at hf;rw[Jx,J3,decide_eq_true_eq]
 exact⟨rfl,by lia⟩
section
variable{prog:Program}{w:World}{K:Type} [DecidableEq K]{knd:PySem.KeyKind prog w K}{kf:Value->K}
variable{A:Around}{E:FW}{s:Shared}
theorem sX(hkf:∀k v,knd.is k v=true->kf v=k){a:Addr}{ks:List K}{k:K}{x:Value}{Q:Bool->Shared->Prop}(hkey:knd.is k x=true)(hsc:x.scannable=true)
  (hS:SetK knd kf s.heap a ks)
  (h:∀h',Heap.SameBut a s.heap h'->SetK knd kf h' a (ks.erase k)->Q (decide (k∈ks)) {s with heap:=h'}):
  wpAny (model prog w) A (setDiscardHashed a x (knd.hash k)) Q E s:=by
 obtain⟨o,es,ep,t,ho,hex,hd,hf,hb,hel,hpm,htw⟩:=id hS;have hmem:k∈ks↔∃e∈es.toList,knd.is k e.2=true:=by rw[<- hpm.mem_iff];exact lM hkf hel k
 unfold setDiscardHashed setFind setFindIn;refine Ja (Ja (wpAny_setState_of ho hd hf ?_))
 dsimp only
 rw[byScan_of hsc hb hel];simp only[↓reduceIte];refine Ja (DV (Ja (wpAny_setScan_of hkey ho hd hf hel ?_)))
 cases hr:List.findIdx? (fun e=>knd.is k e.2) es.toList with
 |none=>
  have hk:k∉ks:=fun z=>by
   obtain⟨e,he,hp⟩:=hmem.mp z
   have:=List.findIdx?_eq_none_iff.mp hr e he
   rw[hp]at this;cases this
  dsimp only
  refine Jd (Jd ?_)
  have:=h s.heap (Heap.SameBut.refl a s.heap) (by rw[List.erase_of_not_mem hk];exact hS)
  rw[Jn hk]at this;exact this
 |some j=>
  obtain⟨hj,hpj,_⟩:=List.findIdx?_eq_some_iff_getElem.mp hr
  have hk:k∈ks:=hmem.mpr ⟨es.toList[j],Er hj,hpj⟩
  have hj':j<es.size:=by rw[<- Jp];exact hj
  dsimp only
  refine Jd ?_
  dsimp only
  rw[Nat.zero_add];refine Ja (wpAny_setState_of ho hd hf ?_)
  dsimp only
  obtain⟨d1,d2,d3⟩:=Ao hf hj';have el:=cz es j;have sz:(SetTable.eraseAt es j).size=es.size-1:=by rw[<- Jp,el,List.length_eraseIdx_of_lt hj,Jp]
  have hb':(SetTable.eraseAt es j).size<scanBound:=by lia
  refine Ja (wpAny_storeSet_of ho hd (Ja (wpAny_point (Jd ?_))) (fits_of_scanBound hb'))
  have hp:(es.toList[j]::es.toList.eraseIdx j).Perm es.toList:=nn hj
  have hkj:kf es.toList[j].2=k:=hkf k _ hpj
  have:=h _ (J6 s.heap a (Obj.putSet (SetTable.eraseAt es j) (t.drop j))) ⟨_,_,_,_,Zi ho hd _ _,hex,rfl,by rw[sz];exact d1,hb',?_,?_,?_⟩
  ·rw[Jg hk]at this;exact this
  ·intro e he
   rw[el]at he;exact hel e ((List.eraseIdx_sublist _ _).subset he)
  ·rw[el]
   have hq:=(hp.map fun e=>kf e.2).trans hpm
   rw[JR,hkj]at hq
   exact(List.cons_perm_iff_perm_erase.mp hq).2
  ·rcases htw with z|⟨z1,z2⟩
   ·exact .inl z
   ·exact .inr ⟨d3.trans z1,d2 z2⟩
theorem sV(hkf:∀k v,knd.is k v=true->kf v=k){a b:Addr}(id:String)(nab:b≠a){o:Obj}{es:Array (Int×Value)}{ep:Nat}{t:SetTable}{ka:List K}{Q:PUnit->Shared->Prop}(hd:o.data= .set es ep t)(hf:t.fits es.size=true)(arr:Array (Int×Value))(harr:ElemsOf knd arr.toList)(ndr:(arr.toList.map fun e=>kf e.2).Nodup)(hn:ka.length+arr.size+1<scanBound)
  (ho:s.heap.get? b=some o)(hS:SetK knd kf s.heap a ka)(nd:ka.Nodup)
  (h:∀h' ks,Heap.SameBut a s.heap h'->SetK knd kf h' a ks->ks.Nodup->ks.length<=ka.length+arr.size->(∀k,k∈ks↔¬(k∈ka↔k∈(arr.toList.map fun e=>kf e.2)))->Q ⟨⟩ {s with heap:=h'}):
  wpAny (model prog w) A (forIn arr PUnit.unit fun x _=>do
   holding [x.2] (do
    let d <- setDiscardHashed a x.2 x.1
    if(!d)=true then do
     let _ <- setAddHashed a x.2 x.1
     pure PUnit.unit
    else pure PUnit.unit)
   Builtin.Frozenset.unchanged id b ep
   pure (ForInStep.yield PUnit.unit)) Q E s:=by
 obtain⟨hp,g,dr,tk,os⟩:=s;refine PySem.MeetsSeq2.wpAny_forIn_array _ (fun rest _ s'=>∃h' done ks,s'=⟨h',g,dr,tk,os⟩/\arr.toList=done++rest/\Heap.SameBut a hp h'/\SetK knd kf h' a ks/\ks.Nodup/\(∀k,k∈ks↔¬(k∈ka↔k∈(done.map fun e=>kf e.2)))/\ks.length<=ka.length+done.length) _ ?_ ?_ arr _ ⟨hp,[],ka,rfl,rfl,Heap.SameBut.refl a hp,hS,nd,fun k=>by simp,Je _⟩
 ·rintro⟨hh,x⟩ rest _ s' ⟨h',done,ks,rfl,e,sb,hR',nd,mem,len⟩
  have hx:(hh,x)∈arr.toList:=by rw[e];exact J1 _ Jz
  obtain⟨⟨k,hk,hhash⟩,hsc⟩:=harr _ hx
  dsimp only at hk hhash hsc⊢
  subst hhash;have kx:kf x=k:=hkf k x hk
  have hdl:done.length+1<=arr.size:=by
   have:=J0 List.length e
   rw[Jp,JC,JN]at this;lia
  have knew:k∉(done.map fun e=>kf e.2):=fun z=>by
   rw[e,JU,E9]at ndr;exact ndr.2.2 k z k (by rw[JR];show k∈kf x::_;rw[kx];exact Jz) rfl
  have mk:k∈ks↔k∈ka:=by
   rw[mem k];constructor
   ·intro z
    refine Decidable.byContradiction fun y=>z ⟨fun u=>absurd u y,fun u=>absurd u knew⟩
   ·intro z y
    exact knew (y.mp z)
  have fin:∀h2 ks2,Heap.SameBut a h' h2->SetK knd kf h2 a ks2->ks2.Nodup->(∀k',k'∈ks2↔(if k'=k then k∉ks else k'∈ks))->ks2.length<=ks.length+1->∀(Z:Shared->Prop),(∀s',(∃h' done ks,s'=(⟨h',g,dr,tk,os⟩:Shared)/\arr.toList=done++rest/\Heap.SameBut a hp h'/\SetK knd kf h' a ks/\ks.Nodup/\(∀k,k∈ks↔¬(k∈ka↔k∈(done.map fun e=>kf e.2)))/\ks.length<=ka.length+done.length)->Z s')->wpAny (model prog w) A (do
    Builtin.Frozenset.unchanged id b ep
    pure (ForInStep.yield PUnit.unit)) (fun rr s'=>match rr with| .yield _=>Z s'| .done b'=>Q b' s') E ⟨h2,g,dr,tk,os⟩:=by
   intro h2 ks2 sb2 hR2 nd2 mem2 len2 Z hZ;unfold Builtin.Frozenset.unchanged;have ho2:h2.get? b=some o:=by rw[sb2.2 b nab,sb.2 b nab];exact ho
   refine Ja (Ja (wpAny_setEpoch_of (s:=⟨h2,g,dr,tk,os⟩) ho2 hd hf ?_))
   simp only[bne_self_eq_false,Bool.false_eq_true,JD];refine Jd (Jd (hZ _ ⟨h2,done++[(knd.hash k,x)],ks2,rfl,by rw[e,El];rfl,sb.trans sb2,hR2,nd2,fun k'=>?_,by rw[JC,Eo];lia⟩))
   rw[mem2,JU,JW]
   show _↔¬(_↔_\/k'∈[kf x])
   rw[kx,Jl]
   by_cases c:k'=k
   ·subst c
    rw[Jc rfl,mk];constructor
    ·intro z y;exact z (y.mpr (.inr rfl))
    ·intro z y;exact z ⟨fun _=> .inr rfl,fun _=>y⟩
   ·rw[Jb c,mem k']
    simp only[c,Jt]
  refine Ja (JL (Ja (sX (s:=⟨h',g,dr,tk,os⟩) hkf hk hsc hR' fun h2 sb2 hR2=>?_)))
  by_cases hm:k∈ks
  ·rw[Jg hm,Jb (by decide)]
   refine Jd ?_
   refine JF (fin h2 _ sb2 hR2 (nd.erase k) (fun k'=>?_) (JM (List.length_erase_le ..) (Eb _)) _ fun s' z=>z) (fun rr s' z=>by cases rr<;>exact z) fun _ _ z=>z
   by_cases c:k'=k
   ·subst c
    rw[Jc rfl]
    exact⟨fun z=>absurd z (List.Nodup.not_mem_erase nd),fun z=>absurd hm z⟩
   ·rw[Jb c];exact List.mem_erase_of_ne c
  ·rw[Jn hm,Jc (show(!false)=true from rfl)]
   rw[List.erase_of_not_mem hm]at hR2;refine Ja (pV (s:=⟨h2,g,dr,tk,os⟩) hkf hk hsc hR2 (by lia) fun h3 sb3 hR3=>Jd ?_)
   rw[Jb hm]at hR3;refine JF (fin h3 _ (sb2.trans sb3) hR3 ?_ (fun k'=>?_) (by rw[JC];exact Je _) _ fun s' z=>z) (fun rr s' z=>by cases rr<;>exact z) fun _ _ z=>z
   ·rw[E9]
    exact⟨nd,by simp,fun x1 hx1 y1 hy1 e1=>hm (by rw[Jl.mp hy1]at e1;rw[<- e1];exact hx1)⟩
   ·rw[JW,Jl]
    by_cases c:k'=k
    ·rw[Jc c];exact⟨fun _=>hm,fun _=> .inr c⟩
    ·rw[Jb c];exact⟨fun z=>z.resolve_right c,.inl⟩
 ·rintro _ s' ⟨h',done,ks,rfl,e,sb,hR',nd,mem,len⟩
  rw[D7]at e;refine h h' ks sb hR' nd (by rw[<- Jp,e];exact len) (by rw[e];exact mem)
theorem jI:entryFor table "set.__xor__"=some Builtin.«frozenset.__xor__»:=
 entryFor_alias (id':="frozenset.__xor__") (by kernel_rfl) rfl (by decide +kernel) (by kernel_rfl)
theorem BO(x y:Value):Builtin.«frozenset.__xor__» ⟨[x,y],[]⟩=(do
 if !(<- Builtin.Frozenset.isAnySet x <&&> Builtin.Frozenset.isAnySet y)then
  rule s!"frozenset.{"__xor__"}.declined"
  return <- ret .notImplemented
 ret (<- (fun(id:String) (l:Addr) (r:Value)=>(do
  let result <- Builtin.Frozenset.newFrom id (<- Builtin.Frozenset.baseOf l) r
  holding [result] (Builtin.Frozenset.symmetricDifferenceUpdate id (<- Builtin.Frozenset.addrOf result) (.ref l))
  return result:Sem Value)) s!"frozenset.{"__xor__"}" (<- Builtin.Frozenset.addrOf x) y)):=rfl
theorem CO(hkf:∀k v,knd.is k v=true->kf v=k){a b:Addr}{ka kb:List K}{Q:FW}(nab:a≠b)(hA:SetK knd kf s.heap a ka)(hB:SetK knd kf s.heap b kb)(na:ka.Nodup)(nb:kb.Nodup)(la:ka.length+kb.length<=1000)(lb:kb.length<=100)
  (h:∀h' ks,(∀c o,s.heap.get? c=some o->h'.get? c=some o)->SetK knd kf h' s.heap.objs.size ks->ks.Nodup->ks.length<=ka.length+kb.length->(∀k,k∈ks↔¬(k∈ka↔k∈kb))->Q (.ref s.heap.objs.size) {s with heap:=h'}):
  wpAny (model prog w) A (binaryOp .BitXor (.ref a) (.ref b)) Q E s:=by
 have hTa:=hA.type (h:=s.heap)
 have hTb:=hB.type (h:=s.heap)
 refine wpAny_binaryOp_same (op:= .BitXor) (T:="set") hTa hTb PySem.F.fills_set_xor PySem.F.slot_set_xor (JT PySem.F.slot_set_xor hTa jI ?_ (PySem.F.args_set_xor_2 _ _))
 rw[BO];refine Ja (Ja (ZD hTa ?_))
 show wpAny _ _ (Builtin.Frozenset.isAnySet (Value.ref b)) _ _ _
 refine ZD hTb ?_
 simp only[Bool.not_true,Bool.false_eq_true,JD];refine Ja (Jd (Ja ?_))
 unfold Builtin.Frozenset.newFrom Builtin.Frozenset.baseOf;refine Ja (Ja (Et hTa sub_set_self (Jd ?_)))
 rw[Jc rfl];refine Ja (Ja (mH ?_))
 have hr:(s.heap.push (Qj (!zt w))).get? s.heap.objs.size=some (Qj (!zt w)):=Jo _ rfl
 have old:∀c o,s.heap.get? c=some o->(s.heap.push (Qj (!zt w))).get? c=some o:=fun c o e=>Ji _ e
 have hA1:SetK knd kf (s.heap.push (Qj (!zt w))) a ka:=hA.at (old a)
 have hB1:SetK knd kf (s.heap.push (Qj (!zt w))) b kb:=hB.at (old b)
 have lta:=hA.lt;have ltb:=hB.lt;have na':s.heap.objs.size≠a:=(Jm lta).symm
 have nb':s.heap.objs.size≠b:=(Jm ltb).symm
 refine Ja (Jd (Ja (JL ?_)))
 unfold Builtin.Frozenset.updateFrom;have hTb1:Shared.TypeIs {s with heap:=s.heap.push (Qj (!zt w))} (.ref b) "set":=hB1.type (s:={s with heap:=s.heap.push (Qj (!zt w))}) (h:=s.heap)
 refine Ja (ZD hTb1 ?_)
 rw[Jc rfl];refine Ja (Ja (Jd (Jd ?_)))
 unfold Builtin.Frozenset.merge;obtain⟨ob,eb,epb,tb,b1,b2,b3,b4,_⟩:=id hB1;refine Ja (wpAny_setEpoch_of (s:={s with heap:=s.heap.push (Qj (!zt w))}) b1 b3 b4 ?_)
 refine gt (s:={s with heap:=s.heap.push (Qj (!zt w))}) nb' (sH hr) hB1 lb fun h1 sb1 hR1 _=>Jd ?_
 have hA2:SetK knd kf h1 a ka:=hA1.at fun o1 e1=>by rw[sb1.2 a na'.symm];exact e1
 have hTa2:Shared.TypeIs {s with heap:=h1} (.ref a) "set":=hA2.type (s:={s with heap:=h1}) (h:=s.heap)
 refine Ja (Jd (Ja (JL ?_)))
 unfold Builtin.Frozenset.symmetricDifferenceUpdate;have hne:((Value.ref a:Value)==Value.ref s.heap.objs.size)=false:=by
  rw[Eh];intro e;cases e;exact na' rfl
 rw[hne];simp only[Bool.false_eq_true,JD];refine Ja (EY hTa2 ?_)
 have hnd:((Value.type "set":Value)==Value.type "dict")=false:=by decide
 rw[hnd];simp only[Bool.false_eq_true,JD];refine Ja (ZD hTa2 ?_)
 rw[Jc rfl];refine Ja (Jd (Ja (Jd ?_)))
 obtain⟨oa,ea,epa,ta,a1,a2,a3,a4,a5,a6,a7,a8⟩:=id hA2;refine Ja (wpAny_setEpoch_of (s:={s with heap:=h1}) a1 a3 a4 ?_)
 refine JL (Ja (oH (s:={s with heap:=h1}) a1 a2 a3 a4 a5 a6 a8 hR1 fun arr h2 hp sb2 hR2=>?_))
 have asz:arr.size=ka.length:=by rw[<- Jp,hp.length_eq,Jp,<- a7.length_eq,Jf,Jp]
 have ho2:h2.get? a=some oa:=by rw[sb2.2 a na'.symm];exact a1
 have e4:scanBound=4096:=rfl
 have hmm:(arr.toList.map fun e=>kf e.2).Perm ka:=(hp.map fun e=>kf e.2).trans a7
 refine Ja (sV (s:={s with heap:=h2}) hkf (toString "frozenset."++toString "__xor__") na'.symm a3 a4 arr (a6.perm hp) (hmm.nodup_iff.mpr na) (by lia) ho2 hR2 nb fun h3 ks sb3 hR3 nd3 len3 mem3=>Jd (Jd (Jd ⟨_,rfl,(fun e=>nomatch e),?_⟩)))
 refine h h3 ks (fun c o e=>?_) hR3 nd3 (by lia) fun k=>?_
 ·have nc:c≠s.heap.objs.size:=Jm (Jh e)
  rw[sb3.2 c nc,sb2.2 c nc,sb1.2 c nc];exact old c o e
 ·rw[mem3,hmm.mem_iff]
  exact not_congr ⟨Iff.symm,Iff.symm⟩
end
end S0
namespace L3
open PySem PySem.Spec PyProof.Rows L2 S0
section
variable{prog:Program}{w:World}{A:Around}{E:FW}{s:Shared}
theorem pQ{a:Addr}{ks:List Int}{Q:FW}(hh:A.handled=none)(hS:SetK (PySem.intKind prog w) numOf s.heap a ks)(h64:ks.length<64)
  (h:∀(h':Heap) (tk:Nat) (d:Drawn) (l:Addr) (its:List Value) (n:Nat) (ns:List Int),s.heap.objs.size<=l->(∀b o,s.heap.get? b=some o->h'.get? b=some o)->h'.get? l=some (seqObj "list" its.toArray n)->
   IntsAre its ns->ns.Perm ks->ns.Pairwise (· <= ·)->Q (.ref l) {s with heap:=h',toks:=tk,drawn:=d}):
  wpAny (model prog w) A (call (.builtin "sorted") [.ref a]) Q E s:=by
 obtain⟨o,es,ep,t,ho,hex,hd,hf,hb,hel,hpm,htw⟩:=hS;refine Calls.call_function_entry kind_sorted plain_sorted entry_sorted (args_sorted1 _) ?_
 unfold Builtin.«sorted»
 refine Ja (m:=checkCount "sorted" 1 1 _) (Jd ?_)
 refine Ja (iZ hh ho hex hd hf hb htw fun vs h' tk d hk hz hp=>?_)
 have hI:IntsAre vs (vs.map numOf):=by
  refine intsAre_map vs fun v hv=>?_
  obtain⟨e,he,rfl⟩:=JA.mp (hp.mem_iff.mp hv)
  obtain⟨⟨k,h1,_⟩,_⟩:=hel e he;obtain⟨tt,h2⟩:=Value.isInt_shape h1
  exact⟨k,tt,h2⟩
 have hvk:(vs.map numOf).Perm ks:=by
  refine(hp.map numOf).trans ?_
  rw[Eg];exact hpm
 have hvl:vs.length<=sizeLine:=by
  rw[hp.length_eq,Jf,Jp];exact fits_of_scanBound hb
 have hl64:vs.length<64:=by
  have:=hvk.length_eq
  rw[Jf]at this;omega
 refine Ja (wpAny_newList ?_ hvl)
 have hoL:(h'.push (seqObj "list" vs.toArray 0)).get? h'.objs.size=some (seqObj "list" vs.toArray 0):=Jo _ rfl
 show wpAny _ _ _ _ _ {s with heap:=h'.push (seqObj "list" vs.toArray 0),toks:=tk,drawn:=d}
 refine Ja (JL (JT slot_list_sort ⟨_,hoL,rfl⟩ entry_list_sort (list_sort_tree hoL hI hl64 fun out ns d1 d2 d3=>⟨_,rfl,?_⟩) (args_list_sort _)))
 obtain⟨n',hn'⟩:∃n',(sortedHeap (h'.push (seqObj "list" vs.toArray 0)) h'.objs.size vs out).get? h'.objs.size=some (seqObj "list" out n'):=sortedHeap_at hoL
 refine Jd ⟨_,rfl,h _ tk d h'.objs.size out.toList n' ns hz (fun b o e=>?_) (by rw[hn']) d1 (d2.trans hvk) d3⟩
 have e':=hk b o e;have hb':b<h'.objs.size:=Jh e'
 rw[sortedHeap_old (Jm hb') (by rw[JX];exact Ec hb')]
 exact Ji _ e'
end
section
variable{X:Cx}
theorem jQ(hc:X.calm=true):qT X (.builtin "sorted") (fun xs H Q=>∃(p:Addr) (ks:List Int),xs=[.ref p]/\H p=some (az X.prog X.w p ks)/\ks.length<64/\
  ∀l (ms:List Int),H l=none->ms.Perm ks->ms.Pairwise (· <= ·)->Q (.ref l) (F5 H l (.lst (ms.map V.int)))):=by
 intro tx s σ H xs us Q I r h;obtain⟨p,ks,rfl,hp,h64,q⟩:=h;obtain⟨u,rfl,ru⟩:=zL r;cases ru;obtain⟨hS,_⟩:=I.hok p _ hp;have hkl:=SetK.len hS;refine pQ (I.ok.hd hc) hS h64 fun h' tk d l its n ns hl hk hL b1 b2 b3=>?_
 refine⟨.ref l,_,(I.laid (a:=l) (o:= .lst (ns.map V.int)) (t':=tk) hk hl ?_).drw d,rfl,q l ns (I.hok.fresh hl) b2 b3⟩
 refine⟨?_,its,n,cW b1,hL⟩
 rw[Jf,b2.length_eq];exact fits_of_scanBound hkl
def Dp(X:Cx):R2:=fun x y H Q=>∃(a b:Addr) (ka kb:List Str),x= .ref a/\y= .ref b/\a≠b/\H a=some (aE X.prog X.w a ka)/\H b=some (aE X.prog X.w b kb)/\ka.Nodup/\kb.Nodup/\ka.length+kb.length<=100/\
 ∀l ks,H l=none->ks.Nodup->(∀k,k∈ks↔k∈ka\/k∈kb)->Q (.ref l) (F5 H l (aE X.prog X.w l ks))
theorem B8:zx X (binaryOp .BitOr) (Dp X):=by
 intro tx s σ H x y v u Q I rx ry h;obtain⟨a,b,ka,kb,rfl,rfl,nab,ha,hb,na,nb,la,q⟩:=h;cases rx;cases ry;obtain⟨hA,_⟩:=I.hok a _ ha;obtain⟨hB,_⟩:=I.hok b _ hb;refine Dm (t8 _ _) nab hA hB na nb la fun h' ks kp hS nd mem=>?_
 refine⟨.ref s.heap.objs.size,_,I.laid (t':=s.toks) (o:=aE X.prog X.w s.heap.objs.size ks) kp (Je _) ⟨hS,?_,fun h1 h2 z1 z2=>z1.at z2⟩,rfl,q _ _ (I.hok.fresh (Je _)) nd mem⟩
 obtain⟨o,_,_,_,e,_⟩:=hS
 exact⟨o,e⟩
def CK(X:Cx):R2:=fun x y H Q=>∃(a b:Addr) (ka kb:List Int),x= .ref a/\y= .ref b/\a≠b/\H a=some (az X.prog X.w a ka)/\H b=some (az X.prog X.w b kb)/\ka.Nodup/\kb.Nodup/\ka.length+kb.length<=1000/\kb.length<=100/\
 ∀l ks,H l=none->ks.Nodup->ks.length<=ka.length+kb.length->(∀k,k∈ks↔¬(k∈ka↔k∈kb))->Q (.ref l) (F5 H l (az X.prog X.w l ks))
theorem AG:zx X (binaryOp .BitXor) (CK X):=by
 intro tx s σ H x y v u Q I rx ry h;obtain⟨a,b,ka,kb,rfl,rfl,nab,ha,hb,na,nb,la,lb,q⟩:=h;cases rx;cases ry;obtain⟨hA,_⟩:=I.hok a _ ha;obtain⟨hB,_⟩:=I.hok b _ hb;refine CO (sT _ _) nab hA hB na nb la lb fun h' ks kp hS nd len mem=>?_
 refine⟨.ref s.heap.objs.size,_,I.laid (t':=s.toks) (o:=az X.prog X.w s.heap.objs.size ks) kp (Je _) ⟨hS,?_,fun h1 h2 z1 z2=>z1.at z2⟩,rfl,q _ _ (I.hok.fresh (Je _)) nd len mem⟩
 obtain⟨o,_,_,_,e,_⟩:=hS
 exact⟨o,e⟩
end
end L3
namespace L3
open PySem PySem.Spec PyProof.Rows L2 SeqAt
def ph(t:Str):Value->Bool
 | .str x _=>x==t
 |_=>false
theorem fJ(t:Str):∀{its:List Value} {ss:List Str},StrsAre its ss->its.countP (ph t)=ss.count t
 |_,_,.nil=>rfl
 |_,_,.cons x tk r=>by
  rw[List.countP_cons,List.count_cons,fJ t r];rfl
theorem tY{X:Cx}:oV X "list.count" (fun x vs H Q=>∃(l:Addr) (ss:List Str) (t:Str),x= .ref l/\vs=[.str t]/\H l=some (.lst (ss.map V.str))/\Q (.int (ss.count t:Nat)) H):=by
 intro tx s σ H x xs v us Q I rx rv h;obtain⟨l,ss,t,rfl,rfl,hl,q⟩:=h;cases rx;obtain⟨u,rfl,ru⟩:=rv.one;obtain⟨tk,rfl⟩:=ru;obtain⟨z,its,n,ri,ho⟩:=I.hok l _ hl;have e:=bK ri;refine E3 F.slot_list_count ⟨_,ho,rfl⟩ F.entry_list_count (F.args_list_count_2 _ _) (list_countAt l _ n none _ (.str t tk) (ph t)) ⟨ho,fun y hy=>?_,?_⟩
 ·obtain⟨j,hj,rfl⟩:=List.mem_iff_getElem.mp (show y∈its by simpa using hy)
  obtain⟨tt,e1⟩:=aF e j _ (Jj hj)
  rw[e1];exact EqAt.str_str (A:=X.A.in1) (s:=s) _ tt t tk
 ·refine⟨.int _,H,I.tok _,⟨_,rfl⟩,?_⟩
  show Q (.int ((its.toArray.toList.countP (ph t):Nat):Int)) H
  rw[List.toList_toArray,fJ t e];exact q
section
variable{X:Cx}
theorem yS{tx:FY}{σ:L2.St}{H:Hp}{s:Shared}{A:Around}(I:L2.F3 X tx σ H s){a b:Addr}{z z':Int×Int}(h1:H a=some (.tup [.int z.1,.int z.2]))(h2:H b=some (.tup [.int z'.1,.int z'.2]))(hu:A.units<cLine):EqAt A s (.ref a) (.ref b) (decide (z=z')):=by
 by_cases hab:a=b
 ·subst hab
  rw[h1]at h2;injection h2 with h2
  injection h2 with h2
  have e:z=z':=by
   simp only[List.cons.injEq,V.int.injEq,and_true]at h2;exact Prod.ext h2.1 h2.2
  rw[Jg e];exact EqAt.same _
 ·obtain⟨its,q1,p1,_⟩:=I.tuple (Ga.of (K:=X.K) h1)
  obtain⟨its2,q2,p2,_⟩:=I.tuple (Ga.of (K:=X.K) h2)
  have l1:=q1.length;have l2:=q2.length;have e:=RcAt.tuples (A:=A) (e:=fun j=>[z.1,z.2].getD j 0==[z'.1,z'.2].getD j 0) (show s.heap.IsTuple a its.toArray from p1) (show s.heap.IsTuple b its2.toArray from p2) hu (fun j h1 h2=>by
   have h1':j<its.length:=by simpa using h1
   have h2':j<its2.length:=by simpa using h2
   obtain⟨t,e⟩:=fj (ns:=[z.1,z.2]) q1 j h1' (by rw[<- l1]at h1';exact h1')
   obtain⟨t',e'⟩:=fj (ns:=[z'.1,z'.2]) q2 j h2' (by rw[<- l2]at h2';exact h2')
   simp only[List.getElem_toArray,e,e',JE,Jj (show j<[z.1,z.2].length by rw[<- l1]at h1';exact h1'),Jj (show j<[z'.1,z'.2].length by rw[<- l2]at h2';exact h2'),Ep]
   exact EqAt.int_int _ _ _ _)
  have es:its.toArray.size=2:=by rw[Jr];exact l1.symm
  have es2:its2.toArray.size=2:=by rw[Jr];exact l2.symm
  rw[es,es2]at e;have e:RcAt A s (.ref a) (.ref b) ((z.1==z'.1&&(z.2==z'.2&&true))&&true):=e
  have ed:((z.1==z'.1&&(z.2==z'.2&&true))&&true)=decide (z=z'):=by
   rw[D5];simp [Prod.ext_iff]
  rw[ed]at e;exact EqAt.of_refs hab e
def DF:R2:=fun x y H Q=>∃(a b:Addr) (zs ws:List (Int×Int)),x= .ref a/\y= .ref b/\HZ H a zs/\HZ H b ws/\Q (.bl (decide (zs≠ws))) H
theorem Bh{k:Nat}(hr:Gh k X.A):zx X (compareOp .NotEq) DF:=by
 intro tx s σ H x y v u Q I rx ry h;obtain⟨a,b,zs,ws,rfl,rfl,⟨as,e1,l1,r1⟩,⟨bs,e2,l2,r2⟩,q⟩:=h;cases rx;cases ry;obtain⟨its,q1,p1,_⟩:=I.tuple (Ga.of (K:=X.K) e1)
 obtain⟨its2,q2,p2,_⟩:=I.tuple (Ga.of (K:=X.K) e2)
 have k1:=q1.length;have k2:=q2.length;rw[Jf]at k1 k2;have hu:X.A.units+2<cLine:=by have:=hr.un;lia
 have e:=RcNeAt.tuples (A:=X.A) (e:=fun j=>decide (zs.getD j (0,0)=ws.getD j (0,0))) (show s.heap.IsTuple a its.toArray from p1) (show s.heap.IsTuple b its2.toArray from p2) (by lia) (fun j h1 h2=>by
  have h1':j<its.length:=by simpa using h1
  have h2':j<its2.length:=by simpa using h2
  obtain⟨x,ex,rx⟩:=Qo q1 h1';obtain⟨y,ey,ry⟩:=Qo q2 h2';rw[Jq]at ex ey;obtain⟨x',hx',rfl⟩:=DQ.mp ex;obtain⟨y',hy',rfl⟩:=DQ.mp ey;have hz:j<zs.length:=by lia
  have hw:j<ws.length:=by lia
  simp only[List.getElem_toArray];rw[show its[j]=Value.ref x' from rx,show its2[j]=Value.ref y' from ry,JE,JE,Jj hz,Jj hw,Ep,Ep]
  exact yS I (r1 j x' _ hx' (Jj hz)) (r2 j y' _ hy' (Jj hw)) (by rw[Fk];lia))
 have ed:(!((List.range (min its.toArray.size its2.toArray.size)).all (fun j=>decide (zs.getD j (0,0)=ws.getD j (0,0)))&&its.toArray.size==its2.toArray.size))=decide (zs≠ws):=by
  rw[Jr,Jr,<- k1,<- k2,l1,l2];rw[D5,FN,decide_eq_true_eq,<- Bool.not_eq_true,Jx,EF,J3];refine not_congr ⟨fun⟨h1,h2⟩=>?_,fun h=>?_⟩
  ·refine List.ext_getElem h2 fun j j1 j2=>?_
   have:=Jv (h1 j (J4.mpr (by lia)))
   rw[JE,JE,Jj j1,Jj j2]at this;exact this
  ·subst h
   exact⟨fun j _=>Jg rfl,rfl⟩
 rw[ed]at e;exact e _ _ _ _ ⟨.bl _,H,I,rfl,q⟩
end
end L3
namespace Lw
open PySem L2 L3
theorem FP:0<=sizeLine:=by decide
theorem FQ:1<=sizeLine:=by decide
theorem FR:2<=sizeLine:=by decide
theorem FS:3<=sizeLine:=by decide
theorem FT:4<=sizeLine:=by decide
theorem FU:5<=sizeLine:=by decide
theorem FV:16<=sizeLine:=by decide
def qR(i:Nat):Stmt:=PySem.Challenge.pw_rollcode_k33_told_apart_by_two.main.body.getD i (.Pass ⟨0,0,0,0⟩)
abbrev bp:Stmt:=qR 3
abbrev bV:Stmt:=qR 4
abbrev ap:Stmt:=qR 5
abbrev aH:Stmt:=qR 6
abbrev ib:Stmt:=qR 7
abbrev cU:Stmt:=qR 8
abbrev eB:Stmt:=qR 14
abbrev cO:Stmt:=qR 15
abbrev cf:Stmt:=qR 16
abbrev Zt:Stmt:=qR 17
abbrev gs:Stmt:=qR 18
abbrev ZC:Stmt:=qR 19
abbrev b9:Stmt:=qR 20
abbrev aI:Stmt:=qR 21
abbrev cY:Stmt:=qR 38
abbrev dc:Stmt:=qR 39
abbrev Q4:Stmt:=zO (qR 41) 0
abbrev Zz:Stmt:=zO (qR 41) 2
abbrev Q9:Stmt:=zO (qR 41) 8
abbrev Ze:Stmt:=zO (qR 41) 11
abbrev QX:Stmt:=zO (qR 41) 10
abbrev Qm:Stmt:=zO (qR 41) 9
abbrev Zd:Stmt:=zO (qR 41) 7
abbrev bi:Stmt:=zO (qR 41) 6
abbrev QZ:Stmt:=zO (qR 41) 12
abbrev au:Stmt:=zO (qR 41) 1
abbrev Zc:Stmt:=zO (qR 41) 13
abbrev Zn:Stmt:=zO (qR 41) 14
abbrev QY:Stmt:=zO (qR 41) 15
abbrev QM:Stmt:=zO (qR 41) 16
abbrev ZJ:Stmt:=qR 23
abbrev ZX:Stmt:=qR 25
abbrev aN:Stmt:=qR 30
abbrev bm:Stmt:=qR 28
abbrev ZZ:Stmt:=qR 27
abbrev Z0:Stmt:=qR 26
abbrev aM:Stmt:=qR 29
abbrev c8:Stmt:=qR 24
abbrev iM:Stmt:=qR 31
abbrev cN:Stmt:=qR 43
abbrev cj:Stmt:=qR 44
abbrev bw:Stmt:=qR 45
abbrev c6:Stmt:=qR 46
abbrev bf:Stmt:=qR 47
abbrev cp:Stmt:=qR 49
abbrev bZ:Stmt:=qR 50
abbrev bt:Stmt:=qR 51
abbrev aA:Stmt:=qR 52
abbrev bh:Stmt:=qR 53
abbrev aL:Stmt:=qR 57
abbrev be:Stmt:=qR 61
abbrev eE:Stmt:=qR 58
abbrev aq:Stmt:=qR 48
abbrev du:Stmt:=qR 59
abbrev cM:Stmt:=qR 60
abbrev Q8:Stmt:=qR 62
abbrev gg:Stmt:=qR 63
abbrev Z2:Stmt:=qR 64
theorem qQ{N P:List Str}{c:Scope}(h1:c.kind= .function:=by rfl)(h2:c.isCoroutine=false:=by rfl)(h3:c.isGenerator=false:=by rfl)(h4:N.Nodup:=by decide +kernel)(h5:N.take P.length=P:=by rfl)(h6:∀x∈P,c.names.lookup x=some .local\/c.names.lookup x=some .cell:=by decide +kernel)(h7:∀y∈c.names,y.2≠ .free:=by decide +kernel):F0 N P c:=⟨h1,h2,h3,h4,h5,h6,h7⟩
theorem lr:F0 (["thing"]:List Str) (["thing"]:List Str) (qh bp):=qQ
theorem nw:F0 (["thing"]:List Str) (["thing"]:List Str) (qh bV):=qQ
theorem jO:F0 (["things"]:List Str) (["things"]:List Str) (qh ap):=qQ
theorem GH:F0 (["table","back","place","digit"]:List Str) (["table"]:List Str) (qh aH):=qQ
theorem G6:F0 (["table","key","digits","row","shift","place","ahead"]:List Str) (["table","key","digits"]:List Str) (qh ib):=qQ
theorem GA:F0 (["table","key","digits","back","row","shift","place","ahead"]:List Str) (["table","key","digits"]:List Str) (qh cU):=qQ
theorem pM:F0 (["thing"]:List Str) (["thing"]:List Str) (qh eB):=qQ
theorem pX:F0 (["thing"]:List Str) (["thing"]:List Str) (qh cO):=qQ
theorem GS:F0 (["thing","name","age","code"]:List Str) (["thing"]:List Str) (qh cf):=qQ
theorem Gp:F0 (["name","digits","letter","place"]:List Str) (["name"]:List Str) (qh Zt):=qQ
theorem G8:F0 (["table","key","name","sums","place","digit"]:List Str) (["table","key","name"]:List Str) (qh gs):=qQ
theorem gK:F0 (["count"]:List Str) (["count"]:List Str) (qh ZC):=qQ
theorem G7:F0 (["table","key","name","age","count","deed","four","five"]:List Str) (["table","key","name","age","count","deed"]:List Str) (qh b9):=qQ
theorem Gc:F0 (["table","key","press","name","age","code","low","middle","high","deed","check"]:List Str) (["table","key","press"]:List Str) (qh aI):=qQ
theorem oX:F0 (["count","last","near","far"]:List Str) (["count","last","near","far"]:List Str) (qh cY):=qQ
theorem GB:F0 (["button","age","count","near","far","own_age","last","waiting","word"]:List Str) (["button","age","count","near","far"]:List Str) (qh dc):=qQ
theorem bI:F0 (["self","table","keys","near","far","most"]:List Str) (["self","table","keys","near","far","most"]:List Str) (qh Q4):=qQ
theorem gy:F0 (["self"]:List Str) (["self"]:List Str) (qh Zz):=qQ
theorem fH:F0 (["self","name"]:List Str) (["self","name"]:List Str) (qh Q9):=qQ
theorem fA:F0 (["self","age"]:List Str) (["self","age"]:List Str) (qh Ze):=qQ
theorem db:F0 (["self","button","age"]:List Str) (["self","button","age"]:List Str) (qh QX):=qQ
theorem ZT:F0 (["self","button","age","count"]:List Str) (["self","button","age","count"]:List Str) (qh Qm):=qQ
theorem F7:F0 (["self","press","name","age","code","button","pair","count","deed","word","behind"]:List Str) (["self","press"]:List Str) (qh Zd):=qQ
theorem Hw:F0 (["self","thing","answer"]:List Str) (["self","thing"]:List Str) (qh bi):=qQ
theorem cS:F0 (["self","thing"]:List Str) (["self","thing"]:List Str) (qh QZ):=qQ
theorem Gj:F0 (["self","one","other","first","second","name","age","code"]:List Str) (["self","one","other"]:List Str) (qh au):=qQ
theorem fG:F0 (["self"]:List Str) (["self"]:List Str) (qh Zc):=qQ
theorem gc:F0 (["self"]:List Str) (["self"]:List Str) (qh Zn):=qQ
theorem eF:F0 (["self"]:List Str) (["self"]:List Str) (qh QY):=qQ
theorem cJ:F0 (["self"]:List Str) (["self"]:List Str) (qh QM):=qQ
theorem Gb:F0 (["door","button","age","near","far","most","own_age","last","waiting","stretches","after"]:List Str) (["door","button","age"]:List Str) (qh ZJ):=qQ
theorem il:F0 (["door"]:List Str) (["door"]:List Str) (qh ZX):=qQ
theorem jZ:F0 (["one","first","other","second"]:List Str) (["one","first","other","second"]:List Str) (qh aN):=qQ
theorem ku:F0 (["stretches"]:List Str) (["stretches"]:List Str) (qh bm):=qQ
theorem ia:F0 (["these","those"]:List Str) (["these","those"]:List Str) (qh ZZ):=qQ
theorem Gy:F0 (["one","first","other","second","age","these","those"]:List Str) (["one","first","other","second"]:List Str) (qh Z0):=qQ
theorem Gd:F0 (["one","first","other","second","age","end","count","word","here","there","press"]:List Str) (["one","first","other","second"]:List Str) (qh aM):=qQ
theorem GC:F0 (["one","other","names","name","press","pair"]:List Str) (["one","other"]:List Str) (qh c8):=qQ
theorem vd:F0 (["one","other"]:List Str) (["one","other"]:List Str) (qh iM):=qQ
theorem GD:F0 (["_law_script","_law_k","_law_cell","_law_fold","_law_one_here"]:List Str) (["_law_script","_law_k"]:List Str) (qh cN):=qQ
theorem GJ:F0 (["_law_box_here","_law_many","_law_digit","_law_m","_law_turn"]:List Str) (["_law_box_here","_law_many"]:List Str) (qh cj):=qQ
theorem HF:F0 (["_law_box_here","_law_rest"]:List Str) (["_law_box_here"]:List Str) (qh bw):=qQ
theorem pF:F0 (["_law_box_here"]:List Str) (["_law_box_here"]:List Str) (qh c6):=qQ
theorem ml:F0 (["_law_near","_law_far","_law_keys"]:List Str) (["_law_near","_law_far","_law_keys"]:List Str) (qh bf):=qQ
theorem Gv:F0 (["_law_own","_law_plain","_law_name","_law_age","_law_count","_law_row","_law_gone"]:List Str) (["_law_own","_law_plain"]:List Str) (qh cp):=qQ
theorem GK:F0 (["_law_own","_law_plain","_law_word_here","_law_name","_law_age","_law_count"]:List Str) (["_law_own","_law_plain"]:List Str) (qh bZ):=qQ
theorem GL:F0 (["_law_code","_law_plain","_law_deed","_law_name","_law_age","_law_count"]:List Str) (["_law_code","_law_plain","_law_deed"]:List Str) (qh bt):=qQ
theorem Gu:F0 (["_law_code","_law_pair_here","_law_name","_law_told","_law_place","_law_age","_law_last","_law_presses"]:List Str) (["_law_code","_law_pair_here","_law_name","_law_told"]:List Str) (qh aA):=qQ
theorem HG:F0 (["_law_code","_law_pair_here","_law_plain","_law_places","_law_place"]:List Str) (["_law_code","_law_pair_here","_law_plain","_law_places"]:List Str) (qh bh):=qQ
theorem jY:F0 (["_law_base"]:List Str) (["_law_base"]:List Str) (qh aL):=qQ
theorem cZ:F0 (["_law_found","_law_due"]:List Str) (["_law_found","_law_due"]:List Str) (qh be):=qQ
theorem GF:F0 (["_law_owns","_law_drawn_here","_law_name","_law_age","_law_count","_law_plain","_law_words"]:List Str) (["_law_owns","_law_drawn_here"]:List Str) (qh eE):=qQ
theorem G9:F0 (["_law_own","_law_made"]:List Str) (["_law_own"]:List Str) (qh aq):=qQ
theorem Gk:F0 (["_law_owns","_law_drawn_here","_law_name","_law_age","_law_count","_law_plain","_law_made","_law_own","_law_told"]:List Str) (["_law_owns","_law_drawn_here"]:List Str) (qh du):=qQ
theorem HM:F0 (["_law_box_here","_law_names"]:List Str) (["_law_box_here"]:List Str) (qh cM):=qQ
theorem F1:F0 (["_law_box_here","_law_drawn_here","_law_names","_law_many","_law_base","_law_code","_law_near","_law_pair_here","_law_place","_law_far","_law_name","_law_told","_law_other","_law_turn","_law_age","_law_row","_law_count"]:List Str) (["_law_box_here","_law_drawn_here"]:List Str) (qh Q8):=qQ
theorem uC:F0 (["_law_found","_law_due"]:List Str) (["_law_found","_law_due"]:List Str) (qh gg):=qQ
theorem GO:F0 (["_law_script","_law_k","_law_box_here","_law_drawn_here","_law_one_here","_law_here","_law_other","_law_there","_law_due","_law_told"]:List Str) (["_law_script"]:List Str) (qh Z2):=qQ
structure Gw(K:Frag)(mg:FX)(tk:Nat->Tok):Prop where
 g_DIGITS:mg "DIGITS"=some (.int 16 (tk 0))
 g_KEY_PLACES:mg "KEY_PLACES"=some (.int 4 (tk 1))
 g_LONGEST_NAME:mg "LONGEST_NAME"=some (.int 8 (tk 2))
 g_CODE_DIGITS:mg "CODE_DIGITS"=some (.int 5 (tk 3))
 g_COUNTS:mg "COUNTS"=some (.int 4096 (tk 4))
 b_isinstance:mg "isinstance"=none
 b_bool:mg "bool"=none
 b_int:mg "int"=none
 b_tuple:mg "tuple"=none
 b_all:mg "all"=none
 b_any:mg "any"=none
 b_len:mg "len"=none
 b_abs:mg "abs"=none
 b_list:mg "list"=none
 b_enumerate:mg "enumerate"=none
 b_range:mg "range"=none
 b_max:mg "max"=none
 b_min:mg "min"=none
 b_str:mg "str"=none
 b_zip:mg "zip"=none
 b_ord:mg "ord"=none
 b_sum:mg "sum"=none
 b_reversed:mg "reversed"=none
 b_sorted:mg "sorted"=none
 b_dict:mg "dict"=none
 b_set:mg "set"=none
section
variable{P:Program}{w:World}{K:Frag}{mg:FX}{base:Heap}{tk:Nat->Tok}
theorem kN(a:At K mg "is_number" bp ["thing"])(T:Gw K mg tk):Df P w K mg base "is_number" ["thing"] 1 gj:=by
 refine a.dq lr fun f _ A _ s H vs Q E hr h=>?_
 ·obtain⟨x,t,rfl,hk,q⟩:=h
  obtain⟨ty,ht⟩:=CU (K:=K) hk
  refine⟨_,(qe (ql (zB (qk fU T.b_isinstance Ju (qc (qv 0) (qc (qB (v:= .ty "int") rfl T.b_int EJ rfl) qa))) (Qu (aQ (qk fU T.b_isinstance Ju (qc (qv 0) (qc (qB (v:= .ty "bool") rfl T.b_bool EK rfl) qa)))))))),?_⟩
  rw[Az hk]at q;refine⟨_,rfl,x,"int",t,rfl,ty,ht,by simp,_,rfl,?_⟩
  cases hi:zo t "int" with
  |false=>
   refine qZ ?_
   rw[hi,DU]at q;exact q
  |true=>
   refine za ?_
   rw[hi,EA]at q
   exact⟨_,rfl,x,"bool",t,rfl,ty,ht,by simp,_,rfl,q⟩
theorem mW(a:At K mg "is_digit" bV ["thing"])(T:Gw K mg tk)(dR:Df P w K mg base "is_number" ["thing"] 1 gj):Df P w K mg base "is_digit" ["thing"] 2 oi:=by
 refine a.dq nw fun f _ A _ s H vs Q E hr h=>?_
 ·obtain⟨x,t,rfl,hk,q⟩:=h
  refine⟨_,(qe (ql (zB (qo dR hr.mo (qc (qv 0) qa)) (Qu (gm ZP eW qf (qv 0) (zd (v:= .int 16) rfl T.g_DIGITS ⟨_,rfl⟩)))))),?_⟩
  refine⟨_,rfl,x,t,rfl,hk,_,rfl,?_⟩
  cases hn:f8 x with
  |false=>
   refine qZ ?_
   rw[tM hn]at q;exact q
  |true=>
   refine za ?_
   obtain⟨i,rfl⟩:=vZ hn;refine⟨_,rfl,_,_,rfl,rfl,_,rfl,?_⟩
   have q':Q (.bl (decide (0<=i)&&decide (i<16))) H:=q
   refine qS (fun h0=>?_) (fun h0=>?_)
   ·refine⟨_,_,rfl,rfl,?_⟩
    rw[h0,EA]at q';exact q'
   ·rw[ET.mpr h0,DU]at q'
    exact q'
theorem jM(a:At K mg "are_digits" ap ["things"])(T:Gw K mg tk)(xY:Df P w K mg base "is_digit" ["thing"] 2 oi):Df P w K mg base "are_digits" ["things"] 3 kF:=by
 refine a.dq jO fun f _ A _ s H vs Q E hr h=>?_
 ·obtain⟨p,xs,rfl,hp,hz,hk,q⟩:=h
  refine⟨_,(qe (ql (qk (aU rfl) T.b_all FE (qc (zN (own:=["thing"]) (fr:=[]) (js:=[]) rfl (aG (qv 0)) rfl (fun _ _ h=>nomatch h) rfl (bg rfl (by decide +kernel) (by decide +kernel) (by decide +kernel)) (fun _ _ _ _=>qg (i:=0) (show List.Nodup (["thing"]:List Str)from by decide +kernel) rfl (Or.inl rfl) (.inr rfl)) (fun _ _ _ _=>(qo xY hr.mo (qc (qv 0) qa)))) qa)))),?_⟩
  refine⟨_,rfl,p,rfl,⟨xs,Ga.of hp⟩,aB (xs:=xs) hz (fun i ys H2=>ys=(xs.take i).map (fun x=>V.bl (bY x))/\FZ H H2) ⟨by simp,FZ.refl H⟩ (fun i ys H2 ⟨_,s2⟩=>Ga.of (s2 _ _ hp)) ?_ ?_⟩
  ·rintro i ys H2 x hx _ ⟨rfl,s2⟩
   obtain⟨t,ht⟩:=hk x (DX hx)
   refine⟨_,rfl,x,t,rfl,ft s2 ht,?_,s2⟩
   rw[D4,hx];simp
  ·rintro ys H2 _ ⟨rfl,s2⟩ l hl
   rw[Ee];refine⟨l,xs.map bY,rfl,F8.of (by rw[Eg];exact qb),?_⟩
   rw[List.all_map];exact q _ (s2.trans (FZ.upd hl))
theorem rq(a:At K mg "is_name" eB ["thing"])(T:Gw K mg tk):Df P w K mg base "is_name" ["thing"] 1 jy:=by
 refine a.dq pM fun f _ A _ s H vs Q E hr h=>?_
 ·obtain⟨x,b,rfl,hx,q⟩:=h
  refine⟨_,(qd (qC (QW.pt (zX (Qd (qW (qk qG T.b_isinstance Ju (qc (qv 0) (qc (qB (v:= .ty "str") rfl T.b_str EU rfl) qa))))) (zG (Qd (ma ZP ZP qf (qk lS T.b_len J8 (qc (qv 0) qa)) (zd (v:= .int 8) rfl T.g_LONGEST_NAME ⟨_,rfl⟩)))))) (qe (ql ZM)) qr)
   (qe (ql (qk (aU rfl) T.b_all FE (qc (zN (own:=["letter"]) (fr:=[]) (js:=[]) rfl (ua (qv 0)) rfl (fun _ _ h=>nomatch h) rfl (bg rfl (by decide +kernel) (by decide +kernel) (by decide +kernel)) (fun _ _ _ _=>qg (i:=0) (show List.Nodup (["letter"]:List Str)from by decide +kernel) rfl (Or.inl rfl) (.inr rfl)) (fun _ _ _ _=>(gm jq jq qw (qv 0) qw))) qa))))),?_⟩
  rcases hx with⟨z,rfl,hz,hl,rfl⟩|⟨t,hk,hs,rfl⟩
  case inr=>
   refine⟨_,rfl,x,"str",t,rfl,kD hk,by simp,_,rfl,?_⟩
   rw[hs];exact za (q _ (FZ.refl _))
  have zl:z.length=z.cps.toList.length:=rfl
  refine⟨_,rfl,_,"str","str",rfl,.str z,by simp,_,rfl,?_⟩
  refine qZ ?_
  refine⟨_,rfl,z,rfl,by rw[JH];lia,_,_,rfl,rfl,_,rfl,?_⟩
  unfold wV at q
  by_cases h1:1<=z.length
  case neg=>
   refine Qz (Jn (by lia)) ⟨_,rfl,za ?_⟩
   rw[Jn h1,DU,DU]at q;exact q _ (FZ.refl _)
  refine Qk (Jg (by lia)) ?_
  refine⟨_,_,rfl,rfl,_,rfl,?_⟩
  rw[Jg h1,EA]at q
  by_cases h8:z.length<=8
  case neg=>
   refine Qk (by rw[Jn (by lia:¬((z.length:Nat):Int)<=8)];rfl) ?_
   rw[Jn h8,DU]at q;exact q _ (FZ.refl _)
  refine Qz (by rw[Jg (by lia:((z.length:Nat):Int)<=8)];rfl) ?_
  rw[Jg h8,EA]at q;refine⟨_,rfl,z,rfl,hz,wz (by show z.cps.toList.length<=_;rw[JH];lia) (fun i ys H2=>H2=H/\ys=((z.cps.toList.take i).map kj).map V.bl) ⟨rfl,rfl⟩ ?_ ?_⟩
  ·rintro i ys H2 c hc _ ⟨rfl,rfl⟩
   have hc':=nR hc;obtain⟨l1,l2⟩:=rh c;refine⟨_,rfl,_,_,rfl,rfl,_,rfl,?_⟩
   rw[D4,hc',JU,JU]
   by_cases h97:97<=c
   ·refine Qk (by rw[l1,Jg h97]) ⟨_,_,rfl,rfl,rfl,?_⟩
    rw[l2]
    show _=_++[V.bl (decide (97<=c)&&decide (c<=122))]
    rw[Jg h97,EA]
   ·refine Qz (by rw[l1,Jn h97]) ⟨rfl,?_⟩
    show _=_++[V.bl (decide (97<=c)&&decide (c<=122))]
    rw[Jn h97,DU]
  ·rintro ys H2 hl ⟨rfl,rfl⟩ l hl'
   refine⟨l,z.cps.toList.map kj,rfl,F8.of (by rw[show z.cps.size=z.cps.toList.length from rfl,Ee];exact qb),?_⟩
   rw[List.all_map];exact q _ (FZ.upd hl')
theorem pY(a:At K mg "is_code" cO ["thing"])(T:Gw K mg tk)(xT:Df P w K mg base "are_digits" ["things"] 3 kF):Df P w K mg base "is_code" ["thing"] 4 jh:=by
 refine a.dq pX fun f _ A _ s H vs Q E hr h=>?_
 ·obtain⟨x,b,rfl,hx,q⟩:=h
  refine⟨_,(qd (qC (Qd (qW (qk qG T.b_isinstance Ju (qc (qv 0) (qc (qB (v:= .ty "tuple") rfl T.b_tuple JI rfl) qa))))) (qe (ql ZM)) qr)
   (qe (ql (zB (zh zz (qk qP T.b_len J8 (qc (qv 0) qa)) (zd (v:= .int 5) rfl T.g_CODE_DIGITS ⟨_,rfl⟩) (qq _)) (Qu (qo xT hr.mo (qc (qv 0) qa))))))),?_⟩
  rcases hx with⟨pc,ds,rfl,hp,hl,hk,rfl⟩|⟨t,hk,hs,rfl⟩
  case inr=>
   refine⟨_,rfl,x,"tuple",t,rfl,kD hk,by simp,_,rfl,?_⟩
   rw[hs];exact za (q _ (FZ.refl _))
  refine⟨_,rfl,_,"tuple","tuple",rfl,.tup (.inl hp),by simp,_,rfl,?_⟩
  refine qZ ?_
  refine⟨_,rfl,pc,_,rfl,.inr (Ga.of hp),rfl,_,rfl,?_⟩
  by_cases h5:ds.length=5
  ·refine Qk (Jg (by rw[h5];rfl)) ?_
   refine⟨_,rfl,pc,_,rfl,hp,by rw[JH];lia,hk,fun H' s'=>?_⟩
   rw[Jg h5,EA]at q;exact q _ s'
  ·rw[Jn h5,DU]at q
   refine Qz (Jn (by intro z;injection z with z;lia)) ?_
   exact q _ (FZ.refl _)
theorem mZ(a:At K mg "is_press" cf ["thing"])(T:Gw K mg tk)(x6:Df P w K mg base "is_name" ["thing"] 1 jy)(dR:Df P w K mg base "is_number" ["thing"] 1 gj)(yA:Df P w K mg base "is_code" ["thing"] 4 jh):Df P w K mg base "is_press" ["thing"] 5 bQ:=by
 refine a.dq GS fun f _ A _ s H vs Q E hr h=>?_
 ·obtain⟨x,b,rfl,hx,q⟩:=h
  refine⟨_,(qd (qC (QW.pt (zX (Qd (qW (qk qG T.b_isinstance Ju (qc (qv 0) (qc (qB (v:= .ty "tuple") rfl T.b_tuple JI rfl) qa))))) (zG (qx Z9 (qk qP T.b_len J8 (qc (qv 0) qa)) qf (qq _))))) (qe (ql ZM)) qr)
   (qd (zg (qv 0) (zw rfl (qm (qg (i:=1) GS.nd rfl (Or.inl rfl)) (qm (qg (i:=2) GS.nd rfl (Or.inl rfl)) (qm (qg (i:=3) GS.nd rfl (Or.inl rfl)) qO)))))
   (qe (ql (zB (qo x6 hr.mo (qc (qv 1) qa)) (zB (qo dR hr.mo (qc (qv 2) qa)) (Qu (qo yA hr.mo (qc (qv 3) qa))))))))),?_⟩
  cases hx with
  | @kd t hk hs=>
   refine⟨_,rfl,x,"tuple",t,rfl,kD hk,by simp,_,rfl,?_⟩
   rw[hs];exact za (q _ (FZ.refl _))
  | @len a xs e h l n=>
   subst e;refine⟨_,rfl,_,"tuple","tuple",rfl,.tup (.inl h),by simp,_,rfl,?_⟩
   refine qZ ?_
   refine⟨_,rfl,a,_,rfl,.inr (Ga.of h),rfl,_,rfl,?_⟩
   refine Qk (by rw[Jn (by intro z;injection z with z;lia)];rfl) ?_
   exact q _ (FZ.refl _)
  | @tup a n y c bn bc ty e h hn hy hc=>
   subst e;refine⟨_,rfl,_,"tuple","tuple",rfl,.tup (.inl h),by simp,_,rfl,?_⟩
   refine qZ ?_
   refine⟨_,rfl,a,_,rfl,.inr (Ga.of h),rfl,_,rfl,?_⟩
   refine Z8 rfl ?_
   refine⟨_,rfl,a,_,rfl,.tup h,rfl,_,_,rfl,_,_,rfl,_,_,rfl,rfl,?_⟩
   refine⟨_,rfl,n,bn,rfl,hn,fun H1 s1=>⟨_,rfl,?_⟩⟩
   cases bn with
   |false=>exact qZ (q _ s1)
   |true=>
    refine za ?_
    refine⟨_,rfl,y,ty,rfl,ft s1 hy,_,rfl,?_⟩
    cases hnum:f8 y with
    |false=>
     rw[hnum]at q;exact qZ (q _ s1)
    |true=>
     rw[hnum]at q;refine za ?_
     exact⟨_,rfl,c,bc,rfl,hc.same s1,fun H2 s2=>q _ (s1.trans s2)⟩
theorem oY(a:At K mg "word_of" cY ["count","last","near","far"])(T:Gw K mg tk):Df P w K mg base "word_of" ["count","last","near","far"] 1 oO:=by
 refine a.dq oX fun f _ A _ s H vs Q E hr h=>?_
 ·obtain⟨c,l,n,f,rfl,q⟩:=h
  unfold pC at q;refine⟨_,(qd (qC (qx ZP (qv 0) (qv 1) (qq _)) (qe (ql qw)) qr)
   (qd (qC (qx ZP (qv 0) (qp qJ (qv 1) (qv 2)) (qq _)) (qe (ql qw)) qr)
   (qd (qC (qx ZP (qv 0) (qp qJ (qv 1) (qv 3)) (qq _)) (qe (ql qw)) qr)
   (qe (ql qw))))),?_⟩
  refine⟨_,rfl,_,rfl,_,_,rfl,rfl,_,rfl,?_⟩
  refine qS (fun z=>?_) (fun z=>?_)
  ·rw[Jc (Jv z)]at q;exact q
  ·rw[Jb (fun y=>z (Jg y))]at q
   refine⟨_,rfl,_,rfl,_,rfl,_,_,rfl,rfl,_,_,rfl,rfl,_,rfl,?_⟩
   refine qS (fun z=>?_) (fun z=>?_)
   ·rw[Jc (Jv z)]at q;exact q
   ·rw[Jb (fun y=>z (Jg y))]at q
    refine⟨_,rfl,_,rfl,_,rfl,_,_,rfl,rfl,_,_,rfl,rfl,_,rfl,?_⟩
    refine qS (fun z=>?_) (fun z=>?_)
    ·rw[Jc (Jv z)]at q;exact q
    ·rw[Jb (fun y=>z (Jg y))]at q;exact q
theorem pW(a:At K mg "step_by" dc ["button","age","count","near","far"])(T:Gw K mg tk)(x8:Df P w K mg base "word_of" ["count","last","near","far"] 1 oO):Df P w K mg base "step_by" ["button","age","count","near","far"] 2 iO:=by
 refine a.dq GB fun f _ A _ s H vs Q E hr h=>?_
 ·obtain⟨a,e,age,c,near,far,rfl,⟨v,hb,hw⟩,q⟩:=h
  refine⟨_,(qd (zg (qv 0) (zw rfl (qm (qg (i:=5) GB.nd rfl (Or.inl rfl)) (qm (qg (i:=6) GB.nd rfl (Or.inl rfl)) (qm (qg (i:=7) GB.nd rfl (Or.inl rfl)) qO)))))
   (qd (qy (i:=8) GB.nd rfl (Or.inl rfl) (qo x8 hr.mo (qc (qv 2) (qc (qv 6) (qc (qv 3) (qc (qv 4) qa))))))
   (qd (qC (QW.pt (tZ (qx zz (qv 8) qw (qq _)) (om (qx (uv hr) (qv 7) (qu (qc (qv 1) (qc (qp Qe (qv 2) qf) qa))) (qq _))))) (qe (qy (i:=8) GB.nd rfl (Or.inl rfl) qw)) qr)
   (qd (qC (qx zz (qv 8) qw (qq _)) (qe (ql (qu (qc (qv 8) (qc (qu (qc (qv 1) (qc (qv 2) (qc qM qa)))) qa))))) qr)
   (qd (qC (qx zz (qv 8) qw (qq _)) (qe (ql (qu (qc (qv 8) (qc (qu (qc (qv 5) (qc (qv 6) (qc (qu (qc (qv 1) (qc (qv 2) qa))) qa)))) qa))))) qr)
   (qe (ql (qu (qc (qv 8) (qc (qv 0) qa)))))))))),?_⟩
  refine⟨_,rfl,a,_,rfl,.tup hb,rfl,_,_,rfl,_,_,rfl,_,_,rfl,rfl,?_⟩
  refine⟨_,rfl,_,rfl,_,rfl,_,rfl,c,e.last,near,far,rfl,?_⟩
  unfold zf at q;unfold pC
  by_cases h1:c<=e.last
  ·rw[Jc h1]
   rw[Jc h1]at q;refine⟨_,rfl,rfl,_,rfl,?_⟩
   refine qS (fun y=>absurd (Jv y) (by decide +kernel)) (fun _=>?_)
   refine⟨_,rfl,rfl,_,rfl,?_⟩
   refine qS (fun y=>absurd (Jv y) (by decide +kernel)) (fun _=>?_)
   refine⟨_,rfl,rfl,_,rfl,?_⟩
   refine qS (fun y=>absurd (Jv y) (by decide +kernel)) (fun _=>?_)
   refine⟨_,rfl,_,rfl,FR,fun q1 hq1=>?_⟩
   exact q q1 a _ (FZ.upd hq1) qb (GI.same (FZ.upd hq1) ⟨v,hb,hw⟩)
  ·rw[Jb h1]
   rw[Jb h1]at q
   by_cases h2:c<=e.last+near
   ·rw[Jc h2]
    rw[Jc h2]at q;refine⟨_,rfl,rfl,_,rfl,?_⟩
    refine qS (fun y=>absurd (Jv y) (by decide +kernel)) (fun _=>?_)
    refine⟨_,rfl,rfl,_,rfl,?_⟩
    refine qS (fun _=>?_) (fun y=>absurd (Jg rfl) y)
    refine⟨_,rfl,_,rfl,_,rfl,FS,fun t ht=>⟨FR,fun q1 hq1=>?_⟩⟩
    have u1:=FZ.upd (o:= .tup [.int age,.int c,.non]) ht
    have u2:=FZ.upd (o:= .tup [.str "near",.ref t]) hq1
    exact q q1 t _ (u1.trans u2) qb ⟨.non,u2 _ _ qb,rfl⟩
   ·rw[Jb h2]
    rw[Jb h2]at q
    by_cases h3:c<=e.last+far
    ·rw[Jc h3]
     rw[Jc h3]at q;refine⟨_,rfl,rfl,_,rfl,?_⟩
     refine qS (fun _=>?_) (fun y=>absurd (Jg rfl) y)
     refine⟨_,rfl,_,rfl,_,rfl,_,_,rfl,rfl,FR,fun t0 ht0=>?_⟩
     have u0:=FZ.upd (o:= .tup [.int age,.int (c-1)]) ht0
     have hw0:=hw.mv (S:=[]) u0.mv (fun c h=>nomatch h)
     refine⟨e.wt,t0,age,c-1,hw0,rfl,.inl qb,_,rfl,?_⟩
     by_cases h4:e.wt=some (age,c-1)
     ·rw[Jc h4]at q
      refine Qk (Jg h4) ?_
      refine⟨_,rfl,rfl,_,rfl,?_⟩
      refine qS (fun _=>?_) (fun y=>absurd (Jg rfl) y)
      refine⟨_,rfl,_,rfl,_,rfl,FS,fun t ht=>⟨FR,fun q1 hq1=>?_⟩⟩
      have u1:=FZ.upd (o:= .tup [.int age,.int c,.non]) ht
      have u2:=FZ.upd (o:= .tup [.str "near",.ref t]) hq1
      exact q q1 t _ ((u0.trans u1).trans u2) qb ⟨.non,u2 _ _ qb,rfl⟩
     ·rw[Jb h4]at q
      refine Qz (Jn h4) ?_
      refine⟨_,rfl,rfl,_,rfl,?_⟩
      refine qS (fun y=>absurd (Jv y) (by decide +kernel)) (fun _=>?_)
      refine⟨_,rfl,rfl,_,rfl,?_⟩
      refine qS (fun _=>?_) (fun y=>absurd (Jg rfl) y)
      refine⟨_,rfl,_,rfl,_,rfl,_,rfl,_,rfl,FR,fun t1 ht1=>⟨FS,fun t ht=>⟨FR,fun q1 hq1=>?_⟩⟩⟩
      have u1:=FZ.upd (o:= .tup [.int age,.int c]) ht1
      have u2:=FZ.upd (o:= .tup [.int e.age,.int e.last,.ref t1]) ht
      have u3:=FZ.upd (o:= .tup [.str "far",.ref t]) hq1
      exact q q1 t _ (((u0.trans u1).trans u2).trans u3) qb ⟨.ref t1,u3 _ _ qb,t1,rfl,u3 _ _ (u2 _ _ qb)⟩
    ·rw[Jb h3]
     rw[Jb h3]at q;refine⟨_,rfl,rfl,_,rfl,?_⟩
     refine qS (fun y=>absurd (Jv y) (by decide +kernel)) (fun _=>?_)
     refine⟨_,rfl,rfl,_,rfl,?_⟩
     refine qS (fun y=>absurd (Jv y) (by decide +kernel)) (fun _=>?_)
     refine⟨_,rfl,rfl,_,rfl,?_⟩
     refine qS (fun y=>absurd (Jv y) (by decide +kernel)) (fun _=>?_)
     refine⟨_,rfl,_,rfl,FR,fun q1 hq1=>?_⟩
     exact q q1 a _ (FZ.upd hq1) qb (GI.same (FZ.upd hq1) ⟨v,hb,hw⟩)
end
section
variable{P:Program}{w:World}{K:Frag}{mg:FX}{base:Heap}{tk:Nat->Tok}{C:Addr}
theorem iD(a:HS K C "__init__" "Door.__init__" Q4 ["self","table","keys","near","far","most"])(T:Gw K mg tk)(U:G0 K C):Mf P w K mg base C "__init__" ["self","table","keys","near","far","most"] 1 (AE K C):=by
 refine a.mq bI fun f _ A _ s H vs Q E hr h=>?_
 ·obtain⟨p,a,b,dx,near,far,most,t,kss,rfl,hp,ha,hb,hl,q⟩:=h
  refine⟨_,(qd (zW (qv 0) (qI bv T.b_tuple JI (qc (qv 1) qa)))
   (qd (zW (qv 0) (zN (own:=["key"]) (fr:=[]) (js:=[]) rfl (zI (qv 2)) rfl (fun _ _ h=>nomatch h) rfl (bg rfl (by decide +kernel) (by decide +kernel) (by decide +kernel)) (fun _ _ _ _=>qg (i:=0) (show List.Nodup (["key"]:List Str)from by decide +kernel) rfl (Or.inl rfl) (.inr rfl)) (fun _ _ _ _=>(qI fM T.b_tuple JI (qc (qv 0) qa)))))
   (qd (zW (qv 0) (qv 3))
   (qd (zW (qv 0) (qv 4))
   (qd (zW (qv 0) (qv 5))
   (qd (zW (qv 0) qf)
   (qd (zW (qv 0) gr)
   (qe (zW (qv 0) (zb qa)))))))))),?_⟩
  refine⟨_,rfl,a,_,rfl,ha,fun ta H2 s2 ht=>⟨_,rfl,p,_,rfl,zk U.cl (s2 _ _ hp) U.n_table 0,?_⟩⟩
  have e2:=s2 _ _ hp;have hb2:=(hb.same s2).upd (o:= .ins C dx [("table",.ref ta)]) e2
  obtain⟨as,eb,la,hks⟩:=hb2;have ht2:=fi (o:= .ins C dx [("table",.ref ta)]) e2 ht
  refine⟨_,rfl,b,rfl,⟨_,F8.of eb⟩,Zj (K:=K) (xs:=as.map V.ref) (by rw[Jf,la,JH];lia) (fun i ys H3=>FZ (F5 H2 p (.ins C dx [("table",.ref ta)])) H3/\∃bs:List Addr,ys=bs.map V.ref/\bs.length=i/\∀(j:Nat) (x:Addr) (ks:List Int),bs[j]? =some x->kss[j]? =some ks->Ga [] H3 x (ks.map V.int)) ⟨FZ.refl _,[],rfl,rfl,fun j x ks e=>by(cases e)⟩ (fun i ys H3 ⟨s3,_⟩=>s3.seq (F8.of eb)) ?_ ?_⟩
  ·rintro i ys H3 x hx hyl ⟨s3,bs,rfl,hbl,hbs⟩
   rw[Jq]at hx;cases ea:as[i]? with
   |none=>rw[ea]at hx;cases hx
   |some x0=>
    rw[ea]at hx
    obtain rfl:V.ref x0=x:=Jy hx
    have hi:i<kss.length:=by rw[<- la];exact(Jw.mp ea).1
    have hk0:=hks i x0 kss[i] ea (Jj hi);refine⟨_,rfl,x0,_,rfl,.inr (FZ.sqt s3 hk0).rd,fun l H4 s4 hl4=>⟨s3.trans s4,bs++[l],by simp,by simp [hbl],fun j y ks e1 e2'=>?_⟩⟩
    rw[FO]at e1;split at e1
    ·exact FZ.sqt s4 (hbs j y ks e1 e2')
    ·have hj:j-bs.length=0:=by
      cases hj:j-bs.length with
      |zero=>rfl
      |succ k=>rw[hj]at e1;cases e1
     rw[hj]at e1;cases e1
     have:j=i:=by lia
     subst this;rw[Jj hi]at e2';cases e2';exact .inl hl4
  ·rintro ys H3 hyl ⟨s3,bs,rfl,hbl,hbs⟩ hk hhk
   have u3:=FZ.upd (o:= .lst (bs.map V.ref)) hhk
   have e3:=u3 _ _ (s3 _ _ qb);refine⟨_,rfl,p,_,rfl,zk U.cl e3 U.n_house_keys 1,?_⟩
   refine⟨_,rfl,_,rfl,p,_,rfl,zk U.cl qb U.n_near 2,?_⟩
   refine⟨_,rfl,_,rfl,p,_,rfl,zk U.cl qb U.n_far 3,?_⟩
   refine⟨_,rfl,_,rfl,p,_,rfl,zk U.cl qb U.n_most 4,?_⟩
   refine⟨_,rfl,p,_,rfl,zk U.cl qb U.n_least_age 5,?_⟩
   refine fun bd hbd=>⟨_,rfl,p,_,rfl,zk U.cl (by rw[qj (qi qb hbd)];exact qb) U.n_buttons 6,?_⟩
   have nbd:=qi qb hbd;refine⟨FP,fun lg hlg=>⟨_,rfl,p,_,rfl,zk U.cl (by rw[qj (qi qb hlg)];exact qb) U.n_log 7,?_⟩⟩
   have nlg:=qi qb hlg;have m3:Mv [p] H H3:=((s2.mv (S:=[p])).trans Mv.upd1).trans s3.mv
   have nhk:hk≠p:=(qi (s3 _ _ qb) hhk).symm
   have m4:Mv [p] H (F5 H3 hk (.lst (bs.map V.ref))):=m3.trans u3.mv
   have M:∀o1 o2 o3 o4 o5,Mv [p] (F5 H3 hk (.lst (bs.map V.ref))) (F5 (F5 (F5 (F5 (F5 (F5 H3 hk (.lst (bs.map V.ref))) p o1) p o2) p o3) p o4) p o5):=fun o1 o2 o3 o4 o5=>(((Mv.upd1.trans Mv.upd1).trans Mv.upd1).trans Mv.upd1).trans Mv.upd1
   have M6:Mv [p] (F5 H3 hk (.lst (bs.map V.ref))) _:=(((M _ _ _ _ _).trans (FZ.upd hbd).mv).trans Mv.upd1).trans (FZ.upd (o:= .lst []) hlg).mv
   have M7:=M6.trans (Mv.upd1 (o:= .ins C dx (dF ⟨t,kss,near,far,most,0,[]⟩ ta hk bd lg)))
   have nt:NT [p] (F5 H3 hk (.lst (bs.map V.ref))):=NT.one e3 trivial
   have hbdlg:bd≠lg:=qi (by rw[qj nbd.symm];exact qb) hlg
   have KR:=Gm.mv M7 nt (zr nhk) (show Gm [] _ hk kss from⟨bs,qb,by rw[hbl,Jf,la],fun j x ks e1 e2'=>FZ.sqt u3 (hbs j x ks e1 e2')⟩)
   refine q ta hk bd lg _ (m3.nfree (zr nhk) hhk) ((m4.trans (M _ _ _ _ _)).nfree (zr nbd.symm) hbd) ((m4.trans ((((M _ _ _ _ _).trans (FZ.upd hbd).mv).trans Mv.upd1))).nfree (zr nlg.symm) hlg) (m4.trans M7) ⟨⟨dx,qb⟩,?_,Gm.up KR,?_,?_,?_⟩ KR
   ·exact M7.sqt nt (FZ.sqt u3 (FZ.sqt s3 ht2))
   ·exact⟨([],fun _=>0),by rw[qj nbd.symm,qj hbdlg,qj nbd.symm];exact qb,fun e he=>by(cases he),.refl _,Fl⟩
   ·exact⟨[],by rw[qj nlg.symm];exact qb,Je _⟩
   ·refine(qi (o:= .lst (bs.map V.ref)) ?_ hlg).symm
    rw[qj nhk];rw[qj (qi (o:= .lst (bs.map V.ref)) (by rw[qj nhk,qj nhk,qj nhk,qj nhk,qj nhk];exact qb) hbd)]
    rw[qj nhk,qj nhk,qj nhk,qj nhk,qj nhk];exact qb
theorem hV(a:HS K C "is_full" "Door.is_full" Zz ["self"])(T:Gw K mg tk)(U:G0 K C):Mf P w K mg base C "is_full" ["self"] 1 (nP K C):=by
 refine a.mq gy fun f _ A _ s H vs Q E hr h=>?_
 ·obtain⟨p,ta,hk,bd,lg,n,D,rfl,b,q⟩:=h
  obtain⟨fn,hd,_,hpm,_⟩:=b.kb;refine⟨_,(qe (ql (zh rp (qk rT T.b_len J8 (qc (qY (qv 0)) qa)) (qY (qv 0)) (qq _)))),?_⟩
  refine⟨_,rfl,p,_,rfl,b.h_buttons U,bd,_,rfl,hd,_,rfl,p,_,rfl,b.h_most U,_,_,rfl,rfl,?_⟩
  rw[show(fP fn.1 fn.2).length=D.kn.length from(Jf _).trans hpm.length_eq]
  exact q
theorem fF(a:HS K C "button_of" "Door.button_of" Q9 ["self","name"])(T:Gw K mg tk)(U:G0 K C):Mf P w K mg base C "button_of" ["self","name"] 1 (j4 K C):=by
 refine a.mq fH fun f _ A _ s H vs Q E hr h=>?_
 ·obtain⟨p,ta,hk,bd,lg,n,D,nm,rfl,b,q1,q2⟩:=h
  refine⟨_,(qe (ql (li hr (qY (qv 0)) (qv 1)))),?_⟩
  obtain⟨fn,hd,_⟩:=id b.kb;refine⟨_,rfl,p,_,rfl,b.h_buttons U,bd,rfl,.inl ⟨_,.inl hd⟩,_,rfl,?_⟩
  rcases b.kb.get nm with⟨e1,g⟩|⟨e,x,e1,g,hx⟩
  ·exact⟨_,g,q1 e1⟩
  ·exact⟨_,g,q2 e x e1 hx⟩
theorem fD(a:HS K C "takes_age" "Door.takes_age" Ze ["self","age"])(T:Gw K mg tk)(U:G0 K C):Mf P w K mg base C "takes_age" ["self","age"] 1 (gd K C):=by
 refine a.mq fA fun f _ A _ s H vs Q E hr h=>?_
 ·obtain⟨p,ta,hk,bd,lg,n,D,age,rfl,b,q⟩:=h
  obtain⟨as,eh,la,_⟩:=b.ks;refine⟨_,(qe (ql (gm ZP eW (qY (qv 0)) (qv 1) (qk qP T.b_len J8 (qc (qY (qv 0)) qa))))),?_⟩
  unfold QH at q;refine⟨_,rfl,p,_,rfl,b.h_least_age U,_,rfl,_,_,rfl,rfl,_,rfl,?_⟩
  refine qS (fun z=>?_) (fun z=>?_)
  ·rw[z,EA]at q
   refine⟨_,rfl,p,_,rfl,b.h_house_keys U,hk,_,rfl,.inl (F8.of eh),_,_,rfl,rfl,?_⟩
   rw[Jf,la];exact q
  ·rw[ET.mpr z,DU]at q
   exact q
theorem dy(a:HS K C "takes_from" "Door.takes_from" QX ["self","button","age"])(T:Gw K mg tk)(U:G0 K C)(dH:Mf P w K mg base C "takes_age" ["self","age"] 1 (gd K C)):Mf P w K mg base C "takes_from" ["self","button","age"] 2 (bL K C):=by
 refine a.mq db fun f _ A _ s H vs Q E hr h=>?_
 ·obtain⟨p,ta,hk,bd,lg,x,n,D,e,age,rfl,b,⟨v,hx,hw⟩,q⟩:=h
  refine⟨_,(qe (ql (zB (zi dH U.cl hr.mo (qv 0) (qc (qv 2) qa)) (Qu (zh rp (qv 2) (qt qF (qv 1) qf) (qq _)))))),?_⟩
  unfold qH at q;refine⟨_,rfl,p,rfl,b.no,_,rfl,p,ta,hk,bd,lg,n,D,age,rfl,b,_,rfl,?_⟩
  refine qS (fun z=>?_) (fun z=>?_)
  ·rw[z,EA]at q
   exact⟨_,rfl,_,rfl,x,_,_,_,rfl,rfl,Ga.of hx,rfl,_,_,rfl,rfl,q⟩
  ·rw[ET.mpr z,DU]at q
   exact q
theorem cR(a:HS K C "plain_step" "Door.plain_step" Qm ["self","button","age","count"])(T:Gw K mg tk)(U:G0 K C)(dB:Mf P w K mg base C "takes_from" ["self","button","age"] 2 (bL K C))(xD:Df P w K mg base "step_by" ["button","age","count","near","far"] 2 iO):Mf P w K mg base C "plain_step" ["self","button","age","count"] 3 (nU K C):=by
 refine a.mq ZT fun f _ A _ s H vs Q E hr h=>?_
 ·obtain⟨p,ta,hk,bd,lg,x,n,D,e,age,c,rfl,b,hx,ht,q⟩:=h
  refine⟨_,(qd (qC (Qd (qW (zi dB U.cl hr.mo (qv 0) (qc (qv 1) (qc (qv 2) qa))))) (qe (ql (qu (qc qw (qc (qv 1) qa))))) qr)
   (qe (ql (qo xD hr.mo (qc (qv 1) (qc (qv 2) (qc (qv 3) (qc (qY (qv 0)) (qc (qY (qv 0)) qa))))))))),?_⟩
  refine⟨_,rfl,p,rfl,b.no,_,rfl,_,rfl,p,ta,hk,bd,lg,x,n,D,e,age,rfl,b,hx,_,rfl,?_⟩
  rw[ht];refine qZ ?_
  exact⟨_,rfl,_,rfl,_,rfl,_,rfl,p,_,rfl,b.h_near U,_,rfl,p,_,rfl,b.h_far U,x,e,age,c,D.near,D.far,rfl,hx,q⟩
theorem fE(a:HS K C "answer_to" "Door.answer_to" Zd ["self","press"])(T:Gw K mg tk)(U:G0 K C)(dC:Mf P w K mg base C "button_of" ["self","name"] 1 (j4 K C))(dB:Mf P w K mg base C "takes_from" ["self","button","age"] 2 (bL K C))(dG:Mf P w K mg base C "plain_step" ["self","button","age","count"] 3 (nU K C))
  (dP:Df P w K mg base "read_press" ["table","key","press"] 3 (mj K)):Mf P w K mg base C "answer_to" ["self","press"] 4 (iU K C):=by
 refine a.mq F7 fun f _ A _ s H vs Q E hr h=>?_
 ·obtain⟨p,ta,hk,bd,lg,pr,n,D,nm,age,ds,rfl,b,ok,⟨pc,hp,hpc⟩,hn,l5,hdd,q⟩:=h
  refine⟨_,(qd (zg (qv 1) (zw rfl (qm (qg (i:=2) F7.nd rfl (Or.inl rfl)) (qm (qg (i:=3) F7.nd rfl (Or.inl rfl)) (qm (qg (i:=4) F7.nd rfl (Or.inl rfl)) qO)))))
   (qd (qy (i:=5) F7.nd rfl (Or.inl rfl) (zi dC U.cl hr.mo (qv 0) (qc (qv 2) qa)))
   (qd (qC (qx zM (qv 5) qM (qq _)) (qe (ql (qu (qc qw (qc qw qa))))) qr)
   (qd (qC (Qd (qW (zi dB U.cl hr.mo (qv 0) (qc (qv 5) (qc (qv 3) qa))))) (qe (ql (qu (qc qw (qc qw qa))))) qr)
   (qd (qy (i:=6) F7.nd rfl (Or.inl rfl) (qo dP hr.mo (qc (qY (qv 0)) (qc (qt qK (qY (qv 0)) (qv 3)) (qc (qv 1) qa)))))
   (qd (qC (qx zM (qv 6) qM (qq _)) (qe (ql (qu (qc qw (qc qw qa))))) qr)
   (qd (zg (qv 6) (zw rfl (qm (qg (i:=7) F7.nd rfl (Or.inl rfl)) (qm (qg (i:=8) F7.nd rfl (Or.inl rfl)) qO))))
   (qd (zg (zi dG U.cl hr.mo (qv 0) (qc (qv 5) (qc (qv 3) (qc (qv 7) qa)))) (zw rfl (qm (qg (i:=9) F7.nd rfl (Or.inl rfl)) (qm (qg (i:=10) F7.nd rfl (Or.inl rfl)) qO))))
   (qd (ZA hr (qY (qv 0)) (qv 2) (qv 10))
   (qd (qC (qx zz (qv 9) qw (qq _)) (qe (ql (qu (qc qw (qc (qv 2) (qc (qv 8) qa)))))) qr)
   (qe (ql (qu (qc qw (qc (qv 9) qa))))))))))))))),?_⟩
  refine⟨_,rfl,pr,_,rfl,.tup hp,rfl,_,_,rfl,_,_,rfl,_,_,rfl,rfl,?_⟩
  refine⟨_,rfl,p,rfl,b.no,_,rfl,p,ta,hk,bd,lg,n,D,nm,rfl,b,fun e1=>?_,fun e x e1 hx=>?_⟩
  ·have eJ:zj D nm age (Zp D.t (Qy D age) nm ds)=([.str "held",.str "unknown"],D.kn):=by unfold zj;rw[e1]
   rw[eJ]at q;refine⟨_,rfl,rfl,_,rfl,?_⟩
   refine qS (fun _=>?_) (fun y=>absurd (Jg rfl) y)
   refine⟨FR,fun q1 hq1=>?_⟩
   exact q q1 _ (FZ.upd hq1).mv qb (b.same (FZ.upd hq1))
  ·refine⟨_,rfl,rfl,_,rfl,?_⟩
   refine qS (fun y=>nomatch (Jv y)) (fun _=>?_)
   refine⟨_,rfl,p,rfl,b.no,_,rfl,_,rfl,p,ta,hk,bd,lg,x,n,D,e,age,rfl,b,hx,_,rfl,?_⟩
   cases ht:qH D e age with
   |false=>
    have eJ:zj D nm age (Zp D.t (Qy D age) nm ds)=([.str "held",.str "age"],D.kn):=by unfold zj;rw[e1];simp only;rw[ht];rfl
    rw[eJ]at q;refine za ?_
    refine⟨FR,fun q1 hq1=>?_⟩
    exact q q1 _ (FZ.upd hq1).mv qb (b.same (FZ.upd hq1))
   |true=>
    refine qZ ?_
    obtain⟨a0,a1⟩:=Zh ht ok.l0;obtain⟨xs,ak,eh,hat,hak⟩:=b.ks.at a0 a1;refine⟨_,rfl,p,_,rfl,b.h_table U,_,rfl,p,_,rfl,b.h_house_keys U,_,rfl,hk,_,_,_,rfl,rfl,F8.of eh,hat,_,rfl,ta,ak,pr,pc,nm,age,D.t,Qy D age,ds,rfl,.inr b.tb,.inr hak,.tup hp,.tup hpc,hn,ok.tp,l5,hdd,fun y H1 s1 told=>?_⟩
    have b1:=b.same s1;have hx1:=hx.same s1;have told':cQ H1 y (Zp D.t (Qy D age) nm ds):=told
    cases er:Zp D.t (Qy D age) nm ds with
    |none=>
     rw[er]at told' q;have ey:y= .non:=told'
     subst ey;have eJ:zj D nm age none=([.str "held",.str "false"],D.kn):=by unfold zj;rw[e1];simp only;rw[ht];rfl
     rw[eJ]at q;refine⟨_,rfl,rfl,_,rfl,?_⟩
     refine qS (fun _=>?_) (fun y=>absurd (Jg rfl) y)
     refine⟨FR,fun q1 hq1=>?_⟩
     exact q q1 _ (s1.trans (FZ.upd hq1)).mv qb (b1.same (FZ.upd hq1))
    |some cd=>
     obtain⟨c,d⟩:=cd;rw[er]at told' q;obtain⟨pp,ey,hpp⟩:=told';subst ey;refine⟨_,rfl,rfl,_,rfl,?_⟩
     refine qS (fun y=>nomatch (Jv y)) (fun _=>?_)
     refine⟨_,rfl,pp,_,rfl,.tup hpp,rfl,_,_,rfl,_,_,rfl,rfl,?_⟩
     refine⟨_,rfl,p,rfl,b1.no,_,rfl,_,rfl,_,rfl,p,ta,hk,bd,lg,x,n,D,e,age,c,rfl,b1,hx1,ht,fun q1 a' H2 s2 hq1 hb'=>⟨q1,_,rfl,.tup hq1,rfl,_,_,rfl,_,_,rfl,rfl,?_⟩⟩
     have b2:=b1.same s2;obtain⟨H3,dp,m3,kb3⟩:=b2.kb.put nm (by have:=ok.nl;lia) hb'
     refine⟨_,rfl,_,rfl,p,_,rfl,b2.h_buttons U,_,rfl,bd,H3,rfl,dp,?_⟩
     have b3:=b2.putK m3 kb3;have mm:Mv [bd] H H3:=(s1.trans s2).mv.trans m3
     refine⟨_,rfl,rfl,_,rfl,?_⟩
     by_cases hw:(zf D.near D.far e age c).1="near"
     ·have eJ:zj D nm age (some (c,d))=([.str "open",.str nm,.int d],ze D.kn nm (zf D.near D.far e age c).2):=by unfold zj;rw[e1];simp only;rw[Jc ht,Jc hw]
      rw[eJ]at q;refine qS (fun _=>?_) (fun y=>absurd (Jg (by rw[hw])) y)
      refine⟨_,rfl,_,rfl,FS,fun q2 hq2=>?_⟩
      exact q q2 _ (mm.trans (FZ.upd hq2).mv) qb (b3.same (FZ.upd hq2))
     ·have eJ:zj D nm age (some (c,d))=([.str "held",.str (zf D.near D.far e age c).1],ze D.kn nm (zf D.near D.far e age c).2):=by unfold zj;rw[e1];simp only;rw[Jc ht,Jb hw]
      rw[eJ]at q;refine qS (fun y=>absurd (Jv y) (by intro z;injection z with z;exact hw z)) (fun _=>?_)
      refine⟨_,rfl,FR,fun q2 hq2=>?_⟩
      exact q q2 _ (mm.trans (FZ.upd hq2).mv) qb (b3.same (FZ.upd hq2))
theorem c5(a:HS K C "read_right" "Door.read_right" QZ ["self","thing"])(T:Gw K mg tk)(U:G0 K C)(dX:Df P w K mg base "is_press" ["thing"] 5 bQ)(dH:Mf P w K mg base C "takes_age" ["self","age"] 1 (gd K C))(dP:Df P w K mg base "read_press" ["table","key","press"] 3 (mj K)):Mf P w K mg base C "read_right" ["self","thing"] 6 (i7 K C):=by
 refine a.mq cS fun f _ A _ s H vs Q E hr h=>?_
 ·obtain⟨p,ta,hk,bd,lg,n,D,x,o,rfl,b,ok,tg,q⟩:=h
  refine⟨_,(qd (qC (QW.pt (zX (Qd (qW (qo dX hr.mo (qc (qv 1) qa)))) (zG (Qd (qW (zi dH U.cl hr.mo (qv 0) (qc (qt qF (qv 1) qf) qa))))))) (qe (ql qM)) qr)
   (qe (ql (qo dP hr.mo (qc (qY (qv 0)) (qc (qt qK (qY (qv 0)) (qt qF (qv 1) qf)) (qc (qv 1) qa))))))),?_⟩
  refine⟨_,rfl,x,_,rfl,tg.b,fun H1 s1=>⟨_,rfl,?_⟩⟩
  cases o with
  |none=>exact za (za (q .non _ s1 rfl))
  |some PP=>
  obtain⟨pr,rfl,hp,hn,l5,hdd⟩:=tg;have q:∀y H',FZ H H'->cQ H' y (gE D PP)->Q y H':=q
  obtain⟨nm,age,ds⟩:=PP;simp only at hn l5 hdd
  refine qZ ?_
  have b1:=b.same s1;obtain⟨pc,hp1,hpc1⟩:=Gx.same s1 hp;refine⟨_,rfl,p,rfl,b1.no,_,rfl,pr,_,_,_,rfl,rfl,Ga.of hp1,rfl,p,ta,hk,bd,lg,n,D,age,rfl,b1,_,rfl,?_⟩
  unfold gE at q;cases ht:QH D age with
  |false=>
   rw[Jb (by rw[ht];intro z;cases z)]at q
   exact za (q _ _ s1 rfl)
  |true=>
  rw[Jc ht]at q;refine qZ ?_
  have ht':qH D ⟨age,0,none⟩ age=true:=by unfold qH;rw[ht,Jg (JO _)];rfl
  obtain⟨a0,a1⟩:=Zh ht' ok.l0;obtain⟨xs,ak,eh,hat,hak⟩:=b1.ks.at a0 a1
  exact⟨_,rfl,p,_,rfl,b1.h_table U,_,rfl,p,_,rfl,b1.h_house_keys U,_,rfl,pr,_,_,_,rfl,rfl,Ga.of hp1,rfl,hk,_,_,_,rfl,rfl,F8.of eh,hat,_,rfl,ta,ak,pr,pc,nm,age,D.t,Qy D age,ds,rfl,.inr b1.tb,.inr hak,.tup hp1,.tup hpc1,hn,ok.tp,l5,hdd,fun y H2 s2 told=>q y H2 (s1.trans s2) told⟩
theorem fI(a:HS K C "known_now" "Door.known_now" Zc ["self"])(T:Gw K mg tk)(U:G0 K C):Mf P w K mg base C "known_now" ["self"] 1 (kE K C):=by
 refine a.mq fG fun f _ A _ s H vs Q E hr h=>?_
 ·obtain⟨p,ta,hk,bd,lg,n,D,rfl,b,ok,q⟩:=h
  obtain⟨fn,hd,hbu,hpm,_⟩:=id b.kb;refine⟨_,(qe (ql (qI q9 T.b_tuple JI (qc (zN (own:=["name"]) (fr:=["self"]) (js:=[0]) rfl (zI (qk (k9 rfl) T.b_sorted PyProof.Rows.boot_sorted (qc (qY (qv 0)) qa))) rfl (ie rfl) rfl (im rfl (by decide +kernel) (by decide +kernel) (by decide +kernel) rfl rfl rfl) (fun _ _ _ _=>qg (i:=0) (show List.Nodup (["name","self"]:List Str)from by decide +kernel) rfl (Or.inl rfl) (.inr rfl)) (fun _ _ _ _=>(qp ZH (qu (qc (qv 0) qa)) (zD hr (As (K:=K) rfl (qv 1)) (qv 0))))) qa)))),?_⟩
  refine⟨_,rfl,p,_,rfl,b.h_buttons U,bd,_,fn.1.map (·.1),rfl,hd,AI _ _,by rw[Jf,hpm.length_eq];have:=ok.nl;lia,fun l ss hl pm0 so=>⟨l,rfl,⟨_,F8.of qb⟩,?_⟩⟩
  have pm:=pm0.trans (hpm.map (·.1))
  have u1:=FZ.upd (o:= .lst (ss.map V.str)) hl
  have ls:ss.length<=60:=by rw[pm.length_eq,Jf];exact ok.nl
  refine Zj (K:=K) (xs:=ss.map V.str) (by rw[Jf,JH];lia) (fun i ys H3=>FZ (F5 H l (.lst (ss.map V.str))) H3/\∃as:List Addr,ys=as.map V.ref/\as.length=i/\∀(j:Nat) (x:Addr) (nm:Str) (e:Kb),as[j]? =some x->ss[j]? =some nm->D.kn.lookup nm=some e->∃v,H3 x=some (.tup [.str nm,.int e.age,.int e.last,v])/\Wt H3 v e.wt) ⟨FZ.refl _,[],rfl,rfl,fun j x nm e h=>by(cases h)⟩ (fun i ys H3 ⟨s3,_⟩=>s3.seq (F8.of qb)) ?_ ?_
  ·rintro i ys H3 x hx hyl ⟨s3,as,rfl,hal,has⟩
   rw[Jq]at hx;cases es:ss[i]? with
   |none=>rw[es]at hx;cases hx
   |some nm=>
    rw[es]at hx
    obtain rfl:V.str nm=x:=Jy hx
    have hmem:nm∈D.kn.map (·.1):=pm.mem_iff.mp (DX es)
    obtain⟨e,he⟩:=ZY hmem;have b3:=b.same (u1.trans s3);obtain⟨e',x0,he',g,v0,hx0,hw0⟩:=(b3.kb.get nm).resolve_left (fun z=>by rw[he]at z;cases z.1)
    rw[he]at he';cases he';refine⟨_,rfl,FQ,fun t ht=>?_⟩
    have u4:=FZ.upd (o:= .tup [.str nm]) ht
    have b4:=b3.same u4;obtain⟨e',x0,he',g,v0,hx0,hw0⟩:=(b4.kb.get nm).resolve_left (fun z=>by rw[he]at z;cases z.1)
    rw[he]at he';cases he';refine⟨_,rfl,p,_,rfl,b4.h_buttons U,_,rfl,bd,_,rfl,g,t,x0,_,_,rfl,rfl,qb,hx0,FT,fun q1 H5 s5 hq1=>?_⟩
    refine⟨(s3.trans u4).trans s5,as++[q1],by simp,by simp [hal],fun j y m2 e2 h1 h2 h3=>?_⟩
    rw[FO]at h1;split at h1
    ·obtain⟨v,a1,a2⟩:=has j y m2 e2 h1 h2 h3
     exact⟨v,s5 _ _ (u4 _ _ a1),a2.mv (S:=[]) (u4.trans s5).mv (fun c h=>nomatch h)⟩
    ·have hj:j-as.length=0:=by
      cases hj:j-as.length with
      |zero=>rfl
      |succ k=>rw[hj]at h1;cases h1
     rw[hj]at h1;cases h1
     obtain rfl:j=i:=by lia
     rw[es]at h2;cases h2;rw[he]at h3;cases h3
     exact⟨v0,hq1,hw0.mv (S:=[]) s5.mv (fun c h=>nomatch h)⟩
  ·rintro ys H3 hyl ⟨s3,as,rfl,hal,has⟩ l2 hl2
   have u4:=FZ.upd (o:= .lst (as.map V.ref)) hl2
   refine⟨l2,_,rfl,.inl ⟨F8.of qb,fun q1 hq1=>?_⟩⟩
   have u5:=FZ.upd (o:= .tup (as.map V.ref)) hq1
   have S:=u4.trans u5;refine q q1 ss _ ((u1.trans s3).trans S) pm so ⟨as,qb,by rw[hal,Jf],fun j x nm e h1 h2 h3=>?_⟩
   obtain⟨v,a1,a2⟩:=has j x nm e h1 h2 h3
   exact⟨v,S _ _ a1,a2.mv (S:=[]) S.mv (fun c h=>nomatch h)⟩
end
section
variable{P:Program}{w:World}{K:Frag}{mg:FX}{base:Heap}{tk:Nat->Tok}{C:Addr}
theorem lN(a:HS K C "hear" "Door.hear" bi ["self","thing"])(T:Gw K mg tk)(U:G0 K C)(dX:Df P w K mg base "is_press" ["thing"] 5 bQ)(xB:Mf P w K mg base C "answer_to" ["self","press"] 4 (iU K C)):Mf P w K mg base C "hear" ["self","thing"] 6 (nH K C):=by
 refine a.mq Hw fun f _ A _ s H vs Q E hr h=>?_
 ·obtain⟨⟨p,ta,hk,bd,lg⟩,D,L,x,o,rfl,⟨b,⟨rs,el,ro⟩,kr⟩,n1,ok,tg,qn,qs⟩:=h
  simp only at b el kr qs
  refine⟨_,(qd (qC (Qd (qW (qo dX hr.mo (qc (qv 1) qa)))) (qe (ql (qu (qc qw (qc qw qa))))) qr)
   (qd (qy (i:=2) Hw.nd rfl (Or.inl rfl) (zi xB U.cl hr.mo (qv 0) (qc (qv 1) qa)))
   (qd (zQ (Z4 EB EV EW QK (qY (qv 0)) (qc (qu (qc qw (qc (qv 1) (qc (qv 2) qa)))) qa)))
   (qe (ql (qv 2)))))),?_⟩
  refine⟨_,rfl,x,_,rfl,tg.b,fun H1 s1=>⟨_,rfl,?_⟩⟩
  cases o with
  |none=>exact za ⟨FR,fun q hq=>qn rfl q _ (s1.trans (FZ.upd hq)) qb⟩
  |some PP=>
  obtain⟨pr,rfl,hp,okP⟩:=tg;have q:=qs PP rfl;refine qZ ?_
  have b1:=b.same s1;obtain⟨f0,hd,_⟩:=id b1.kb;have ntb:NT [bd] H1:=NT.one hd trivial
  refine⟨_,rfl,p,rfl,b1.no,_,rfl,p,ta,hk,bd,lg,pr,L.length,D,PP.nm,PP.age,PP.ds,rfl,b1,ok,Gx.same s1 hp,okP.nm,okP.l,okP.dg,fun q1 H2 m2 hq1 b2=>?_⟩
  have el2:=m2 _ _ (zr (Q5 (s1 _ _ el) hd (by intro z;cases z))) (s1 _ _ el)
  have ro2:=(ro.same s1).mv m2 ntb;refine⟨_,rfl,p,_,rfl,b2.h_log U,.inl ⟨rfl,_,F8.of el2⟩,_,rfl,_,rfl,FS,fun r hr'=>?_⟩
  have u3:=FZ.upd (o:= .tup [.str "hear",.ref pr,.ref q1]) hr'
  have b3:=b2.same u3;have pr3:=Gx.same u3 (Gx.mv m2 ntb (Gx.same s1 hp));have ntl:NT [lg] _:=NT.one (u3 _ _ el2) trivial
  refine⟨lg,_,_,rfl,rfl,u3 _ _ el2,by rw[Jf,ro.1,JH];lia,⟨_,rfl,?_⟩⟩
  exact q pr q1 _ rfl (((s1.mv.trans (m2.mono (fun c h z=>h (by rw[Jl.mp z];exact Jz ..)))).trans u3.mv).trans (Mv.upd1.mono (fun c h z=>h (by rw[Jl.mp z];exact JG _ (Jz ..))))) (Gx.mv Mv.upd1 ntl pr3) (Mv.upd1.tup ntl (u3 _ _ hq1)) (GQ.push (a:=⟨p,ta,hk,bd,lg⟩) b3 (u3 _ _ el2) (ro2.same u3) ((Gm.mv m2 ntb (zr (xi hd b1)) (Gm.same s1 kr)).same u3) ⟨pr,q1,.inl qb,pr3,okP,u3 _ _ hq1,rS D PP,vb D PP⟩)
theorem jS(a:HS K C "learn" "Door.learn" au ["self","one","other"])(T:Gw K mg tk)(U:G0 K C)(dM:Mf P w K mg base C "read_right" ["self","thing"] 6 (i7 K C))(xJ:Mf P w K mg base C "is_full" ["self"] 1 (nP K C)):Mf P w K mg base C "learn" ["self","one","other"] 7 (iT K C):=by
 refine a.mq Gj fun f _ A _ s H vs Q E hr h=>?_
 ·obtain⟨⟨p,ta,hk,bd,lg⟩,D,L,p1,p2,⟨nm,age,ds1⟩,⟨nm2,age2,ds2⟩,c,d1,d2,rfl,⟨b,⟨rs,el,ro⟩,kr⟩,n1,ok,hp1,hp2,ok1,ok2,r1,r2,en,ea,hno,hmo,q⟩:=h
  simp only at b el kr q en ea hno
  subst en;subst ea
  refine⟨_,(qd (qy (i:=3) Gj.nd rfl (Or.inl rfl) (zi dM U.cl hr.mo (qv 0) (qc (qv 1) qa)))
   (qd (qC (qx zM (qv 3) qM (qq _)) Qq qr)
   (qd (qy (i:=4) Gj.nd rfl (Or.inl rfl) (zi dM U.cl hr.mo (qv 0) (qc (qv 2) qa)))
   (qd (qC (QW.pt (zX (qx zM (qv 4) qM (qq _)) (zX (qx (BR hr) (ZI eI (qv 2) af (ai qf)) (ZI eI (qv 1) af (ai qf)) (qq _)) (zG (qx Z9 (qt qF (qv 4) qf) (qp qJ (qt qF (qv 3) qf) qf) (qq _)))))) Qq qr)
   (qd (zg (qv 1) (zw rfl (qm (qg (i:=5) Gj.nd rfl (Or.inl rfl)) (qm (qg (i:=6) Gj.nd rfl (Or.inl rfl)) (qm (qg (i:=7) Gj.nd rfl (Or.inl rfl)) qO)))))
   (qd (qC (B0 hr (qv 5) (qY (qv 0))) Qq qr)
   (qd (qC (qW (Zb xJ U.cl hr.mo (qv 0))) Qq qr)
   (qd (ZA hr (qY (qv 0)) (qv 5) (qu (qc (qv 6) (qc (qt qF (qv 4) qf) (qc qM qa)))))
   (qe (zQ (Z4 EB EV EW QK (qY (qv 0)) (qc (qu (qc qw (qc (qv 1) (qc (qv 2) qa)))) qa)))))))))))),?_⟩
  refine⟨_,rfl,p,rfl,b.no,_,rfl,p,ta,hk,bd,lg,L.length,D,.ref p1,some _,rfl,b,ok,⟨p1,rfl,hp1,ok1⟩,fun y1 H1 s1 t1=>?_⟩
  have t1:cQ H1 y1 (gE D _):=t1
  rw[r1]at t1;obtain⟨f1,rfl,hf1⟩:=t1;refine⟨_,rfl,rfl,_,rfl,qS (fun y=>nomatch (Jv y)) (fun _=>?_)⟩
  have b1:=b.same s1;refine⟨_,rfl,p,rfl,b1.no,_,rfl,p,ta,hk,bd,lg,L.length,D,.ref p2,some _,rfl,b1,ok,⟨p2,rfl,Gx.same s1 hp2,ok2⟩,fun y2 H2 s2 t2=>?_⟩
  have t2:cQ H2 y2 (gE D _):=t2
  rw[r2]at t2;obtain⟨f2,rfl,hf2⟩:=t2;have b2:=b1.same s2;have hp1':=Gx.same (s1.trans s2) hp1;have hp2':=Gx.same (s1.trans s2) hp2;obtain⟨c1,e1,_⟩:=id hp1';obtain⟨c2,e2,_⟩:=id hp2';simp only at e1 e2
  refine⟨_,rfl,rfl,_,rfl,?_⟩
  refine qS (fun y=>nomatch (Jv y)) (fun _=>?_)
  refine⟨_,rfl,_,rfl,p2,_,rfl,e2,fun t3 H3 s3 h3 _=>⟨_,rfl,_,rfl,p1,_,rfl,s3 _ _ e1,fun t4 H4 s4 h4 _=>?_⟩⟩
  have h3':H4 t3=some (.tup [.str nm2,.int age2]):=s4 _ _ h3
  have h4':H4 t4=some (.tup [.str nm2,.int age2]):=h4
  have S4:=(s3.trans s4);have SS:=(s1.trans s2).trans S4;refine⟨1,by decide,Il.pair h3' h4',_,rfl,qZ ?_⟩
  refine⟨_,rfl,f2,_,_,_,rfl,rfl,Ga.of (S4 _ _ hf2),rfl,_,rfl,f1,_,_,_,rfl,rfl,Ga.of (S4 _ _ (s2 _ _ hf1)),rfl,_,_,rfl,rfl,rfl,_,rfl,?_⟩
  refine Z8 rfl ?_
  have b4:=b2.same S4;refine⟨_,rfl,p1,_,rfl,.tup (S4 _ _ e1),rfl,_,_,rfl,_,_,rfl,_,_,rfl,rfl,?_⟩
  have g4:GV H4 bd (.str nm2) none:=by
   rcases b4.kb.get nm2 with⟨_,g⟩|⟨e,x,e5,_⟩
   ·exact g
   ·rw[hno]at e5;cases e5
  refine⟨_,rfl,_,rfl,p,_,rfl,b4.h_buttons U,bd,_,rfl,g4,_,rfl,?_⟩
  refine qZ ?_
  refine⟨_,rfl,p,rfl,b4.no,p,ta,hk,bd,lg,L.length,D,rfl,b4,_,rfl,?_⟩
  refine qS (fun y=>absurd (Jv y) (by lia)) (fun _=>?_)
  refine⟨_,rfl,_,rfl,f2,_,_,_,rfl,rfl,Ga.of (S4 _ _ hf2),rfl,FS,fun t5 ht5=>?_⟩
  have u5:=FZ.upd (o:= .tup [.int age2,.int (c+1),.non]) ht5
  have b5:=b4.same u5;obtain⟨f0,hd,_⟩:=id b5.kb;have SQ:=SS.trans u5;obtain⟨H6,dp,m6,kb6⟩:=b5.kb.put nm2 (a:=t5) (e:=⟨age2,c+1,none⟩) (by have:=ok.nl;lia) ⟨.non,qb,rfl⟩
  refine⟨_,rfl,p,_,rfl,b5.h_buttons U,_,rfl,bd,H6,rfl,dp,?_⟩
  have b6:=b5.putK m6 kb6;have el6:=m6 _ _ (zr (Q5 (SQ _ _ el) hd (by intro z;cases z))) (SQ _ _ el)
  have nt5:NT [bd] _:=NT.one hd trivial
  have ro6:=(ro.same SQ).mv m6 nt5;refine⟨_,rfl,p,_,rfl,b6.h_log U,.inl ⟨rfl,_,F8.of el6⟩,_,rfl,_,rfl,FS,fun r hr'=>?_⟩
  have u7:=FZ.upd (o:= .tup [.str "learn",.ref p1,.ref p2]) hr'
  have b7:=b6.same u7;refine⟨lg,_,_,rfl,rfl,u7 _ _ el6,by rw[Jf,ro.1,JH];lia,?_⟩
  exact q _ (((SQ.mv.trans (m6.mono (fun c h z=>h (by rw[Jl.mp z];exact Jz ..)))).trans u7.mv).trans (Mv.upd1.mono (fun c h z=>h (by rw[Jl.mp z];exact JG _ (Jz ..))))) (GQ.push (a:=⟨p,ta,hk,bd,lg⟩) b7 (u7 _ _ el6) (ro6.same u7) ((Gm.mv m6 nt5 (zr (xi hd b5)) (Gm.same SQ kr)).same u7) ⟨p1,p2,.inl qb,Gx.same u7 (Gx.mv m6 nt5 (Gx.same SQ hp1)),Gx.same u7 (Gx.mv m6 nt5 (Gx.same SQ hp2)),ok1,ok2⟩)
theorem gI(a:HS K C "__init__" "Door.__init__" Q4 ["self","table","keys","near","far","most"])(T:Gw K mg tk)(U:G0 K C):Mf P w K mg base C "__init__" ["self","table","keys","near","far","most"] 1 (mz K C):=by
 refine a.mq bI fun f _ A _ s H vs Q E hr h=>?_
 ·obtain⟨p,a,b,dx,near,far,most,t,kss,rfl,hp,ha,hb,hl,q⟩:=h
  refine⟨_,(qd (zW (qv 0) (qI bv T.b_tuple JI (qc (qv 1) qa)))
   (qd (zW (qv 0) (zN (own:=["key"]) (fr:=[]) (js:=[]) rfl (aG (qv 2)) rfl (fun _ _ h=>nomatch h) rfl (bg rfl (by decide +kernel) (by decide +kernel) (by decide +kernel)) (fun _ _ _ _=>qg (i:=0) (show List.Nodup (["key"]:List Str)from by decide +kernel) rfl (Or.inl rfl) (.inr rfl)) (fun _ _ _ _=>(qI fM T.b_tuple JI (qc (qv 0) qa)))))
   (qd (zW (qv 0) (qv 3))
   (qd (zW (qv 0) (qv 4))
   (qd (zW (qv 0) (qv 5))
   (qd (zW (qv 0) qf)
   (qd (zW (qv 0) gr)
   (qe (zW (qv 0) (zb qa)))))))))),?_⟩
  refine⟨_,rfl,a,_,rfl,ha,fun ta H2 s2 ht=>⟨_,rfl,p,_,rfl,zk U.cl (s2 _ _ hp) U.n_table 0,?_⟩⟩
  have e2:=s2 _ _ hp;have hb2:=(hb.same s2).upd (o:= .ins C dx [("table",.ref ta)]) e2
  obtain⟨as,eb,la,hks⟩:=hb2;have ht2:=fi (o:= .ins C dx [("table",.ref ta)]) e2 ht
  refine⟨_,rfl,b,rfl,⟨_,eb.up⟩,aB (K:=K) (xs:=as.map V.ref) (by rw[Jf,la,JH];lia) (fun i ys H3=>FZ (F5 H2 p (.ins C dx [("table",.ref ta)])) H3/\∃bs:List Addr,ys=bs.map V.ref/\bs.length=i/\∀(j:Nat) (x:Addr) (ks:List Int),bs[j]? =some x->kss[j]? =some ks->Ga [] H3 x (ks.map V.int)) ⟨FZ.refl _,[],rfl,rfl,fun j x ks e=>by(cases e)⟩ (fun i ys H3 ⟨s3,_⟩=>(FZ.sqt s3 eb).up) ?_ ?_⟩
  ·rintro i ys H3 x hx hyl ⟨s3,bs,rfl,hbl,hbs⟩
   rw[Jq]at hx;cases ea:as[i]? with
   |none=>rw[ea]at hx;cases hx
   |some x0=>
    rw[ea]at hx
    obtain rfl:V.ref x0=x:=Jy hx
    have hi:i<kss.length:=by rw[<- la];exact(Jw.mp ea).1
    have hk0:=hks i x0 kss[i] ea (Jj hi);refine⟨_,rfl,x0,_,rfl,.inr (FZ.sqt s3 hk0).rd,fun l H4 s4 hl4=>⟨s3.trans s4,bs++[l],by simp,by simp [hbl],fun j y ks e1 e2'=>?_⟩⟩
    rw[FO]at e1;split at e1
    ·exact FZ.sqt s4 (hbs j y ks e1 e2')
    ·have hj:j-bs.length=0:=by
      cases hj:j-bs.length with
      |zero=>rfl
      |succ k=>rw[hj]at e1;cases e1
     rw[hj]at e1;cases e1
     have:j=i:=by lia
     subst this;rw[Jj hi]at e2';cases e2';exact .inl hl4
  ·rintro ys H3 hyl ⟨s3,bs,rfl,hbl,hbs⟩ hk hhk
   have u3:=FZ.upd (o:= .lst (bs.map V.ref)) hhk
   have e3:=u3 _ _ (s3 _ _ qb);refine⟨_,rfl,p,_,rfl,zk U.cl e3 U.n_house_keys 1,?_⟩
   refine⟨_,rfl,_,rfl,p,_,rfl,zk U.cl qb U.n_near 2,?_⟩
   refine⟨_,rfl,_,rfl,p,_,rfl,zk U.cl qb U.n_far 3,?_⟩
   refine⟨_,rfl,_,rfl,p,_,rfl,zk U.cl qb U.n_most 4,?_⟩
   refine⟨_,rfl,p,_,rfl,zk U.cl qb U.n_least_age 5,?_⟩
   refine fun bd hbd=>⟨_,rfl,p,_,rfl,zk U.cl (by rw[qj (qi qb hbd)];exact qb) U.n_buttons 6,?_⟩
   have nbd:=qi qb hbd;refine⟨FP,fun lg hlg=>⟨_,rfl,p,_,rfl,zk U.cl (by rw[qj (qi qb hlg)];exact qb) U.n_log 7,?_⟩⟩
   have nlg:=qi qb hlg;have m3:Mv [p] H H3:=((s2.mv (S:=[p])).trans Mv.upd1).trans s3.mv
   have nhk:hk≠p:=(qi (s3 _ _ qb) hhk).symm
   have m4:Mv [p] H (F5 H3 hk (.lst (bs.map V.ref))):=m3.trans u3.mv
   have M:∀o1 o2 o3 o4 o5,Mv [p] (F5 H3 hk (.lst (bs.map V.ref))) (F5 (F5 (F5 (F5 (F5 (F5 H3 hk (.lst (bs.map V.ref))) p o1) p o2) p o3) p o4) p o5):=fun o1 o2 o3 o4 o5=>(((Mv.upd1.trans Mv.upd1).trans Mv.upd1).trans Mv.upd1).trans Mv.upd1
   have M6:Mv [p] (F5 H3 hk (.lst (bs.map V.ref))) _:=(((M _ _ _ _ _).trans (FZ.upd hbd).mv).trans Mv.upd1).trans (FZ.upd (o:= .lst []) hlg).mv
   have M7:=M6.trans (Mv.upd1 (o:= .ins C dx (dF ⟨t,kss,near,far,most,0,[]⟩ ta hk bd lg)))
   have nt:NT [p] (F5 H3 hk (.lst (bs.map V.ref))):=NT.one e3 trivial
   have hbdlg:bd≠lg:=qi (by rw[qj nbd.symm];exact qb) hlg
   have KR:=Gm.mv M7 nt (zr nhk) (show Gm [] _ hk kss from⟨bs,qb,by rw[hbl,Jf,la],fun j x ks e1 e2'=>FZ.sqt u3 (hbs j x ks e1 e2')⟩)
   refine q ta hk bd lg _ (m3.nfree (zr nhk) hhk) ((m4.trans (M _ _ _ _ _)).nfree (zr nbd.symm) hbd) ((m4.trans ((((M _ _ _ _ _).trans (FZ.upd hbd).mv).trans Mv.upd1))).nfree (zr nlg.symm) hlg) (m4.trans M7) ⟨⟨dx,qb⟩,?_,Gm.up KR,?_,?_,?_⟩ KR
   ·exact M7.sqt nt (FZ.sqt u3 (FZ.sqt s3 ht2))
   ·exact⟨([],fun _=>0),by rw[qj nbd.symm,qj hbdlg,qj nbd.symm];exact qb,fun e he=>by(cases he),.refl _,Fl⟩
   ·exact⟨[],by rw[qj nlg.symm];exact qb,Je _⟩
   ·refine(qi (o:= .lst (bs.map V.ref)) ?_ hlg).symm
    rw[qj nhk];rw[qj (qi (o:= .lst (bs.map V.ref)) (by rw[qj nhk,qj nhk,qj nhk,qj nhk,qj nhk];exact qb) hbd)]
    rw[qj nhk,qj nhk,qj nhk,qj nhk,qj nhk];exact qb
theorem cH(a:HS K C "bounds_told" "Door.bounds_told" QM ["self"])(T:Gw K mg tk)(U:G0 K C):Mf P w K mg base C "bounds_told" ["self"] 1 (cP K C):=by
 refine a.mq cJ fun f _ A _ s H vs Q E hr h=>?_
 ·obtain⟨p,ta,hk,bd,lg,n,D,rfl,b,q⟩:=h
  refine⟨_,(qe (ql (qu (qc (qY (qv 0)) (qc (qY (qv 0)) (qc (qY (qv 0)) qa)))))),?_⟩
  exact⟨_,rfl,p,_,rfl,b.h_near U,_,rfl,p,_,rfl,b.h_far U,_,rfl,p,_,rfl,b.h_most U,FS,fun t ht=>q t _ (FZ.upd ht) qb⟩
theorem gl(a:HS K C "keys_now" "Door.keys_now" Zn ["self"])(T:Gw K mg tk)(U:G0 K C):Mf P w K mg base C "keys_now" ["self"] 1 (oW K C):=by
 refine a.mq gc fun f _ A _ s H vs Q E hr h=>?_
 ·obtain⟨p,ta,hk,bd,lg,n,D,rfl,b,q⟩:=h
  refine⟨_,(qe (ql (qI bv T.b_tuple JI (qc (qY (qv 0)) qa)))),?_⟩
  obtain⟨as,eh,la,hks⟩:=id b.ks;refine⟨_,rfl,p,_,rfl,b.h_house_keys U,hk,_,rfl,.inl (F8.of eh),fun t H2 s2 ht=>?_⟩
  exact q t as H2 s2 ht la fun i a ks e1 e2=>FZ.sqt s2 (hks i a ks e1 e2)
end
section
variable{P:Program}{w:World}{K:Frag}{mg:FX}{base:Heap}{tk:Nat->Tok}{C:Addr}
theorem dz(a:HS K C "closed_now" "Door.closed_now" QY ["self"])(T:Gw K mg tk)(U:G0 K C):Mf P w K mg base C "closed_now" ["self"] 1 (jc K C):=by
 refine a.mq eF fun f _ A _ s H vs Q E hr h=>?_
 ·obtain⟨p,ta,hk,bd,lg,n,D,rfl,b,q⟩:=h
  refine⟨_,(qe (ql (qY (qv 0)))),?_⟩
  exact⟨_,rfl,p,_,rfl,b.h_least_age U,q⟩
end
section
variable{P:Program}{w:World}{K:Frag}{mg:FX}{base:Heap}{tk:Nat->Tok}
theorem mQ(a:At K mg "_law_take" cj ["_law_box_here","_law_many"])(T:Gw K mg tk):Df P w K mg base "_law_take" ["_law_box_here","_law_many"] 1 bN:=by
 refine a.dq GJ fun f _ A _ s H vs Q E hr h=>?_
 ·obtain⟨b,many,c,rfl,⟨n,m,k,hb,m0,m1,k0,k1⟩,hc,h0,h1,q⟩:=h
  refine⟨_,(qd (qC (qx wR (qt qK (qv 0) qf) qf (qq _)) (qd (qy (i:=2) GJ.nd rfl (Or.inl rfl) (qp Qi (qt qK (qv 0) qf) (qv 1)))
   (qd (zg (qp bB (qt qK (qv 0) qf) (qv 1)) (eG (qv 0) qf ZF))
   (qe (ql (qv 2))))) qr)
   (qd (zg (qp qJ (qt qK (qv 0) qf) qf) (eG (qv 0) qf ZF))
   (qd (qy (i:=3) GJ.nd rfl (Or.inl rfl) (qp qJ (qt qK (qv 0) qf) (qp Q0 qf (qt qK (qv 0) qf))))
   (qd (qV JJ rfl (zE rfl T.b_range (qc qf qa)) (qg (i:=4) GJ.nd rfl (Or.inl rfl))
   (qe (qy (i:=3) GJ.nd rfl (Or.inl rfl) (qp Qi (qp qJ (qp qJ (qp Q0 (qv 3) (qv 3)) (qp Q0 qf (qt qK (qv 0) qf))) qf) qf))))
   (qe (ql (qp Qi (qp bB (qv 3) qf) (qv 1)))))))),?_⟩
  refine⟨_,rfl,b,_,_,_,rfl,rfl,F8.of hb,rfl,_,_,rfl,rfl,_,rfl,?_⟩
  refine qS (fun _=>?_) (fun _=>?_)
  ·refine⟨_,rfl,b,_,_,_,rfl,rfl,F8.of hb,rfl,_,rfl,_,_,rfl,rfl,h0,?_⟩
   refine⟨_,rfl,b,_,_,_,rfl,rfl,F8.of hb,rfl,_,rfl,_,_,rfl,rfl,⟨h0,h1⟩,_,rfl,b,_,_,0,rfl,rfl,hb,rfl,?_⟩
   refine⟨_,rfl,?_⟩
   refine q _ _ (Ex _ (by lia)) (Ey _ h0) ⟨fun c o hc e=>?_,_,_,_,qb,m0,m1,k0,by lia⟩
   rw[qj hc];exact e
  ·refine⟨_,rfl,b,_,_,_,rfl,rfl,F8.of hb,rfl,_,_,rfl,rfl,_,rfl,b,_,_,2,rfl,rfl,hb,rfl,?_⟩
   have hb2:(F5 H b (rj n m (k+1))) b=some (rj n m (k+1)):=qb
   refine⟨_,rfl,b,_,_,_,rfl,rfl,F8.of hb2,rfl,_,rfl,b,_,_,_,rfl,rfl,F8.of hb2,rfl,_,_,rfl,rfl,.inl ⟨by decide,by decide⟩,_,_,rfl,rfl,?_⟩
   refine⟨3,rfl,by decide,by decide,zY (n:=3) (Pv:=fun i σ H2=>H2=F5 H b (rj n m (k+1))/\∃(z:Int) (o:Option V),σ=[some (.ref b),some (.int many),none,some (.int z),o]/\0<=z/\z<2 ^ 64) ⟨rfl,_,_,rfl,by lia,by lia⟩ ?_ ?_⟩
   ·rintro i σ H2 hi ⟨rfl,z,o,rfl,z0,z1⟩
    refine⟨_,rfl,_,rfl,_,_,rfl,rfl,.inl ⟨by lia,by lia⟩,_,rfl,b,_,_,_,rfl,rfl,F8.of hb2,rfl,_,_,rfl,rfl,.inl ⟨by decide,by decide⟩,_,_,rfl,rfl,_,_,rfl,rfl,_,_,rfl,rfl,(by decide:(0:Int)<2305843009213693951),rfl,_,_,rfl,?_,?_⟩
    ·exact Ex _ (by decide)
    ·exact Int.lt_trans (Ey _ (by decide)) (by decide)
   ·rintro σ H2 ⟨rfl,z,o,rfl,z0,z1⟩
    refine⟨_,rfl,_,_,rfl,rfl,⟨by decide,by decide⟩,_,rfl,_,_,rfl,rfl,h0,?_⟩
    refine q _ _ (Ex _ (by lia)) (Ey _ h0) ⟨fun c o hc e=>?_,_,_,_,qb,m0,m1,by lia,by lia⟩
    rw[qj hc];exact e
theorem p8(a:At K mg "_law_box" cN ["_law_script","_law_k"])(T:Gw K mg tk):Df P w K mg base "_law_box" ["_law_script","_law_k"] 1 (sO K):=by
 refine a.dq GD fun f _ A _ s H vs Q E hr h=>?_
 ·obtain⟨b,ns,k,rfl,hS,q⟩:=h
  refine⟨_,(qd (zg (qu (qc qf (qc qf qa))) (gV rfl (qm (qg (i:=2) GD.nd rfl (Or.inl rfl)) (qm (qg (i:=3) GD.nd rfl (Or.inl rfl)) qO))))
   (qd (qC (qx eW (qv 1) (qk qP T.b_len J8 (qc (qv 0) qa)) (qq _)) (qe (qy (i:=2) GD.nd rfl (Or.inl rfl) (qt qK (qv 0) (qv 1)))) qr)
   (qd (qV JJ rfl (zI (ZI oC (qv 0) af (ai qf))) (qg (i:=4) GD.nd rfl (Or.inl rfl))
   (qe (qy (i:=3) GD.nd rfl (Or.inl rfl) (qp Qi (qp qJ (qp Q0 (qv 3) qf) (qv 4)) qf))))
   (qe (ql (zb (qc (qp Q0 (qk ke T.b_abs PyProof.Rows.boot_abs (qc (qv 2) qa)) (qI rY T.b_int EJ (qc (zh rp (qk ke T.b_abs PyProof.Rows.boot_abs (qc (qv 2) qa)) (qp Bx qf qf) (qq _)) qa))) (qc (qp Qi (qp qJ (qp qJ (qp Q0 (qv 3) qf) (qv 2)) (qp Q0 qf (qv 1))) qf) (qc qf qa))))))))),?_⟩
  refine⟨FR,fun tp htp=>⟨tp,_,rfl,Ga.of qb,rfl,_,_,rfl,_,_,rfl,rfl,?_⟩⟩
  have s1:=FZ.upd (o:= .tup [.int 0,.int 7]) htp
  refine⟨_,rfl,_,rfl,b,_,rfl,.inl (s1.seq hS),_,_,rfl,rfl,_,rfl,?_⟩
  refine qS (fun hk=>?_) (fun _=>?_)
  ·have hk':k<ns.length:=by have:=Jv hk;rw[Jf]at this;lia
   refine⟨_,rfl,_,rfl,b,_,_,.int ns[k],rfl,rfl,s1.seq hS,Qv (by rw[Jq,Jj hk'];rfl),?_⟩
   refine⟨_,rfl,_,rfl,b,_,rfl,s1.seq hS,fun l hl=>⟨l,rfl,⟨_,F8.of qb⟩,?_⟩⟩
   rw[cx];have s2:=s1.trans (FZ.upd (o:= .lst ((am ns none (some 63)).map V.int)) hl)
   refine Qc (K:=K) (a:=l) (xs:=(am ns none (some 63)).map V.int) (fun i σ H2=>H2=F5 (F5 H tp (.tup [.int 0,.int 7])) l (.lst ((am ns none (some 63)).map V.int))/\∃(z:Int) (o:Option V),σ=[some (.ref b),some (.int (k:Int)),some (.int ns[k]),some (.int z),o]/\0<=z/\z<2147483647) ⟨rfl,_,_,rfl,by decide,by decide⟩ (fun i σ H2 _ ⟨e,_⟩=>by subst e;exact F8.of qb) ?_ ?_
   ·rintro i x σ H2 hx ⟨rfl,z,o,rfl,z0,z1⟩
    obtain⟨y,rfl,hy⟩:=QJ hx;refine⟨_,rfl,_,_,rfl,rfl,.inr ⟨by decide,by decide⟩,_,rfl,_,_,rfl,rfl,_,_,rfl,rfl,(by decide:(0:Int)<2147483647),rfl,_,_,rfl,Ex _ (by decide),Ey _ (by decide)⟩
   ·rintro σ H2 ⟨rfl,z,o,rfl,z0,z1⟩
    refine⟨_,rfl,_,rfl,_,rfl,_,rfl,_,_,rfl,rfl,⟨by decide,by decide,by decide⟩,_,_,rfl,rfl,.inr ⟨_,rfl,?_⟩⟩
    refine⟨_,_,rfl,rfl,.inr ⟨uu _,tP _⟩,_,rfl,_,_,rfl,rfl,.inr ⟨by decide,by decide⟩,_,rfl,_,_,rfl,rfl,_,rfl,_,_,rfl,rfl,.inl ⟨by decide,by decide⟩,_,_,rfl,rfl,_,_,rfl,rfl,(by decide:(0:Int)<2305843009213693951),?_⟩
    exact⟨FS,fun p hp=>q _ _ (Qn hp s2) (s2.trans (FZ.upd hp)) ⟨_,_,_,qb,Ex _ (by decide),Int.lt_trans (Ey _ (by decide)) (by decide),by decide,by decide⟩⟩
  ·refine⟨_,rfl,_,rfl,b,_,rfl,s1.seq hS,fun l hl=>⟨l,rfl,⟨_,F8.of qb⟩,?_⟩⟩
   rw[cx];have s2:=s1.trans (FZ.upd (o:= .lst ((am ns none (some 63)).map V.int)) hl)
   refine Qc (K:=K) (a:=l) (xs:=(am ns none (some 63)).map V.int) (fun i σ H2=>H2=F5 (F5 H tp (.tup [.int 0,.int 7])) l (.lst ((am ns none (some 63)).map V.int))/\∃(z:Int) (o:Option V),σ=[some (.ref b),some (.int (k:Int)),some (.int 0),some (.int z),o]/\0<=z/\z<2147483647) ⟨rfl,_,_,rfl,by decide,by decide⟩ (fun i σ H2 _ ⟨e,_⟩=>by subst e;exact F8.of qb) ?_ ?_
   ·rintro i x σ H2 hx ⟨rfl,z,o,rfl,z0,z1⟩
    obtain⟨y,rfl,hy⟩:=QJ hx;refine⟨_,rfl,_,_,rfl,rfl,.inr ⟨by decide,by decide⟩,_,rfl,_,_,rfl,rfl,_,_,rfl,rfl,(by decide:(0:Int)<2147483647),rfl,_,_,rfl,Ex _ (by decide),Ey _ (by decide)⟩
   ·rintro σ H2 ⟨rfl,z,o,rfl,z0,z1⟩
    refine⟨_,rfl,_,rfl,_,rfl,_,rfl,_,_,rfl,rfl,⟨by decide,by decide,by decide⟩,_,_,rfl,rfl,.inr ⟨_,rfl,?_⟩⟩
    refine⟨_,_,rfl,rfl,.inr ⟨uu _,tP _⟩,_,rfl,_,_,rfl,rfl,.inr ⟨by decide,by decide⟩,_,rfl,_,_,rfl,rfl,_,rfl,_,_,rfl,rfl,.inl ⟨by decide,by decide⟩,_,_,rfl,rfl,_,_,rfl,rfl,(by decide:(0:Int)<2305843009213693951),?_⟩
    exact⟨FS,fun p hp=>q _ _ (Qn hp s2) (s2.trans (FZ.upd hp)) ⟨_,_,_,qb,Ex _ (by decide),Int.lt_trans (Ey _ (by decide)) (by decide),by decide,by decide⟩⟩
theorem kK(a:At K mg "_law_table" bw ["_law_box_here"])(T:Gw K mg tk)(dA:Df P w K mg base "_law_take" ["_law_box_here","_law_many"] 1 bN):Df P w K mg base "_law_table" ["_law_box_here"] 2 lI:=by
 refine a.dq HF fun f _ A _ s H vs Q E hr h=>?_
 ·obtain⟨b,c,rfl,hb,hc,q⟩:=h
  refine⟨_,(qd (qy (i:=1) HF.nd rfl (Or.inr rfl) (qI (pB rfl) T.b_list DT (qc (qI jH T.b_range PyProof.Rows.boot_range (qc qf qa)) qa)))
   (qe (ql (qI q9 T.b_tuple JI (qc (zN (own:=["_law_k"]) (fr:=["_law_rest","_law_box_here"]) (js:=[1,0]) rfl (zE rfl T.b_range (qc qf qa)) rfl (Dw rfl rfl) rfl (Dv rfl (by decide +kernel) (by decide +kernel) (by decide +kernel) rfl rfl rfl rfl rfl rfl) (fun _ _ _ _=>qg (i:=0) (show List.Nodup (["_law_k","_law_rest","_law_box_here"]:List Str)from by decide +kernel) rfl (Or.inl rfl) (.inr rfl)) (fun _ _ _ _=>(Bo (K:=K) rfl EB PySem.F.slot_list_pop PySem.F.type_list_pop vC (qv 1) (qc (qo dA hr.mo (qc (qv 2) (qc (qk (jT (K:=K) rfl) T.b_len J8 (qc (qv 1) qa)) qa))) qa)))) qa))))),?_⟩
  refine⟨_,rfl,fun r hr0=>⟨r,16,rfl,qb,by decide,fun l hl=>?_⟩⟩
  rw[Bs];have s1:=(FZ.upd (o:= .rng 0 16) hr0).trans (FZ.upd (o:= .lst (Gz.map V.int)) hl)
  have nlb:l≠b:=Zm ((FZ.upd hr0).grc hb).bx hl
  refine⟨_,rfl,by decide,by decide,cm (n:=16) (by decide) (fun i ys H2=>HQ b (c+i) H H2/\∃ms zs:List Int,H2 l=some (.lst (ms.map V.int))/\ys=zs.map V.int/\ms.length+i=16/\(zs++ms).Perm Gz) ⟨s1.grc hb,Gz,[],qb,rfl,by rw[kJ],.refl _⟩ ?_ ?_⟩
  ·rintro i ys H2 hi hl2 ⟨G2,ms,zs,hm,rfl,hml,pm⟩
   refine⟨_,rfl,.inl ⟨rfl,_,F8.of hm⟩,?_⟩
   refine⟨_,rfl,_,rfl,l,_,rfl,.inl (F8.of hm),b,_,_,rfl,G2.bx,by lia,by rw[Jf];lia,by rw[Jf];lia,fun x H3 x0 x1 g3=>?_⟩
   rw[Jf]at x1;obtain⟨k,rfl⟩:∃k:Nat,x=(k:Int):=⟨x.toNat,by lia⟩
   have hk:k<ms.length:=by lia
   have hm3:=g3.kp _ _ nlb hm;refine⟨l,_,_,k,.int ms[k],rfl,rfl,hm3,by lia,by lia,?_,?_,?_⟩
   ·rw[Jf];exact lZ hk
   ·rw[Jq,Jj hk];rfl
   ·refine⟨⟨fun c o hcb e=>?_,?_⟩,ms.eraseIdx k,zs++[ms[k]],?_,by simp,?_,?_⟩
    ·by_cases z:c=l
     ·subst z
      rw[FZ.upd hr0 _ _ e]at hl;cases hl
     ·rw[qj z];exact g3.kp _ _ hcb (G2.kp _ _ hcb e)
    ·obtain⟨n,m,k',e,r⟩:=g3.bx
     exact⟨n,m,k',by rw[qj nlb.symm];exact e,r⟩
    ·rw[qb,pj]
    ·rw[List.length_eraseIdx_of_lt hk];lia
    ·exact(vw hk).trans pm
  ·rintro ys H2 hyl ⟨G2,ms,zs,hm,rfl,hml,pm⟩ p hp
   have e0:ms=[]:=List.eq_nil_of_length_eq_zero (by lia)
   subst e0;rw[D7]at pm;refine⟨p,_,rfl,.inl ⟨F8.of qb,fun t ht=>?_⟩⟩
   have G3:=G2.same (FZ.upd (o:= .lst (zs.map V.int)) hp)
   exact q t zs _ (G3.same (FZ.upd ht)) (G3.fresh (hb.mono (by lia)) ht) qb pm
theorem rB(a:At K mg "_law_key" c6 ["_law_box_here"])(T:Gw K mg tk)(dA:Df P w K mg base "_law_take" ["_law_box_here","_law_many"] 1 bN):Df P w K mg base "_law_key" ["_law_box_here"] 2 oP:=by
 refine a.dq pF fun f _ A _ s H vs Q E hr h=>?_
 ·obtain⟨b,c,rfl,hb,hc,q⟩:=h
  refine⟨_,(qe (ql (qI q9 T.b_tuple JI (qc (zN (own:=["_law_k"]) (fr:=["_law_box_here"]) (js:=[0]) rfl (zE rfl T.b_range (qc (qp qJ qf (qo dA hr.mo (qc (qv 0) (qc qf qa)))) qa)) rfl (ie rfl) rfl (im rfl (by decide +kernel) (by decide +kernel) (by decide +kernel) rfl rfl rfl) (fun _ _ _ _=>qg (i:=0) (show List.Nodup (["_law_k","_law_box_here"]:List Str)from by decide +kernel) rfl (Or.inl rfl) (.inr rfl)) (fun _ _ _ _=>(qo dA hr.mo (qc (qv 1) (qc qf qa))))) qa)))),?_⟩
  refine⟨_,rfl,b,_,_,rfl,hb,by lia,by decide,by decide,fun r H1 r0 r1 g1=>⟨_,_,rfl,rfl,_,rfl,by lia,by lia,?_⟩⟩
  obtain⟨n,rfl,n8⟩:∃n:Nat,r=(n:Int)/\n<8:=⟨r.toNat,by lia,by lia⟩
  have en:(1+(n:Int)).toNat=n+1:=by lia
  rw[en];refine cm (n:=n+1) (JM (by lia:n+1<=8) (by decide)) (fun i ys H2=>HQ b (c+1+i) H H2/\∃ks:List Int,ys=ks.map V.int/\zA ks) ⟨g1,[],rfl,fun _ h=>nomatch h⟩ ?_ ?_
  ·rintro i ys H2 hi hl2 ⟨G2,ks,rfl,hk⟩
   refine⟨_,rfl,b,_,_,rfl,G2.bx,by lia,by decide,by decide,fun x H3 x0 x1 g3=>⟨G2.trans g3,ks++[x],by simp,fun z hz=>?_⟩⟩
   rcases JW.mp hz with y|y
   ·exact hk z y
   ·rw[Jl.mp y];exact⟨x0,x1⟩
  ·rintro ys H2 hyl ⟨G2,ks,rfl,hk⟩ p hp
   rw[Jf]at hyl;refine⟨p,_,rfl,.inl ⟨F8.of qb,fun t ht=>?_⟩⟩
   have G3:=G2.same (FZ.upd (o:= .lst (ks.map V.int)) hp)
   exact q t ks _ ((G3.same (FZ.upd ht)).mono (by lia)) (G3.fresh (hb.mono (by lia)) ht) qb hk (by lia) (by lia)
end
section
variable{P:Program}{w:World}{K:Frag}{mg:FX}{base:Heap}{tk:Nat->Tok}
theorem jU(a:At K mg "back_table" aH ["table"])(T:Gw K mg tk):Df P w K mg base "back_table" ["table"] 1 (rX K):=by
 refine a.dq GH fun f _ A _ s H vs Q E hr h=>?_
 ·obtain⟨c,t,rfl,hS,pm,q⟩:=h
  refine⟨_,(qd (qy (i:=1) GH.nd rfl (Or.inl rfl) (qp t9 (zb (qc qf qa)) (zd (v:= .int 16) rfl T.g_DIGITS ⟨_,rfl⟩)))
   (qd (qV JJ rfl (vO rfl T.b_enumerate (qc (qv 0) qa)) (gV rfl (qm (qg (i:=2) GH.nd rfl (Or.inl rfl)) (qm (qg (i:=3) GH.nd rfl (Or.inl rfl)) qO)))
   (qe (zg (qv 2) (eG (qv 1) (qv 3) ZF))))
   (qe (ql (qI q9 T.b_tuple JI (qc (qv 1) qa)))))),?_⟩
  refine⟨FQ,fun p hp=>⟨p,16,_,rfl,rfl,qb,by decide,by decide,FV,fun l hl=>?_⟩⟩
  have e0:(List.replicate (16:Int).toNat [V.int 0]).flatten=(QR t 0).map V.int:=by rw[vc];rfl
  rw[e0];have s1:=(FZ.upd (o:= .lst [V.int 0]) hp)
  have s2:=s1.trans (FZ.upd (o:= .lst ((QR t 0).map V.int)) hl)
  have step:∀(i:Nat) (x:V) (H2:Hp) (pp:Addr),(t.map V.int)[i]? =some x->H2 l=some (.lst ((QR t i).map V.int))->FZ H H2->H2 pp=none->
    ∃j:Nat,∃z:Int,x= .int z/\cF ((QR t i).map V.int).length z=some j/\(F5 H2 pp (.tup [.int i,x])) l=some (.lst ((QR t i).map V.int))/\
     (F5 (F5 H2 pp (.tup [.int i,x])) l (.lst (((QR t i).map V.int).set j (.int i)))) l=some (.lst ((QR t (i+1)).map V.int))/\FZ H (F5 (F5 H2 pp (.tup [.int i,x])) l (.lst (((QR t i).map V.int).set j (.int i)))):=by
   intro i x H2 pp hx hm sm hpp;obtain⟨z,rfl,hz⟩:=QJ hx;have hi:i<t.length:=(Jw.mp hz).1
   have ez:t[i]=z:=(Jw.mp hz).2
   have bd:=mI pm hi;have sp:=FZ.upd (o:= .tup [.int i,.int z]) hpp
   refine⟨z.toNat,z,rfl,ij (by lia) (by rw[Jf,bE];lia),sp _ _ hm,?_,fun d o e=>?_⟩
   ·rw[qb,cA,<- ez,we pm hi]
   ·have ndl:d≠l:=fun y=>by
     rw[y]at e;rw[s1 _ _ e]at hl;cases hl
    rw[qj ndl];exact sp _ _ (sm _ _ e)
  have fin:∀(o:Option V) (o':Option V) (H2:Hp),H2 l=some (.lst ((QR t t.length).map V.int))->FZ H H2->∀p',H2 p'=none->Q (.ref p') (F5 H2 p' (.tup ((QR t t.length).map V.int))):=fun _ _ H2 hm sm p' hp'=>
   q _ _ (sm.trans (FZ.upd hp')) (by rw[qb,yw pm])
  rcases hS with hS|hS
  ·refine⟨_,rfl,c,rfl,.inl ⟨⟨_,s2.seq hS⟩,?_⟩⟩
   refine lO (K:=K) (a:=c) (xs:=t.map V.int) (fun i σ H2=>∃(o2 o3:Option V),σ=[some (.ref c),some (.ref l),o2,o3]/\H2 l=some (.lst ((QR t i).map V.int))/\FZ H H2) ⟨none,none,rfl,qb,s2⟩ (fun i σ H2 _ ⟨_,_,_,_,sm⟩=>sm.seq hS) ?_ ?_
   ·rintro i x σ H2 pp hx ⟨o2,o3,rfl,hm,sm⟩ hpp
    obtain⟨j,z,rfl,hj,e1,e2,s3⟩:=step i x H2 pp hx hm sm hpp;refine⟨pp,_,rfl,Ga.of qb,rfl,_,_,rfl,_,_,rfl,rfl,?_⟩
    exact⟨_,rfl,_,rfl,_,rfl,l,_,_,j,rfl,rfl,e1,hj,_,_,rfl,e2,s3⟩
   ·rintro σ H2 ⟨o2,o3,rfl,hm,sm⟩
    rw[Jf]at hm
    exact⟨_,rfl,l,_,rfl,.inl ⟨F8.of hm,fin o2 o3 H2 hm sm⟩⟩
  ·refine⟨_,rfl,c,rfl,.inr ⟨⟨_,FZ.sqt s2 hS⟩,?_⟩⟩
   refine uY (K:=K) (a:=c) (xs:=t.map V.int) (fun i σ H2=>∃(o2 o3:Option V),σ=[some (.ref c),some (.ref l),o2,o3]/\H2 l=some (.lst ((QR t i).map V.int))/\FZ H H2) ⟨none,none,rfl,qb,s2⟩ (fun i σ H2 _ ⟨_,_,_,_,sm⟩=>FZ.sqt sm hS) ?_ ?_
   ·rintro i x σ H2 pp hx ⟨o2,o3,rfl,hm,sm⟩ hpp
    obtain⟨j,z,rfl,hj,e1,e2,s3⟩:=step i x H2 pp hx hm sm hpp;refine⟨pp,_,rfl,Ga.of qb,rfl,_,_,rfl,_,_,rfl,rfl,?_⟩
    exact⟨_,rfl,_,rfl,_,rfl,l,_,_,j,rfl,rfl,e1,hj,_,_,rfl,e2,s3⟩
   ·rintro σ H2 ⟨o2,o3,rfl,hm,sm⟩
    rw[Jf]at hm
    exact⟨_,rfl,l,_,rfl,.inl ⟨F8.of hm,fin o2 o3 H2 hm sm⟩⟩
theorem vm(a:At K mg "coded" ib ["table","key","digits"])(T:Gw K mg tk):Df P w K mg base "coded" ["table","key","digits"] 1 (iu K):=by
 refine a.dq G6 fun f _ A _ s H vs Q E hr h=>?_
 ·obtain⟨a,b,c,t,ks,ds,rfl,ha,hb,hc,lt,l1,l64,q⟩:=h
  refine⟨_,(qd (qy (i:=3) G6.nd rfl (Or.inl rfl) (qI da T.b_list DT (qc (qv 2) qa)))
   (qd (qV JJ rfl (Bn (qv 1)) (qg (i:=4) G6.nd rfl (Or.inl rfl))
   (qe (qV JJ rfl (zE rfl T.b_range (qc (qk qP T.b_len J8 (qc (qv 2) qa)) qa)) (qg (i:=5) G6.nd rfl (Or.inl rfl))
   (qd (qy (i:=6) G6.nd rfl (Or.inl rfl) (qt qK (qv 3) (qp Qe (qv 5) qf)))
   (qe (zg (qt (Iw.or qK qF) (qv 0) (qp Qi (qp qJ (qp qJ (qp qJ (qt qK (qv 3) (qv 5)) (qv 4)) (qv 5)) (qv 6)) (zd (v:= .int 16) rfl T.g_DIGITS ⟨_,rfl⟩))) (eG (qv 3) (qv 5) ZF)))))))
   (qe (ql (qI q9 T.b_tuple JI (qc (qv 3) qa)))))),?_⟩
  refine⟨_,rfl,c,_,rfl,hc,fun l hl=>?_⟩
  have s1:FZ H _:=FZ.upd (o:= .lst (ds.map V.int)) hl
  refine⟨_,rfl,b,rfl,AF (K:=K) (H0:=H) hb (fun j σ H2=>FZ H H2/\∃o4 o5 o6,σ=[some (.ref a),some (.ref b),some (.ref c),some (.ref l),o4,o5,o6]/\H2 l=some (.lst ((QF t (ks.take j) ds).map V.int))) ⟨s1,_,_,_,rfl,qb⟩ (fun j σ' H' h=>h.1) ?_ ?_⟩
  ·rintro j x σ H2 hx ⟨s2,o4,o5,o6,rfl,hm⟩
   obtain⟨shift,rfl,hks⟩:=QJ hx;rw[hW hks,lP];have hrl:(QF t (ks.take j) ds).length=ds.length:=cy
   generalize QF t (ks.take j) ds=r at hm hrl
   refine⟨_,rfl,c,_,rfl,hc.same s2,_,rfl,?_,?_,?_⟩
   ·lia
   ·rw[Jf];lia
   rw[show((((ds.map V.int).length:Nat):Int)).toNat=ds.length by rw[Jf];rfl]
   refine zY (n:=ds.length) (Pv:=fun i σ H3=>FZ H H3/\∃o5 o6,σ=[some (.ref a),some (.ref b),some (.ref c),some (.ref l),some (.int shift),o5,o6]/\H3 l=some (.lst ((ZW t shift r i).map V.int))) ⟨s2,_,_,rfl,hm⟩ ?_ ?_
   ·rintro i σ H3 hi ⟨s3,o5,o6,rfl,hm3⟩
    have hrl3:(ZW t shift r i).length=ds.length:=by rw[QD,hrl]
    generalize hr':ZW t shift r i=r' at hm3 hrl3
    have hi':i<r'.length:=by lia
    refine⟨_,rfl,_,rfl,_,_,rfl,rfl,l,_,_,_,rfl,rfl,F8.of hm3,r9 (i:=i) (by lia) hi',?_⟩
    refine⟨_,rfl,_,rfl,_,rfl,l,_,_,_,rfl,rfl,F8.of hm3,aR (i:=i) (by lia) hi',_,rfl,_,_,rfl,rfl,_,rfl,_,_,rfl,rfl,_,rfl,_,_,rfl,rfl,_,_,rfl,rfl,(by decide:(0:Int)<16),?_⟩
    have dm:=ac (r'.getD i 0+shift+(0+(i:Int))+ah r' i)
    refine(ha.same s3).ix (aR (i:=((r'.getD i 0+shift+(0+(i:Int))+ah r' i)%16).toNat) (by have:=dm.1;lia) (by rw[lt];have:=dm.1;have:=dm.2;lia)) ?_
    refine⟨_,rfl,_,rfl,l,_,_,i,rfl,rfl,hm3,ij (by lia) (by rw[Jf];exact hi'),Zq s3 hl,_,_,rfl,?_⟩
    rw[qb,cA,ZW,hr',iq,Int.zero_add]
   ·rintro σ H3 ⟨s3,o5,o6,rfl,hm3⟩
    exact⟨s3,_,_,_,rfl,hm3⟩
  ·rintro σ H2 ⟨s2,o4,o5,o6,rfl,hm⟩
   rw[Jf,Ee]at hm
   exact⟨_,rfl,l,_,rfl,.inl ⟨F8.of hm,fun p hp=>q p _ (s2.trans (FZ.upd hp)) (Qn hp s2) qb⟩⟩
theorem rK(a:At K mg "decoded" cU ["table","key","digits"])(T:Gw K mg tk)(xR:Df P w K mg base "back_table" ["table"] 1 (rX K)):Df P w K mg base "decoded" ["table","key","digits"] 2 (jv K):=by
 refine a.dq GA fun f _ A _ s H vs Q E hr h=>?_
 ·obtain⟨a,b,c,t,ks,ds,rfl,ha,hb,hc,pm,hdd,l1,l64,q⟩:=h
  refine⟨_,(qd (qy (i:=3) GA.nd rfl (Or.inl rfl) (qo xR hr.mo (qc (qv 0) qa)))
   (qd (qy (i:=4) GA.nd rfl (Or.inl rfl) (qI da T.b_list DT (qc (qv 2) qa)))
   (qd (qV JJ rfl (ub rfl T.b_reversed (qc (qv 1) qa)) (qg (i:=5) GA.nd rfl (Or.inl rfl))
   (qe (qV JJ rfl (ub rfl T.b_reversed (qc (qI jH T.b_range PyProof.Rows.boot_range (qc (qk qP T.b_len J8 (qc (qv 2) qa)) qa)) qa)) (qg (i:=6) GA.nd rfl (Or.inl rfl))
   (qd (qy (i:=7) GA.nd rfl (Or.inl rfl) (qt qK (qv 4) (qp Qe (qv 6) qf)))
   (qe (zg (qp Qi (qp Qe (qp Qe (qp Qe (qt qF (qv 3) (qt qK (qv 4) (qv 6))) (qv 5)) (qv 6)) (qv 7)) (zd (v:= .int 16) rfl T.g_DIGITS ⟨_,rfl⟩)) (eG (qv 4) (qv 6) ZF)))))))
   (qe (ql (qI q9 T.b_tuple JI (qc (qv 4) qa))))))),?_⟩
  refine⟨_,rfl,a,t,rfl,ha,pm,fun pb H1 s1 hpb=>?_⟩
  refine⟨_,rfl,c,_,rfl,hc.same s1,fun l hl=>?_⟩
  have s2:FZ H1 _:=FZ.upd (o:= .lst (ds.map V.int)) hl
  refine⟨_,rfl,b,rfl,wG (K:=K) (H0:=H1) (hb.same s1) (fun j σ H2=>FZ H1 H2/\∃o4 o5 o6,σ=[some (.ref a),some (.ref b),some (.ref c),some (.ref pb),some (.ref l),o4,o5,o6]/\H2 l=some (.lst ((Za (zC t) (ks.drop (ks.length-j)) ds).map V.int))) ⟨s2,_,_,_,rfl,by rw[Nat.sub_zero,List.drop_length];exact qb⟩ (fun j σ' H' h=>h.1) ?_ ?_⟩
  ·rintro j x σ H2 hj hx ⟨s2,o4,o5,o6,rfl,hm⟩
   obtain⟨shift,rfl,hks⟩:=QJ hx;rw[Jf]at hj hks;have ed:ks.drop (ks.length-(j+1))=shift::ks.drop (ks.length-j):=by
    have:=tW hks
    rw[show ks.length-1-j+1=ks.length-j by lia]at this
    rw[show ks.length-(j+1)=ks.length-1-j by lia]
    exact this
   rw[ed,Za];have hrl:(Za (zC t) (ks.drop (ks.length-j)) ds).length=ds.length:=fX
   have hrd:zA (Za (zC t) (ks.drop (ks.length-j)) ds):=mE hdd
   generalize Za (zC t) (ks.drop (ks.length-j)) ds=r at hm hrl hrd
   refine⟨_,rfl,c,_,rfl,(hc.same s1).same s2,_,rfl,fun pr hpr=>⟨pr,rfl,.inr (.inr ⟨ds.length,?_,by lia,?_⟩)⟩⟩
   ·rw[qb,Jf]
   have s2':=s2.trans (FZ.upd (o:= .rng 0 ((ds.map V.int).length:Nat)) hpr)
   have hm':=FZ.upd (o:= .rng 0 ((ds.map V.int).length:Nat)) hpr _ _ hm
   refine wJ (n:=ds.length) (Pv:=fun i σ H3=>FZ H1 H3/\∃o5 o6 r',σ=[some (.ref a),some (.ref b),some (.ref c),some (.ref pb),some (.ref l),some (.int shift),o5,o6]/\H3 l=some (.lst (r'.map V.int))/\r'.length=ds.length/\zA r'/\aC (zC t) shift r' (ds.length-i)=aC (zC t) shift r ds.length) ⟨s2',_,_,r,rfl,hm',hrl,hrd,rfl⟩ ?_ ?_
   ·rintro i σ H3 hi ⟨s3,o5,o6,r',rfl,hm3,hrl3,hrd3,er⟩
    have hi':ds.length-1-i<r'.length:=by lia
    have ep:(ds.length:Int)-1-i=((ds.length-1-i:Nat):Int):=by lia
    rw[ep];generalize hpl:ds.length-1-i=pl at hi'
    rw[show ds.length-i=pl+1 by lia,aC]at er
    refine⟨_,rfl,_,rfl,_,_,rfl,rfl,l,_,_,_,rfl,rfl,F8.of hm3,r9 (i:=pl) rfl hi',?_⟩
    have dr:=iH hrd3 pl;refine⟨_,rfl,_,rfl,_,rfl,l,_,_,_,rfl,rfl,F8.of hm3,aR (i:=pl) rfl hi',pb,_,_,_,rfl,rfl,Ga.of (s3 _ _ hpb),aR (i:=(r'.getD pl 0).toNat) (by have:=dr.1;lia) (by rw[aS];have:=dr.1;have:=dr.2;lia),?_⟩
    refine⟨_,rfl,_,_,rfl,rfl,_,rfl,_,_,rfl,rfl,_,rfl,_,_,rfl,rfl,_,_,rfl,rfl,(by decide:(0:Int)<16),?_⟩
    refine⟨_,rfl,_,rfl,l,_,_,pl,rfl,rfl,hm3,nM (by rw[Jf];exact hi'),Zq s3 hl,_,_,f7 (zC t) shift r' pl,rfl,?_,by rw[lJ];exact hrl3,kI hrd3,?_⟩
    ·rw[qb,cA,f7]
    ·rw[show ds.length-(i+1)=pl by lia];exact er
   ·rintro σ H3 ⟨s3,o5,o6,r',rfl,hm3,hrl3,hrd3,er⟩
    rw[Nat.sub_self,aC]at er;rw[er]at hm3
    exact⟨s3,_,_,_,rfl,hm3⟩
  ·rintro σ H2 ⟨s2,o4,o5,o6,rfl,hm⟩
   rw[Jf,Nat.sub_self,List.drop_zero]at hm
   exact⟨_,rfl,l,_,rfl,.inl ⟨F8.of hm,fun p hp=>q p _ ((s1.trans s2).trans (FZ.upd hp)) (Qn hp (s1.trans s2)) qb⟩⟩
theorem f6(a:At K mg "letter_digits" Zt ["name"])(T:Gw K mg tk):Df P w K mg base "letter_digits" ["name"] 1 iW:=by
 refine a.dq Gp fun f _ A _ s H vs Q E hr h=>?_
 ·obtain⟨z,rfl,hz,q⟩:=h
  refine⟨_,(qd (qy (i:=1) Gp.nd rfl (Or.inl rfl) (zb qa))
   (qd (qV JJ rfl (ua (qv 0)) (qg (i:=2) Gp.nd rfl (Or.inl rfl))
   (qd (qy (i:=3) Gp.nd rfl (Or.inl rfl) (qp Qe (qk ko T.b_ord PyProof.Rows.boot_ord (qc (qv 2) qa)) (qk ko T.b_ord PyProof.Rows.boot_ord (qc qw qa))))
   (qd (zQ (Z4 EB EV EW QK (qv 1) (qc (qp Qi (qv 3) (zd (v:= .int 16) rfl T.g_DIGITS ⟨_,rfl⟩)) qa)))
   (qe (zQ (Z4 EB EV EW QK (qv 1) (qc (qp bB (qv 3) (zd (v:= .int 16) rfl T.g_DIGITS ⟨_,rfl⟩)) qa)))))))
   (qe (ql (qv 1))))),?_⟩
  refine⟨FP,fun l hl=>?_⟩
  refine⟨_,rfl,z,rfl,mN hz,AQ (fun i σ H2=>FZ H H2/\∃o2 o3,σ=[some (.str z),some (.ref l),o2,o3]/\H2 l=some (.lst ((Q6 (z.cps.toList.take i)).map V.int))) ⟨FZ.upd hl,_,_,rfl,qb⟩ ?_ ?_⟩
  ·rintro i c σ H2 hc ⟨s2,o2,o3,rfl,hm⟩
   have hc':=nR hc;rw[An hc',uM];have hln:(Q6 (z.cps.toList.take i)).length<=16:=by rw[jG,DW];have:=hz.2.2;lia
   generalize Q6 (z.cps.toList.take i)=ds at hm hln
   have eX:((((⟨#[c]⟩:Str).cps.getD 0 0:Nat):Int)-((("a":Str).cps.getD 0 0:Nat):Int))=(c:Int)-97:=rfl
   have big:(100:Nat)<sizeLine:=by decide
   refine⟨_,rfl,_,rfl,rfl,_,rfl,rfl,_,_,rfl,rfl,?_⟩
   show kS _ _ _ [some (V.str z),some (V.ref l),some (V.str ⟨#[c]⟩),some (V.int ((c:Int)-97))] H2
   refine⟨_,rfl,.inl ⟨rfl,_,F8.of hm⟩,_,rfl,_,_,rfl,rfl,(by decide:(0:Int)<16),l,_,_,rfl,rfl,hm,by rw[Jf];lia,?_⟩
   have w1:FZ H (F5 H2 l (.lst (ds.map V.int++[V.int (((c:Int)-97)%16)]))):=Zq s2 hl
   refine⟨_,rfl,.inl ⟨rfl,_,F8.of qb⟩,_,rfl,_,_,rfl,rfl,⟨by decide,by decide⟩,l,_,_,rfl,rfl,qb,by rw[JC,Jf,Eo];lia,Zq w1 hl,_,_,rfl,?_⟩
   rw[qb,JU,El];rfl
  ·rintro σ H2 ⟨s2,o2,o3,rfl,hm⟩
   rw[show z.cps.size=z.cps.toList.length from rfl,Ee]at hm
   exact⟨_,rfl,q l H2 s2 hl hm⟩
theorem tV(a:At K mg "key_of" gs ["table","key","name"])(T:Gw K mg tk)(xG:Df P w K mg base "letter_digits" ["name"] 1 iW)(xN:Df P w K mg base "coded" ["table","key","digits"] 1 (iu K)):Df P w K mg base "key_of" ["table","key","name"] 2 (ik K):=by
 refine a.dq G8 fun f _ A _ s H vs Q E hr h=>?_
 ·obtain⟨a,b,z,t,ks,rfl,ha,hb,hz,lt,q⟩:=h
  refine⟨_,(qd (qy (i:=3) G8.nd rfl (Or.inl rfl) (qp t9 (zb (qc qf qa)) (zd (v:= .int 4) rfl T.g_KEY_PLACES ⟨_,rfl⟩)))
   (qd (qV JJ rfl (y4 rfl T.b_enumerate (qc (qo xG hr.mo (qc (qv 2) qa)) qa)) (gV rfl (qm (qg (i:=4) G8.nd rfl (Or.inl rfl)) (qm (qg (i:=5) G8.nd rfl (Or.inl rfl)) qO)))
   (qe (yu (qv 3) (qp Qi (qv 4) (zd (v:= .int 4) rfl T.g_KEY_PLACES ⟨_,rfl⟩)) vf (qv 5) BS ZF)))
   (qe (ql (qo xN hr.mo (qc (qv 0) (qc (qv 1) (qc (zN (own:=["total"]) (fr:=[]) (js:=[]) rfl (zI (qv 3)) rfl (fun _ _ h=>nomatch h) rfl (bg rfl (by decide +kernel) (by decide +kernel) (by decide +kernel)) (fun _ _ _ _=>qg (i:=0) (show List.Nodup (["total"]:List Str)from by decide +kernel) rfl (Or.inl rfl) (.inr rfl)) (fun _ _ _ _=>(qp Qi (qv 0) (zd (v:= .int 16) rfl T.g_DIGITS ⟨_,rfl⟩)))) qa)))))))),?_⟩
  refine⟨FQ,fun p0 hp0=>⟨p0,4,_,rfl,rfl,qb,by decide,by decide,FT,fun l hl=>?_⟩⟩
  have s1:=(FZ.upd (o:= .lst [V.int 0]) hp0)
  have s2:=s1.trans (FZ.upd (o:= .lst (List.replicate (4:Int).toNat [V.int 0]).flatten) hl)
  have hlH:H l=none:=Qn hl s1
  refine⟨_,rfl,z,rfl,hz,fun ld H1 s3 hldn hld=>?_⟩
  have hm1:=s3 _ _ (qb (H:=F5 H p0 (.lst [V.int 0])) (a:=l) (o:= .lst (List.replicate (4:Int).toNat [V.int 0]).flatten))
  have ndl:ld≠l:=fun y=>by rw[y,qb]at hldn;cases hldn
  generalize hds:Q6 z.cps.toList=ds at hld q
  have hdl:ds.length<=16:=by rw[<- hds,jG];have:=hz.2.2;lia
  refine⟨ld,rfl,⟨_,F8.of hld⟩,lO (K:=K) (a:=ld) (xs:=ds.map V.int) (fun i σ H2=>∃(o4 o5:Option V),σ=[some (.ref a),some (.ref b),some (.str z),some (.ref l),o4,o5]/\H2 l=some (.lst ((ZN ds i).map V.int))/\H2 ld=some (.lst (ds.map V.int))/\FZ H H2)
   ⟨none,none,rfl,hm1,hld,s2.trans s3⟩ (fun i σ H2 _ ⟨_,_,_,_,hd,_⟩=>F8.of hd) ?_ ?_⟩
  ·rintro i x σ H2 pp hx ⟨o4,o5,rfl,hm,hd2,sm⟩ hpp
   obtain⟨dg,rfl,hz'⟩:=QJ hx;have hi:i<ds.length:=(Jw.mp hz').1
   have eg:ds.getD i 0=dg:=by rw[JE,hz'];rfl
   have sp2:=FZ.upd (o:= .tup [.int i,.int dg]) hpp
   have hm':=sp2 _ _ hm;have h4:i%4<(ZN ds i).length:=Nat.mod_lt i (by decide)
   have e4:(i:Int)%4=((i%4:Nat):Int):=by lia
   refine⟨pp,_,rfl,Ga.of qb,rfl,_,_,rfl,_,_,rfl,rfl,?_⟩
   refine⟨_,rfl,_,rfl,_,_,rfl,rfl,(by decide:(0:Int)<4),l,_,i%4,.int ((ZN ds i).getD (i%4) 0),rfl,(by show V.int ((i:Int)%4)=_;rw[e4]),hm',?_,_,rfl,_,_,rfl,rfl,l,_,_,i%4,rfl,rfl,hm',ij e4 (by rw[Jf];exact h4),_,_,rfl,?_,?_,?_⟩
   ·rw[iI h4,JE,Jj h4];rfl
   ·rw[qb,cA,<- eg,uV]
   ·rw[qj ndl];exact sp2 _ _ hd2
   ·exact Zq (sm.trans sp2) hlH
  ·rintro σ H2 ⟨o4,o5,rfl,hm,hd2,sm⟩
   rw[Jf]at hm;refine⟨_,rfl,_,rfl,_,rfl,l,rfl,⟨_,F8.of hm⟩,Zj (xs:=(ZN ds ds.length).map V.int) (FT) (fun i ys H3=>ys=((bA ds).take i).map V.int/\H3=H2) ⟨by simp,rfl⟩ (fun i ys H3 ⟨_,e⟩=>by rw[e];exact F8.of hm) ?_ ?_⟩
   ·rintro i ys H3 x hx _ ⟨rfl,rfl⟩
    obtain⟨y,rfl,hy⟩:=QJ hx;refine⟨_,rfl,_,_,rfl,rfl,(by decide:(0:Int)<16),?_,rfl⟩
    have:(bA ds)[i]? =some (y%16):=by unfold bA;rw[Jq,hy];rfl
    rw[D4,this];simp
   ·rintro ys H3 hyl ⟨rfl,rfl⟩ p hp
    rw[show(bA ds).take ((ZN ds ds.length).map V.int).length=bA ds from rfl]
    have su:=FZ.upd (o:= .lst ((bA ds).map V.int)) hp
    exact⟨a,b,p,t,ks,bA ds,rfl,(ha.same sm).same su,(hb.same sm).same su,.lst qb,lt,by rw[lV];decide,by rw[lV];decide,fun p' H' s' hn' hp'=>q p' H' ((sm.trans su).trans s') (Qn hn' (sm.trans su)) hp'⟩
theorem gN(a:At K mg "count_digits" ZC ["count"])(T:Gw K mg tk):Df P w K mg base "count_digits" ["count"] 1 B1:=by
 refine a.dq gK fun f _ A _ s H vs Q E hr h=>?_
 ·obtain⟨c,rfl,q⟩:=h
  refine⟨_,(qe (ql (qu (qc (qp Qi (qv 0) (zd (v:= .int 16) rfl T.g_DIGITS ⟨_,rfl⟩)) (qc (qp Qi (qp bB (qv 0) (zd (v:= .int 16) rfl T.g_DIGITS ⟨_,rfl⟩)) (zd (v:= .int 16) rfl T.g_DIGITS ⟨_,rfl⟩)) (qc (qp bB (qv 0) qf) qa)))))),?_⟩
  exact⟨_,rfl,_,_,rfl,rfl,(by decide:(0:Int)<16),_,rfl,_,_,rfl,rfl,⟨by decide,by decide⟩,_,_,rfl,rfl,(by decide:(0:Int)<16),_,rfl,_,_,rfl,rfl,⟨by decide,by decide⟩,FS,fun p hp=>q p _ (FZ.upd hp) qb⟩
theorem Aw{c d:Int}(h0:0<=c)(h1:c<4096)(hd:bb d):∀z∈Z3 c d,0<=z/\z<=1000000:=fun z hz=>by
 have:=gp h0 h1 hd z (EL _ hz)
 exact⟨this.1,Int.le_trans (Int.le_of_lt this.2) (by decide)⟩
theorem ng(a:At K mg "press_of" b9 ["table","key","name","age","count","deed"])(T:Gw K mg tk)(xI:Df P w K mg base "count_digits" ["count"] 1 B1)(xH:Df P w K mg base "key_of" ["table","key","name"] 2 (ik K))(xN:Df P w K mg base "coded" ["table","key","digits"] 1 (iu K)):Df P w K mg base "press_of" ["table","key","name","age","count","deed"] 3 (nW K):=by
 refine a.dq G7 fun f _ A _ s H vs Q E hr h=>?_
 ·obtain⟨a,b,z,age,c,d,t,ks,rfl,ha,hb,hz,lt,c0,c1,hd,q⟩:=h
  refine⟨_,(qd (qy (i:=6) G7.nd rfl (Or.inl rfl) (qp ZH (qo xI hr.mo (qc (qv 4) qa)) (qu (qc (qv 5) qa))))
   (qd (qy (i:=7) G7.nd rfl (Or.inl rfl) (qp ZH (qv 6) (qu (qc (qp Qi (qk (rP rfl) T.b_sum PyProof.Rows.boot_sum (qc (qv 6) qa)) (zd (v:= .int 16) rfl T.g_DIGITS ⟨_,rfl⟩)) qa))))
   (qe (ql (qu (qc (qv 2) (qc (qv 3) (qc (qo xN hr.mo (qc (qv 0) (qc (qo xH hr.mo (qc (qv 0) (qc (qv 1) (qc (qv 2) qa)))) (qc (qv 7) qa)))) qa)))))))),?_⟩
  refine⟨_,rfl,c,rfl,fun p1 H1 s1 hp1=>?_⟩
  refine⟨_,rfl,FQ,fun p2 hp2=>?_⟩
  have u2:=FZ.upd (o:= .tup [V.int d]) hp2
  refine⟨p1,p2,_,_,rfl,rfl,u2 _ _ hp1,qb,FT,fun p3 H3 s3 hp3=>?_⟩
  have hp3':H3 p3=some (.tup ((Z3 c d).map V.int)):=hp3
  have S3:=(s1.trans u2).trans s3;refine⟨_,rfl,_,rfl,p3,Z3 c d,rfl,.tup hp3',by show 4<=1000;decide,Aw c0 c1 hd,_,_,rfl,rfl,(by decide:(0:Int)<16),FQ,fun p4 hp4=>?_⟩
  have u4:=FZ.upd (o:= .tup [V.int ((Z3 c d).sum%16)]) hp4
  refine⟨p3,p4,_,_,rfl,rfl,u4 _ _ hp3',qb,FU,fun p5 H5 s5 hp5=>?_⟩
  have hp5':H5 p5=some (.tup ((Z6 c d).map V.int)):=hp5
  have S5:=(S3.trans u4).trans s5;refine⟨_,rfl,_,rfl,_,rfl,_,rfl,_,rfl,_,rfl,a,b,z,t,ks,rfl,ha.same S5,hb.same S5,hz,lt,fun pk H6 s6 _ hpk=>?_⟩
  refine⟨_,rfl,a,pk,p5,t,iL t ks z,Z6 c d,rfl,(ha.same S5).same s6,.tup hpk,.tup (s6 _ _ hp5'),lt,by rw[bW];decide,by rw[bW];decide,fun pc H7 s7 _ hpc=>?_⟩
  refine⟨FS,fun p hp=>?_⟩
  have u8:=FZ.upd (o:= .tup [V.str z,.int age,.ref pc]) hp
  exact q p pc _ (((S5.trans s6).trans s7).trans u8) qb (u8 _ _ hpc)
theorem jX(a:At K mg "read_press" aI ["table","key","press"])(T:Gw K mg tk)(xH:Df P w K mg base "key_of" ["table","key","name"] 2 (ik K))(yB:Df P w K mg base "decoded" ["table","key","digits"] 2 (jv K)):Df P w K mg base "read_press" ["table","key","press"] 3 (mj K):=by
 refine a.dq Gc fun f _ A _ s H vs Q E hr h=>?_
 ·obtain⟨a,b,pr,pc,z,age,t,ks,ds,rfl,ha,hb,hpr,hpc,hz,pm,l5,hdd,q⟩:=h
  refine⟨_,(qd (zg (qv 2) (zw rfl (qm (qg (i:=3) Gc.nd rfl (Or.inl rfl)) (qm (qg (i:=4) Gc.nd rfl (Or.inl rfl)) (qm (qg (i:=5) Gc.nd rfl (Or.inl rfl)) qO)))))
   (qd (zg (qo yB hr.mo (qc (qv 0) (qc (qo xH hr.mo (qc (qv 0) (qc (qv 1) (qc (qv 3) qa)))) (qc (qv 5) qa)))) (gV rfl (qm (qg (i:=6) Gc.nd rfl (Or.inl rfl)) (qm (qg (i:=7) Gc.nd rfl (Or.inl rfl)) (qm (qg (i:=8) Gc.nd rfl (Or.inl rfl)) (qm (qg (i:=9) Gc.nd rfl (Or.inl rfl)) (qm (qg (i:=10) Gc.nd rfl (Or.inl rfl)) qO)))))))
   (qd (qC (qx Z9 (qv 10) (qp Qi (qp qJ (qp qJ (qp qJ (qv 6) (qv 7)) (qv 8)) (qv 9)) (zd (v:= .int 16) rfl T.g_DIGITS ⟨_,rfl⟩)) (qq _)) (qe (ql qM)) qr)
   (qe (ql (qu (qc (qp qJ (qp qJ (qv 6) (qp Q0 (qv 7) (zd (v:= .int 16) rfl T.g_DIGITS ⟨_,rfl⟩))) (qp Q0 (qv 8) qf)) (qc (qv 9) qa)))))))),?_⟩
  refine⟨_,rfl,pr,_,rfl,hpr,rfl,_,_,rfl,_,_,rfl,_,_,rfl,rfl,?_⟩
  refine⟨_,rfl,_,rfl,_,rfl,_,rfl,a,b,z,t,ks,rfl,ha,hb,hz,nF pm,fun pk H1 s1 _ hpk=>?_⟩
  refine⟨_,rfl,a,pk,pc,t,iL t ks z,ds,rfl,ha.same s1,.tup hpk,hpc.same s1,pm,hdd,by lia,by lia,fun pd H2 s2 _ hpd=>?_⟩
  have q':∀x H',FZ H2 H'->cQ H' x (j5 (Za (zC t) (iL t ks z) ds))->Q x H':=fun x H' s' ht=>q x H' ((s1.trans s2).trans s') ht
  have hl:(Za (zC t) (iL t ks z) ds).length=5:=by rw[fX,l5]
  obtain⟨lo,mi,hi,de,ck,er⟩:=yv hl;rw[er]at hpd q';refine⟨pd,_,rfl,Ga.of hpd,rfl,_,_,rfl,_,_,rfl,_,_,rfl,_,_,rfl,_,_,rfl,rfl,?_⟩
  refine⟨_,rfl,_,rfl,_,rfl,_,_,rfl,rfl,_,rfl,_,_,rfl,rfl,_,rfl,_,_,rfl,rfl,_,_,rfl,rfl,(by decide:(0:Int)<16),rfl,_,rfl,?_⟩
  have q2:∀x H',FZ H2 H'->cQ H' x (if ck=(lo+mi+hi+de)%16 then some (lo+mi*16+hi*256,de)else none)->Q x H':=q'
  by_cases e:ck=(lo+mi+hi+de)%16
  ·rw[Jc e]at q2
   refine Z8 (c:=V.int ck=V.int ((lo+mi+hi+de)%16)) (by rw[e]) ?_
   refine⟨_,rfl,_,rfl,_,_,rfl,rfl,.inr ⟨by decide,by decide⟩,_,_,rfl,rfl,_,rfl,_,_,rfl,rfl,.inr ⟨by decide,by decide⟩,_,_,rfl,rfl,_,rfl,FR,fun p hp=>?_⟩
   exact q2 _ _ (FZ.upd hp) ⟨p,rfl,qb⟩
  ·rw[Jb e]at q2
   refine qS (fun _=>q2 _ _ (FZ.refl _) rfl) (fun y=>absurd ?_ y)
   have:¬V.int ck=V.int ((lo+mi+hi+de)%16):=fun w'=>e (by injection w')
   show(!decide (V.int ck=V.int ((lo+mi+hi+de)%16)))=true
   rw[Jn this];rfl
end
end Lw
namespace L3
open PySem PySem.Spec PyProof.Rows L2
section
variable{t:List Int}{kss:List (List Int)}{D:Dr}{nm:Str}{age c:Int}
theorem bR{D:Dr}{nm:Str}{age c:Int}:F4 D nm age c=D.kn\/∃e,D.kn.lookup nm=some e/\qH D e age=true/\F4 D nm age c=ze D.kn nm (zf D.near D.far e age c).2:=by
 unfold F4 zj;cases e1:D.kn.lookup nm with
 |none=>exact .inl rfl
 |some e=>
  simp only
  by_cases ht:qH D e age=true
  ·rw[Jc ht]
   exact .inr ⟨e,rfl,ht,by split<;>rfl⟩
  ·rw[Jb ht];exact .inl rfl
theorem dw{d:Int}(tp:t.Perm Gz)(hn:QV nm)(c0:0<=c)(c1:c<4096)(hd:bb d):Ij (Qt t kss nm age c d):=⟨hn,tL ..,v8 tp c0 c1 hd⟩
end
def HN(f:Nat->Dr->Dr)(k:Nat)(xs xs':List En):Prop:=xs'.length=xs.length/\∀(i:Nat) (x:En),xs[i]? =some x->∃L',xs'[i]? =some (x.1,f i x.2.1,L')/\L'.length<=x.2.2.length+k
theorem HN.refl(xs:List En):HN (fun _ D=>D) 0 xs xs:=⟨rfl,fun i x hx=>⟨x.2.2,hx,Je _⟩⟩
theorem HN.set{f g:Nat->Dr->Dr}{k i:Nat}{xs xs':List En}{x:En}{L' L'':List Rw}(h:HN f k xs xs')(hx:xs[i]? =some x)(hx':xs'[i]? =some (x.1,f i x.2.1,L'))(hl:L''.length<=L'.length+1)(hg:g i x.2.1=D')(ho:∀j,j≠i->g j=f j):HN g (k+1) xs (xs'.set i (x.1,D',L'')):=by
 refine⟨by rw[E1];exact h.1,fun j y hy=>?_⟩
 obtain⟨M,hM,hMl⟩:=h.2 j y hy
 by_cases z:j=i
 ·subst z
  rw[hx]at hy;cases hy
  rw[hx']at hM
  have:L'=M:=by injection hM with hM;injection hM with _ hM;injection hM
  subst this
  exact⟨L'',by rw[Fo (by rw[h.1];exact(Jw.mp hx).1),hg],by lia⟩
 ·exact⟨M,by rw[Fp (fun w=>z w.symm),ho j z];exact hM,by lia⟩
theorem HN.mono{f:Nat->Dr->Dr}{k k':Nat}{xs xs':List En}(h:HN f k xs xs')(l:k<=k'):HN f k' xs xs':=⟨h.1,fun i x hx=>let⟨L',e,q⟩:=h.2 i x hx;⟨L',e,by lia⟩⟩
theorem HN.ext{f g:Nat->Dr->Dr}{k:Nat}{xs xs':List En}(h:HN f k xs xs')(e:∀i x,xs[i]? =some x->f i x.2.1=g i x.2.1):HN g k xs xs':=⟨h.1,fun i x hx=>let⟨L',q,r⟩:=h.2 i x hx;⟨L',by rw[q,e i x hx],r⟩⟩
theorem HN.all{p q:Dr->Prop}{f:Nat->Dr->Dr}{k n:Nat}{xs xs':List En}(h:HN f k xs xs')(hp:∀(i:Nat) (x:En),xs[i]? =some x->p x.2.1/\x.2.2.length<=n)(hf:∀i D,p D->q (f i D)):∀(i:Nat) (x:En),xs'[i]? =some x->q x.2.1/\x.2.2.length<=n+k:=by
 intro i x hx;have hi:i<xs.length:=by rw[<- h.1];exact(Jw.mp hx).1
 obtain⟨L',e,l⟩:=h.2 i xs[i] (Jj hi)
 rw[e]at hx;cases hx
 obtain⟨h1,h2⟩:=hp i xs[i] (Jj hi)
 exact⟨hf i _ h1,by show L'.length<=n+k;lia⟩
def IK(H:Hp)(v:V):Option (Int×Int)->Prop
 |none=>v= .non
 |some (a,l)=>∃t,v= .ref t/\H t=some (.tup [.int a,.int l])
def HP(H:Hp)(tl:Addr)(os:List (Option (Int×Int))):Prop:=∃vs:List V,H tl=some (.lst vs)/\vs.length=os.length/\∀(i:Nat) (v:V) (o:Option (Int×Int)),vs[i]? =some v->os[i]? =some o->IK H v o
theorem IK.mv{S:List Addr}{H H':Hp}{v:V}{o:Option (Int×Int)}(m:Mv S H H')(n:NT S H)(h:IK H v o):IK H' v o:=by
 cases o with
 |none=>exact h
 |some p=>obtain⟨t,e,r⟩:=h;exact⟨t,e,m.tup n r⟩
theorem HP.mv{S:List Addr}{H H':Hp}{tl:Addr}{os:List (Option (Int×Int))}(h:HP H tl os)(m:Mv S H H')(n:NT S H)(hs:tl∉S):HP H' tl os:=by
 obtain⟨vs,e,l,r⟩:=h
 exact⟨vs,m _ _ hs e,l,fun i v o e1 e2=>(r i v o e1 e2).mv m n⟩
theorem HP.same{H H':Hp}{tl:Addr}{os:List (Option (Int×Int))}(h:HP H tl os)(s:FZ H H'):HP H' tl os:=h.mv (S:=[]) s.mv jd (fun h=>nomatch h)
def c9(nm:Str)(D:Dr):Option (Int×Int)->Dr
 |none=>D
 |some (a,l)=>{D with kn:=ze D.kn nm ⟨a,l,none⟩}
def qE(a b:Int):Int:=if a<b then b else a
def Qg(a b:Int):Int:=if b<a then b else a
def zp(D:Dr)(e:Kb)(D':Dr)(e':Kb):Int:=Qg (e.last+D.far) (e'.last+D'.far)
def Qh(lo hi:Int)(p:Int->Bool):Option Int:=((List.range (hi-lo).toNat).map fun i:Nat=>lo+(i:Int)).find? p
theorem lQ{D:Dr}{e:Kb}{age c:Int}(h:c<=e.last):(zc D e age c).2=e:=by
 unfold zc zf;rw[Jc h];split<;>rfl
theorem Z7{lo hi:Int}{p:Int->Bool}{c:Int}(h:Qh lo hi p=some c):lo<=c/\c<hi/\p c=true/\∀x,lo<=x->x<c->p x=false:=by
 unfold Qh at h;obtain⟨h1,as,bs,e,h2⟩:=List.find?_eq_some_iff_append.mp h
 have len:=J0 List.length e;rw[Jf,List.length_range,JC,JN]at len;have ec:c=lo+(as.length:Int):=by
  have z:((List.range (hi-lo).toNat).map fun i:Nat=>lo+(i:Int))[as.length]? =some c:=by rw[e];simp
  rw[Jq,Fn (by lia)]at z
  exact(Jy z).symm
 refine⟨by lia,by lia,h1,fun x hx1 hx2=>?_⟩
 have hm:x∈as:=by
  have hj:(x-lo).toNat<as.length:=by lia
  have z:((List.range (hi-lo).toNat).map fun i:Nat=>lo+(i:Int))[(x-lo).toNat]? =some x:=by
   rw[Jq,Fn (by lia)]
   show some (lo+((x-lo).toNat:Int))=some x
   congr 1;lia
  rw[e,DR hj]at z;exact DX z
 have:=h2 x hm
 simpa using this
theorem gD{lo hi:Int}{p:Int->Bool}(h:Qh lo hi p=none):∀x,lo<=x->x<hi->p x=false:=by
 intro x h1 h2
 have:=List.find?_eq_none.mp h x (JA.mpr ⟨(x-lo).toNat,J4.mpr (by lia),by lia⟩)
 simpa using this
theorem wy{lo hi:Int}{p:Int->Bool}{c:Int}(h1:lo<=c)(h2:c<hi)(h3:p c=true)(h4:∀x,lo<=x->x<c->p x=false):Qh lo hi p=some c:=by
 cases e:Qh lo hi p with
 |none=>rw[gD e c h1 h2]at h3;cases h3
 |some d=>
  obtain⟨d1,d2,d3,d4⟩:=Z7 e;rcases Int.lt_trichotomy c d with z|z|z
  ·rw[d4 c h1 z]at h3;cases h3
  ·rw[z]
  ·rw[h4 d d1 z]at d3;cases d3
theorem sQ{lo hi:Int}{p:Int->Bool}(h:∀x,lo<=x->x<hi->p x=false):Qh lo hi p=none:=by
 cases e:Qh lo hi p with
 |none=>rfl
 |some d=>
  obtain⟨d1,d2,d3,d4⟩:=Z7 e;rw[h d d1 d2]at d3;cases d3
section
variable(K:Frag)(C:Addr)
def lH:Sp:=fun vs H Q _=>∃(p ta hk bd lg:Addr) (n:Nat) (D:Dr),vs=[.ref p]/\F2 K C H p ta hk bd lg n D/\G5 D/\∀l (ss:List Str) H',FZ H H'->ss.Perm (D.kn.map (·.1))->H' l=some (.lst (ss.map V.str))->Q (.ref l) H'
def oA:Sp:=fun vs H Q _=>∃(p ta hk bd lg a:Addr) (n:Nat) (D:Dr) (e:Kb) (p' ta' hk' bd' lg' a':Addr) (n':Nat) (D':Dr) (e':Kb),vs=[.ref p,.ref a,.ref p',.ref a']/\F2 K C H p ta hk bd lg n D/\GI H a e/\F2 K C H p' ta' hk' bd' lg' n' D'/\GI H a' e'/\
 ∀H',FZ H H'->Q (.int (zp D e D' e')) H'
end
theorem sZ{α:Type} [DecidableEq α]:∀{l m:List α},l.Nodup->(∀x∈l,x∈m)->l.length<=m.length
 | [],m,_,_=>JB _
 |x::l,m,hn,hs=>by
  obtain⟨n1,n2⟩:=Ek.mp hn;have hx:=hs x (Jz ..);have ih:=sZ (l:=l) (m:=m.erase x) n2 (fun y hy=>(List.mem_erase_of_ne (fun e:y=x=>n1 (by rw[<- e];exact hy))).mpr (hs y (JG _ hy)))
  have h1:=List.length_erase_of_mem hx;have h2:=List.length_pos_of_mem hx;rw[JN];omega
structure IT(t:List Int)(kss:List (List Int))(D:Dr):Prop where
 ok:G5 D
 t:D.t=t
 ks:D.kss=kss
 rm:(D.kn.length:Int)<D.most
theorem gF{t:List Int}{kss:List (List Int)}{D:Dr}{nm:Str}{age c d:Int}(h:IT t kss D)(l0:D.least<=age)(a1:age<kss.length)(c0:0<=c)(c1:c<4096)(hd:bb d):gE D (Qt t kss nm age c d)=some (c,d):=by
 unfold gE QH Qt;simp only
 rw[Jg l0,h.ks,Jg a1,Jc (show(true&&true)=true from rfl),h.t,show Qy D age=kss.getD age.toNat [] by unfold Qy;rw[h.ks]]
 exact i8 (h.t▸h.ok.tp) c0 c1 hd
def jg(K:Frag)(C:Addr):Sp:=fun vs H Q _=>∃(cd tb kt pl tl b:Addr) (c:Nat) (H0:Hp) (t:List Int) (kss:List (List Int)) (xs:List En) (nm:Str) (os:List (Option (Int×Int))),vs=[.ref cd,.ref pl,.str nm,.ref tl]/\Pw K C H0 H b c pl xs/\xs.length=2/\GW H cd tb kt t kss/\QV nm/\HP H tl os/\os.length=2/\(∀(i:Nat) (x:En),xs[i]? =some x->tl∉eS x.1)/\
 (∀(i:Nat) (x:En),xs[i]? =some x->IT t kss x.2.1/\(∀a l,os.getD i none=some (a,l)->x.2.1.least<=a)/\x.2.1.kn.lookup nm=none/\x.2.1.kn.length<=11/\x.2.2.length<=900)/\(∀a l,some (a,l)∈os->0<=a/\a<kss.length/\1<=l/\l<4096)/\
 ∀H' xs',Pw K C H0 H' b c pl xs'->GW H' cd tb kt t kss->HN (fun i D=>c9 nm D (os.getD i none)) 2 xs xs'->(∀c ys,H c=some (.tup ys)->H' c=some (.tup ys))->Q .non H'
section
variable{X:Cx}
theorem tJ:qT X (.type "range") (fun xs H Q=>∃i j:Int,xs=[.int i,.int j]/\∀p,H p=none->Q (.ref p) (F5 H p (.rng i j))):=by
 intro tx s σ H xs us Q I r h;obtain⟨i,j,rfl,q⟩:=h;obtain⟨u,v,rfl,ru,rv⟩:=ff r;obtain⟨t,rfl⟩:=ru;obtain⟨t',rfl⟩:=rv;refine call_range_2 ⟨.ref s.heap.objs.size,_,I.laid (o:= .rng i j) (fun b o e=>Ji _ e) (Je _) ⟨_,_,_,Jo _ rfl⟩,rfl,q _ (I.hok.fresh (Je _))⟩
def Z1(a:Int)(n:Nat):List V:=(List.range n).map fun i:Nat=>V.int (a+(i:Int))
theorem mS(hc:X.calm=true):qT X (.type "list") (fun xs H Q=>∃(p:Addr) (a:Int) (n:Nat),xs=[.ref p]/\H p=some (.rng a (a+(n:Int)))/\ -(2 ^ 60)<=a/\a<=2 ^ 60/\n<=2 ^ 24/\∀l,H l=none->Q (.ref l) (F5 H l (.lst (Z1 a n)))):=by
 intro tx s σ H xs us Q I r h;obtain⟨p,a,j,rfl,hp,ha,ha',hj,q⟩:=h;obtain⟨u,rfl,ru⟩:=zL r;cases ru;obtain⟨t,u,v,e⟩:=I.hok p _ hp;refine call_list_range (n:=j) (I.ok.hd hc) (show IsRange s.heap p a (a+(j:Int)) 1 t u v from e) (small_one (by lia) (by lia) (by lia) (by lia)) (by rw[rangeSize_one];split<;>lia) hj fun h' tk acc' c' hk hS' hacc=>?_
 refine⟨.ref s.heap.objs.size,_,I.laid (h':=h') (t':=tk) hk (Je _) ?_,rfl,q _ (I.hok.fresh (Je _))⟩
 have aux:∀(us:List Value) (n k:Nat),us.length=n->(∀i v,us[i]? =some v->∃t,v=Value.int (a+((k+i:Nat):Int)) t)->F6 ((List.range' k n).map fun i:Nat=>V.int (a+(i:Int))) us:=by
  intro us
  induction us with
  |nil=>intro n k hn _;cases hn;exact .nil
  |cons u us ih=>
   intro n k hn hv;cases n with
   |zero=>cases hn
   |succ n=>
    rw[List.range'_succ,JR];obtain⟨t,ht⟩:=hv 0 u rfl;refine .cons ⟨t,by simpa using ht⟩ (ih n (k+1) (by simpa using hn) fun i v hi=>?_)
    obtain⟨t,ht⟩:=hv (i+1) v hi
    exact⟨t,by rw[ht];congr 1;lia⟩
 have vals:F6 (Z1 a j) acc'.toList:=by
  unfold Z1;rw[List.range_eq_range'];refine aux _ _ 0 (by rw[Jp];exact hacc.1) fun i v hi=>?_
  obtain⟨t,ht⟩:=hacc.2 i v (by rw[<- Array.getElem?_toList];exact hi)
  exact⟨t,by rw[ht];first|rfl|(congr 1;lia)⟩
 exact⟨by unfold Z1;simp only[Jf,List.length_range];exact JM hj (by rw[JH];decide),acc'.toList,c',vals,hS'⟩
end
theorem lW(a:Int)(n:Nat):(Z1 a n).length=n:=by unfold Z1;rw[Jf,List.length_range]
theorem oR{a:Int}{n i:Nat}{x:V}(h:(Z1 a n)[i]? =some x):x= .int (a+(i:Int))/\i<n:=by
 unfold Z1 at h;rw[Jq]at h;have hi:i<n:=by
  cases q:(List.range n)[i]? with
  |none=>rw[q]at h;cases h
  |some y=>have:=(Jw.mp q).1;rwa [List.length_range]at this
 rw[Fn hi]at h;cases h
 exact⟨rfl,hi⟩
def ZG(n:Int)(S:List (Int×Int)):List (Int×Int):=S.filterMap fun p=>if p.1<n then some (p.1,if p.2<n-1 then p.2 else n-1)else none
def QB(n:Int)(S:List (Int×Int)):Bool:=S.any fun p=>decide (p.1<=n)&&decide (n<=p.2)
inductive IL:List (Int×Int)->Prop where
 |nil:IL []
 |one (f l:Int) (h:f<=l):IL [(f,l)]
 |two (f l g:Int) (h:f<=l) (h2:l+1<g):IL [(f,l),(g,g)]
def wH(F:List (Int×Int))(n:Int):List (Int×Int):=match F.getLast? with
 |some (f,l)=>if l=n-1 then F.dropLast++[(f,n)]else F++[(n,n)]
 |none=>[(n,n)]
theorem iP{S:List (Int×Int)}(h:IL S)(n:Int):ZG (n+1) S=if QB n S=true then wH (ZG n S) n else ZG n S:=by
 cases h with
 |nil=>rfl
 |one f l h=>
  unfold ZG QB wH
  by_cases h1:f<n
  ·by_cases h2:n<=l
   ·have e1:(if f<n+1 then some (f,if l<n+1-1 then l else n+1-1)else none)=some (f,n):=by rw[Jc (by lia),Jb (by lia)];congr 2;lia
    have e2:(if f<n then some (f,if l<n-1 then l else n-1)else none)=some (f,n-1):=by rw[Jc h1,Jb (by lia)]
    simp only[JP,List.filterMap_nil,e1,e2,J7,List.any_nil];rw[Jg (by lia:f<=n),Jg h2]
    simp
   ·have e1:(if f<n+1 then some (f,if l<n+1-1 then l else n+1-1)else none)=some (f,l):=by rw[Jc (by lia),Jc (by lia)]
    have e2:(if f<n then some (f,if l<n-1 then l else n-1)else none)=some (f,l):=by rw[Jc h1];congr 2;split<;>lia
    simp only[JP,List.filterMap_nil,e1,e2,J7,List.any_nil];rw[Jn h2];simp
  ·by_cases h2:f=n
   ·subst h2
    have e1:(if f<f+1 then some (f,if l<f+1-1 then l else f+1-1)else none)=some (f,f):=by rw[Jc (by lia),Jb (by lia)];congr 2;lia
    have e2:(if f<f then some (f,if l<f-1 then l else f-1)else none)=none:=by rw[Jb (by lia)]
    simp only[JP,List.filterMap_nil,e1,e2,J7,List.any_nil];rw[Jg (JO f),Jg h];simp
   ·have e1:(if f<n+1 then some (f,if l<n+1-1 then l else n+1-1)else none)=none:=by rw[Jb (by lia)]
    have e2:(if f<n then some (f,if l<n-1 then l else n-1)else none)=none:=by rw[Jb h1]
    simp only[JP,List.filterMap_nil,e1,e2,J7,List.any_nil];rw[Jn (by lia:¬f<=n)]
    simp
 |two f l g h hg=>
  unfold ZG QB wH
  by_cases h1:f<n
  ·by_cases h2:n<=l
   ·have e1:(if f<n+1 then some (f,if l<n+1-1 then l else n+1-1)else none)=some (f,n):=by rw[Jc (by lia),Jb (by lia)];congr 2;lia
    have e2:(if f<n then some (f,if l<n-1 then l else n-1)else none)=some (f,n-1):=by rw[Jc h1,Jb (by lia)]
    have e3:(if g<n+1 then some (g,if g<n+1-1 then g else n+1-1)else none)=none:=by rw[Jb (by lia)]
    have e4:(if g<n then some (g,if g<n-1 then g else n-1)else none)=none:=by rw[Jb (by lia)]
    simp only[JP,List.filterMap_nil,e1,e2,e3,e4,J7,List.any_nil];rw[Jg (by lia:f<=n),Jg h2]
    simp
   ·have e1:(if f<n+1 then some (f,if l<n+1-1 then l else n+1-1)else none)=some (f,l):=by rw[Jc (by lia),Jc (by lia)]
    have e2:(if f<n then some (f,if l<n-1 then l else n-1)else none)=some (f,l):=by rw[Jc h1];congr 2;split<;>lia
    by_cases h3:g<n
    ·have e3:(if g<n+1 then some (g,if g<n+1-1 then g else n+1-1)else none)=some (g,g):=by rw[Jc (by lia),Jc (by lia)]
     have e4:(if g<n then some (g,if g<n-1 then g else n-1)else none)=some (g,g):=by rw[Jc h3];congr 2;split<;>lia
     simp only[JP,List.filterMap_nil,e1,e2,e3,e4,J7,List.any_nil];rw[Jn h2,Jn (by lia:¬n<=g)]
     simp
    ·by_cases h4:g=n
     ·subst h4
      have e3:(if g<g+1 then some (g,if g<g+1-1 then g else g+1-1)else none)=some (g,g):=by rw[Jc (by lia),Jb (by lia)];congr 2;lia
      have e4:(if g<g then some (g,if g<g-1 then g else g-1)else none)=none:=by rw[Jb (by lia)]
      simp only[JP,List.filterMap_nil,e1,e2,e3,e4,J7,List.any_nil];rw[Jg (JO g)];simp
      lia
     ·have e3:(if g<n+1 then some (g,if g<n+1-1 then g else n+1-1)else none)=none:=by rw[Jb (by lia)]
      have e4:(if g<n then some (g,if g<n-1 then g else n-1)else none)=none:=by rw[Jb h3]
      simp only[JP,List.filterMap_nil,e1,e2,e3,e4,J7,List.any_nil];rw[Jn h2,Jn (by lia:¬g<=n)]
      simp
  ·have e3:(if g<n+1 then some (g,if g<n+1-1 then g else n+1-1)else none)=none:=by rw[Jb (by lia)]
   have e4:(if g<n then some (g,if g<n-1 then g else n-1)else none)=none:=by rw[Jb (by lia)]
   by_cases h2:f=n
   ·subst h2
    have e1:(if f<f+1 then some (f,if l<f+1-1 then l else f+1-1)else none)=some (f,f):=by rw[Jc (by lia),Jb (by lia)];congr 2;lia
    have e2:(if f<f then some (f,if l<f-1 then l else f-1)else none)=none:=by rw[Jb (by lia)]
    simp only[JP,List.filterMap_nil,e1,e2,e3,e4,J7,List.any_nil];rw[Jg (JO f),Jg h];simp
   ·have e1:(if f<n+1 then some (f,if l<n+1-1 then l else n+1-1)else none)=none:=by rw[Jb (by lia)]
    have e2:(if f<n then some (f,if l<n-1 then l else n-1)else none)=none:=by rw[Jb h1]
    simp only[JP,List.filterMap_nil,e1,e2,e3,e4,J7,List.any_nil];rw[Jn (by lia:¬f<=n),Jn (by lia:¬g<=n)]
    simp
theorem iX{S:List (Int×Int)}{n:Int}(h:∀p∈S,n<=p.1):ZG n S=[]:=by
 unfold ZG;rw[List.filterMap_eq_nil_iff];intro p hp;rw[Jb (by have:=h p hp;lia)]
theorem kH{S:List (Int×Int)}{n:Int}(h:∀p∈S,p.1<=p.2/\p.2<n):ZG n S=S:=by
 unfold ZG
 induction S with
 |nil=>rfl
 |cons p r ih=>
  have:=h p (Jz ..)
  rw[JP,Jc (by lia)]
  simp only
  rw[ih (fun q hq=>h q (JG _ hq))]
  congr 1
  obtain⟨a,b⟩:=p;simp only at this⊢
  congr 1
  split<;>lia
theorem HP.two{H:Hp}{tl:Addr}{v v':V}{o o':Option (Int×Int)}(e:H tl=some (.lst [v,v']))(h:IK H v o)(h':IK H v' o'):HP H tl [o,o']:=⟨[v,v'],e,rfl,fun i u w e1 e2=>by
 match i,e1,e2 with
 |0,e1,e2=>cases e1;cases e2;exact h
 |1,e1,e2=>cases e1;cases e2;exact h'
 |i+2,e1,e2=>cases e1⟩
theorem uI{nms:List Str}{nm:Str}{j:Nat}(nd:nms.Nodup)(e:nms[j]? =some nm):nm∉nms.take j:=fun z=>by
 obtain⟨k,hk,ek⟩:=List.mem_iff_getElem.mp z;rw[List.getElem_take]at ek;rw[DW]at hk
 exact(List.pairwise_iff_getElem.mp nd) k j (by lia) (Jw.mp e).1 (by lia) (ek.trans (Jw.mp e).2.symm)
theorem Z5(D:Dr)(nm:Str)(age c:Int):(F4 D nm age c).map (·.1)=D.kn.map (·.1):=by
 rcases bR (D:=D) (nm:=nm) (age:=age) (c:=c)with e|⟨e,he,ht,ek⟩
 ·rw[e]
 ·rw[ek];exact pq he
theorem gz{D:Dr}{nm:Str}{age c:Int}{e:Kb}(nd:(D.kn.map (·.1)).Nodup)(he:D.kn.lookup nm=some e):(F4 D nm age c).lookup nm=some (zc D e age c).2:=by
 unfold F4 zj zc;rw[he];simp only
 by_cases ht:qH D e age=true
 ·rw[Jc ht,Jc ht]
  split
  ·exact kM nd
  ·exact kM nd
 ·rw[Jb ht,Jb ht];exact he
theorem G5.hearK{D:Dr}(h:G5 D)(nm:Str)(age c:Int):G5 {D with kn:=L3.F4 D nm age c}:=by
 have k:=Z5 D nm age c;have l:(L3.F4 D nm age c).length=D.kn.length:=by have:=J0 List.length k;simpa using this
 exact⟨h.tp,h.l0,h.kl,by show(L3.F4 D nm age c).length<=60;rw[l];exact h.nl,by show((L3.F4 D nm age c).map (·.1)).Nodup;rw[k];exact h.nd⟩
theorem uk(D:Dr)(kd kd':Addr):L2.GP (aV D kd) (Sum.inr "known":qL) (.ref kd')=aV D kd':=by
 unfold L2.GP aV;rw[Jc (by simp [J7])]
 have h1:¬((Sum.inr ("near":Str):Sum Int Str)=Sum.inr ("known":Str)):=by decide +kernel
 have h2:¬((Sum.inr ("far":Str):Sum Int Str)=Sum.inr ("known":Str)):=by decide +kernel
 have h3:¬((Sum.inr ("keys":Str):Sum Int Str)=Sum.inr ("known":Str)):=by decide +kernel
 have h5:¬((Sum.inr ("closed":Str):Sum Int Str)=Sum.inr ("known":Str)):=by decide +kernel
 simp only[JR,Fd,Jb h1,Jb h2,Jb h3,Jb h5,D8]
def mK:Sp:=fun vs H Q _=>∃(m kd:Addr) (D:Dr),vs=[.ref m]/\Gf H m kd D/\∀m' kd' H',FZ H H'->H m'=none->H kd'=none->Gf H' m' kd' D->Q (.ref m') H'
theorem IL.len{S:List (Int×Int)}(h:IL S):S.length<=2:=by
 cases h with
 |nil=>exact JB _
 |one _ _ _=>exact(by decide:1<=2)
 |two _ _ _ _ _=>exact Je 2
def Qb{α:Type}(lo:Int)(n:Nat)(f:Int->Option α):Option α:=((List.range n).map fun i:Nat=>lo+(i:Int)).findSome? f
theorem bF{α β:Type}{l:List α}{f:α->Option β}(h:∀x∈l,f x=none):l.findSome? f=none:=by
 induction l with
 |nil=>rfl
 |cons x r ih=>rw[List.findSome?_cons,h x Jz];exact ih fun y hy=>h y (JG _ hy)
theorem bP{α β:Type}{l:List α}{f:α->Option β}{i:Nat}{x:α}{y:β}(hx:l[i]? =some x)(hy:f x=some y)(h:∀j z,j<i->l[j]? =some z->f z=none):l.findSome? f=some y:=by
 induction l generalizing i with
 |nil=>cases hx
 |cons a r ih=>
  rw[List.findSome?_cons];cases i with
  |zero=>cases hx;rw[hy]
  |succ i=>
   rw[h 0 a (Nat.succ_pos _) rfl];exact ih hx fun j z hj hz=>h (j+1) z (by lia) hz
theorem cB{α β:Type}{l:List α}{f g:α->Option β}(h:∀x∈l,f x=g x):l.findSome? f=l.findSome? g:=by
 induction l with
 |nil=>rfl
 |cons x r ih=>rw[List.findSome?_cons,List.findSome?_cons,h x Jz,ih fun y hy=>h y (JG _ hy)]
theorem eR{lo x:Int}{n:Nat}(h:x∈(List.range n).map fun i:Nat=>lo+(i:Int)):lo<=x/\x<lo+n:=by
 obtain⟨i,hi,rfl⟩:=JA.mp h
 have:=J4.mp hi
 lia
theorem zm{α:Type}{lo:Int}{n:Nat}{f:Int->Option α}(h:∀x,lo<=x->x<lo+n->f x=none):Qb lo n f=none:=bF fun x hx=>h x (eR hx).1 (eR hx).2
theorem Qr{α:Type}{lo:Int}{n i:Nat}{f:Int->Option α}{y:α}(hi:i<n)(hy:f (lo+(i:Int))=some y)(h:∀x,lo<=x->x<lo+i->f x=none):Qb lo n f=some y:=by
 refine bP (i:=i) (x:=lo+(i:Int)) (by rw[Jq,Fn hi];rfl) hy fun j z hj hz=>?_
 rw[Jq,Fn (by lia)]at hz
 cases hz;exact h _ (show lo<=lo+(j:Int) by lia) (show lo+(j:Int)<lo+(i:Int) by lia)
theorem Zg{α:Type}{lo:Int}{n:Nat}{f g:Int->Option α}(h:∀x,lo<=x->x<lo+n->f x=g x):Qb lo n f=Qb lo n g:=cB fun x hx=>h x (eR hx).1 (eR hx).2
def zy(S:List (Int×Int)):List Int:=S.flatMap fun p=>(List.range (p.2+1-p.1).toNat).map fun i:Nat=>p.1+(i:Int)
theorem kq(S:List (Int×Int))(n:Int):n∈zy S↔QB n S=true:=by
 unfold zy QB;rw[List.mem_flatMap,List.any_eq_true];refine exists_congr fun p=>and_congr_right fun _=>?_
 rw[Jx,decide_eq_true_eq,decide_eq_true_eq,JA];constructor
 ·rintro⟨i,hi,rfl⟩
  have:=J4.mp hi
  lia
 ·rintro⟨h1,h2⟩
  exact⟨(n-p.1).toNat,J4.mpr (by lia),by lia⟩
structure GR(S:List (Int×Int)):Prop where
 two:IL S
 bd:∀p∈S,0<=p.1/\p.1<=p.2/\p.2<=4095/\p.2-p.1<=13
theorem GR.nil:GR []:=⟨.nil,fun p h=>nomatch h⟩
theorem GR.out{S:List (Int×Int)}(h:GR S){n:Int}(hn:n<0\/4096<=n):QB n S=false:=by
 unfold QB;rw[List.any_eq_false];intro p hp z;rw[Jx,decide_eq_true_eq,decide_eq_true_eq]at z
 have:=h.bd p hp
 lia
theorem GR.cnt{S:List (Int×Int)}(h:GR S):(zy S).length<=28:=by
 have key:∀p∈S,((List.range (p.2+1-p.1).toNat).map fun i:Nat=>p.1+(i:Int)).length<=14:=fun p hp=>by
  rw[Jf,List.length_range]
  have:=h.bd p hp
  lia
 have l2:=h.two.len;unfold zy
 match S,l2 with
 | [],_=>exact JB _
 | [p],_=>
  have:=key p Jz
  rw[List.flatMap_cons,List.flatMap_nil,D7];lia
 | [p,q],_=>
  have h1:=key p Jz;have h2:=key q (JG _ Jz);rw[List.flatMap_cons,List.flatMap_cons,List.flatMap_nil,D7,JC];lia
theorem C2{S S':List (Int×Int)}(h:GR S)(h':GR S')(he:∀n,QB n S=QB n S'):S=S':=by
 have key:∀k:Nat,ZG (k:Int) S=ZG (k:Int) S':=fun k=>by
  induction k with
  |zero=>
   show ZG 0 S=ZG 0 S'
   rw[iX fun p hp=>(h.bd p hp).1,iX fun p hp=>(h'.bd p hp).1]
  |succ k ih=>
   have e:((k+1:Nat):Int)=(k:Int)+1:=by lia
   rw[e,iP h.two,iP h'.two,he,ih]
 have:=key 4096
 rw[kH fun p hp=>⟨(h.bd p hp).2.1,by have:=(h.bd p hp).2.2.1;lia⟩,kH fun p hp=>⟨(h'.bd p hp).2.1,by have:=(h'.bd p hp).2.2.1;lia⟩]at this
 exact this
def QN(S S':List (Int×Int))(n:Int):Bool:=decide (QB n S≠QB n S')
def zU(S S':List (Int×Int)):Int:=(Qh 0 4096 (QN S S')).getD 0
theorem rb(S S':List (Int×Int)):QN S S'=QN S' S:=by
 funext n
 exact decide_eq_decide.mpr ⟨Ne.symm,Ne.symm⟩
theorem rN(S S':List (Int×Int)):zU S S'=zU S' S:=by unfold zU;rw[rb]
theorem gS{S S':List (Int×Int)}(h:GR S)(h':GR S')(ne:S≠S'):Qh 0 4096 (QN S S')=some (zU S S'):=by
 cases e:Qh 0 4096 (QN S S')with
 |some c=>unfold zU;rw[e];rfl
 |none=>
  refine absurd (C2 h h' fun n=>?_) ne
  by_cases hn:n<0\/4096<=n
  ·rw[h.out hn,h'.out hn]
  ·have:=of_decide_eq_false (gD e n (by lia) (by lia))
   exact Decidable.not_not.mp this
theorem pH{S S':List (Int×Int)}{ms:List Int}(h:GR S)(h':GR S')(hm:∀k,k∈ms↔¬(k∈zy S↔k∈zy S'))(hp:ms.Pairwise (· <= ·))(ne:S≠S'):ms[0]? =some (zU S S'):=by
 obtain⟨l1,l2,l3,l4⟩:=Z7 (gS h h' ne)
 have mem:∀k,k∈ms↔QN S S' k=true:=fun k=>by
  rw[hm,kq,kq];unfold QN;rw[decide_eq_true_eq];exact not_congr D5.symm
 cases ms with
 |nil=>exact absurd ((mem _).mpr l3) Js
 |cons x r=>
  have hx:=(mem x).mp Jz;have hl:zU S S'∈x::r:=(mem _).mpr l3
  have le1:x<=zU S S':=by
   rcases Jk.mp hl with e|e
   ·rw[e];exact JO _
   ·exact(List.pairwise_cons.mp hp).1 _ e
  have le2:¬x<zU S S':=fun z=>by
   have x0:0<=x:=by
    refine Int.not_lt.mp fun y=>?_
    have:=Jv hx
    rw[h.out (.inl y),h'.out (.inl y)]at this;exact this rfl
   rw[l4 x x0 z]at hx;cases hx
  show some x=_
  congr 1
  lia
def zu(D:Dr)(age:Int)(o:Option Kb):List (Int×Int):=match o with
 |none=>[]
 |some e=>zn D e age
def QC(D:Dr)(o:Option Kb)(D':Dr)(o':Option Kb):Option (Int×Int):=Qb 0 D.kss.length fun a=>if zu D a o=zu D' a o' then none else some (a,zU (zu D a o) (zu D' a o'))
theorem bO{D D':Dr}(hk:D.kss.length=D'.kss.length)(o o':Option Kb):QC D o D' o'=QC D' o' D o:=by
 unfold QC;rw[hk];refine Zg fun a _ _=>?_
 by_cases z:zu D a o=zu D' a o'
 ·rw[Jc z,Jc z.symm]
 ·rw[Jb z,Jb (Ne.symm z),rN]
theorem aD{D D':Dr}{o o':Option Kb}(h:QC D o D' o'=none){a:Int}(a0:0<=a)(a1:a<D.kss.length):zu D a o=zu D' a o':=by
 unfold QC Qb at h
 have:=List.findSome?_eq_none_iff.mp h a (JA.mpr ⟨a.toNat,J4.mpr (by lia),by lia⟩)
 by_cases z:zu D a o=zu D' a o'
 ·exact z
 ·rw[Jb z]at this;cases this
structure Gi(D:Dr):Prop where
 n0:1<=D.near
 n1:D.near<=13
 nf:D.near<=D.far
 f1:D.far<=100
 l0:0<=D.least
 lk:D.least<D.kss.length
def bM(D:Dr):Option Kb->Prop
 |none=>True
 |some e=>Gn D e
theorem n9{D:Dr}{e:Kb}(d:Gi D)(k:Gn D e)(age:Int):GR (zn D e age):=by
 have n0:=d.n0;have n1:=d.n1;have l0:=k.l0;have l1:=k.l1;unfold zn
 by_cases ht:qH D e age=true
 case neg=>rw[Jb ht];exact GR.nil
 rw[Jc ht]
 by_cases h1:e.last+1<4096
 ·rw[Jc h1]
  have one:GR [(e.last+1,if 4095<e.last+D.near then 4095 else e.last+D.near)]:=⟨.one _ _ (by split<;>lia),fun p hp=>by rw[Jl.mp hp];simp only;split<;>lia⟩
  cases ew:e.wt with
  |none=>exact one
  |some xw=>
   obtain⟨x,w⟩:=xw;have hw:=k.w x w ew;simp only
   by_cases h2:x=age/\w+1<=(if 4095<e.last+D.far then 4095 else e.last+D.far)
   ·rw[Jc h2]
    have h3:=h2.2;refine⟨.two _ _ _ (by split<;>lia) (by split<;>lia),fun p hp=>?_⟩
    rcases Jk.mp hp with rfl|hp
    ·exact one.bd _ Jz
    ·rw[Jl.mp hp];simp only;split at h3<;>lia
   ·rw[Jb h2,D7];exact one
 ·rw[Jb h1]
  cases ew:e.wt with
  |none=>exact GR.nil
  |some xw=>
   obtain⟨x,w⟩:=xw;have hw:=k.w x w ew;simp only
   rw[Jb (fun z=>by have:=z.2;split at this<;>lia)]
   exact GR.nil
theorem fq{D:Dr}{o:Option Kb}(d:Gi D)(k:bM D o)(age:Int):GR (zu D age o):=by
 cases o with
 |none=>exact GR.nil
 |some e=>exact n9 d k age
theorem ca{D:Dr}{e:Kb}{age c:Int}(d:Gi D)(k:Gn D e)(c0:0<=c)(c1:c<4096):Gn D (zc D e age c).2:=by
 unfold zc
 by_cases ht:qH D e age=true
 ·rw[Jc ht];exact mt k (cC ht) (Zh ht d.l0).2 c0 c1
 ·rw[Jb ht];exact k
def QP(D:Dr)(o:Option Kb)(D':Dr)(o':Option Kb):Option ((Int×Int)×Int×Int):=match o,o' with
 |some e,some e'=>Qb (zp D e D' e') (Qg (zp D e D' e'+2) 4096-zp D e D' e').toNat fun c=>(QC D (some (zc D e (qE e.age D.least) c).2) D' (some (zc D' e' (qE e.age D.least) c).2)).map fun p=>((qE e.age D.least,c),p)
 |_,_=>none
theorem vP(D D':Dr)(e e':Kb):zp D e D' e'=zp D' e' D e:=by unfold zp Qg;split<;>split<;>lia
theorem zR{D:Dr}{e:Kb}(d:Gi D)(k:Gn D e)(h1:e.last+1<4096){a:Int}:zn D e a≠[]↔qE e.age D.least<=a/\a<D.kss.length:=by
 unfold zn
 by_cases ht:qH D e a=true
 ·rw[Jc ht,Jc h1]
  refine⟨fun _=>?_,fun _ z=>by cases z⟩
  have h2:=cC ht;have h3:=(Zh ht d.l0).2;unfold qH QH at ht;rw[Jx,Jx]at ht;have h4:=Jv ht.1.1;unfold qE;split<;>lia
 ·rw[Jb ht]
  refine⟨fun z=>absurd rfl z,fun⟨z1,z2⟩=>absurd ?_ ht⟩
  unfold qH QH
  have:e.age<=a/\D.least<=a:=by unfold qE at z1;split at z1<;>lia
  rw[Jg this.2,Jg z2,Jg this.1];rfl
theorem ay{D:Dr}{e:Kb}(d:Gi D)(k:Gn D e)(h1:¬e.last+1<4096)(a:Int):zn D e a=[]:=by
 have n0:=d.n0;unfold zn
 by_cases ht:qH D e a=true
 ·rw[Jc ht,Jb h1]
  cases ew:e.wt with
  |none=>rfl
  |some xw=>
   obtain⟨x,w⟩:=xw;have hw:=k.w x w ew;simp only
   rw[Jb (fun z=>by have:=z.2;split at this<;>lia)];rfl
 ·rw[Jb ht]
theorem uW{D D':Dr}{o o':Option Kb}(d:Gi D)(d':Gi D')(k:bM D o)(k':bM D' o')(hk:D.kss.length=D'.kss.length)(no:QC D o D' o'=none):QP D o D' o'=QP D' o' D o:=by
 cases o with
 |none=>cases o'<;>rfl
 |some e=>
  cases o' with
  |none=>rfl
  |some e'=>
   have k:Gn D e:=k
   have k':Gn D' e':=k'
   have a0:=k.a0;have a0':=k'.a0;have a1:=k.a1;have a1':=k'.a1;have lk:=d.lk;have lk':=d'.lk;have ll:=d.l0;have ll':=d'.l0;have b1:0<=qE e.age D.least/\qE e.age D.least<D.kss.length:=by unfold qE;split<;>lia
   have b2:0<=qE e'.age D'.least/\qE e'.age D'.least<D'.kss.length:=by unfold qE;split<;>lia
   have all:∀a:Int,0<=a->a<D.kss.length->zn D e a=zn D' e' a:=fun a h0 h1=>aD no h0 h1
   have cut:∀{D D':Dr} {e e':Kb},Gi D->Gi D'->¬e.last+1<4096->¬e'.last+1<4096->∀f:Int->Option ((Int×Int)×Int×Int),Qb (zp D e D' e') (Qg (zp D e D' e'+2) 4096-zp D e D' e').toNat f=none:=fun{D D' e e'} d d' h h' f=>zm fun x x1 x2=>by
    have n0:=d.n0;have nf:=d.nf;have n0':=d'.n0;have nf':=d'.nf
    have:4096<=zp D e D' e':=by unfold zp Qg;split<;>lia
    unfold Qg at x2;split at x2<;>lia
   by_cases h1:e.last+1<4096
   ·by_cases h2:e'.last+1<4096
    ·have e1:qE e.age D.least=qE e'.age D'.least:=by
      have p1:=(zR d k h1 (a:=qE e.age D.least)).mpr ⟨JO _,b1.2⟩
      rw[all _ b1.1 b1.2]at p1;have q1:=(zR d' k' h2).mp p1;have p2:=(zR d' k' h2 (a:=qE e'.age D'.least)).mpr ⟨JO _,b2.2⟩
      rw[<- all _ b2.1 (by rw[hk];exact b2.2)]at p2
      have q2:=(zR d k h1).mp p2;lia
     unfold QP;simp only
     rw[<- vP D D' e e',<- e1];exact Zg fun c _ _=>by rw[bO hk]
    ·have p1:=(zR d k h1 (a:=qE e.age D.least)).mpr ⟨JO _,b1.2⟩
     rw[all _ b1.1 b1.2,ay d' k' h2]at p1;exact absurd rfl p1
   ·by_cases h2:e'.last+1<4096
    ·have p2:=(zR d' k' h2 (a:=qE e'.age D'.least)).mpr ⟨JO _,b2.2⟩
     rw[<- all _ b2.1 (by rw[hk];exact b2.2),ay d k h1]at p2
     exact absurd rfl p2
    ·unfold QP
     simp only
     rw[cut d d' h1 h2,cut d' d h2 h1]
abbrev Qs:=List (Str×Int×Int)
def zS(D D':Dr)(nm:Str):Option Qs:=(QC D (D.kn.lookup nm) D' (D'.kn.lookup nm)).map fun p=>[(nm,p.1,p.2)]
def Zv(D D':Dr)(nm:Str):Option Qs:=(QP D (D.kn.lookup nm) D' (D'.kn.lookup nm)).map fun p=>[(nm,p.1.1,p.1.2),(nm,p.2.1,p.2.2)]
def zF(D D':Dr)(ns:List Str):Option Qs:=match ns.findSome? (zS D D')with
 |some r=>some r
 |none=>ns.findSome? (Zv D D')
def mf(D:Dr):Prop:=∀nm,bM D (D.kn.lookup nm)
theorem uR{D D':Dr}(d:Gi D)(d':Gi D')(k:mf D)(k':mf D')(hk:D.kss.length=D'.kss.length)(ns:List Str):zF D D' ns=zF D' D ns:=by
 have e1:zS D D'=zS D' D:=by
  funext nm
  unfold zS;rw[bO hk]
 unfold zF;rw[e1];cases e:ns.findSome? (zS D' D)with
 |some r=>rfl
 |none=>
  refine cB fun nm hn=>?_
  unfold Zv;rw[uW d d' (k nm) (k' nm) hk]
  have:=List.findSome?_eq_none_iff.mp e nm hn
  unfold zS at this;rw[Option.map_eq_none_iff]at this;rw[bO hk];exact this
theorem wm{D D':Dr}{ns:List Str}{r:Qs}(no:ns.findSome? (zS D D')=none)(h:zF D D' ns=some r):r.length=2:=by
 unfold zF at h;rw[no]at h;obtain⟨nm,_,e⟩:=List.exists_of_findSome?_eq_some h
 unfold Zv at e;obtain⟨p,_,rfl⟩:=DQ.mp e;rfl
theorem pS{ns ms:List Str}(h1:ns.Nodup)(h2:ms.Nodup)(s1:sortedS ns=true)(s2:sortedS ms=true)(h:∀k,k∈ns↔k∈ms):ns=ms:=
 fS ((List.perm_ext_iff_of_nodup h1 h2).mpr h) s1 (List.Perm.refl _) s2
def bG(D:Dr)(nm:Str)(a c:Int):Bool:=decide (qA D nm a c="open")
def lC(D D':Dr)(lo:Int)(n:Nat)(nm:Str)(a:Int):Option Qs:=Qb lo n fun c=>if bG D nm a c=bG D' nm a c then none else some [(nm,a,c)]
def zT(D D':Dr)(many:Nat)(lo:Int)(n:Nat)(nm:Str):Option Qs:=Qb 0 many fun a=>lC D D' lo n nm a
theorem AR{α β:Type}(lo:Int)(n:Nat)(f:Int->Option α)(g:α->β):(Qb lo n f).map g=Qb lo n fun a=>(f a).map g:=by
 unfold Qb
 induction ((List.range n).map fun i:Nat=>lo+(i:Int))with
 |nil=>rfl
 |cons x r ih=>
  rw[List.findSome?_cons,List.findSome?_cons];cases e:f x with
  |some y=>rfl
  |none=>exact ih
theorem tf{α:Type}(lo:Int)(n:Nat)(p:Int->Bool)(g:Int->α):(Qb lo n fun c=>if p c=true then some (g c)else none)=(Qh lo (lo+n) p).map g:=by
 unfold Qb Qh;rw[show(lo+(n:Int)-lo).toNat=n by lia]
 induction ((List.range n).map fun i:Nat=>lo+(i:Int))with
 |nil=>rfl
 |cons x r ih=>
  rw[List.findSome?_cons,ES];cases e:p x with
  |true=>rfl
  |false=>exact ih
theorem Iz.same{H H':Hp}{v:V}{o:Option Kb}(h:Iz H v o)(s:FZ H H'):Iz H' v o:=by
 cases o with
 |none=>exact h
 |some e=>obtain⟨a,e1,h1⟩:=h;exact⟨a,e1,h1.same s⟩
theorem IW{D:Dr}{nm:Str}{H:Hp}{Q:VK}(h:∀v,Iz H v (D.kn.lookup nm)->Q v H):(D.kn.lookup nm=none->Q .non H)/\(∀e a,D.kn.lookup nm=some e->GI H a e->Q (.ref a) H):=
 ⟨fun e=>h _ (by rw[e];rfl),fun e a e1 h1=>h _ (by rw[e1];exact⟨a,rfl,h1⟩)⟩
theorem jx{S:List (Int×Int)}{i:Nat}{z:Int×Int}(h:S[i]? =some z):zy (S.take (i+1))=zy (S.take i)++(List.range (z.2+1-z.1).toNat).map fun k:Nat=>z.1+(k:Int):=by
 unfold zy;rw[D4,h,List.flatMap_append]
 show _++List.flatMap _ [z]=_
 rw[List.flatMap_cons,List.flatMap_nil,D7]
def HV(H:Hp)(v:V):Option Qs->Prop
 |none=>v= .non
 |some r=>∃(t:Addr) (as:List Addr),v= .ref t/\H t=some (.tup (as.map V.ref))/\as.length=r.length/\∀(i:Nat) (a:Addr) (z:Str×Int×Int),as[i]? =some a->r[i]? =some z->H a=some (.tup [.str z.1,.int z.2.1,.int z.2.2])
theorem HV.same{H H':Hp}{v:V}{o:Option Qs}(h:HV H v o)(s:FZ H H'):HV H' v o:=by
 cases o with
 |none=>exact h
 |some r=>
  obtain⟨t,as,e,h1,h2,h3⟩:=h
  exact⟨t,as,e,s _ _ h1,h2,fun i a z e1 e2=>s _ _ (h3 i a z e1 e2)⟩
theorem HV.eqw{H:Hp}{v u:V}{o:Option Qs}(h:HV H v o)(g:HV H u o)(hl:∀r,o=some r->r.length<=2):HU H 2 v u:=by
 cases o with
 |none=>
  have h:v= .non:=h
  have g:u= .non:=g
  rw[h,g];exact .non 2
 |some r=>
  obtain⟨t,as,rfl,h1,h2,h3⟩:=h;obtain⟨t',bs,rfl,g1,g2,g3⟩:=g
  have:=hl r rfl
  refine .tup (Rd.of h1) (Rd.of g1) (by rw[Jf,Jf,h2,g2]) (by rw[Jf,h2,JH];lia) fun i x y ex ey=>?_
  rw[Jq]at ex ey;obtain⟨a,ha,rfl⟩:=DQ.mp ex;obtain⟨b,hb,rfl⟩:=DQ.mp ey;have hi:i<r.length:=by rw[<- h2];exact(Jw.mp ha).1
  refine .tup (n:=0) (Rd.of (h3 i a _ ha (Jj hi))) (Rd.of (g3 i b _ hb (Jj hi))) rfl (by show 3<=sizeLine;decide) fun j x y ex ey=>?_
  match j,ex,ey with
  |0,ex,ey=>cases ex;cases ey;exact .str _ _
  |1,ex,ey=>cases ex;cases ey;exact .int _ _
  |2,ex,ey=>cases ex;cases ey;exact .int _ _
  |j+3,ex,ey=>cases ex
theorem HV.one{H:Hp}{t a:Addr}{z:Str×Int×Int}(h:H t=some (.tup [.ref a]))(h1:H a=some (.tup [.str z.1,.int z.2.1,.int z.2.2])):HV H (.ref t) (some [z]):=by
 refine⟨t,[a],rfl,h,rfl,fun i b y e1 e2=>?_⟩
 cases i with
 |zero=>cases e1;cases e2;exact h1
 |succ i=>cases e1
def DP(H:Hp)(v:V):Option ((Int×Int)×Int×Int)->Prop
 |none=>v= .non
 |some p=>∃(t x y:Addr),v= .ref t/\H t=some (.tup [.ref x,.ref y])/\H x=some (.tup [.int p.1.1,.int p.1.2])/\H y=some (.tup [.int p.2.1,.int p.2.2])
section
variable(K:Frag)(C:Addr)
def mh:Sp:=fun vs H Q _=>∃(t:Addr) (S:List (Int×Int)),vs=[.ref t]/\HZ H t S/\GR S/\∀l H',FZ H H'->H' l=some (.lst ((zy S).map V.int))->Q (.ref l) H'
def oq:Sp:=fun vs H Q _=>∃(t t':Addr) (S S':List (Int×Int)),vs=[.ref t,.ref t']/\HZ H t S/\HZ H t' S'/\GR S/\GR S'/\S≠S'/\∀H',FZ H H'->Q (.int (zU S S')) H'
def wL:Sp:=fun vs H Q _=>∃(p ta hk bd lg:Addr) (n:Nat) (D:Dr) (v:V) (o:Option Kb) (p' ta' hk' bd' lg':Addr) (n':Nat) (D':Dr) (v':V) (o':Option Kb),vs=[.ref p,v,.ref p',v']/\F2 K C H p ta hk bd lg n D/\Iz H v o/\F2 K C H p' ta' hk' bd' lg' n' D'/\Iz H v' o'/\Gi D/\Gi D'/\bM D o/\bM D' o'/\D.kss.length<=8/\
 ∀u H',FZ H H'->IK H' u (QC D o D' o')->Q u H'
def sS:Sp:=fun vs H Q _=>∃(p ta hk bd lg:Addr) (n:Nat) (D:Dr) (v:V) (o:Option Kb) (p' ta' hk' bd' lg':Addr) (n':Nat) (D':Dr) (v':V) (o':Option Kb),vs=[.ref p,v,.ref p',v']/\F2 K C H p ta hk bd lg n D/\Iz H v o/\F2 K C H p' ta' hk' bd' lg' n' D'/\Iz H v' o'/\Gi D/\Gi D'/\bM D o/\bM D' o'/\D.kss.length<=8/\
 ∀u H',FZ H H'->DP H' u (QP D o D' o')->Q u H'
structure Ik(D:Dr):Prop where
 ok:G5 D
 dn:Gi D
 kn:mf D
 few:D.kn.length<=30
def j9:Sp:=fun vs H Q _=>∃(p ta hk bd lg:Addr) (n:Nat) (D:Dr) (p' ta' hk' bd' lg':Addr) (n':Nat) (D':Dr),vs=[.ref p,.ref p']/\F2 K C H p ta hk bd lg n D/\F2 K C H p' ta' hk' bd' lg' n' D'/\Ik D/\Ik D'/\
 ∀u ns H',FZ H H'->ns.Nodup->(∀k,k∈ns↔k∈D.kn.map (·.1)\/k∈D'.kn.map (·.1))->sortedS ns=true->HV H' u (zF D D' ns)->Q u H'
def oG:Sp:=fun vs H Q _=>∃(p ta hk bd lg:Addr) (n:Nat) (D:Dr) (p' ta' hk' bd' lg':Addr) (n':Nat) (D':Dr),vs=[.ref p,.ref p']/\F2 K C H p ta hk bd lg n D/\F2 K C H p' ta' hk' bd' lg' n' D'/\Ik D/\Ik D'/\
 ∀ns H',FZ H H'->ns.Nodup->(∀k,k∈ns↔k∈D.kn.map (·.1)\/k∈D'.kn.map (·.1))->sortedS ns=true->Q (.bl (zF D D' ns).isNone) H'
end
def Cm(K:Frag)(C:Addr):Sp:=fun vs H Q _=>∃(p ta hk bd lg:Addr) (n:Nat) (D:Dr) (nm:Str),vs=[.ref p,.str nm]/\F2 K C H p ta hk bd lg n D/\∀v,Iz H v (D.kn.lookup nm)->Q v H
theorem Mf.ofO{P:Program}{w:World}{K:Frag}{mg:FX}{base:Heap}{C:Addr}(a:Mf P w K mg base C "button_of" ["self","name"] 1 (j4 K C)):Mf P w K mg base C "button_of" ["self","name"] 1 (Cm K C):=
 a.weak fun vs H Q E ⟨p,ta,hk,bd,lg,n,D,nm,e,b,q⟩=>⟨p,ta,hk,bd,lg,n,D,nm,e,b,L3.IW q⟩
end L3
namespace Lw
open PySem L2 L3
section
variable{P:Program}{w:World}{K:Frag}{mg:FX}{base:Heap}{tk:Nat->Tok}{C:Addr}
theorem gW(a:At K mg "stretches_of" ZJ ["door","button","age"])(T:Gw K mg tk)(U:G0 K C)(dB:Mf P w K mg base C "takes_from" ["self","button","age"] 2 (bL K C))(dD:Mf P w K mg base C "bounds_told" ["self"] 1 (cP K C)):Df P w K mg base "stretches_of" ["door","button","age"] 3 (xu K C):=by
 refine a.dq Gb fun f _ A _ s H vs Q E hr h=>?_
 ·obtain⟨p,ta,hk,bd,lg,n,D,v,o,age,rfl,b,hv,q⟩:=h
  refine⟨_,(qd (qC (QW.pt (zX (qx zM (qv 1) qM (qq _)) (zG (Qd (qW (zi dB U.cl hr.mo (qv 0) (qc (qv 1) (qc (qv 2) qa)))))))) (qe (ql (qu qa))) qr)
   (qd (zg (Zb dD U.cl hr.mo (qv 0)) (zw rfl (qm (qg (i:=3) Gb.nd rfl (Or.inl rfl)) (qm (qg (i:=4) Gb.nd rfl (Or.inl rfl)) (qm (qg (i:=5) Gb.nd rfl (Or.inl rfl)) qO)))))
   (qd (zg (qv 1) (zw rfl (qm (qg (i:=6) Gb.nd rfl (Or.inl rfl)) (qm (qg (i:=7) Gb.nd rfl (Or.inl rfl)) (qm (qg (i:=8) Gb.nd rfl (Or.inl rfl)) qO)))))
   (qd (qy (i:=9) Gb.nd rfl (Or.inl rfl) (zb qa))
   (qd (qC (qx eW (qp qJ (qv 7) qf) (zd (v:= .int 4096) rfl T.g_COUNTS ⟨_,rfl⟩) (qq _)) (qe (zQ (Z4 EB EV EW QK (qv 9) (qc (qu (qc (qp qJ (qv 7) qf) (qc (qk (zZ rfl) T.b_min PyProof.Rows.boot_min (qc (qp qJ (qv 7) (qv 3)) (qc (qp Qe (zd (v:= .int 4096) rfl T.g_COUNTS ⟨_,rfl⟩) qf) qa))) qa))) qa)))) qr)
   (qd (qC (QW.pt (tZ (qx aj (qv 8) qM (qq _)) (om (qx zz (qt qF (qv 8) qf) (qv 2) (qq _))))) (qd (qy (i:=10) Gb.nd rfl (Or.inl rfl) (qp qJ (qt qF (qv 8) qf) qf))
   (qe (qC (qx ZP (qv 10) (qk (zZ rfl) T.b_min PyProof.Rows.boot_min (qc (qp qJ (qv 7) (qv 4)) (qc (qp Qe (zd (v:= .int 4096) rfl T.g_COUNTS ⟨_,rfl⟩) qf) qa))) (qq _)) (qe (zQ (Z4 EB EV EW QK (qv 9) (qc (qu (qc (qv 10) (qc (qv 10) qa))) qa)))) qr))) qr)
   (qe (ql (qI q9 T.b_tuple JI (qc (qv 9) qa)))))))))),?_⟩
  have none':(∀t H',FZ H H'->HZ H' t []->Q (.ref t) H')->∀t,H t=none->Q (.ref t) (F5 H t (.tup [])):=fun q t ht=>q t _ (FZ.upd ht) ⟨[],qb,rfl,fun i a z h=>by cases h⟩
  cases o with
  |none=>
   have hv:v= .non:=hv
   subst hv
   exact⟨_,rfl,rfl,_,rfl,Qk (Jg rfl) (za ⟨FP,none' q⟩)⟩
  |some e=>
  obtain⟨x,rfl,v',hx,hw⟩:=hv;refine⟨_,rfl,rfl,_,rfl,qS (fun y=>nomatch (Jv y)) (fun _=>?_)⟩
  refine⟨_,rfl,p,rfl,b.no,_,rfl,_,rfl,p,ta,hk,bd,lg,x,n,D,e,age,rfl,b,⟨v',hx,hw⟩,_,rfl,?_⟩
  have q:∀t H',FZ H H'->HZ H' t (zn D e age)->Q (.ref t) H':=q
  unfold zn at q;cases ht:qH D e age with
  |false=>
   rw[Jb (by rw[ht];intro z;cases z)]at q
   exact za ⟨FP,none' q⟩
  |true=>
  rw[Jc ht]at q;obtain⟨AA,eA⟩:∃AA:List (Int×Int),(if e.last+1<4096 then [(e.last+1,if 4095<e.last+D.near then 4095 else e.last+D.near)]else [])=AA:=⟨_,rfl⟩
  rw[eA]at q;have hA:AA.length<=1:=by rw[<- eA];split<;>simp
  refine qZ ?_
  refine⟨_,rfl,p,rfl,b.no,p,ta,hk,bd,lg,n,D,rfl,b,fun t1 H1 s1 ht1=>⟨t1,_,rfl,.tup ht1,rfl,_,_,rfl,_,_,rfl,_,_,rfl,rfl,?_⟩⟩
  refine⟨_,rfl,x,_,rfl,.tup (s1 _ _ hx),rfl,_,_,rfl,_,_,rfl,_,_,rfl,rfl,?_⟩
  refine⟨FP,fun sl hsl=>?_⟩
  have u2:=FZ.upd (o:= .lst []) hsl
  have hsl0:=Qn hsl s1;refine ZB (fun σ' H'=>FZ H H'/\IQ H' sl AA/\σ'=[some (.ref p),some (.ref x),some (.int age),some (.int D.near),some (.int D.far),some (.int D.most),some (.int e.age),some (.int e.last),some v',some (.ref sl),none]) (fun D' hrt hnx=>?_) ?_
  ·refine⟨_,rfl,_,_,rfl,rfl,_,_,rfl,rfl,_,rfl,?_⟩
   by_cases h1:e.last+1<4096
   ·refine Qk (Jg h1) ?_
    refine⟨_,rfl,.inl ⟨rfl,_,F8.of qb⟩,_,rfl,_,_,rfl,rfl,_,rfl,_,rfl,_,_,rfl,rfl,_,_,rfl,rfl,_,_,rfl,FR,fun y hy=>⟨sl,_,_,rfl,rfl,(FZ.upd hy) _ _ qb,by show 0<sizeLine;decide,hnx _ _ ⟨?_,?_,rfl⟩⟩⟩
    ·exact fun c o e=>by rw[qj (qi e hsl0)];exact FZ.upd hy _ _ (u2 _ _ (s1 _ _ e))
    ·rw[<- eA,Jc h1]
     exact IQ.add (as:=[]) (zs:=[]) ((FZ.upd hy) _ _ qb) rfl (fun i a z h=>by cases h) qb
   ·refine Qz (Jn h1) (hnx _ _ ⟨s1.trans u2,?_,rfl⟩)
    rw[<- eA,Jb h1]
    exact⟨[],qb,rfl,fun i a z h=>by cases h⟩
  rintro _ H3 ⟨s3,pr3,rfl⟩
  refine eZ (fun σ' H'=>FZ H H'/\IQ H' sl (AA++(match e.wt with
   |none=>[]
   |some (x,w)=>if x=age/\w+1<=(if 4095<e.last+D.far then 4095 else e.last+D.far)then [(w+1,w+1)]else []))/\∃o,σ'=[some (.ref p),some (.ref x),some (.int age),some (.int D.near),some (.int D.far),some (.int D.most),some (.int e.age),some (.int e.last),some v',some (.ref sl),o]) (fun D' hrt hnx=>?_) ?_
  ·have hw3:=hw.same s3
   cases ew:e.wt with
   |none=>
    rw[ew]at hw3;have hv':v'= .non:=hw3
    subst hv';simp only
    exact⟨_,rfl,rfl,_,rfl,Qz rfl (qZ (hnx _ _ ⟨s3,by rw[ew];simp only;rw[D7];exact pr3,_,rfl⟩))⟩
   |some xw=>
   obtain⟨x',w'⟩:=xw;rw[ew]at hw3;obtain⟨wa,rfl,hwa⟩:=hw3;simp only
   refine⟨_,rfl,rfl,_,rfl,Qk rfl ?_⟩
   refine⟨_,rfl,wa,_,_,_,rfl,rfl,Ga.of hwa,rfl,_,rfl,rfl,_,rfl,?_⟩
   by_cases h2:x'=age
   case neg=>
    refine Qz (Jn (by intro z;injection z with z;exact h2 z)) (hnx _ _ ⟨s3,?_,_,rfl⟩)
    rw[ew];simp only
    rw[Jb (fun z=>h2 z.1),D7];exact pr3
   refine Qk (Jg (by rw[h2])) ?_
   refine⟨_,rfl,wa,_,_,_,rfl,rfl,Ga.of hwa,rfl,_,_,rfl,rfl,?_⟩
   refine⟨_,rfl,_,rfl,_,rfl,_,_,rfl,rfl,_,_,rfl,rfl,_,_,rfl,_,_,rfl,rfl,_,rfl,?_⟩
   by_cases h3:w'+1<=(if 4095<e.last+D.far then 4095 else e.last+D.far)
   ·refine Qk (Jg h3) ?_
    obtain⟨as,eas,las,has⟩:=pr3;refine⟨_,rfl,.inl ⟨rfl,_,F8.of eas⟩,_,rfl,_,rfl,FR,fun y hy=>⟨sl,_,_,rfl,rfl,(FZ.upd hy) _ _ eas,by rw[Jf,las,JH];omega,hnx _ _ ⟨?_,?_,_,rfl⟩⟩⟩
    ·exact fun c o e=>by rw[qj (qi e hsl0)];exact FZ.upd hy _ _ (s3 _ _ e)
    ·rw[ew];simp only
     rw[Jc ⟨h2,h3⟩];exact IQ.add ((FZ.upd hy) _ _ eas) las (fun i a z e1 e2=>FZ.upd hy _ _ (has i a z e1 e2)) qb
   ·refine Qz (Jn h3) (hnx _ _ ⟨s3,?_,_,rfl⟩)
    rw[ew];simp only
    rw[Jb (fun z=>h3 z.2),D7];exact pr3
  rintro _ H4 ⟨s4,⟨as,eas,las,has⟩,o,rfl⟩
  exact⟨_,rfl,sl,_,rfl,.inl ⟨F8.of eas,fun t ht=>q t _ (s4.trans (FZ.upd ht)) ⟨as,qb,las,fun i a z e1 e2=>FZ.upd ht _ _ (has i a z e1 e2)⟩⟩⟩
theorem cK(a:HS K C "plain_step" "Door.plain_step" Qm ["self","button","age","count"])(T:Gw K mg tk)(U:G0 K C)(dB:Mf P w K mg base C "takes_from" ["self","button","age"] 2 (bL K C))(xD:Df P w K mg base "step_by" ["button","age","count","near","far"] 2 iO):Mf P w K mg base C "plain_step" ["self","button","age","count"] 3 (kZ K C):=by
 refine a.mq ZT fun f _ A _ s H vs Q E hr h=>?_
 ·obtain⟨p,ta,hk,bd,lg,x,n,D,e,age,c,rfl,b,hx,q⟩:=h
  refine⟨_,(qd (qC (Qd (qW (zi dB U.cl hr.mo (qv 0) (qc (qv 1) (qc (qv 2) qa))))) (qe (ql (qu (qc qw (qc (qv 1) qa))))) qr)
   (qe (ql (qo xD hr.mo (qc (qv 1) (qc (qv 2) (qc (qv 3) (qc (qY (qv 0)) (qc (qY (qv 0)) qa))))))))),?_⟩
  refine⟨_,rfl,p,rfl,b.no,_,rfl,_,rfl,p,ta,hk,bd,lg,x,n,D,e,age,rfl,b,hx,_,rfl,?_⟩
  unfold zc at q;cases ht:qH D e age with
  |false=>
   rw[ht,Jb (by intro z;cases z)]at q
   refine za ⟨_,rfl,FR,fun q1 hq1=>?_⟩
   exact q q1 x _ (FZ.upd hq1) qb (hx.same (FZ.upd hq1))
  |true=>
  rw[ht,Jc rfl]at q;refine qZ ?_
  exact⟨_,rfl,_,rfl,_,rfl,_,rfl,p,_,rfl,b.h_near U,_,rfl,p,_,rfl,b.h_far U,x,e,age,c,D.near,D.far,rfl,hx,q⟩
theorem iF(a:At K mg "names_known" ZX ["door"])(T:Gw K mg tk)(U:G0 K C)(xA:Mf P w K mg base C "known_now" ["self"] 1 (kE K C)):Df P w K mg base "names_known" ["door"] 2 (lH K C):=by
 refine a.dq il fun f _ A _ s H vs Q E hr h=>?_
 ·obtain⟨p,ta,hk,bd,lg,n,D,rfl,b,ok,q⟩:=h
  refine⟨_,(qe (ql (zN (own:=["row"]) (fr:=[]) (js:=[]) rfl (aG (Zb xA U.cl hr.mo (qv 0))) rfl (fun _ _ h=>nomatch h) rfl (bg rfl (by decide +kernel) (by decide +kernel) (by decide +kernel)) (fun _ _ _ _=>qg (i:=0) (show List.Nodup (["row"]:List Str)from by decide +kernel) rfl (Or.inl rfl) (.inr rfl)) (fun _ _ _ _=>(qt (Aj (K:=K) rfl) (qv 0) qf))))),?_⟩
  refine⟨_,rfl,p,rfl,b.no,p,ta,hk,bd,lg,n,D,rfl,b,ok,fun q1 ss H1 s1 pm so sh=>?_⟩
  obtain⟨as,e1,la,has⟩:=sh;have ls:ss.length<=60:=by rw[pm.length_eq,Jf];exact ok.nl
  refine⟨q1,rfl,⟨_,Ga.of e1⟩,aB (K:=K) (xs:=as.map V.ref) (by rw[Jf,la,JH];omega) (fun i ys H2=>ys=(ss.take i).map V.str/\FZ H1 H2) ⟨by simp,FZ.refl _⟩ (fun i ys H2 ⟨_,s2⟩=>Ga.of (s2 _ _ e1)) ?_ ?_⟩
  ·rintro i ys H2 x hx hyl ⟨rfl,s2⟩
   rw[Jq]at hx;obtain⟨a1,ha1,rfl⟩:=DQ.mp hx;have hi:i<ss.length:=by rw[<- la];exact(Jw.mp ha1).1
   have es:ss[i]? =some ss[i]:=Jj hi
   obtain⟨e,he⟩:=ZY (pm.mem_iff.mp (Er hi))
   obtain⟨v,h1,_⟩:=has i a1 ss[i] e ha1 es he
   refine⟨_,rfl,a1,_,_,_,rfl,rfl,Ga.of (s2 _ _ h1),rfl,?_,s2⟩
   rw[D4,es,JU];rfl
  ·rintro ys H2 hyl ⟨rfl,s2⟩ l hl
   refine q l ss _ ((s1.trans s2).trans (FZ.upd hl)) pm ?_
   rw[qb,Jf,la,Ee]
theorem jN(a:At K mg "lesser_end" aN ["one","first","other","second"])(T:Gw K mg tk)(U:G0 K C)(dD:Mf P w K mg base C "bounds_told" ["self"] 1 (cP K C)):Df P w K mg base "lesser_end" ["one","first","other","second"] 2 (oA K C):=by
 refine a.dq jZ fun f _ A _ s H vs Q E hr h=>?_
 ·obtain⟨p,ta,hk,bd,lg,x,n,D,e,p',ta',hk',bd',lg',x',n',D',e',rfl,b,⟨v,hx,_⟩,b',⟨v',hx',_⟩,q⟩:=h
  refine⟨_,(qe (ql (qk (zZ rfl) T.b_min PyProof.Rows.boot_min (qc (qp qJ (qt qF (qv 1) qf) (qt qF (Zb dD U.cl hr.mo (qv 0)) qf)) (qc (qp qJ (qt qF (qv 3) qf) (qt qF (Zb dD U.cl hr.mo (qv 2)) qf)) qa))))),?_⟩
  refine⟨_,rfl,x,_,_,_,rfl,rfl,Ga.of hx,rfl,_,rfl,p,rfl,b.no,p,ta,hk,bd,lg,n,D,rfl,b,fun t1 H1 s1 ht1=>⟨t1,_,_,_,rfl,rfl,Ga.of ht1,rfl,_,_,rfl,rfl,?_⟩⟩
  have b1:=b'.same s1
  exact⟨_,rfl,x',_,_,_,rfl,rfl,Ga.of (s1 _ _ hx'),rfl,_,rfl,p',rfl,b1.no,p',ta',hk',bd',lg',n',D',rfl,b1,fun t2 H2 s2 ht2=>⟨t2,_,_,_,rfl,rfl,Ga.of ht2,rfl,_,_,rfl,rfl,_,_,rfl,q _ (s1.trans s2)⟩⟩
end
section
variable{P:Program}{w:World}{K:Frag}{mg:FX}{base:Heap}{tk:Nat->Tok}{C:Addr}
theorem lq(a:At K mg "counts_in" bm ["stretches"])(T:Gw K mg tk):Df P w K mg base "counts_in" ["stretches"] 1 mh:=by
 refine a.dq ku fun f _ A _ s H vs Q E hr h=>?_
 ·obtain⟨t,S,rfl,pr,ok,q⟩:=h
  refine⟨_,(qe (ql (vx (own:=["first","last","count"]) (fr:=[]) (js:=[]) rfl (aG (qv 0)) rfl (fun _ _ h=>nomatch h) rfl (bg rfl (by decide +kernel) (by decide +kernel) (by decide +kernel)) (fun _ _ _ _=>iA (K:=K) rfl 2 rfl (qm (qg (i:=0) (show List.Nodup (["first","last","count"]:List Str)from by decide +kernel) rfl (Or.inl rfl) (.inr rfl)) (qm (qg (i:=1) (show List.Nodup (["first","last","count"]:List Str)from by decide +kernel) rfl (Or.inl rfl) (.inr rfl)) qO))) (fun _ _ _ _=>(i6 rfl T.b_range (qc (qv 0) (qc (qp qJ (qv 1) qf) qa)))) (fun _ _ _ _=>qg (i:=2) (show List.Nodup (["first","last","count"]:List Str)from by decide +kernel) rfl (Or.inl rfl) (.inr rfl)) (fun _ _ _ _=>(qv 2))))),?_⟩
  obtain⟨as,e1,la,has⟩:=id pr;have cl:∀i,(zy (S.take i)).length<=28:=fun i=>by
   refine JM ?_ ok.cnt
   have e:zy S=zy (S.take i)++zy (S.drop i):=by unfold zy;rw[<- List.flatMap_append,List.take_append_drop]
   rw[e,JC];exact Eu _ _
  refine⟨_,rfl,t,rfl,⟨_,Ga.of e1⟩,?_⟩
  refine⟨fun i m ys τ Hx=>m=S.length-i/\i<=S.length/\Hx=H/\ys=(zy (S.take i)).map V.int/\∃o0 o1 o2,τ=[o0,o1,o2],⟨S.length,by simp,JB _,rfl,rfl,_,_,_,rfl⟩,?_⟩
  rintro i m ys τ Hx ⟨rfl,hi,rfl,rfl,o0,o1,o2,rfl⟩
  by_cases hlt:i<S.length
  ·have hz:S[i]? =some S[i]:=Jj hlt
   obtain⟨z,ez⟩:∃z,z=S[i]:=⟨_,rfl⟩
   rw[<- ez]at hz;have hia:i<as.length:=by rw[la];exact hlt
   have hA:(as.map V.ref)[i]? =some (.ref as[i]):=by rw[Jq,Jj hia];rfl
   refine .inr ⟨⟨_,_,Ga.of e1,hA⟩,fun x H' y=>?_⟩
   obtain⟨eH,hx⟩:H'=Hx/\(as.map V.ref)[i]? =some x:=⟨y.1,y.2 _ (Ga.of e1)⟩
   subst eH;rw[hA]at hx;cases hx;have hb:=ok.bd z (DX hz);refine⟨_,_,rfl,Ga.of (has i _ z (Jj hia) hz),rfl,_,_,rfl,_,_,rfl,rfl,?_⟩
   refine⟨_,rfl,_,rfl,_,_,rfl,rfl,_,_,rfl,⟨by lia,by lia,by lia,by lia⟩,?_⟩
   obtain⟨n,en⟩:∃n,n=(z.2+1-z.1).toNat:=⟨_,rfl⟩
   have ln:=cl (i+1);rw[jx hz,<- en,JC,Jf,List.length_range]at ln;refine⟨fun i2 m2 zs τ Hx=>m2=n-i2/\i2<=n/\Hx=H'/\zs=(zy (S.take i)).map V.int++(List.range i2).map (fun k:Nat=>V.int (z.1+(k:Int)))/\∃o2,τ=[some (.int z.1),some (.int z.2),o2],⟨n,by simp,JB _,rfl,by simp,_,rfl⟩,?_⟩
   rintro i2 m2 zs τ Hy ⟨rfl,hi2,rfl,rfl,o2',rfl⟩
   by_cases hl2:i2<n
   ·refine .inr ⟨by rw[<- en];exact hl2,by rw[JC,Jf,Jf,List.length_range,JH];lia,fun x2 H5 y2=>?_⟩
    obtain⟨eH5,rfl⟩:H5=Hy/\x2= .int (z.1+(i2:Int)):=y2
    subst eH5;refine⟨fun v H7=>v= .int (z.1+(i2:Int))/\H7=H5,fun v H7 hv=>⟨n-(i2+1),by lia,rfl,hl2,hv.2,?_,_,rfl⟩,⟨_,rfl,rfl,rfl⟩⟩
    rw[hv.1,List.range_succ,JU,El];rfl
   ·obtain rfl:i2=n:=by lia
    refine .inl ⟨by rw[<- en];exact Je _,S.length-(i+1),by lia,rfl,hlt,rfl,?_,_,_,_,rfl⟩
    rw[jx hz,<- en,JU,Eg];rfl
  ·obtain rfl:i=S.length:=by lia
   refine .inl ⟨⟨_,Ga.of e1,by rw[Jf,la];exact Je _⟩,fun p hp=>q p _ (FZ.upd hp) ?_⟩
   rw[qb,Ee]
theorem io(a:At K mg "least_apart" ZZ ["these","those"])(T:Gw K mg tk)(xL:Df P w K mg base "counts_in" ["stretches"] 1 mh):Df P w K mg base "least_apart" ["these","those"] 2 oq:=by
 refine a.dq ia fun f _ A _ s H vs Q E hr h=>?_
 ·obtain⟨t,t',S,S',rfl,pr,pr',ok,ok',ne,q⟩:=h
  refine⟨_,(qe (ql (qt qK (qk (jQ rfl) T.b_sorted PyProof.Rows.boot_sorted (qc (qp AG (qI (gA rfl) T.b_set PyProof.Rows.boot_set (qc (qo xL hr.mo (qc (qv 0) qa)) qa)) (qI (gA rfl) T.b_set PyProof.Rows.boot_set (qc (qo xL hr.mo (qc (qv 1) qa)) qa))) qa)) qf))),?_⟩
  have c1:=ok.cnt;have c2:=ok'.cnt;have sb:PySem.scanBound=4096:=rfl
  refine⟨_,rfl,t,S,rfl,pr,ok,fun l1 H1 s1 e1=>⟨l1,zy S,rfl,F8.of e1,by lia,fun z1 hz1=>?_⟩⟩
  have u1:=FZ.upd (o:=az P w z1 (S0.ddL (zy S))) hz1
  refine⟨_,rfl,t',S',rfl,(pr'.same s1).same u1,ok',fun l2 H2 s2 e2=>⟨l2,zy S',rfl,F8.of e2,by lia,fun z2 hz2=>?_⟩⟩
  have u2:=FZ.upd (o:=az P w z2 (S0.ddL (zy S'))) hz2
  have ez1:=s2 _ _ (qb (H:=H1) (a:=z1) (o:=az P w z1 (S0.ddL (zy S))))
  have d1:=eQ (zy S);have d2:=eQ (zy S');refine⟨z1,z2,_,_,rfl,rfl,qi ez1 hz2,u2 _ _ ez1,qb,aW _,aW _,by lia,by lia,fun z3 ks hz3 nd len mem=>?_⟩
  have u3:=FZ.upd (o:=az P w z3 ks) hz3
  refine⟨z3,ks,rfl,qb,by lia,fun l ms hl pm pw=>?_⟩
  have u4:=FZ.upd (o:= .lst (ms.map V.int)) hl
  have hd:=pH (ms:=ms) ok ok' (fun k=>by rw[pm.mem_iff,mem,ae,ae]) pw ne
  exact⟨l,_,_,_,rfl,rfl,F8.of qb,Qv (j:=0) (by rw[Jq,hd];rfl),q _ (((((s1.trans u1).trans s2).trans u2).trans u3).trans u4)⟩
theorem ip(a:At K mg "press_apart" Z0 ["one","first","other","second"])(T:Gw K mg tk)(U:G0 K C)(xF:Mf P w K mg base C "keys_now" ["self"] 1 (oW K C))(dW:Df P w K mg base "stretches_of" ["door","button","age"] 3 (xu K C))(xM:Df P w K mg base "least_apart" ["these","those"] 2 oq):Df P w K mg base "press_apart" ["one","first","other","second"] 4 (wL K C):=by
 refine a.dq Gy fun f _ A _ s H vs Q E hr h=>?_
 ·obtain⟨p,ta,hk,bd,lg,n,D,v,o,p',ta',hk',bd',lg',n',D',v',o',rfl,b,hv,b',hv',dn,dn',k,k',k8,q⟩:=h
  refine⟨_,(qd (qV JJ rfl (zE rfl T.b_range (qc (qk qP T.b_len J8 (qc (Zb xF U.cl hr.mo (qv 0)) qa)) qa)) (qg (i:=4) Gy.nd rfl (Or.inl rfl))
   (qd (qy (i:=5) Gy.nd rfl (Or.inl rfl) (qo dW hr.mo (qc (qv 0) (qc (qv 1) (qc (qv 4) qa)))))
   (qd (qy (i:=6) Gy.nd rfl (Or.inl rfl) (qo dW hr.mo (qc (qv 2) (qc (qv 3) (qc (qv 4) qa)))))
   (qe (qC (qx (Bh hr) (qv 5) (qv 6) (qq _)) (qe (ql (qu (qc (qv 4) (qc (qo xM hr.mo (qc (qv 5) (qc (qv 6) qa))) qa))))) qr)))))
   (qe (ql qM))),?_⟩
  refine⟨_,rfl,p,rfl,b.no,p,ta,hk,bd,lg,n,D,rfl,b,fun t0 as H0 s0 sq la _=>⟨t0,_,rfl,.inr sq,_,rfl,by lia,by rw[Jf,la];lia,?_⟩⟩
  rw[Jf,la,DZ];refine zY (n:=D.kss.length) (Pv:=fun i σ Hx=>FZ H Hx/\(∀x:Int,0<=x->x<0+(i:Int)->zu D x o=zu D' x o')/\∃o4 o5 o6,σ=[some (.ref p),some v,some (.ref p'),some v',o4,o5,o6]) ⟨s0,fun x h1 h2=>by lia,_,_,_,rfl⟩ ?_ ?_
  ·rintro i σ H1 hi ⟨s1,no,o4,o5,o6,rfl⟩
   obtain⟨A,eA⟩:∃A:Int,A=0+(i:Int):=⟨_,rfl⟩
   rw[<- eA]at no⊢;refine⟨_,rfl,_,rfl,_,rfl,p,ta,hk,bd,lg,n,D,v,o,A,rfl,b.same s1,hv.same s1,fun t1 H2 s2 pr1=>?_⟩
   have S2:=s1.trans s2;refine⟨_,rfl,_,rfl,_,rfl,p',ta',hk',bd',lg',n',D',v',o',A,rfl,b'.same S2,hv'.same S2,fun t2 H3 s3 pr2=>?_⟩
   have pr1:HZ H3 t1 (zu D A o):=HZ.same s3 pr1
   have pr2:HZ H3 t2 (zu D' A o'):=pr2
   have S3:=S2.trans s3;refine⟨_,rfl,_,rfl,t1,t2,_,_,rfl,rfl,pr1,pr2,_,rfl,qS (fun y=>?_) (fun y=>?_)⟩
   ·have ne:=Jv y
    refine⟨_,rfl,_,rfl,_,rfl,t1,t2,_,_,rfl,pr1,pr2,fq dn k A,fq dn' k' A,ne,fun H4 s4=>⟨FR,fun tt htt=>?_⟩⟩
    have e1:QC D o D' o'=some (A,zU (zu D A o) (zu D' A o')):=by
     unfold QC;refine Qr hi (by rw[<- eA];exact Jb ne) fun x x0 x1=>Jc (no x x0 (by lia))
    have:=q (.ref tt) _ ((S3.trans s4).trans (FZ.upd (o:= .tup [.int A,.int (zU (zu D A o) (zu D' A o'))]) htt))
    rw[e1]at this;exact this ⟨tt,rfl,qb⟩
   ·have eq:=Decidable.not_not.mp (fun z=>y (Jg z))
    refine⟨S3,fun x x0 x1=>?_,_,_,_,rfl⟩
    by_cases hx:x<A
    ·exact no x x0 hx
    ·obtain rfl:x=A:=by lia
     exact eq
  ·rintro σ H1 ⟨s1,no,o4,o5,o6,rfl⟩
   have e1:QC D o D' o'=none:=zm fun x x0 x1=>Jc (no x x0 x1)
   have:=q .non _ s1
   rw[e1]at this;exact this rfl
theorem jR(a:At K mg "pair_apart" aM ["one","first","other","second"])(T:Gw K mg tk)(U:G0 K C)(dY:Mf P w K mg base C "closed_now" ["self"] 1 (jc K C))(dG:Mf P w K mg base C "plain_step" ["self","button","age","count"] 3 (kZ K C))(xQ:Df P w K mg base "lesser_end" ["one","first","other","second"] 2 (oA K C))(dJ:Df P w K mg base "press_apart" ["one","first","other","second"] 4 (wL K C)):Df P w K mg base "pair_apart" ["one","first","other","second"] 5 (sS K C):=by
 refine a.dq Gd fun f _ A _ s H vs Q E hr h=>?_
 ·obtain⟨p,ta,hk,bd,lg,n,D,v,o,p',ta',hk',bd',lg',n',D',v',o',rfl,b,hv,b',hv',dn,dn',k,k',k8,q⟩:=h
  refine⟨_,(qd (qC (QW.pt (zX (qx zM (qv 1) qM (qq _)) (zG (qx zM (qv 3) qM (qq _))))) (qe (ql qM)) qr)
   (qd (qy (i:=4) Gd.nd rfl (Or.inl rfl) (qk (ji rfl) T.b_max PyProof.Rows.boot_max (qc (qt qF (qv 1) qf) (qc (Zb dY U.cl hr.mo (qv 0)) qa))))
   (qd (qy (i:=5) Gd.nd rfl (Or.inl rfl) (qo xQ hr.mo (qc (qv 0) (qc (qv 1) (qc (qv 2) (qc (qv 3) qa))))))
   (qd (qV JJ rfl (i6 rfl T.b_range (qc (qv 5) (qc (qk (zZ rfl) T.b_min PyProof.Rows.boot_min (qc (qp qJ (qv 5) qf) (qc (zd (v:= .int 4096) rfl T.g_COUNTS ⟨_,rfl⟩) qa))) qa))) (qg (i:=6) Gd.nd rfl (Or.inl rfl))
   (qd (zg (zi dG U.cl hr.mo (qv 0) (qc (qv 1) (qc (qv 4) (qc (qv 6) qa)))) (zw rfl (qm (qg (i:=7) Gd.nd rfl (Or.inl rfl)) (qm (qg (i:=8) Gd.nd rfl (Or.inl rfl)) qO))))
   (qd (zg (zi dG U.cl hr.mo (qv 2) (qc (qv 3) (qc (qv 4) (qc (qv 6) qa)))) (zw rfl (qm (qg (i:=7) Gd.nd rfl (Or.inl rfl)) (qm (qg (i:=9) Gd.nd rfl (Or.inl rfl)) qO))))
   (qd (qy (i:=10) Gd.nd rfl (Or.inl rfl) (qo dJ hr.mo (qc (qv 0) (qc (qv 8) (qc (qv 2) (qc (qv 9) qa))))))
   (qe (qC (qx aj (qv 10) qM (qq _)) (qe (ql (qu (qc (qu (qc (qv 4) (qc (qv 6) qa))) (qc (qv 10) qa))))) qr))))))
   (qe (ql qM)))))),?_⟩
  cases o with
  |none=>
   have hv:v= .non:=hv
   subst hv
   exact⟨_,rfl,rfl,_,rfl,Qk (Jg rfl) (za (q .non H (FZ.refl _) rfl))⟩
  |some e=>
  obtain⟨x,rfl,hx⟩:=hv;refine⟨_,rfl,rfl,_,rfl,qS (fun y=>nomatch (Jv y)) (fun _=>?_)⟩
  cases o' with
  |none=>
   have hv':v'= .non:=hv'
   subst hv'
   exact⟨_,rfl,rfl,_,rfl,za (q .non H (FZ.refl _) rfl)⟩
  |some e'=>
  obtain⟨x',rfl,hx'⟩:=hv';refine⟨_,rfl,rfl,_,rfl,qZ ?_⟩
  have k:Gn D e:=k
  have k':Gn D' e':=k'
  obtain⟨w1,h1,hw1⟩:=id hx;refine⟨_,rfl,x,_,_,_,rfl,rfl,Ga.of h1,rfl,_,rfl,p,rfl,b.no,p,ta,hk,bd,lg,n,D,rfl,b,_,_,rfl,?_⟩
  refine⟨_,rfl,_,rfl,_,rfl,_,rfl,p,ta,hk,bd,lg,x,n,D,e,p',ta',hk',bd',lg',x',n',D',e',rfl,b,hx,b',hx',fun H1 s1=>?_⟩
  obtain⟨A,eA⟩:∃A,A=qE e.age D.least:=⟨_,rfl⟩
  obtain⟨L,eL⟩:∃L,L=zp D e D' e':=⟨_,rfl⟩
  have Lb:0<=L/\L<=5000:=by
   have:=k.l0
   have:=k.l1
   have:=k'.l0
   have:=k'.l1
   have:=dn.n0
   have:=dn.nf
   have:=dn.f1
   have:=dn'.n0
   have:=dn'.nf
   have:=dn'.f1
   rw[eL];unfold zp Qg;split<;>lia
  refine⟨_,rfl,_,rfl,_,_,rfl,rfl,_,_,rfl,_,_,rfl,⟨by rw[<- eL];lia,by rw[<- eL];lia,by rw[<- eL];split<;>lia,by rw[<- eL];split<;>lia⟩,?_⟩
  have eq0:QP D (some e) D' (some e')=Qb L (Qg (L+2) 4096-L).toNat fun c=>(QC D (some (zc D e A c).2) D' (some (zc D' e' A c).2)).map fun p=>((A,c),p):=by rw[eL,eA];rfl
  refine zY (lo:=zp D e D' e') (Pv:=fun i σ Hx=>FZ H Hx/\(∀y:Int,L<=y->y<L+(i:Int)->QC D (some (zc D e A y).2) D' (some (zc D' e' A y).2)=none)/\∃o6 o7 o8 o9 oa,σ=[some (.ref p),some (.ref x),some (.ref p'),some (.ref x'),some (.int A),some (.int L),o6,o7,o8,o9,oa]) ⟨s1,fun y h1 h2=>by lia,_,_,_,_,_,by rw[eL,eA];rfl⟩ ?_ ?_
  ·rintro i σ H2 hi ⟨s2,no,o6,o7,o8,o9,oa,rfl⟩
   rw[<- eL]at hi⊢;have hi:i<(Qg (L+2) 4096-L).toNat:=hi
   have hi':(i:Int)<Qg (L+2) 4096-L:=by lia
   have cb:0<=L+(i:Int)/\L+(i:Int)<4096:=by unfold Qg at hi';split at hi'<;>lia
   refine⟨_,rfl,p,rfl,(b.same s2).no,_,rfl,_,rfl,_,rfl,p,ta,hk,bd,lg,x,n,D,e,A,_,rfl,b.same s2,hx.same s2,fun q1 a1 H3 s3 hq1 ha1=>⟨q1,_,rfl,.tup hq1,rfl,_,_,rfl,_,_,rfl,rfl,?_⟩⟩
   have S3:=s2.trans s3;refine⟨_,rfl,p',rfl,(b'.same S3).no,_,rfl,_,rfl,_,rfl,p',ta',hk',bd',lg',x',n',D',e',A,_,rfl,b'.same S3,hx'.same S3,fun q2 a2 H4 s4 hq2 ha2=>⟨q2,_,rfl,.tup hq2,rfl,_,_,rfl,_,_,rfl,rfl,?_⟩⟩
   have S4:=S3.trans s4;refine⟨_,rfl,_,rfl,_,rfl,_,rfl,p,ta,hk,bd,lg,n,D,.ref a1,some (zc D e A (L+(i:Int))).2,p',ta',hk',bd',lg',n',D',.ref a2,some (zc D' e' A (L+(i:Int))).2,rfl,b.same S4,⟨a1,rfl,ha1.same s4⟩,b'.same S4,⟨a2,rfl,ha2⟩,dn,dn',ca dn k cb.1 cb.2,ca dn' k' cb.1 cb.2,k8,fun u H5 s5 ol=>?_⟩
   have S5:=S4.trans s5;cases ep:QC D (some (zc D e A (L+(i:Int))).2) D' (some (zc D' e' A (L+(i:Int))).2)with
   |none=>
    rw[ep]at ol;have ol:u= .non:=ol
    subst ol;refine⟨_,rfl,rfl,_,rfl,qZ ⟨S5,fun y y1 y2=>?_,_,_,_,_,_,rfl⟩⟩
    by_cases hy:y<L+(i:Int)
    ·exact no y y1 hy
    ·obtain rfl:y=L+(i:Int):=by lia
     exact ep
   |some pr=>
    rw[ep]at ol;obtain⟨tt,rfl,htt⟩:=ol;refine⟨_,rfl,rfl,_,rfl,za ?_⟩
    refine⟨_,rfl,_,rfl,FR,fun r1 hr1=>⟨_,rfl,FR,fun r2 hr2=>?_⟩⟩
    have u1:=FZ.upd (o:= .tup [.int A,.int (L+(i:Int))]) hr1
    have u2:=FZ.upd (o:= .tup [.ref r1,.ref tt]) hr2
    have e1:QP D (some e) D' (some e')=some ((A,L+(i:Int)),pr):=by
     rw[eq0];exact Qr hi (by rw[ep];rfl) fun y y1 y2=>by rw[no y y1 y2];rfl
    have:=q (.ref r2) _ ((S5.trans u1).trans u2)
    rw[e1]at this;exact this ⟨r2,r1,tt,rfl,qb,u2 _ _ qb,u2 _ _ (u1 _ _ htt)⟩
  ·rintro σ H2 ⟨s2,no,o6,o7,o8,o9,oa,rfl⟩
   have e1:QP D (some e) D' (some e')=none:=by
    rw[eq0];refine zm fun y y1 y2=>?_
    rw[no y y1 (by rw[eL]at y2⊢;exact y2)];rfl
   have:=q .non _ s2
   rw[e1]at this;exact this rfl
end
section
variable{P:Program}{w:World}{K:Frag}{mg:FX}{base:Heap}{tk:Nat->Tok}{C:Addr}
theorem p9(a:At K mg "telling" c8 ["one","other"])(T:Gw K mg tk)(U:G0 K C)(yG:Mf P w K mg base C "button_of" ["self","name"] 1 (j4 K C))(dZ:Df P w K mg base "names_known" ["door"] 2 (lH K C))(dJ:Df P w K mg base "press_apart" ["one","first","other","second"] 4 (wL K C))(xP:Df P w K mg base "pair_apart" ["one","first","other","second"] 5 (sS K C)):Df P w K mg base "telling" ["one","other"] 6 (j9 K C):=by
 have dC:=yG.ofO;refine a.dq GC fun f _ A _ s H vs Q E hr h=>?_
 ·obtain⟨p,ta,hk,bd,lg,n,D,p',ta',hk',bd',lg',n',D',rfl,b,b',td,td',q⟩:=h
  refine⟨_,(qd (qy (i:=2) GC.nd rfl (Or.inl rfl) (qk (jP rfl) T.b_sorted PyProof.Rows.boot_sorted (qc (qp B8 (qI (gB rfl) T.b_set PyProof.Rows.boot_set (qc (qo dZ hr.mo (qc (qv 0) qa)) qa)) (qI (gB rfl) T.b_set PyProof.Rows.boot_set (qc (qo dZ hr.mo (qc (qv 1) qa)) qa))) qa)))
   (qd (qV JJ rfl (zI (qv 2)) (qg (i:=3) GC.nd rfl (Or.inr rfl))
   (qd (qy (i:=4) GC.nd rfl (Or.inl rfl) (qo dJ hr.mo (qc (qv 0) (qc (zi dC U.cl hr.mo (qv 0) (qc (qv 3) qa)) (qc (qv 1) (qc (zi dC U.cl hr.mo (qv 1) (qc (qv 3) qa)) qa))))))
   (qe (qC (qx aj (qv 4) qM (qq _)) (qe (ql (qu (qc (qp ZH (qu (qc (qv 3) qa)) (qv 4)) qa)))) qr))))
   (qd (qV JJ rfl (zI (qv 2)) (qg (i:=3) GC.nd rfl (Or.inr rfl))
   (qd (qy (i:=5) GC.nd rfl (Or.inl rfl) (qo xP hr.mo (qc (qv 0) (qc (zi dC U.cl hr.mo (qv 0) (qc (qv 3) qa)) (qc (qv 1) (qc (zi dC U.cl hr.mo (qv 1) (qc (qv 3) qa)) qa))))))
   (qe (qC (qx aj (qv 5) qM (qq _)) (qe (ql (qI q9 T.b_tuple JI (qc (zN (own:=["press"]) (fr:=["name"]) (js:=[3]) rfl (aG (qv 5)) rfl (ie rfl) rfl (im rfl (by decide +kernel) (by decide +kernel) (by decide +kernel) rfl rfl rfl) (fun _ _ _ _=>qg (i:=0) (show List.Nodup (["press","name"]:List Str)from by decide +kernel) rfl (Or.inl rfl) (.inr rfl)) (fun _ _ _ _=>(qp ZH (qu (qc (qv 1) qa)) (qv 0)))) qa)))) qr))))
   (qe (ql qM))))),?_⟩
  have l30:∀{D:Dr} {ss:List Str},Ik D->ss.Perm (D.kn.map (·.1))->ss.length<=30:=fun td pm=>by rw[pm.length_eq,Jf];exact td.few
  refine⟨_,rfl,p,ta,hk,bd,lg,n,D,rfl,b,td.ok,fun n1 ss1 H1 s1 pm1 e1=>?_⟩
  have ls1:=l30 td pm1;have sb:PySem.scanBound=4096:=rfl
  refine⟨n1,ss1,rfl,F8.of e1,by lia,fun z1 hz1=>?_⟩
  have u1:=FZ.upd (o:=aE P w z1 (S0.ddL ss1)) hz1
  refine⟨_,rfl,p',ta',hk',bd',lg',n',D',rfl,(b'.same s1).same u1,td'.ok,fun n2 ss2 H2 s2 pm2 e2=>?_⟩
  have ls2:=l30 td' pm2;have d1:=eQ ss1;have d2:=eQ ss2;refine⟨n2,ss2,rfl,F8.of e2,by lia,fun z2 hz2=>?_⟩
  have u2:=FZ.upd (o:=aE P w z2 (S0.ddL ss2)) hz2
  have ez1:=s2 _ _ (qb (H:=H1) (a:=z1) (o:=aE P w z1 (S0.ddL ss1)))
  refine⟨z1,z2,_,_,rfl,rfl,qi ez1 hz2,u2 _ _ ez1,qb,aW _,aW _,by lia,fun z3 ks hz3 nd mem=>?_⟩
  have u3:=FZ.upd (o:=aE P w z3 ks) hz3
  have kl:ks.length<=60:=by
   have:=sZ (m:=ss1++ss2) nd fun k hk=>JW.mpr (((mem k).mp hk).imp (ae ss1 k).mp (ae ss2 k).mp)
   rw[JC]at this;lia
  refine⟨z3,ks,rfl,qb,by lia,fun l5 ns hl5 pm5 so5=>?_⟩
  have u5:=FZ.upd (o:= .lst (ns.map V.str)) hl5
  have S5:=((((s1.trans u1).trans s2).trans u2).trans u3).trans u5;have hmem:∀k,k∈ns↔k∈D.kn.map (·.1)\/k∈D'.kn.map (·.1):=fun k=>by
   rw[pm5.mem_iff,mem,ae,ae,pm1.mem_iff,pm2.mem_iff]
  have ndn:ns.Nodup:=pm5.nodup_iff.mpr nd
  have nl:ns.length<=60:=by rw[pm5.length_eq];exact kl
  have q:∀u H',FZ H H'->HV H' u (zF D D' ns)->Q u H':=fun u H' s t=>q u ns H' s ndn hmem so5 t
  have k8:=td.ok.kl;clear u1 u2 u3 u5 ez1 mem pm5 pm1 pm2 d1 d2 ls1 ls2 kl nd hz1 hz2 hz3 hl5 e1 e2 s1 s2;refine ZB (fun σ' H'=>FZ H H'/\H' l5=some (.lst (ns.map V.str))/\ns.findSome? (zS D D')=none/\∃o3 o4 o5,σ'=[some (.ref p),some (.ref p'),some (.ref l5),o3,o4,o5]) (fun D0 hrt hnx=>?_) ?_
  ·refine⟨_,rfl,l5,rfl,⟨_,F8.of qb⟩,?_⟩
   refine Qc (K:=K) (a:=l5) (xs:=ns.map V.str) (fun i σ Hx=>FZ H Hx/\Hx l5=some (.lst (ns.map V.str))/\(∀j z,j<i->ns[j]? =some z->zS D D' z=none)/\∃o3 o4 o5,σ=[some (.ref p),some (.ref p'),some (.ref l5),o3,o4,o5]) ⟨S5,qb,fun j z hj _=>absurd hj (Nat.not_lt_zero _),_,_,_,rfl⟩ (fun i σ Hx _ h=>F8.of h.2.1) ?_ ?_
   ·rintro i z σ H6 hz ⟨s6,e6,no,o3,o4,o5,rfl⟩
    rw[Jq]at hz;obtain⟨nm,hnm,rfl⟩:=DQ.mp hz;refine⟨_,rfl,_,rfl,p,rfl,(b.same s6).no,_,rfl,p,ta,hk,bd,lg,n,D,nm,rfl,b.same s6,fun v1 hv1=>?_⟩
    refine⟨_,rfl,_,rfl,p',rfl,(b'.same s6).no,_,rfl,p',ta',hk',bd',lg',n',D',nm,rfl,b'.same s6,fun v2 hv2=>?_⟩
    refine⟨p,ta,hk,bd,lg,n,D,v1,_,p',ta',hk',bd',lg',n',D',v2,_,rfl,b.same s6,hv1,b'.same s6,hv2,td.dn,td'.dn,td.kn nm,td'.kn nm,k8,fun u H7 s7 ol=>?_⟩
    have S7:=s6.trans s7;cases ep:QC D (D.kn.lookup nm) D' (D'.kn.lookup nm)with
    |none=>
     rw[ep]at ol;have ol:u= .non:=ol
     subst ol;refine⟨_,rfl,rfl,_,rfl,qZ ⟨S7,s7 _ _ e6,fun j z hj hz2=>?_,_,_,_,rfl⟩⟩
     by_cases hji:j<i
     ·exact no j z hji hz2
     ·obtain rfl:j=i:=by lia
      have ez:z=nm:=Jy (hz2.symm.trans hnm)
      rw[ez];unfold zS;rw[ep];rfl
    |some pr=>
     rw[ep]at ol;obtain⟨tt,rfl,htt⟩:=ol;refine⟨_,rfl,rfl,_,rfl,za ?_⟩
     refine⟨_,rfl,FQ,fun t0 ht0=>⟨_,rfl,t0,tt,_,_,rfl,rfl,qb,(FZ.upd ht0) _ _ htt,FS,fun pp H9 s9 hpp=>⟨FQ,fun r hr9=>?_⟩⟩⟩
     have u9:=FZ.upd (o:= .tup [.ref pp]) hr9
     have e1:zF D D' ns=some [(nm,pr.1,pr.2)]:=by
      unfold zF;rw[bP (f:=zS D D') hnm (show zS D D' nm=some [(nm,pr.1,pr.2)] by unfold zS;rw[ep];rfl) no]
     have:=q (.ref r) _ (((S7.trans (FZ.upd ht0)).trans s9).trans u9)
     rw[e1]at this;rw[hrt];exact this (HV.one qb (u9 _ _ hpp))
   ·rintro σ H6 ⟨s6,e6,no,o3,o4,o5,rfl⟩
    refine hnx _ _ ⟨s6,e6,bF fun x hx=>?_,_,_,_,rfl⟩
    obtain⟨j,hj,rfl⟩:=List.mem_iff_getElem.mp hx;exact no j _ (by rw[Jf];exact hj) (Jj hj)
  clear S5
  rintro σ H5 ⟨s5,e5,none1,o3,o4,o5,rfl⟩
  have et:zF D D' ns=ns.findSome? (Zv D D'):=by unfold zF;rw[none1]
  rw[et]at q;refine⟨_,rfl,l5,rfl,⟨_,F8.of e5⟩,?_⟩
  refine Qc (K:=K) (a:=l5) (xs:=ns.map V.str) (fun i σ Hx=>FZ H Hx/\Hx l5=some (.lst (ns.map V.str))/\(∀j z,j<i->ns[j]? =some z->Zv D D' z=none)/\∃o3 o4 o5,σ=[some (.ref p),some (.ref p'),some (.ref l5),o3,o4,o5]) ⟨s5,e5,fun j z hj _=>absurd hj (Nat.not_lt_zero _),_,_,_,rfl⟩ (fun i σ Hx _ h=>F8.of h.2.1) ?_ ?_
  ·rintro i z σ H6 hz ⟨s6,e6,no,o3,o4,o5,rfl⟩
   rw[Jq]at hz;obtain⟨nm,hnm,rfl⟩:=DQ.mp hz;refine⟨_,rfl,_,rfl,p,rfl,(b.same s6).no,_,rfl,p,ta,hk,bd,lg,n,D,nm,rfl,b.same s6,fun v1 hv1=>?_⟩
   refine⟨_,rfl,_,rfl,p',rfl,(b'.same s6).no,_,rfl,p',ta',hk',bd',lg',n',D',nm,rfl,b'.same s6,fun v2 hv2=>?_⟩
   refine⟨p,ta,hk,bd,lg,n,D,v1,_,p',ta',hk',bd',lg',n',D',v2,_,rfl,b.same s6,hv1,b'.same s6,hv2,td.dn,td'.dn,td.kn nm,td'.kn nm,k8,fun u H7 s7 ol=>?_⟩
   have S7:=s6.trans s7;cases ep:QP D (D.kn.lookup nm) D' (D'.kn.lookup nm)with
   |none=>
    rw[ep]at ol;have ol:u= .non:=ol
    subst ol;refine⟨_,rfl,rfl,_,rfl,qZ ⟨S7,s7 _ _ e6,fun j z hj hz2=>?_,_,_,_,rfl⟩⟩
    by_cases hji:j<i
    ·exact no j z hji hz2
    ·obtain rfl:j=i:=by lia
     have ez:z=nm:=Jy (hz2.symm.trans hnm)
     rw[ez];unfold Zv;rw[ep];rfl
   |some pr=>
    rw[ep]at ol;obtain⟨tt,x1,x2,rfl,htt,hx1,hx2⟩:=ol;refine⟨_,rfl,rfl,_,rfl,za ?_⟩
    refine⟨_,rfl,tt,rfl,⟨_,Ga.of htt⟩,?_⟩
    obtain⟨zs,ezs⟩:∃zs:Qs,zs=[(nm,pr.1.1,pr.1.2),(nm,pr.2.1,pr.2.2)]:=⟨_,rfl⟩
    refine aB (K:=K) (a:=tt) (xs:=[.ref x1,.ref x2]) (FR) (fun i ys Hx=>FZ H7 Hx/\∃as:List Addr,ys=as.map V.ref/\as.length=i/\∀(j:Nat) (a:Addr) (z:Str×Int×Int),as[j]? =some a->zs[j]? =some z->Hx a=some (.tup [.str z.1,.int z.2.1,.int z.2.2])) ⟨FZ.refl _,[],rfl,rfl,fun j a z h=>by cases h⟩ (fun i ys Hx h=>Ga.of (h.1 _ _ htt)) ?_ ?_
    ·rintro i2 ys H8 x hx hyl ⟨s8,as,rfl,la,has⟩
     obtain⟨xa,y,rfl,hxa,hzy⟩:∃(xa:Addr) (y:Int×Int),x= .ref xa/\H7 xa=some (.tup [.int y.1,.int y.2])/\∀z,zs[i2]? =some z->z=(nm,y.1,y.2):=by
      rw[ezs]
      match i2,hx with
      |0,hx=>cases hx;exact⟨x1,pr.1,rfl,hx1,fun z h=>by cases h;rfl⟩
      |1,hx=>cases hx;exact⟨x2,pr.2,rfl,hx2,fun z h=>by cases h;rfl⟩
     refine⟨_,rfl,FQ,fun t0 ht0=>⟨_,rfl,t0,xa,_,_,rfl,rfl,qb,(FZ.upd ht0) _ _ (s8 _ _ hxa),FS,fun pp H9 s9 hpp=>?_⟩⟩
     have S9:=(FZ.upd (o:= .tup [.str nm]) ht0).trans s9
     refine⟨s8.trans S9,as++[pp],by simp,by simp [la],fun j a z h1 h2=>?_⟩
     by_cases hj:j<as.length
     ·rw[DR hj]at h1
      exact S9 _ _ (has j a z h1 h2)
     ·rw[J9 (by lia)]at h1
      cases ej:j-as.length with
      |succ k=>rw[ej]at h1;cases h1
      |zero=>
       rw[ej]at h1;cases h1
       obtain rfl:j=i2:=by lia
       rw[hzy z h2];exact hpp
    ·rintro ys H8 hyl ⟨s8,as,rfl,la,has⟩ l8 hl8
     have u8:=FZ.upd (o:= .lst (as.map V.ref)) hl8
     refine⟨l8,_,rfl,.inl ⟨F8.of qb,fun r hr9=>?_⟩⟩
     have u9:=FZ.upd (o:= .tup (as.map V.ref)) hr9
     have e1:ns.findSome? (Zv D D')=some zs:=bP (f:=Zv D D') hnm (show Zv D D' nm=some zs by rw[ezs];unfold Zv;rw[ep];rfl) no
     have:=q (.ref r) _ (((S7.trans s8).trans u8).trans u9)
     rw[e1]at this;exact this ⟨r,as,rfl,qb,by rw[ezs];exact la,fun j a z h1 h2=>u9 _ _ (u8 _ _ (has j a z h1 h2))⟩
  ·rintro σ H6 ⟨s6,e6,no,o3,o4,o5,rfl⟩
   have e1:ns.findSome? (Zv D D')=none:=bF fun x hx=>by
    obtain⟨j,hj,rfl⟩:=List.mem_iff_getElem.mp hx;exact no j _ (by rw[Jf];exact hj) (Jj hj)
   have:=q .non _ s6
   rw[e1]at this;exact this rfl
theorem vy(a:At K mg "agree" iM ["one","other"])(T:Gw K mg tk)(dQ:Df P w K mg base "telling" ["one","other"] 6 (j9 K C)):Df P w K mg base "agree" ["one","other"] 7 (oG K C):=by
 refine a.dq vd fun f _ A _ s H vs Q E hr h=>?_
 ·obtain⟨p,ta,hk,bd,lg,n,D,p',ta',hk',bd',lg',n',D',rfl,b,b',td,td',q⟩:=h
  refine⟨_,(qe (ql (zh zM (qo dQ hr.mo (qc (qv 0) (qc (qv 1) qa))) qM (qq _)))),?_⟩
  refine⟨_,rfl,_,rfl,p,ta,hk,bd,lg,n,D,p',ta',hk',bd',lg',n',D',rfl,b,b',td,td',fun u ns H1 s1 nd mem so tl=>⟨rfl,?_⟩⟩
  have:=q ns H1 s1 nd mem so
  cases e:zF D D' ns with
  |none=>
   rw[e]at this tl;have tl:u= .non:=tl
   subst tl;exact this
  |some r=>
   rw[e]at this tl;obtain⟨t,as,rfl,_⟩:=tl;exact this
end
section
variable{P:Program}{w:World}{K:Frag}{mg:FX}{base:Heap}{tk:Nat->Tok}
theorem ki(a:At K mg "_law_model" bf ["_law_near","_law_far","_law_keys"])(T:Gw K mg tk):Df P w K mg base "_law_model" ["_law_near","_law_far","_law_keys"] 1 oy:=by
 refine a.dq ml fun f _ A _ s H vs Q E hr h=>?_
 ·obtain⟨D,rfl,hl,hk,q⟩:=h
  refine⟨_,(qe (ql (Al (aJ qw (qv 0) (aJ qw (qv 1) (aJ qw (qv 2) (aJ qw qf (aJ qw gr AS)))))))),?_⟩
  refine fun m hm=>⟨_,rfl,_,rfl,_,rfl,fun kd hkd=>⟨?_,?_⟩⟩
  ·rw[qj (qi qb hkd)];exact qb
  refine⟨aV D kd,by unfold aV;rw[hl];rfl,by show 5<=15;decide,?_⟩
  rw[wb];have nk:kd≠m:=(qi qb hkd).symm
  refine q m kd _ (fun c o e=>?_) hm ?_ ⟨qb,⟨([],fun _=>0),?_,?_,?_,?_⟩,nk.symm⟩
  ·have nm:c≠m:=qi e hm
   have nkd:c≠kd:=qi (by rw[qj nm];exact e) hkd
   rw[qj nm,qj nkd,qj nm];exact e
  ·rw[qj nk]at hkd;exact hkd
  ·rw[qj nk];exact qb
  ·rw[hk];exact fun e h=>nomatch h
  ·rw[hk]
  ·rw[hk];exact Fl
theorem mT(a:At K mg "_law_word" cp ["_law_own","_law_plain"])(T:Gw K mg tk):Df P w K mg base "_law_word" ["_law_own","_law_plain"] 1 fk:=by
 refine a.dq Gv fun f _ A _ s H vs Q E hr h=>?_
 ·obtain⟨m,kd,p,D,nm,age,c,rfl,md,hp,q⟩:=h
  refine⟨_,(qd (zg (qv 1) (zw rfl (qm (qg (i:=2) Gv.nd rfl (Or.inl rfl)) (qm (qg (i:=3) Gv.nd rfl (Or.inl rfl)) (qm (qg (i:=4) Gv.nd rfl (Or.inl rfl)) qO)))))
   (qd (qy (i:=5) Gv.nd rfl (Or.inl rfl) (li hr (zD hr (qv 0) qw) (qv 2)))
   (qd (qC (QW.pt (zX (qx zM (qv 5) qM (qq _)) (zG (Qd (ma ZP eW (qk (ji rfl) T.b_max PyProof.Rows.boot_max (qc (zD hr (qv 0) qw) (qc (qt qF (qv 5) qf) qa))) (qv 3) (zD hr (qv 0) qw)))))) (qe (ql qw)) qr)
   (qd (qy (i:=6) Gv.nd rfl (Or.inl rfl) (qp Qe (qv 4) (qt qF (qv 5) qf)))
   (qd (qC (QW.pt (zX (qx eW (qv 6) qf (qq _)) (zG (qx wR (qv 6) (zD hr (qv 0) qw) (qq _))))) (qe (ql qw)) qr)
   (qe (ql (vj (QW.pt (zX (qx ZP (qv 6) (zD hr (qv 0) qw) (qq _)) (zG (qx (uv hr) (qt qF (qv 5) qf) (qu (qc (qv 3) (qc (qp Qe (qv 4) qf) qa))) (qq _))))) qw qw)))))))),?_⟩
  refine⟨_,rfl,p,_,rfl,.tup hp,rfl,_,_,rfl,_,_,rfl,_,_,rfl,rfl,?_⟩
  obtain⟨f0,hd,_⟩:=id md.kn;unfold qA at q;rcases md.kn.get nm with⟨e1,g⟩|⟨e,x,e1,g,v,hx,hw⟩
  ·rw[e1]at q
   refine⟨_,rfl,m,_,rfl,md.g_known,kd,rfl,.inl ⟨_,.inl hd⟩,_,rfl,_,g,?_⟩
   exact⟨_,rfl,rfl,_,rfl,Qk (Jg rfl) (za (q _ (FZ.refl H)))⟩
  ·rw[e1]at q
   simp only at q
   refine⟨_,rfl,m,_,rfl,md.g_known,kd,rfl,.inl ⟨_,.inl hd⟩,_,rfl,_,g,?_⟩
   refine⟨_,rfl,rfl,_,rfl,qS (fun y=>nomatch (Jv y)) (fun _=>?_)⟩
   refine⟨_,rfl,m,_,rfl,md.g_closed,_,rfl,x,_,_,_,rfl,rfl,Ga.of hx,rfl,_,_,rfl,_,rfl,_,_,rfl,rfl,_,rfl,?_⟩
   have et:qH D e age=(decide ((if D.least<e.age then e.age else D.least)<=age)&&decide (age<(D.kss.length:Int))):=by
    have hm:((if D.least<e.age then e.age else D.least)<=age)↔(D.least<=age/\e.age<=age):=by split<;>omega
    unfold qH QH;rw[show decide ((if D.least<e.age then e.age else D.least)<=age)=(decide (D.least<=age)&&decide (e.age<=age))from by rw[<- Bool.decide_and];exact decide_eq_decide.mpr hm]
    cases decide (D.least<=age)<;>cases decide (e.age<=age)<;>cases decide (age<(D.kss.length:Int))<;>rfl
   rw[et]at q
   by_cases h1:(if D.least<e.age then e.age else D.least)<=age
   case neg=>
    rw[Jn h1,DU,Jb (by intro z;cases z)]at q
    exact Qz (Jn h1) ⟨_,rfl,za (q _ (FZ.refl H))⟩
   rw[Jg h1,EA]at q;refine Qk (Jg h1) ?_
   refine⟨_,rfl,m,_,rfl,md.g_keys,_,_,rfl,rfl,_,rfl,?_⟩
   by_cases h2:age<(D.kss.length:Int)
   case neg=>
    rw[Jn h2,Jb (by intro z;cases z)]at q
    rw[Jn h2];exact za (q _ (FZ.refl H))
   rw[Jg h2,Jc rfl]at q;rw[Jg h2];refine qZ ?_
   refine⟨_,rfl,_,rfl,x,_,_,_,rfl,rfl,Ga.of hx,rfl,_,_,rfl,rfl,?_⟩
   refine⟨_,rfl,_,_,rfl,rfl,_,rfl,?_⟩
   by_cases h3:c-e.last<1
   ·rw[Jc (.inl h3)]at q
    exact Qk (Jg h3) (za (q _ (FZ.refl H)))
   refine Qz (Jn h3) ?_
   refine⟨_,rfl,_,rfl,m,_,rfl,md.g_far,_,_,rfl,rfl,_,rfl,?_⟩
   by_cases h4:c-e.last>D.far
   ·rw[Jc (.inr h4)]at q
    exact Qk (Jg h4) (q _ (FZ.refl H))
   refine Qz (Jn h4) ?_
   rw[Jb (show¬(c-e.last<1\/c-e.last>D.far)from fun z=>z.elim h3 h4)]at q
   refine⟨_,rfl,_,rfl,m,_,rfl,md.g_near,_,_,rfl,rfl,_,rfl,?_⟩
   by_cases h5:c-e.last<=D.near
   ·rw[Jc (.inl h5)]at q
    exact Qk (Jg h5) (za (q _ (FZ.refl H)))
   refine Qz (Jn h5) ?_
   refine⟨_,rfl,x,_,_,_,rfl,rfl,Ga.of hx,rfl,_,rfl,_,rfl,_,_,rfl,rfl,FR,fun t ht=>?_⟩
   have u:=FZ.upd (o:= .tup [.int age,.int (c-1)]) ht
   refine⟨e.wt,t,age,c-1,hw.same u,rfl,.inl qb,_,rfl,?_⟩
   by_cases h6:e.wt=some (age,c-1)
   ·rw[Jc (.inr h6)]at q
    exact Qk (Jg h6) (q _ u)
   ·rw[Jb (fun z=>z.elim h5 h6)]at q
    exact Qz (Jn h6) (q _ u)
theorem mV(a:At K mg "_law_hear" bZ ["_law_own","_law_plain"])(T:Gw K mg tk)(dI:Df P w K mg base "_law_word" ["_law_own","_law_plain"] 1 fk):Df P w K mg base "_law_hear" ["_law_own","_law_plain"] 2 iC:=by
 refine a.dq GK fun f _ A _ s H vs Q E hr h=>?_
 ·obtain⟨m,kd,p,D,nm,age,c,rfl,md,hp,ok,nf,q⟩:=h
  refine⟨_,(qd (zg (qu (qc (qo dI hr.mo (qc (qv 0) (qc (qv 1) qa))) (qc (qv 1) qa))) (zw rfl (qm (qg (i:=2) GK.nd rfl (Or.inl rfl)) (qm (zw rfl (qm (qg (i:=3) GK.nd rfl (Or.inl rfl)) (qm (qg (i:=4) GK.nd rfl (Or.inl rfl)) (qm (qg (i:=5) GK.nd rfl (Or.inl rfl)) qO)))) qO))))
   (qd (qC (qx zz (qv 2) qw (qq _)) (qe (ZA hr (zD hr (qv 0) qw) (qv 3) (qu (qc (qv 4) (qc (qv 5) (qc qM qa)))))) qr)
   (qd (qC (qx zz (qv 2) qw (qq _)) (qe (ZA hr (zD hr (qv 0) qw) (qv 3) (qp ZH (ZI eI (zD hr (zD hr (qv 0) qw) (qv 3)) af (ai qf)) (qu (qc (qu (qc (qv 4) (qc (qv 5) qa))) qa))))) qr)
   (qe (ql (zh zz (qv 2) qw (qq _))))))),?_⟩
  refine⟨_,rfl,_,rfl,m,kd,p,D,nm,age,c,rfl,md,hp,fun H1 s1=>⟨_,rfl,FR,fun t ht=>?_⟩⟩
  have u:=FZ.upd (o:= .tup [.str (qA D nm age c),.ref p]) ht
  have S2:=s1.trans u;have md2:=md.same S2;have hp2:=S2 _ _ hp;refine⟨t,_,rfl,.tup qb,rfl,_,_,rfl,_,_,rfl,p,_,rfl,.tup hp2,rfl,_,_,rfl,_,_,rfl,_,_,rfl,rfl,rfl,?_⟩
  have eK:=rz (age:=age) (c:=c) (nm:=nm) ok.nd nf
  generalize F5 H1 t (.tup [.str (qA D nm age c),.ref p])=H2 at *
  refine⟨_,rfl,rfl,_,rfl,?_⟩
  obtain⟨f0,hd,_⟩:=id md2.kn
  by_cases h1:qA D nm age c="open"
  ·refine Qk (Jg (by rw[h1])) ?_
   cases e1:D.kn.lookup nm with
   |none=>unfold qA at h1;rw[e1]at h1;exact absurd h1 (show¬(("":Str)="open") by decide)
   |some e=>
   rw[e1]at eK;simp only at eK
   rw[Jc h1]at eK;refine⟨_,rfl,_,rfl,FS,fun t3 ht3=>?_⟩
   have u3:=FZ.upd (o:= .tup [.int age,.int c,.non]) ht3
   have md3:=md2.same u3;obtain⟨H4,dp,m4,kb4⟩:=md3.kn.put nm (a:=t3) (e:=⟨age,c,none⟩) (by have:=ok.nl;omega) ⟨.non,qb,rfl⟩
   refine⟨_,rfl,m,_,rfl,md3.g_known,_,rfl,kd,H4,rfl,dp,?_⟩
   have md4:=md3.putK m4 kb4;refine⟨_,rfl,rfl,_,rfl,Qz (Jn (by rw[h1];intro z;injection z with z;exact absurd z (by decide))) ?_⟩
   refine⟨_,rfl,rfl,?_⟩
   rw[<- eK]at md4
   have:=q H4 ((S2.trans u3).mv.trans (m4.mono fun c h z=>h (by rw[Jl.mp z];simp))) md4
   rw[Jg (show V.str (qA D nm age c)=V.str "open" by rw[h1])]
   rw[Jg h1]at this;exact this
  ·refine Qz (Jn (by intro z;injection z with z;exact h1 z)) ?_
   refine⟨_,rfl,rfl,_,rfl,?_⟩
   have fin:∀H',Mv [m,kd] H H'->Gf H' m kd {D with kn:=F4 D nm age c}->Q (.bl (decide (V.str (qA D nm age c)=V.str "open"))) H':=fun H' m' d'=>by
    have:=q H' m' d'
    rw[Jn h1]at this;rw[Jn (show¬V.str (qA D nm age c)=V.str "open" by intro z;injection z with z;exact h1 z)]
    exact this
   by_cases h2:qA D nm age c="wait"
   ·refine Qk (Jg (by rw[h2])) ?_
    rcases md2.kn.get nm with⟨e1,g⟩|⟨e,x,e1,g,v,hx,hw⟩
    ·unfold qA at h2;rw[e1]at h2;exact absurd h2 (show¬(("":Str)="wait") by decide)
    rw[e1]at eK;simp only at eK
    rw[Jb h1,Jc h2]at eK;refine⟨_,rfl,m,_,rfl,md2.g_known,_,rfl,kd,_,rfl,g,_,rfl,x,_,rfl,hx,fun y H3 s3 hy _=>?_⟩
    have hy:H3 y=some (.tup [.int e.age,.int e.last]):=hy
    refine⟨_,rfl,_,rfl,FR,fun t4 ht4=>⟨FQ,fun t5 ht5=>?_⟩⟩
    have u4:=FZ.upd (o:= .tup [.int age,.int c]) ht4
    have u5:=FZ.upd (o:= .tup [.ref t4]) ht5
    have e4:(F5 (F5 H3 t4 (.tup [.int age,.int c])) t5 (.tup [.ref t4])) t4=some (.tup [.int age,.int c]):=u5 _ _ qb
    refine⟨y,t5,_,_,rfl,rfl,u5 _ _ (u4 _ _ hy),qb,FS,fun t6 H6 s6 ht6=>?_⟩
    have ht6:H6 t6=some (.tup [.int e.age,.int e.last,.ref t4]):=ht6
    have S6:=((s3.trans u4).trans u5).trans s6;have md6:=md2.same S6;obtain⟨H7,dp,m7,kb7⟩:=md6.kn.put nm (a:=t6) (e:=⟨e.age,e.last,some (age,c)⟩) (by have:=ok.nl;omega) ⟨.ref t4,ht6,t4,rfl,s6 _ _ e4⟩
    refine⟨_,rfl,m,_,rfl,md6.g_known,_,rfl,kd,H7,rfl,dp,?_⟩
    have md7:=md6.putK m7 kb7;rw[<- eK]at md7
    exact⟨_,rfl,rfl,fin H7 ((S2.trans S6).mv.trans (m7.mono fun c h z=>h (by rw[Jl.mp z];simp))) md7⟩
   ·refine Qz (Jn (by intro z;injection z with z;exact h2 z)) ?_
    refine⟨_,rfl,rfl,fin H2 S2.mv ?_⟩
    have:F4 D nm age c=D.kn:=by
     rw[eK];cases D.kn.lookup nm with
     |none=>rfl
     |some e=>simp only;rw[Jb h1,Jb h2]
    rw[this];exact md2
theorem mD(a:At K mg "_law_press" bt ["_law_code","_law_plain","_law_deed"])(T:Gw K mg tk)(xX:Df P w K mg base "press_of" ["table","key","name","age","count","deed"] 3 (nW K)):Df P w K mg base "_law_press" ["_law_code","_law_plain","_law_deed"] 4 gq:=by
 refine a.dq GL fun f _ A _ s H vs Q E hr h=>?_
 ·obtain⟨cd,tb,kt,p,t,kss,nm,age,c,d,rfl,hc,hp,tp,hn,a0,a1,c0,c1,hd,q⟩:=h
  refine⟨_,(qd (zg (qv 1) (zw rfl (qm (qg (i:=3) GL.nd rfl (Or.inl rfl)) (qm (qg (i:=4) GL.nd rfl (Or.inl rfl)) (qm (qg (i:=5) GL.nd rfl (Or.inl rfl)) qO)))))
   (qe (ql (qo xX hr.mo (qc (qt qF (qv 0) qf) (qc (qt qF (qt qF (qv 0) qf) (qv 4)) (qc (qv 3) (qc (qv 4) (qc (qv 5) (qc (qv 2) qa)))))))))),?_⟩
  refine⟨_,rfl,p,_,rfl,.tup hp,rfl,_,_,rfl,_,_,rfl,_,_,rfl,rfl,?_⟩
  obtain⟨as,eK,lK,hks⟩:=id hc.ks;obtain⟨ak,hat,hak⟩:=Bl (D:=⟨t,kss,0,0,0,0,[]⟩) lK hks a0 a1
  refine⟨_,rfl,cd,_,_,_,rfl,rfl,Ga.of hc.e,rfl,_,rfl,cd,_,_,_,rfl,rfl,Ga.of hc.e,rfl,_,rfl,kt,_,_,_,rfl,rfl,eK.up,hat,_,rfl,_,rfl,_,rfl,_,rfl,tb,ak,nm,age,c,d,t,_,rfl,.inr (.inl hc.tb),.inr hak.up,hn,by rw[tp.length_eq];rfl,c0,c1,hd,fun pr pc H1 s1 h1 h2=>q pr H1 s1 ⟨pc,h1,h2⟩⟩
theorem jK(a:At K mg "_law_copied" aq ["_law_own"])(T:Gw K mg tk):Df P w K mg base "_law_copied" ["_law_own"] 1 mK:=by
 refine a.dq G9 fun f _ A _ s H vs Q E hr h=>?_
 ·obtain⟨m,kd,D,rfl,md,q⟩:=h
  refine⟨_,(qd (qy (i:=1) G9.nd rfl (Or.inl rfl) (qI gH T.b_dict PyProof.Rows.boot_dict (qc (qv 0) qa)))
   (qd (ZA hr (qv 1) qw (qI gH T.b_dict PyProof.Rows.boot_dict (qc (zD hr (qv 0) qw) qa)))
   (qe (ql (qv 1))))),?_⟩
  refine⟨_,rfl,m,_,rfl,md.di,fun m' hm'=>?_⟩
  have u1:=FZ.upd (o:= .dK (aV D kd)) hm'
  have md1:=md.same u1;obtain⟨fn,hd,hbu,hpm,hnd⟩:=id md1.kn;refine⟨_,rfl,m,_,rfl,md1.g_known,kd,_,rfl,hd,fun kd' hkd'=>?_⟩
  have u2:=FZ.upd (o:= .dK (fP fn.1 fn.2)) hkd'
  have em:=u2 _ _ (qb (H:=H) (a:=m') (o:= .dK (aV D kd)))
  have nkm:kd'≠m':=(qi (qb (H:=H) (a:=m') (o:= .dK (aV D kd))) hkd').symm
  refine⟨_,rfl,m',_,rfl,Ii.k (k:=Sum.inr "known") em (yg _ (by show 5<=100;decide)),⟨_,rfl,?_⟩⟩
  refine q m' kd' _ (fun c o ec=>?_) hm' (Qn hkd' u1) ⟨by rw[qb,uk],⟨fn,?_,fun e he=>?_,hpm,hnd⟩,nkm.symm⟩
  ·rw[qj (qi ec hm')];exact u2 _ _ (u1 _ _ ec)
  ·rw[qj nkm];exact qb
  ·have z:=hbu e he
   exact(z.same u2).mv (S:=[m']) Mv.upd1 (NT.one em trivial)
end
end Lw
namespace L3
open PySem PySem.Spec PyProof.Rows L2
def Qp(x:Int):Int:=if 4095<x then 4095 else x
def Ql(D:Dr)(e:Kb)(a:Int):Option Int:=match e.wt with
 |none=>none
 |some (x,w)=>if x=a/\w+1<=Qp (e.last+D.far)then some (w+1)else none
theorem bC{D:Dr}{e:Kb}{a:Int}(h1:e.last+1<4096)(ht:qH D e a=true):zn D e a=(e.last+1,Qp (e.last+D.near))::(Ql D e a).toList.map fun x=>(x,x):=by
 unfold zn Ql Qp;rw[Jc ht,Jc h1];cases e.wt with
 |none=>rfl
 |some p=>
  obtain⟨x,w⟩:=p;simp only
  by_cases h:x=a/\w+1<=(if 4095<e.last+D.far then 4095 else e.last+D.far)
  ·rw[Jc h,Jc h];rfl
  ·rw[Jb h,Jb h];rfl
theorem GG{D:Dr}{e:Kb}{a:Int}:qH D e a=true↔qE e.age D.least<=a/\a<D.kss.length:=by
 unfold qH QH qE;rw[Jx,Jx,decide_eq_true_eq,decide_eq_true_eq,decide_eq_true_eq];constructor
 ·rintro⟨⟨h1,h2⟩,h3⟩
  split<;>omega
 ·rintro⟨h1,h2⟩
  split at h1<;>omega
theorem va{D:Dr}{e:Kb}{a:Int}(ht:¬(qE e.age D.least<=a/\a<D.kss.length)):zn D e a=[]:=by
 unfold zn;rw[Jb fun z=>ht (GG.mp z)]
theorem AT{o o':Option Int}(h:(o.toList.map fun x:Int=>(x,x))=o'.toList.map fun x=>(x,x)):o=o':=by
 cases o with
 |none=>cases o' with
  |none=>rfl
  |some y=>cases h
 |some x=>cases o' with
  |none=>cases h
  |some y=>simp at h;rw[h]
structure HW(D:Dr)(e:Kb)(D':Dr)(e':Kb):Prop where
 h1:e.last+1<4096
 l:e'.last=e.last
 A:qE e'.age D'.least=qE e.age D.least
 K:D'.kss.length=D.kss.length
 n:Qp (e.last+D'.near)=Qp (e.last+D.near)
theorem HW.symm{D D':Dr}{e e':Kb}(s:HW D e D' e'):HW D' e' D e:=⟨by rw[s.l];exact s.h1,s.l.symm,s.A.symm,s.K.symm,by rw[s.l];exact s.n.symm⟩
theorem HW.str{D D':Dr}{e e':Kb}(s:HW D e D' e')(a:Int):zn D e a=zn D' e' a↔(qE e.age D.least<=a->a<D.kss.length->Ql D e a=Ql D' e' a):=by
 by_cases h:qE e.age D.least<=a/\a<D.kss.length
 ·have h':qE e'.age D'.least<=a/\a<D'.kss.length:=by rw[s.A,s.K];exact h
  rw[bC s.h1 (GG.mpr h),bC (by rw[s.l];exact s.h1) (GG.mpr h'),s.l,s.n]
  constructor
  ·intro z _ _
   injection z with _ z
   exact AT z
  ·intro z
   rw[z h.1 h.2]
 ·have h':¬(qE e'.age D'.least<=a/\a<D'.kss.length):=by rw[s.A,s.K];exact h
  rw[va h,va h']
  exact⟨fun _ h1 h2=>absurd ⟨h1,h2⟩ h,fun _=>rfl⟩
theorem HW.pa{D D':Dr}{e e':Kb}(s:HW D e D' e')(l0:0<=qE e.age D.least):QC D (some e) D' (some e')=none↔∀a,qE e.age D.least<=a->a<D.kss.length->Ql D e a=Ql D' e' a:=by
 constructor
 ·intro h a h1 h2
  exact(s.str a).mp (aD h (by omega) h2) h1 h2
 ·intro h
  exact zm fun a _ _=>Jc ((s.str a).mpr (h a))
theorem CQ{D D':Dr}{e e':Kb}(d:Gi D)(d':Gi D')(k:Gn D e)(k':Gn D' e')(hk:D.kss.length=D'.kss.length)(no:QC D (some e) D' (some e')=none)(h1:e.last+1<4096):HW D e D' e':=by
 have a0:=k.a0;have a0':=k'.a0;have a1:=k.a1;have a1':=k'.a1;have lk:=d.lk;have lk':=d'.lk;have ll:=d.l0;have ll':=d'.l0;have b1:0<=qE e.age D.least/\qE e.age D.least<D.kss.length:=by unfold qE;split<;>omega
 have b2:0<=qE e'.age D'.least/\qE e'.age D'.least<D'.kss.length:=by unfold qE;split<;>omega
 have all:∀a:Int,0<=a->a<D.kss.length->zn D e a=zn D' e' a:=fun a h0 h1=>aD no h0 h1
 have h2:e'.last+1<4096:=Decidable.byContradiction fun h2=>by
  have p1:=(zR d k h1 (a:=qE e.age D.least)).mpr ⟨JO _,b1.2⟩
  rw[all _ b1.1 b1.2,ay d' k' h2]at p1;exact p1 rfl
 have e1:qE e.age D.least=qE e'.age D'.least:=by
  have p1:=(zR d k h1 (a:=qE e.age D.least)).mpr ⟨JO _,b1.2⟩
  rw[all _ b1.1 b1.2]at p1;have q1:=(zR d' k' h2).mp p1;have p2:=(zR d' k' h2 (a:=qE e'.age D'.least)).mpr ⟨JO _,b2.2⟩
  rw[<- all _ b2.1 (by rw[hk];exact b2.2)]at p2
  have q2:=(zR d k h1).mp p2;omega
 have:=all _ b1.1 b1.2
 rw[bC h1 (GG.mpr ⟨JO _,b1.2⟩),bC h2 (GG.mpr ⟨by rw[<- e1];exact JO _,by rw[<- hk];exact b1.2⟩)]at this
 injection this with z _
 injection z with z1 z2
 have el:e'.last=e.last:=by omega
 rw[el]at z2
 exact⟨h1,el,e1.symm,hk.symm,z2.symm⟩
def Zx(D:Dr)(e:Kb)(a c:Int):Prop:=e.last<c/\(c<=e.last+D.near\/(c<=e.last+D.far/\e.wt=some (a,c-1)))
theorem gO{D:Dr}{e:Kb}{a c:Int}(ht:qH D e a=true)(h:Zx D e a c):(zc D e a c).2=⟨a,c,none⟩:=by
 unfold zc zf;rw[Jc ht,Jb (by have:=h.1;omega)]
 by_cases h2:c<=e.last+D.near
 ·rw[Jc h2]
 ·obtain⟨h3,h4⟩:=h.2.resolve_left h2
  rw[Jb h2,Jc h3,Jc h4]
theorem sG{D:Dr}{e:Kb}{a c:Int}(ht:qH D e a=true)(h:¬Zx D e a c)(h1:e.last<c)(h2:c<=e.last+D.far):(zc D e a c).2=⟨e.age,e.last,some (a,c)⟩:=by
 unfold zc zf;rw[Jc ht,Jb (by omega),Jb fun z=>h ⟨h1,.inl z⟩,Jc h2,Jb fun z=>h ⟨h1,.inr ⟨h2,z⟩⟩]
theorem ZK{D:Dr}{e:Kb}{a c:Int}(nf:D.near<=D.far)(h:qH D e a=false\/c<=e.last\/e.last+D.far<c):(zc D e a c).2=e:=by
 rcases h with h|h|h
 ·unfold zc;rw[Jb (by rw[h];decide)]
 ·exact lQ h
 ·by_cases h0:c<=e.last
  ·exact lQ h0
  ·unfold zc zf
   split
   ·rw[Jb (by omega),Jb (by omega)]
   ·rfl
theorem aa{D:Dr}{e:Kb}(d:Gi D)(k:Gn D e){a c:Int}(c1:c<=4095)(hn:¬c<=e.last+D.near)(h0:e.last<c):Zx D e a c↔Ql D e a=some c:=by
 unfold Zx Ql;cases ew:e.wt with
 |none=>exact⟨fun z=>absurd z.2 (fun y=>y.elim hn fun y=>by cases y.2),fun z=>by cases z⟩
 |some p=>
  obtain⟨x,w⟩:=p;simp only
  constructor
  ·rintro⟨_,z|⟨z1,z2⟩⟩
   ·exact absurd z hn
   ·injection z2 with z2
    injection z2 with z2 z3
    subst z2;rw[Jc ⟨rfl,by unfold Qp;split<;>omega⟩]
    congr 1;omega
  ·intro z
   split at z
   ·rename_i y
    injection z with z
    obtain⟨rfl,y2⟩:=y;refine⟨h0,.inr ⟨by unfold Qp at y2;split at y2<;>omega,by congr 2;omega⟩⟩
   ·cases z
section
variable{D D':Dr}{e e':Kb}{a c:Int}
theorem HW.open_iff(s:HW D e D' e')(d:Gi D)(d':Gi D')(k:Gn D e)(k':Gn D' e')(ow:Ql D e a=Ql D' e' a)(c1:c<=4095):Zx D e a c↔Zx D' e' a c:=by
 have key:∀{D D':Dr} {e e':Kb},HW D e D' e'->Gi D->Gi D'->Gn D e->Gn D' e'->Ql D e a=Ql D' e' a->Zx D e a c->Zx D' e' a c:=fun{D D' e e'} s d d' k k' ow h=>by
  have hl:=s.l;have hn:=s.n;have h0:=h.1
  by_cases hc:c<=e.last+D.near
  ·refine⟨by omega,.inl ?_⟩
   unfold Qp at hn;rw[hl];split at hn<;>split at hn<;>omega
  ·have hc':¬c<=e'.last+D'.near:=by
    rw[hl];unfold Qp at hn;split at hn<;>split at hn<;>omega
   have:=(aa d k c1 hc h0).mp h
   rw[ow]at this
   exact(aa d' k' c1 hc' (by omega)).mpr this
 exact⟨key s d d' k k' ow,key s.symm d' d k' k ow.symm⟩
theorem HW.opened(s:HW D e D' e')(d:Gi D)(d':Gi D')(hA:qE e.age D.least<=a)(hc:e.last<c)(c1:c<=4095)(a0:0<=a):QC D (some ⟨a,c,none⟩) D' (some ⟨a,c,none⟩)=none:=by
 have hA':qE e'.age D'.least<=a:=by rw[s.A];exact hA
 have m1:qE a D.least=a:=by unfold qE at hA⊢;split at hA<;>split<;>omega
 have m2:qE a D'.least=a:=by unfold qE at hA'⊢;split at hA'<;>split<;>omega
 by_cases h:c+1<4096
 ·have s2:HW D ⟨a,c,none⟩ D' ⟨a,c,none⟩:=by
   refine⟨h,rfl,by show qE a D'.least=qE a D.least;rw[m1,m2],s.K,?_⟩
   have hn:=s.n
   show Qp (c+D'.near)=Qp (c+D.near)
   unfold Qp at hn⊢;split at hn<;>split at hn<;>split<;>split<;>omega
  exact(s2.pa (by show 0<=qE a D.least;rw[m1];exact a0)).mpr fun _ _ _=>rfl
 ·have sh:∀(D:Dr) (x:Int),zn D ⟨a,c,none⟩ x=[]:=fun D x=>by
   unfold zn;split
   ·rfl
   ·rfl
  exact zm fun x _ _=>Jc (by show zn D _ x=zn D' _ x;rw[sh,sh])
theorem ax{D:Dr}{ea l a c x:Int}:Ql D ⟨ea,l,some (a,c)⟩ x=if a=x/\c+1<=Qp (l+D.far)then some (c+1)else none:=rfl
def fW(D:Dr)(e:Kb)(a c:Int):Kb:=if c<=e.last+D.far then⟨e.age,e.last,some (a,c)⟩else e
theorem fh(nf:D.near<=D.far)(ht:qH D e a=true)(h:¬Zx D e a c)(h1:e.last<c):(zc D e a c).2=fW D e a c:=by
 unfold fW;split
 ·rename_i z;exact sG ht h h1 z
 ·rename_i z;exact ZK nf (.inr (.inr (by omega)))
theorem bD:(fW D e a c).last=e.last/\(fW D e a c).age=e.age:=by unfold fW;split<;>exact⟨rfl,rfl⟩
theorem HW.fW(s:HW D e D' e'):HW D (fW D e a c) D' (L3.fW D' e' a c):=by
 have f1:=bD (D:=D) (e:=e) (a:=a) (c:=c)
 have f2:=bD (D:=D') (e:=e') (a:=a) (c:=c)
 exact⟨by rw[f1.1];exact s.h1,by rw[f1.1,f2.1];exact s.l,by rw[f1.2,f2.2];exact s.A,s.K,by rw[f1.1];exact s.n⟩
end
section
variable{D D':Dr}{e e':Kb}
def zP(D:Dr)(e:Kb)(D':Dr)(e':Kb)(a c:Int):Option (Int×Int):=QC D (some (zc D e a c).2) D' (some (zc D' e' a c).2)
structure HX(D:Dr)(e:Kb)(D':Dr)(e':Kb):Prop where
 s:HW D e D' e'
 d:Gi D
 d':Gi D'
 k:Gn D e
 k':Gn D' e'
 no:QC D (some e) D' (some e')=none
theorem HX.a0(t:HX D e D' e'):0<=qE e.age D.least/\qE e.age D.least<D.kss.length:=by
 have:=t.k.a0
 have:=t.k.a1
 have:=t.d.l0
 have:=t.d.lk
 unfold qE;split<;>omega
theorem HX.symm(t:HX D e D' e'):HX D' e' D e:=⟨t.s.symm,t.d',t.d,t.k',t.k,by rw[bO t.s.K];exact t.no⟩
theorem HX.ow(t:HX D e D' e'){a:Int}(h1:qE e.age D.least<=a)(h2:a<D.kss.length):Ql D e a=Ql D' e' a:=(t.s.pa t.a0.1).mp t.no a h1 h2
theorem iB(h:D.kss.length=D'.kss.length)(a c:Int):zP D e D' e' a c=zP D' e' D e a c:=bO h _ _
theorem CJ{a x:Int}(h:Ql D e a=some x):x<=Qp (e.last+D.far):=by
 unfold Ql at h;cases ew:e.wt with
 |none=>rw[ew]at h;cases h
 |some p=>
  rw[ew]at h;obtain⟨y,w⟩:=p;simp only at h
  split at h
  ·rename_i z;injection h with h;omega
  ·cases h
theorem gZ(x:Int):Qp x<=x/\Qp x<=4095:=by unfold Qp;split<;>omega
theorem kh{x y:Int}(h:y<=x)(h2:y<=4095):y<=Qp x:=by unfold Qp;split<;>omega
theorem HX.ne(t:HX D e D' e'){a c:Int}(c1:c<=4095)(h:zP D e D' e' a c≠none):(qE e.age D.least<=a/\a<D.kss.length)/\e.last<c/\¬Zx D e a c:=by
 have h1:qE e.age D.least<=a/\a<D.kss.length:=Decidable.byContradiction fun z=>h (by
  unfold zP;have z1:qH D e a=false:=ET.mpr fun y=>z (GG.mp y)
  have z2:qH D' e' a=false:=ET.mpr fun y=>z (by have:=GG.mp y;rw[t.s.A,t.s.K]at this;exact this)
  rw[ZK t.d.nf (.inl z1),ZK t.d'.nf (.inl z2)];exact t.no)
 have h2:e.last<c:=Decidable.byContradiction fun z=>h (by
  unfold zP;rw[ZK t.d.nf (.inr (.inl (by omega))),ZK t.d'.nf (.inr (.inl (by rw[t.s.l];omega)))];exact t.no)
 refine⟨h1,h2,fun z=>h ?_⟩
 have z':=(t.s.open_iff t.d t.d' t.k t.k' (t.ow h1.1 h1.2) c1).mp z;unfold zP;rw[gO (GG.mpr h1) z,gO (GG.mpr (by rw[t.s.A,t.s.K];exact h1)) z']
 exact t.s.opened t.d t.d' h1.1 h2 c1 (by have:=t.a0;omega)
theorem HX.is(t:HX D e D' e'){a c:Int}(c1:c<=4095)(h1:qE e.age D.least<=a/\a<D.kss.length)(h2:e.last<c)(h3:¬Zx D e a c):zP D e D' e' a c=none↔∀x,qE e.age D.least<=x->x<D.kss.length->Ql D (fW D e a c) x=Ql D' (fW D' e' a c) x:=by
 have h3':¬Zx D' e' a c:=fun z=>h3 ((t.s.open_iff t.d t.d' t.k t.k' (t.ow h1.1 h1.2) c1).mpr z)
 unfold zP;rw[fh t.d.nf (GG.mpr h1) h3 h2,fh t.d'.nf (GG.mpr (by rw[t.s.A,t.s.K];exact h1)) h3' (by rw[t.s.l];exact h2)]
 have f1:=bD (D:=D) (e:=e) (a:=a) (c:=c)
 have:=(t.s.fW (a:=a) (c:=c)).pa (by rw[f1.2];exact t.a0.1)
 rw[f1.2]at this;exact this
theorem eN{a c:Int}(h:c<=e.last+D.far):fW D e a c=⟨e.age,e.last,some (a,c)⟩:=Jc h
theorem g0{a c:Int}(h:e.last+D.far<c):fW D e a c=e:=Jb (by omega)
theorem HX.wit1(t:HX D e D' e')(hf:D'.far<=D.far){a c:Int}(c1:c<=4095)(h:zP D e D' e' a c≠none):
  e.last+D'.far<=c/\((e.last+D'.far<=4095/\zP D e D' e' (qE e.age D.least) (e.last+D'.far)≠none)\/(e.last+D'.far+1<=4095/\zP D e D' e' (qE e.age D.least) (e.last+D'.far+1)≠none)):=by
 obtain⟨h1,h2,h3⟩:=t.ne c1 h;have nf:=t.d.nf;have nf':=t.d'.nf;have n0:=t.d.n0;have n0':=t.d'.n0;have el:=t.s.l;have A0:=t.a0;obtain⟨A,eA⟩:∃A,A=qE e.age D.least:=⟨_,rfl⟩
 have hnn:¬c<=e.last+D.near:=fun z=>h3 ⟨h2,.inl z⟩
 have owA:=t.ow (a:=A) (by rw[eA];exact JO _) (by rw[eA];exact A0.2)
 have ow'le:∀{x a:Int},Ql D' e' a=some x->x<=e.last+D'.far:=fun{x a} z=>by
  have z1:=CJ z;have z2:=(gZ (e'.last+D'.far)).1;rw[el]at z2 z1;omega
 obtain⟨x,hx1,hx2,hx⟩:∃x,qE e.age D.least<=x/\x<D.kss.length/\Ql D (fW D e a c) x≠Ql D' (fW D' e' a c) x:=Classical.byContradiction fun z=>h ((t.is c1 h1 h2 h3).mpr fun x y1 y2=>Decidable.byContradiction fun y3=>z ⟨x,y1,y2,y3⟩)
 rw[<- eA]at A0 hx1⊢;have next:e.last+D'.far+1<=4095->D'.far<D.far->e.last+D.near<e.last+D'.far+1->((∃y,A<=y/\y<D.kss.length/\Ql D e y≠none)\/e.last+D'.far+2<=Qp (e.last+D.far))->zP D e D' e' A (e.last+D'.far+1)≠none:=fun g1 g2 g4 g3 z=>by
  have no:¬Zx D e A (e.last+D'.far+1):=fun y=>by
   have:=(aa t.d t.k g1 (by omega) (by omega)).mp y
   rw[owA]at this
   have:=ow'le this
   omega
  have hA:qE e.age D.least<=A/\A<D.kss.length:=by rw[<- eA];exact⟨JO _,A0.2⟩
  have all:=(t.is g1 hA (by omega) no).mp z
  rw[eN (D:=D) (e:=e) (by omega),g0 (D:=D') (e:=e') (by rw[el];omega)]at all
  have n2:¬e.last+D'.far+2<=Qp (e.last+D.far):=fun y=>by
   have:=all A hA.1 hA.2
   rw[ax,Jc ⟨rfl,by omega⟩]at this
   have:=ow'le this.symm
   omega
  rcases g3 with⟨y,y1,y2,y3⟩|y
  ·have:=all y (by rw[<- eA];exact y1) y2
   rw[ax,Jb (fun q=>n2 (by have:=q.2;omega)),<- t.ow (by rw[<- eA];exact y1) y2]at this
   exact y3 this.symm
  ·exact n2 y
 by_cases hc:c<=e.last+D'.far
 ·rw[eN (D:=D) (e:=e) (by omega),eN (D:=D') (e:=e') (by rw[el];omega),ax,ax,el]at hx
  have key:a=x/\c+1<=Qp (e.last+D.far)/\¬c+1<=Qp (e.last+D'.far):=by
   by_cases q1:a=x/\c+1<=Qp (e.last+D.far)
   ·refine⟨q1.1,q1.2,fun q=>hx ?_⟩
    rw[Jc q1,Jc ⟨q1.1,q⟩]
   ·refine absurd ?_ hx
    rw[Jb q1,Jb fun q=>q1 ⟨q.1,?_⟩]
    have:=q.2
    have z2:=gZ (e.last+D'.far);exact kh (by omega) (by omega)
  obtain⟨_,k2,k3⟩:=key;have z1:=gZ (e.last+D.far);have ec:c=e.last+D'.far:=Decidable.byContradiction fun z=>k3 (kh (by omega) (by omega))
  refine⟨by omega,?_⟩
  by_cases ho:Zx D e A (e.last+D'.far)
  ·right
   have o1:=(aa t.d t.k (by omega) (by omega) (by omega)).mp ho
   exact⟨by omega,next (by omega) (by omega) (by omega) (.inl ⟨A,JO _,A0.2,by rw[o1];exact fun z=>by cases z⟩)⟩
  ·left
   refine⟨by omega,fun z=>?_⟩
   have hA:qE e.age D.least<=A/\A<D.kss.length:=by rw[<- eA];exact⟨JO _,A0.2⟩
   have all:=(t.is (by omega) hA (by omega) ho).mp z A hA.1 hA.2
   rw[eN (D:=D) (e:=e) (by omega),eN (D:=D') (e:=e') (by rw[el];omega),ax,ax,Jc ⟨rfl,by omega⟩,Jb (fun q=>k3 (by have:=q.2;rw[el]at this;omega))]at all
   cases all
 ·have hc2:c<=e.last+D.far:=Decidable.byContradiction fun z=>hx (by
   rw[g0 (D:=D) (e:=e) (by omega),g0 (D:=D') (e:=e') (by rw[el];omega)]
   exact t.ow (by rw[<- eA];exact hx1) hx2)
  rw[eN (D:=D) (e:=e) hc2,g0 (D:=D') (e:=e') (by rw[el];omega),ax]at hx
  have near:e.last+D.near<e.last+D'.far+1:=Decidable.byContradiction fun z=>by
   have hn:=t.s.n;unfold Qp at hn;split at hn<;>split at hn<;>omega
  refine⟨by omega,.inr ⟨by omega,next (by omega) (by omega) near ?_⟩⟩
  by_cases q1:c+1<=Qp (e.last+D.far)
  ·exact .inr (by omega)
  ·rw[Jb fun q=>q1 q.2]at hx
   exact .inl ⟨x,hx1,hx2,by rw[t.ow (by rw[<- eA];exact hx1) hx2];exact hx.symm⟩
theorem HX.wit(t:HX D e D' e'){a c:Int}(c1:c<=4095)(h:zP D e D' e' a c≠none):
  zp D e D' e'<=c/\((zp D e D' e'<=4095/\zP D e D' e' (qE e.age D.least) (zp D e D' e')≠none)\/(zp D e D' e'+1<=4095/\zP D e D' e' (qE e.age D.least) (zp D e D' e'+1)≠none)):=by
 have el:=t.s.l
 by_cases hf:D'.far<=D.far
 ·have ee:zp D e D' e'=e.last+D'.far:=by unfold zp Qg;rw[el];split<;>omega
  rw[ee];exact t.wit1 hf c1 h
 ·have ee:zp D e D' e'=e'.last+D.far:=by unfold zp Qg;rw[el];split<;>omega
  rw[ee];have h':zP D' e' D e a c≠none:=by rw[iB t.s.K];exact h
  have:=t.symm.wit1 (by omega) c1 h'
  rw[t.s.A]at this;rw[iB t.s.K.symm,iB t.s.K.symm];exact this
theorem HX.all{α:Type}(t:HX D e D' e')(g:Int->Int->Int×Int->α){lo:Int}{n:Nat}(l1:lo<=zp D e D' e')(l2:lo+n<=4096)(l3:∀c,c<=4095->c<=zp D e D' e'+1->c<lo+n):
  (Qb 0 D.kss.length fun a=>Qb lo n fun c=>(zP D e D' e' a c).map (g a c))=(QP D (some e) D' (some e')).map fun q=>g q.1.1 q.1.2 q.2:=by
 obtain⟨A0,A1⟩:=t.a0;obtain⟨A,eA⟩:∃A,A=qE e.age D.least:=⟨_,rfl⟩
 obtain⟨L,eL⟩:∃L,L=zp D e D' e':=⟨_,rfl⟩
 have ep:QP D (some e) D' (some e')=Qb L (Qg (L+2) 4096-L).toNat fun c=>(zP D e D' e' A c).map fun p=>((A,c),p):=by rw[eL,eA];rfl
 have wit:∀{a c:Int},c<=4095->zP D e D' e' a c≠none->L<=c/\((L<=4095/\zP D e D' e' A L≠none)\/(L+1<=4095/\zP D e D' e' A (L+1)≠none)):=fun{a c} c1 h=>by rw[eL,eA];exact t.wit c1 h
 have low:∀{a c:Int},c<=4095->a<A->zP D e D' e' a c=none:=fun{a c} c1 h=>Decidable.byContradiction fun z=>by
  have:=(t.ne c1 z).1.1
  omega
 rw[<- eA]at A0 A1;rw[<- eL]at l1 l3;rw[ep];have found:∀i:Nat,(i=0\/i=1)->L+(i:Int)<=4095->(∀j:Nat,j<i->zP D e D' e' A (L+(j:Int))=none)->∀p,zP D e D' e' A (L+(i:Int))=some p->(Qb 0 D.kss.length fun a=>Qb lo n fun c=>(zP D e D' e' a c).map (g a c))=(Qb L (Qg (L+2) 4096-L).toNat fun c=>(zP D e D' e' A c).map fun p=>((A,c),p)).map fun q=>g q.1.1 q.1.2 q.2:=fun i hi h1 h2 p hp=>by
  have r:Qb L (Qg (L+2) 4096-L).toNat (fun c=>(zP D e D' e' A c).map fun p=>((A,c),p))=some ((A,L+(i:Int)),p):=by
   refine Qr (i:=i) (by unfold Qg;split<;>omega) (by rw[hp];rfl) fun x x0 x1=>?_
   have:=h2 (x-L).toNat (by omega)
   rw[show L+((x-L).toNat:Int)=x by omega]at this
   rw[this];rfl
  rw[r];have c3:=l3 (L+(i:Int)) h1 (by omega)
  refine Qr (i:=A.toNat) (by omega) ?_ fun x x0 x1=>zm fun c c0 c1=>by rw[low (by omega) (by omega)];rfl
  rw[show(0:Int)+(A.toNat:Int)=A by omega]
  refine Qr (i:=(L+(i:Int)-lo).toNat) (by omega) (by rw[show lo+((L+(i:Int)-lo).toNat:Int)=L+(i:Int) by omega,hp];rfl) fun c c0 c1=>?_
  have:zP D e D' e' A c=none:=Decidable.byContradiction fun z=>by
   have w:=(wit (by omega) z).1
   have:=h2 (c-L).toNat (by omega)
   rw[show L+((c-L).toNat:Int)=c by omega]at this
   exact z this
  rw[this];rfl
 by_cases h0:L<=4095/\zP D e D' e' A L≠none
 ·obtain⟨p,hp⟩:=Option.ne_none_iff_exists'.mp h0.2
  exact found 0 (.inl rfl) (by omega) (fun j hj=>absurd hj (Nat.not_lt_zero _)) p (by rw[show L+((0:Nat):Int)=L by omega];exact hp)
 by_cases h1:L+1<=4095/\zP D e D' e' A (L+1)≠none
 ·obtain⟨p,hp⟩:=Option.ne_none_iff_exists'.mp h1.2
  refine found 1 (.inr rfl) (by omega) (fun j hj=>?_) p hp
  obtain rfl:j=0:=by omega
  rw[show L+((0:Nat):Int)=L by omega]
  exact Decidable.byContradiction fun z=>h0 ⟨by omega,z⟩
 have none1:∀{a c:Int},c<=4095->zP D e D' e' a c=none:=fun{a c} c1=>Decidable.byContradiction fun z=>by
  rcases(wit c1 z).2 with y|y
  ·exact h0 y
  ·exact h1 y
 rw[zm fun a _ _=>zm fun c c0 c1=>by rw[none1 (by omega)];rfl,zm fun c c0 c1=>by rw[none1 (by unfold Qg at c1;split at c1<;>omega)];rfl]
 rfl
end
section
variable{D D':Dr}{e:Kb}{nm:Str}{a c:Int}
theorem Ai(nf:D.near<=D.far)(he:D.kn.lookup nm=some e):qA D nm a c="open"↔qH D e a=true/\Zx D e a c:=by
 have no1:¬(("":Str)="open"):=by decide
 have no3:¬(("wait":Str)="open"):=by decide
 unfold qA Zx;rw[he];simp only
 by_cases ht:qH D e a=true
 ·rw[Jc ht]
  by_cases h1:c-e.last<1\/c-e.last>D.far
  ·rw[Jc h1]
   exact⟨fun z=>absurd z no1,fun z=>absurd z.2 fun y=>by rcases y.2 with q|q<;>omega⟩
  ·rw[Jb h1]
   by_cases h2:c-e.last<=D.near\/e.wt=some (a,c-1)
   ·rw[Jc h2]
    exact⟨fun _=>⟨ht,by omega,h2.imp (fun _=>by omega) fun q=>⟨by omega,q⟩⟩,fun _=>rfl⟩
   ·rw[Jb h2]
    exact⟨fun z=>absurd z no3,fun z=>absurd (z.2.2.imp (fun q=>by omega) fun q=>q.2) h2⟩
 ·rw[Jb ht]
  exact⟨fun z=>absurd z no1,fun z=>absurd z.1 ht⟩
theorem rV(d:Gi D)(k:Gn D e)(c1:c<=4095):QB c (zn D e a)=true↔qH D e a=true/\Zx D e a c:=by
 have n0:=d.n0;have nf:=d.nf;have l1:=k.l1
 by_cases ht:qH D e a=true
 ·by_cases h1:e.last+1<4096
  ·rw[bC h1 ht]
   unfold QB;rw[J7,Bool.or_eq_true,Jx,decide_eq_true_eq,decide_eq_true_eq];have ow:(((Ql D e a).toList.map fun x=>(x,x)).any fun p=>decide (p.1<=c)&&decide (c<=p.2))=true↔Ql D e a=some c:=by
    cases Ql D e a with
    |none=>exact⟨(fun z=>by cases z),fun z=>by cases z⟩
    |some x=>
     show((decide (x<=c)&&decide (c<=x))||false)=true↔_
     rw[Bool.or_false,Jx,decide_eq_true_eq,decide_eq_true_eq,Option.some.injEq];omega
   rw[ow];simp only
   by_cases hn:c<=e.last+D.near
   ·constructor
    ·rintro(z|z)
     ·exact⟨ht,by omega,.inl hn⟩
     ·have:=ow_gt d k z
      omega
    ·rintro⟨_,z,_⟩
     exact .inl ⟨by omega,kh hn c1⟩
   ·have hc:¬(e.last+1<=c/\c<=Qp (e.last+D.near)):=fun z=>by
     have:=gZ (e.last+D.near)
     omega
    constructor
    ·rintro(z|z)
     ·exact absurd z hc
     ·have h0:e.last<c:=by omega
      exact⟨ht,(aa d k c1 hn h0).mpr z⟩
    ·rintro⟨_,z⟩
     exact .inr ((aa d k c1 hn z.1).mp z)
  ·rw[ay d k h1]
   exact⟨(fun z=>by cases z),fun z=>by have:=z.2.1;omega⟩
 ·have:zn D e a=[]:=by unfold zn;rw[Jb ht]
  rw[this]
  exact⟨(fun z=>by cases z),fun z=>absurd z.1 ht⟩
where
 ow_gt {D:Dr} {e:Kb} {a x:Int} (d:Gi D) (k:Gn D e) (h:Ql D e a=some x):e.last+D.near<x:=by
  unfold Ql at h;cases ew:e.wt with
  |none=>rw[ew]at h;cases h
  |some p=>
   obtain⟨y,w⟩:=p;rw[ew]at h
   have:=k.w y w ew
   simp only at h
   split at h
   ·injection h with h;omega
   ·cases h
theorem kO(d:Gi D)(k:Gn D e)(h:QB c (zn D e a)=true):e.last<c/\c<=e.last+D.far/\c<=4095:=by
 have c1:c<=4095:=Decidable.byContradiction fun z=>by rw[(n9 d k a).out (.inr (by omega))]at h;cases h
 obtain⟨_,h1,h2⟩:=(rV d k c1).mp h
 have nf:=d.nf
 exact⟨h1,h2.elim (fun z=>by omega) fun z=>z.1,c1⟩
theorem sw(d:Gi D)(k:bM D (D.kn.lookup nm))(c1:c<=4095):bG D nm a c=QB c (zu D a (D.kn.lookup nm)):=by
 unfold bG;rw[D5,decide_eq_true_eq];cases he:D.kn.lookup nm with
 |none=>
  have:qA D nm a c="":=by unfold qA;rw[he]
  rw[this]
  exact⟨fun z=>absurd z (by decide),fun z=>by cases z⟩
 |some e=>
  rw[he]at k;rw[Ai d.nf he]
  exact(rV d k c1).symm
theorem oN{lo:Int}{n:Nat}(d:Gi D)(d':Gi D')(k:bM D (D.kn.lookup nm))(k':bM D' (D'.kn.lookup nm))(l0:0<=lo)(l1:lo+n<=4096)
  (hb:∀a x,zu D a (D.kn.lookup nm)≠zu D' a (D'.kn.lookup nm)->QB x (zu D a (D.kn.lookup nm))=true\/QB x (zu D' a (D'.kn.lookup nm))=true->lo<=x/\x<lo+n):zT D D' D.kss.length lo n nm=zS D D' nm:=by
 unfold zT zS QC;rw[AR];refine Zg fun a _ _=>?_
 have hb:=hb a;obtain⟨S,eS⟩:∃S,S=zu D a (D.kn.lookup nm):=⟨_,rfl⟩
 obtain⟨S',eS'⟩:∃S',S'=zu D' a (D'.kn.lookup nm):=⟨_,rfl⟩
 have e1:lC D D' lo n nm a=(Qh lo (lo+n) (QN S S')).map fun c=>[(nm,a,c)]:=by
  rw[<- tf];refine Zg fun c c0 c1=>?_
  rw[sw d k (by omega),sw d' k' (by omega),<- eS,<- eS']
  unfold QN
  by_cases z:QB c S=QB c S'
  ·rw[Jc z,Jn (fun y=>y z),Jb (by decide)]
  ·rw[Jb z,Jg z,Jc rfl]
 rw[e1,<- eS,<- eS'];rw[<- eS,<- eS']at hb
 by_cases z:S=S'
 ·rw[Jc z]
  have:Qh lo (lo+n) (QN S S')=none:=sQ fun x _ _=>by
   unfold QN;rw[z];exact Jn fun y=>y rfl
  rw[this];rfl
 ·rw[Jb z]
  obtain⟨q1,q2,q3,q4⟩:=Z7 (gS (by rw[eS];exact fq d k a) (by rw[eS'];exact fq d' k' a) z)
  have w:=hb (zU S S') z (by
   have:=Jv q3
   cases y:QB (zU S S') S with
   |true=>exact .inl rfl
   |false=>cases y':QB (zU S S') S' with
    |true=>exact .inr rfl
    |false=>rw[y,y']at this;exact absurd rfl this)
  rw[wy w.1 w.2 q3 fun x x0 x1=>q4 x (by omega) x1];rfl
end
def ZV(D D':Dr)(many:Nat)(lo:Int)(n:Nat)(nm:Str):Option Qs:=Qb 0 many fun a=>Qb lo n fun c=>
 if qA D nm a c=""/\qA D' nm a c="" then none else(zT {D with kn:=F4 D nm a c} {D' with kn:=F4 D' nm a c} many lo n nm).map fun r=>(nm,a,c)::r
section
variable{D D':Dr}{e e':Kb}{nm:Str}
theorem nN{a c:Int}(he:D.kn.lookup nm=some e)(h:qA D nm a c="")(nf:D.near<=D.far):(zc D e a c).2=e:=by
 unfold qA at h;rw[he]at h;simp only at h
 by_cases ht:qH D e a=true
 ·rw[Jc ht]at h
  by_cases h1:c-e.last<1\/c-e.last>D.far
  ·exact ZK nf (h1.elim (fun z=> .inr (.inl (by omega))) fun z=> .inr (.inr (by omega)))
  ·rw[Jb h1]at h
   split at h
   ·exact absurd h (by decide)
   ·exact absurd h (by decide)
 ·exact ZK nf (.inl (ET.mpr ht))
theorem aX{a c:Int}(he:D.kn.lookup nm=some e)(h1:¬e.last+1<4096)(c1:c<=4095):qA D nm a c="":=by
 unfold qA;rw[he];simp only
 split
 ·rw[Jc (.inl (by omega))]
 ·rfl
theorem aZ{a c:Int}(he:D.kn.lookup nm=none):qA D nm a c="":=by unfold qA;rw[he]
theorem ir(d:Gi D)(k:Gn D e)(h:∀a:Int,0<=a->a<D.kss.length->zn D e a=[]):¬e.last+1<4096:=fun h1=>by
 have:=k.a0
 have:=k.a1
 have:=d.l0
 have:=d.lk
 have b1:0<=qE e.age D.least/\qE e.age D.least<D.kss.length:=by unfold qE;split<;>omega
 exact(zR d k h1 (a:=qE e.age D.least)).mpr ⟨JO _,b1.2⟩ (h _ b1.1 b1.2)
theorem vK{base:Int}{n:Nat}(ok:G5 D)(ok':G5 D')(d:Gi D)(d':Gi D')(k:mf D)(k':mf D')(hk:D.kss.length=D'.kss.length)(b0:0<=base)(l1:base+n<=4096)(l2:∀x,x<=4095->x<=base+34->x<base+n)
  (lo:∀nm e,D.kn.lookup nm=some e->base<e.last/\e.last+D.far<=base+32)(lo':∀nm e,D'.kn.lookup nm=some e->base<e.last/\e.last+D'.far<=base+32)(no:zS D D' nm=none):ZV D D' D.kss.length base n nm=Zv D D' nm:=by
 unfold zS at no;rw[Option.map_eq_none_iff]at no;have kn:=k nm;have kn':=k' nm;have quiet:(∀a c:Int,c<=4095->qA D nm a c=""/\qA D' nm a c="")->ZV D D' D.kss.length base n nm=none:=fun h=>zm fun a _ _=>zm fun c _ c1=>Jc (h a c (by omega))
 unfold Zv;cases he:D.kn.lookup nm with
 |none=>
  rw[he]at no;cases he':D'.kn.lookup nm with
  |none=>exact quiet fun a c _=>⟨aZ he,aZ he'⟩
  |some e'=>
   rw[he']at no kn';have sh:=ir d' kn' fun a h0 h1=>(aD no h0 (by rw[hk];exact h1)).symm
   exact quiet fun a c c1=>⟨aZ he,aX he' sh c1⟩
 |some e=>
  rw[he]at no kn;cases he':D'.kn.lookup nm with
  |none=>
   rw[he']at no;have sh:=ir d kn fun a h0 h1=>aD no h0 h1
   exact quiet fun a c c1=>⟨aX he sh c1,aZ he'⟩
  |some e'=>
   rw[he']at no kn';have kn:Gn D e:=kn
   have kn':Gn D' e':=kn'
   by_cases h1:e.last+1<4096
   ·have t:HX D e D' e':=⟨CQ d d' kn kn' hk no h1,d,d',kn,kn',no⟩
    obtain⟨p1,p2⟩:=lo nm e he;obtain⟨p1',p2'⟩:=lo' nm e' he';have n0:=d.n0;have nf:=d.nf;have nf':=d'.nf;have n0':=d'.n0;have ge:base<=zp D e D' e':=by unfold zp Qg;split<;>omega
    have le:zp D e D' e'<=base+32:=by unfold zp Qg;split<;>omega
    have main:∀a c:Int,c<=4095->0<=c->(if qA D nm a c=""/\qA D' nm a c="" then none else(zT {D with kn:=F4 D nm a c} {D' with kn:=F4 D' nm a c} D.kss.length base n nm).map fun r=>(nm,a,c)::r)=(zP D e D' e' a c).map fun p=>[(nm,a,c),(nm,p.1,p.2)]:=fun a c c1 c0=>by
     by_cases hw:qA D nm a c=""/\qA D' nm a c=""
     ·rw[Jc hw]
      unfold zP;rw[nN he hw.1 nf,nN he' hw.2 nf',no];rfl
     ·rw[Jb hw]
      have lk:=gz (age:=a) (c:=c) ok.nd he
      have lk':=gz (age:=a) (c:=c) ok'.nd he'
      have sk:=ca (age:=a) d kn c0 (by omega)
      have sk':=ca (age:=a) d' kn' c0 (by omega)
      have dd:Gi {D with kn:=F4 D nm a c}:=⟨d.n0,d.n1,d.nf,d.f1,d.l0,d.lk⟩
      have dd':Gi {D' with kn:=F4 D' nm a c}:=⟨d'.n0,d'.n1,d'.nf,d'.f1,d'.l0,d'.lk⟩
      have e1:zT {D with kn:=F4 D nm a c} {D' with kn:=F4 D' nm a c} D.kss.length base n nm=zS {D with kn:=F4 D nm a c} {D' with kn:=F4 D' nm a c} nm:=by
       refine oN (D:={D with kn:=F4 D nm a c}) (D':={D' with kn:=F4 D' nm a c}) dd dd' (by show bM _ ((F4 D nm a c).lookup nm);rw[lk];exact sk.mono (Je _)) (by show bM _ ((F4 D' nm a c).lookup nm);rw[lk'];exact sk'.mono (Je _)) b0 l1 fun x y ne hy=>?_
       have ne:zu D x ((F4 D nm a c).lookup nm)≠zu D' x ((F4 D' nm a c).lookup nm):=ne
       have hy:QB y (zu D x ((F4 D nm a c).lookup nm))=true\/QB y (zu D' x ((F4 D' nm a c).lookup nm))=true:=hy
       rw[lk,lk']at ne hy;have pn:zP D e D' e' a c≠none:=fun z=>by
        by_cases hx:0<=x/\x<(D.kss.length:Int)
        ·exact ne (aD z hx.1 hx.2)
        ·refine ne ?_
         have l0:=d.l0;have l0':=d'.l0;have nt:∀{D:Dr} {f:Kb},0<=D.least->¬(0<=x/\x<(D.kss.length:Int))->zn D f x=[]:=fun{D f} l0 h=>by
          unfold zn;rw[Jb fun q=>h (Zh q l0)]
         show zn D _ x=zn D' _ x
         rw[nt l0 hx,nt l0' (by rw[<- hk];exact hx)]
       obtain⟨w1,w2,w3⟩:=t.ne c1 pn;have w3':¬Zx D' e' a c:=fun z=>w3 ((t.s.open_iff t.d t.d' t.k t.k' (t.ow w1.1 w1.2) c1).mpr z)
       have f1:=fh nf (GG.mpr w1) w3 w2;have f2:=fh nf' (GG.mpr (by rw[t.s.A,t.s.K];exact w1)) w3' (by rw[t.s.l];exact w2)
       rcases hy with hy|hy
       ·have:=kO d sk hy
        rw[f1,bD.1]at this
        exact⟨by omega,l2 y this.2.2 (by omega)⟩
       ·have:=kO d' sk' hy
        rw[f2,bD.1]at this
        exact⟨by omega,l2 y this.2.2 (by omega)⟩
      rw[e1];unfold zS
      show Option.map _ (Option.map _ (QC D ((F4 D nm a c).lookup nm) D' ((F4 D' nm a c).lookup nm)))=_
      rw[lk,lk',Option.map_map];rfl
    have:=t.all (fun a c p=>[(nm,a,c),(nm,p.1,p.2)]) ge l1 fun c c1 c2=>l2 c c1 (by omega)
    rw[<- this];unfold ZV;exact Zg fun a _ _=>Zg fun c c0 c1=>main a c (by omega) (by omega)
   ·have h2:¬e'.last+1<4096:=ir d' kn' fun a h0 h1'=>by
     rw[<- hk]at h1'
     have:=aD no h0 h1'
     rw[show zu D a (some e)=[]from ay d kn h1 a]at this
     exact this.symm
    rw[quiet fun a c c1=>⟨aX he h1 c1,aX he' h2 c1⟩]
    have:QP D (some e) D' (some e')=none:=zm fun x x1 x2=>by
     have n0:=d.n0;have nf:=d.nf;have n0':=d'.n0;have nf':=d'.nf
     have:4096<=zp D e D' e':=by unfold zp Qg;split<;>omega
     unfold Qg at x2;split at x2<;>omega
    rw[this];rfl
end
end L3
namespace L3
open PySem PySem.Spec PyProof.Rows L2 SeqAt
def C8:R2:=fun x y H Q=>∃(a b:Addr) (ss ts:List Str),x= .ref a/\y= .ref b/\H a=some (.lst (ss.map V.str))/\H b=some (.lst (ts.map V.str))/\ss.length=ts.length/\Q (.bl (decide (ss≠ts))) H
theorem AC{X:Cx}{k:Nat}(hr:Gh k X.A):zx X (compareOp .NotEq) C8:=by
 intro tx s σ H x y v u Q I rx ry h;obtain⟨a,b,ss,ts,rfl,rfl,e1,e2,hl,q⟩:=h;cases rx;cases ry;obtain⟨its,q1,p1,_⟩:=I.list (F8.of (K:=X.K) e1)
 obtain⟨its2,q2,p2,_⟩:=I.list (F8.of (K:=X.K) e2)
 have k1:=q1.length;have k2:=q2.length;rw[Jf]at k1 k2;have hu:X.A.units+2<cLine:=by have:=hr.un;omega
 have e:=RcNeAt.lists (A:=X.A) (e:=fun j=>ss.getD j default==ts.getD j default) p1.isList p2.isList (by simp;omega) (by omega) (fun j h1 h2=>by
  have h1':j<its.length:=by simpa using h1
  have h2':j<its2.length:=by simpa using h2
  obtain⟨t,et⟩:=aF (bK q1) j _ (Jj h1')
  obtain⟨t',et'⟩:=aF (bK q2) j _ (Jj h2')
  simp only[List.getElem_toArray];rw[et,et'];exact EqAt.str_str _ _ _ _)
 have ed:(!(List.range its.toArray.size).all fun j=>ss.getD j default==ts.getD j default)=decide (ss≠ts):=by
  rw[Jr,<- k1];rw[D5,FN,decide_eq_true_eq,<- Bool.not_eq_true,EF];refine not_congr ⟨fun h1=>?_,fun h=>?_⟩
  ·refine List.ext_getElem hl fun j j1 j2=>?_
   have:=eq_of_beq (h1 j (J4.mpr (by omega)))
   rw[JE,JE,Jj j1,Jj j2]at this;exact this
  ·subst h
   exact fun j _=>EI _
 rw[ed]at e;exact e _ _ _ _ ⟨.bl _,H,I,rfl,q⟩
def qU(d base:Int):Nat:=((if base+d<4095 then base+d else 4095)-base+1).toNat
theorem eY{d base:Int}(d0:0<=d)(b1:base<=4095):(qU d base:Int)=(if base+d<4095 then base+d else 4095)-base+1:=by unfold qU;split<;>omega
def eu(d:Int):Sp:=fun vs H Q _=>∃(base:Int),vs=[.int base]/\0<=base/\base<=4090/\∀l H',FZ H H'->H' l=some (.lst (Z1 base (qU d base)))->Q (.ref l) H'
def lX(d:Int):Sp:=fun vs H Q _=>∃(ol m1 kd1 m2 kd2 dr nl:Addr) (D D':Dr) (nms:List Str) (many:Nat) (base:Int),vs=[.ref ol,.ref dr]/\H ol=some (.lst [.ref m1,.ref m2])/\Gf H m1 kd1 D/\Gf H m2 kd2 D'/\H dr=some (.tup [.ref nl,.int (many:Int),.int base])/\H nl=some (.lst (nms.map V.str))/\nms.length<64/\many<=8/\0<=base/\base<=4090/\
 ∀u ms H',FZ H H'->ms.Perm nms->sortedS ms=true->HV H' u (ms.findSome? (zT D D' many base (qU d base)))->Q u H'
def uQ(d:Int):Sp:=fun vs H Q _=>∃(ol m1 kd1 m2 kd2 dr nl:Addr) (D D':Dr) (nms:List Str) (many:Nat) (base:Int),vs=[.ref ol,.ref dr]/\H ol=some (.lst [.ref m1,.ref m2])/\Gf H m1 kd1 D/\Gf H m2 kd2 D'/\G5 D/\G5 D'/\D.near<=D.far/\D'.near<=D'.far/\H dr=some (.tup [.ref nl,.int (many:Int),.int base])/\H nl=some (.lst (nms.map V.str))/\nms.length<64/\many<=8/\0<=base/\base<=4090/\
 ∀u ms H',FZ H H'->ms.Perm nms->sortedS ms=true->HV H' u (ms.findSome? (ZV D D' many base (qU d base)))->Q u H'
structure IM(t:List Int)(kss:List (List Int))(D:Dr):Prop where
 ok:G5 D
 t:D.t=t
 ks:D.kss=kss
 f0:D.near<=D.far
theorem lL{t:List Int}{kss:List (List Int)}{D:Dr}{nm:Str}{age c d:Int}(h:IM t kss D)(c0:0<=c)(c1:c<4096)(hd:bb d):bT D (Qt t kss nm age c d)=zj D nm age (some (c,d)):=by
 unfold bT Qt;simp only
 rw[h.t,show Qy D age=kss.getD age.toNat [] by unfold Qy;rw[h.ks],i8 (h.t▸h.ok.tp) c0 c1 hd]
def lG(K:Frag)(C:Addr):Sp:=fun vs H Q _=>∃(cd tb kt pl p ps b:Addr) (c:Nat) (H0:Hp) (t:List Int) (kss:List (List Int)) (xs:List En) (nm:Str) (age n:Int) (is:List Nat),vs=[.ref cd,.ref pl,.ref p,.ref ps]/\Pw K C H0 H b c pl xs/\xs.length=2/\GW H cd tb kt t kss/\QV nm/\0<=age/\age<kss.length/\0<=n/\n<4096/\H p=some (.tup [.str nm,.int age,.int n])/\Rd H ps (.tup (is.map fun i:Nat=>V.int (i:Int)))/\is.Nodup/\(∀i∈is,i<2)/\
 (∀(i:Nat) (x:En),xs[i]? =some x->IM t kss x.2.1/\x.2.2.length<=900)/\
 ∀H' xs',Pw K C H0 H' b c pl xs'->GW H' cd tb kt t kss->HN (fun i D=>if i∈is then{D with kn:=F4 D nm age n}else D) 2 xs xs'->Q .non H'
structure Iv(nms:List Str)(many:Nat)(base:Int):Prop where
 nd:nms.Nodup
 nm:∀z∈nms,QV z
 l1:1<=nms.length
 l3:nms.length<=3
 m1:1<=many
 m3:many<=3
 b0:0<=base
 b1:base<=4083
structure Ia(t:List Int)(kss:List (List Int))(base hi:Int)(nms:List Str)(D:Dr):Prop where
 hr:IM t kss D
 dn:Gi D
 f13:D.far<=13
 n4:D.near<=4
 mo:3<=D.most
 le:D.least=0
 kl:∀e∈D.kn,Gn D e.2/\base<e.2.last/\e.2.last<=hi/\∀x w,e.2.wt=some (x,w)->w<=hi
 sub:∀z∈D.kn.map (·.1),z∈nms
 few:D.kn.length<=nms.length
section
variable{t:List Int}{kss:List (List Int)}{base hi:Int}{nms:List Str}{D:Dr}{nm:Str}{age c:Int}
theorem Ia.learn(h:Ia t kss base hi nms D)(hl:D.kn.length<=11)(a0:0<=age)(a1:age<kss.length)(c0:1<=c)(c1:c<4096)(b0:base<c)(b1:c<=hi):Ia t kss base hi (nms++[nm]) {D with kn:=ze D.kn nm ⟨age,c,none⟩}:=by
 have hle:=mF D.kn nm ⟨age,c,none⟩;have k:Gn {D with kn:=ze D.kn nm ⟨age,c,none⟩} ⟨age,c,none⟩:=⟨a0,by show age<(D.kss.length:Int);rw[h.hr.ks];exact a1,c0,c1,fun x y z=>by cases z⟩
 refine⟨⟨⟨h.hr.ok.tp,h.hr.ok.l0,h.hr.ok.kl,by show(ze _ _ _).length<=60;omega,iK h.hr.ok.nd _ _⟩,h.hr.t,h.hr.ks,h.hr.f0⟩,⟨h.dn.n0,h.dn.n1,h.dn.nf,h.dn.f1,h.dn.l0,h.dn.lk⟩,h.f13,h.n4,h.mo,h.le,fun e he=>?_,fun z hz=>?_,?_⟩
 ·rcases fZ he with he|rfl
  ·have:=h.kl e he
   exact⟨this.1.mono (Je _),this.2⟩
  ·exact⟨k,b0,b1,fun x w z=>by cases z⟩
 ·have hz:z∈(ze D.kn nm ⟨age,c,none⟩).map (·.1):=hz
  rw[ZU]at hz;split at hz
  ·exact EL _ (h.sub z hz)
  ·rcases JW.mp hz with hz|hz
   ·exact EL _ (h.sub z hz)
   ·exact J1 _ hz
 ·rw[JC]
  exact JM (mF _ _ _) (Nat.succ_le_succ h.few)
theorem Ia.hear{hi':Int}(h:Ia t kss base hi nms D)(c0:0<=c)(c1:c<4096)(h1:hi<=hi')(hs:∀e,D.kn.lookup nm=some e->qH D e age=true->(zf D.near D.far e age c).2.last<=hi'/\∀x w,(zf D.near D.far e age c).2.wt=some (x,w)->w<=hi'):Ia t kss base hi' nms {D with kn:=F4 D nm age c}:=by
 have up:∀e∈D.kn,Gn D e.2/\base<e.2.last/\e.2.last<=hi'/\∀x w,e.2.wt=some (x,w)->w<=hi':=fun e he=>by
  obtain⟨q1,q2,q3,q4⟩:=h.kl e he
  exact⟨q1,q2,by omega,fun x w z=>by have:=q4 x w z;omega⟩
 have kk:=Z5 D nm age c;have ok:=h.hr.ok.hearK nm age c;have sub:∀z∈(F4 D nm age c).map (·.1),z∈nms:=fun z hz=>h.sub z (by rw[kk]at hz;exact hz)
 have few:(F4 D nm age c).length<=nms.length:=by have:=J0 List.length kk;rw[Jf,Jf]at this;rw[this];exact h.few
 refine⟨⟨ok,h.hr.t,h.hr.ks,h.hr.f0⟩,⟨h.dn.n0,h.dn.n1,h.dn.nf,h.dn.f1,h.dn.l0,h.dn.lk⟩,h.f13,h.n4,h.mo,h.le,fun e he=>?_,sub,few⟩
 have he:e∈F4 D nm age c:=he
 rcases bR (D:=D) (nm:=nm) (age:=age) (c:=c)with e1|⟨b,hb,ht,ek⟩
 ·rw[e1]at he
  have:=up e he
  exact⟨this.1.mono (Je _),this.2⟩
 ·rw[ek]at he
  rcases fZ he with he|rfl
  ·have:=up e he
   exact⟨this.1.mono (Je _),this.2⟩
  ·have q:=up _ (zv hb)
   obtain⟨s1,s2⟩:=hs b hb ht;refine⟨(mt q.1 (cC ht) (Zh ht h.dn.l0).2 c0 c1).mono (Je _),?_,s1,s2⟩
   have hq:=q.2.1;simp only at hq⊢
   unfold zf;split
   ·exact hq
   ·split
    ·show base<c;omega
    ·split
     ·split
      ·show base<c;omega
      ·exact hq
     ·exact hq
theorem Ia.hear1(h:Ia t kss base hi nms D)(c0:0<=c)(c1:c<4096)(ch:c<=hi):Ia t kss base hi nms {D with kn:=F4 D nm age c}:=h.hear c0 c1 (JO _) fun e he ht=>by
 obtain⟨q1,q2,q3,q4⟩:=h.kl _ (zv he)
 simp only at q1 q2 q3 q4
 unfold zf;split
 ·exact⟨q3,q4⟩
 ·split
  ·exact⟨ch,fun x w z=>by cases z⟩
  ·split
   ·split
    ·exact⟨ch,fun x w z=>by cases z⟩
    ·exact⟨q3,fun x w z=>by cases z;exact ch⟩
   ·exact⟨q3,q4⟩
theorem Ia.td(h:Ia t kss base hi nms D)(l3:nms.length<=3):Ik D:=⟨h.hr.ok,h.dn,fun nm=>by
 cases e:D.kn.lookup nm with
 |none=>exact trivial
 |some b=>exact(h.kl _ (zv e)).1,by have:=h.few;omega⟩
end
structure Ib(base:Int)(nms:List Str)(D:Dr):Prop where
 td:Ik D
 lo:∀nm e,D.kn.lookup nm=some e->base<e.last/\e.last+D.far<=base+32
 sub:∀z∈D.kn.map (·.1),z∈nms
theorem Ia.done{t:List Int}{kss:List (List Int)}{base:Int}{nms:List Str}{D:Dr}(h:Ia t kss base (base+15) nms D)(l3:nms.length<=3):Ib base nms D:=⟨h.td l3,fun nm e he=>by
 obtain⟨_,q2,q3,_⟩:=h.kl _ (zv he)
 have:=h.f13
 simp only at q2 q3
 omega,h.sub⟩
theorem Ia.last{t:List Int}{kss:List (List Int)}{base:Int}{nms:List Str}{D:Dr}{nm:Str}{age c:Int}(h:Ia t kss base (base+15) nms D)(l3:nms.length<=3)(c0:0<=c)(c1:c<4096):Ib base nms {D with kn:=F4 D nm age c}:=by
 obtain⟨hi',e1⟩:∃hi':Int,hi'=(if c<=base+15 then base+15 else c):=⟨_,rfl⟩
 have hh:base+15<=hi'/\c<=hi':=by rw[e1];split<;>omega
 have q:Ia t kss base hi' nms {D with kn:=F4 D nm age c}:=h.hear c0 c1 hh.1 fun e he ht=>by
  obtain⟨q1,q2,q3,q4⟩:=h.kl _ (zv he)
  simp only at q1 q2 q3 q4
  unfold zf;split
  ·exact⟨by show e.last<=hi';omega,fun x w z=>by have:=q4 x w z;omega⟩
  ·split
   ·exact⟨hh.2,fun x w z=>by cases z⟩
   ·split
    ·split
     ·exact⟨hh.2,fun x w z=>by cases z⟩
     ·exact⟨by show e.last<=hi';omega,fun x w z=>by cases z;exact hh.2⟩
    ·exact⟨by show e.last<=hi';omega,fun x w z=>by have:=q4 x w z;omega⟩
 refine⟨q.td l3,fun nm2 e2 he2=>?_,q.sub⟩
 have he2:(F4 D nm age c).lookup nm2=some e2:=he2
 have hm:=zv he2
 show base<e2.last/\e2.last+D.far<=base+32
 have f13:=h.f13;have n4:=h.n4;have old:∀{n:Str} {e:Kb},(n,e)∈D.kn->base<e.last/\e.last+D.far<=base+32:=fun{n e} hin=>by
  obtain⟨_,q2,q3,_⟩:=h.kl _ hin;simp only at q2 q3
  omega
 rcases bR (D:=D) (nm:=nm) (age:=age) (c:=c)with e3|⟨b,hb,ht,ek⟩
 ·rw[e3]at hm
  exact old hm
 ·rw[ek]at hm
  rcases fZ hm with hm|hm
  ·exact old hm
  ·injection hm with _ hm
   rw[hm];obtain⟨q1,q2,q3,q4⟩:=h.kl _ (zv hb)
   simp only at q1 q2 q3 q4
   unfold zf;split
   ·simp only;omega
   ·split
    ·simp only;omega
    ·split
     ·split
      ·rename_i hw
       have:=q4 _ _ hw
       simp only;omega
      ·simp only;omega
     ·simp only;omega
section
variable{base:Int}{nms:List Str}{D D':Dr}
theorem Ib.win(h:Ib base nms D){nm:Str}{a x:Int}(b0:0<=base)(b1:base<=4083)(hx:QB x (zu D a (D.kn.lookup nm))=true):base<=x/\x<base+(qU 34 base:Int):=by
 rw[eY (by decide) (by omega)]
 cases e:D.kn.lookup nm with
 |none=>rw[e]at hx;cases hx
 |some k=>
  rw[e]at hx;have ok:=h.td.kn nm;rw[e]at ok;obtain⟨h1,h2,h3⟩:=kO h.td.dn ok hx;obtain⟨q1,q2⟩:=h.lo nm k e;split<;>omega
theorem Ib.one(h:Ib base nms D)(h':Ib base nms D')(b0:0<=base)(b1:base<=4083)(nm:Str):zT D D' D.kss.length base (qU 34 base) nm=zS D D' nm:=
 oN h.td.dn h'.td.dn (h.td.kn nm) (h'.td.kn nm) b0 (by rw[eY (by decide) (by omega)];split<;>omega) fun a x _ hx=>by
  rcases hx with hx|hx
  ·exact h.win b0 b1 hx
  ·exact h'.win b0 b1 hx
theorem Ib.two(h:Ib base nms D)(h':Ib base nms D')(hk:D.kss.length=D'.kss.length)(b0:0<=base)(b1:base<=4083){nm:Str}(no:zS D D' nm=none):ZV D D' D.kss.length base (qU 34 base) nm=Zv D D' nm:=
 vK h.td.ok h'.td.ok h.td.dn h'.td.dn h.td.kn h'.td.kn hk b0 (by rw[eY (by decide) (by omega)];split<;>omega) (fun x x1 x2=>by rw[eY (by decide) (by omega)];split<;>omega) h.lo h'.lo no
theorem Ib.due(h:Ib base nms D)(h':Ib base nms D')(hk:D.kss.length=D'.kss.length)(b0:0<=base)(b1:base<=4083)(ms:List Str):zF D D' ms=match ms.findSome? (zT D D' D.kss.length base (qU 34 base))with
  |some r=>some r
  |none=>ms.findSome? (ZV D D' D.kss.length base (qU 34 base)):=by
 have e1:ms.findSome? (zT D D' D.kss.length base (qU 34 base))=ms.findSome? (zS D D'):=cB fun nm _=>h.one h' b0 b1 nm
 unfold zF;rw[e1];cases e:ms.findSome? (zS D D')with
 |some r=>rfl
 |none=>exact(cB fun nm hnm=>h.two h' hk b0 b1 (List.findSome?_eq_none_iff.mp e nm hnm)).symm
end
theorem yz{D D':Dr}{ns:List Str}{r:Qs}(h:zF D D' ns=some r):r.length<=2:=by
 cases e:ns.findSome? (zS D D')with
 |none=>exact Fq (wm e h)
 |some s=>
  unfold zF at h;rw[e]at h;cases h;obtain⟨nm,_,e⟩:=List.exists_of_findSome?_eq_some e
  unfold zS at e;obtain⟨p,_,rfl⟩:=DQ.mp e
  exact(by decide:1<=2)
def og:Sp:=fun vs H Q _=>∃(b:Addr) (c:Nat),vs=[.ref b]/\GZ H b c/\c<100000000/\∀q nl nms many base H',HQ b (c+3) H H'->H' q=some (.tup [.ref nl,.int ((many:Nat):Int),.int base])->H' nl=some (.lst (nms.map V.str))->H nl=none->Iv nms many base->Q (.ref q) H'
def l9(K:Frag)(C:Addr):Sp:=fun vs H Q _=>∃(b dr nl:Addr) (c:Nat) (nms:List Str) (many:Nat) (base:Int),vs=[.ref b,.ref dr]/\GZ H b c/\c<1000000/\H dr=some (.tup [.ref nl,.int (many:Int),.int base])/\H nl=some (.lst (nms.map V.str))/\nl≠b/\Iv nms many base/\
 ∀pl xs H',Pw K C H H' b (c+300) pl xs->xs.length=2->(∀(i:Nat) (x:En),xs[i]? =some x->Ib base nms x.2.1/\x.2.1.kss.length=many/\∀z∈nms,z∈x.2.1.kn.map (·.1))->Q (.ref pl) H'
end L3
namespace Lw
open PySem L2 L3
section
variable{P:Program}{w:World}{K:Frag}{mg:FX}{base:Heap}{tk:Nat->Tok}{C:Addr}
theorem iN(a:At K mg "_law_learnt" aA ["_law_code","_law_pair_here","_law_name","_law_told"])(T:Gw K mg tk)(U:G0 K C)(xS:Mf P w K mg base C "learn" ["self","one","other"] 7 (iT K C))(dU:Df P w K mg base "_law_press" ["_law_code","_law_plain","_law_deed"] 4 gq):Df P w K mg base "_law_learnt" ["_law_code","_law_pair_here","_law_name","_law_told"] 8 (jg K C):=by
  refine a.dq Gu fun f _ A _ s H vs Q E hr h=>?_
  · obtain⟨cd,tb,kt,pl,tl,b,c,H0,t,kss,xs,nm,os,rfl,pw,lx,hc,hn,ho,lo,ntl,hx,hos,q⟩:=h
    refine⟨_,(qe (qV JJ rfl (zE rfl T.b_range (qc qf qa)) (qg (i:=4) Gu.nd rfl (Or.inl rfl))
      (qe (qC (qx aj (qt qK (qv 3) (qv 4)) qM (qq _)) (qd (zg (qt qK (qv 3) (qv 4)) (zw rfl (qm (qg (i:=5) Gu.nd rfl (Or.inr rfl)) (qm (qg (i:=6) Gu.nd rfl (Or.inl rfl)) qO))))
      (qd (iJ (i:=7) Gu.nd rfl (Or.inl rfl) (own:=["_law_count"]) (fr:=["_law_name","_law_code","_law_age"]) (js:=[2,0,5]) rfl (aG (qu (qc (qp Qe (qv 6) qf) (qc (qv 6) qa)))) rfl (DG rfl rfl rfl) rfl (Dn rfl (by decide +kernel) (by decide +kernel) (by decide +kernel) rfl rfl rfl rfl rfl rfl rfl rfl rfl) (fun _ _ _ _=>qg (i:=0) (show List.Nodup (["_law_count","_law_name","_law_code","_law_age"]:List Str)from by decide +kernel) rfl (Or.inl rfl) (.inr rfl)) (fun _ _ _ _=>(qo dU hr.mo (qc (qv 2) (qc (qu (qc (qv 1) (qc (qv 3) (qc (qv 0) qa)))) (qc qf qa))))))
      (qd (zQ (zi xS U.cl hr.mo (qt qF (qt qK (qv 1) (qv 4)) qf) (qc (qt qK (qv 7) qf) (qc (qt qK (qv 7) qf) qa))))
      (qe (ZA hr (zD hr (qt qF (qt qK (qv 1) (qv 4)) qf) qw) (qv 2) (qu (qc (qv 5) (qc (qv 6) (qc qM qa))))))))) qr)))),?_⟩
    refine⟨_,rfl,by decide,by decide,?_⟩
    refine zY (n:=2) (Pv:=fun j σ Hx=>∃xs',Pw K C H0 Hx b c pl xs'/\GW Hx cd tb kt t kss/\HP Hx tl os/\(∀c ys,H c=some (.tup ys)->Hx c=some (.tup ys))/\HN (fun i D=>if i<j then c9 nm D (os.getD i none)else D) j xs xs'/\∃o4 o5 o6 o7,σ=[some (.ref cd),some (.ref pl),some (.str nm),some (.ref tl),o4,o5,o6,o7]) ⟨xs,pw,hc,ho,(fun _ _ h=>h),(HN.refl xs).ext (fun i x hi=>by simp),_,_,_,_,rfl⟩ ?_ ?_
    · rintro j σ Hx hj ⟨xs',pw1,hc1,ho1,tps,st,o4,o5,o6,o7,rfl⟩
      have hj2:j<xs.length:=by rw[lx];exact hj
      have ex:=Jj hj2;obtain⟨x,rx⟩:∃x,x=xs[j]:=⟨_,rfl⟩
      rw[<- rx]at ex;obtain⟨L1,ex1,ll⟩:=st.2 j x ex;simp only[JZ,JD]at ex1;obtain⟨dp,l0,hno,hkl,hLl⟩:=hx j x ex;have en:=pw1.en j _ ex1;simp only at en
      obtain⟨vs,evs,lvs,rvs⟩:=id ho1;have hv:j<vs.length:=by rw[lvs,lo];exact hj
      have hoj:j<os.length:=by rw[lo];exact hj
      have hat:Zl vs (0+(j:Int))=some vs[j]:=by rw[Int.zero_add];exact Qv (Jj hv)
      have hol:=rvs j vs[j] os[j] (Jj hv) (Jj hoj);have eoj:os.getD j none=os[j]:=by rw[JE,Jj hoj];rfl
      have nxt:∀{f:Nat->Dr->Dr} {xs'':List En},HN f (j+1) xs xs''->f j x.2.1=c9 nm x.2.1 os[j]->(∀i,i≠j->f i=fun D=>if i<j then c9 nm D (os.getD i none)else D)->HN (fun i D=>if i<j+1 then c9 nm D (os.getD i none)else D) (j+1) xs xs'':=fun h e1 e2=>h.ext fun i y hi=>by
        by_cases z:i=j
        · subst z
          rw[ex]at hi;cases hi
          rw[e1,Jc (by lia),eoj]
        · rw[e2 i z]
          simp only
          by_cases w:i<j
          · rw[Jc w,Jc (by lia)]
          · rw[Jb w,Jb (by lia)]
      refine⟨_,rfl,_,rfl,tl,vs,_,_,rfl,rfl,F8.of evs,hat,rfl,_,rfl,?_⟩
      cases eo:os[j]with
      | none=>
        rw[eo]at hol;have hol:vs[j]= .non:=hol
        refine Qz (by rw[hol];rfl) ⟨xs',pw1,hc1,ho1,tps,?_,_,_,_,_,rfl⟩
        exact nxt (st.mono (by lia)) (by rw[eo];simp [c9]) (fun i hi=>rfl)
      |some al=>
      obtain⟨ag,la⟩:=al;rw[eo]at hol;obtain⟨tt,ett,htt⟩:=hol;obtain⟨a0,a1,la1,la2⟩:=hos ag la (eo▸Er hoj)
      refine Qk (by rw[ett];rfl) ?_
      refine⟨_,rfl,_,rfl,tl,vs,_,_,rfl,rfl,F8.of evs,hat,tt,_,ett,.tup htt,rfl,_,_,rfl,_,_,rfl,rfl,?_⟩
      refine⟨_,rfl,_,_,rfl,rfl,_,rfl,FR,fun tq htq=>⟨tq,rfl,⟨_,Ga.of qb⟩,?_⟩⟩
      have uq:=FZ.upd (o:= .tup [.int (la-1),.int la]) htq
      have hcq:=hc1.same uq;have etq:(F5 Hx tq (.tup [.int (la-1),.int la])) tq=some (.tup [.int (la-1),.int la]):=qb
      have pwq:=pw1.same uq;have hoq:=ho1.same uq;generalize F5 Hx tq (.tup [.int (la-1),.int la])=Hq at *
      refine aB (K:=K) (a:=tq) (xs:=[.int (la-1),.int la]) (FR) (fun i ys Hy=>FZ Hq Hy/\∃qs:List Addr,ys=qs.map V.ref/\qs.length=i/\∀(k:Nat) (p:Addr),qs[k]? =some p->ci Hy p (Qt t kss nm ag (la-1+(k:Int)) 0)) ⟨FZ.refl _,[],rfl,rfl,fun k p h=>by cases h⟩ (fun i ys Hy h=>Ga.of (h.1 _ _ etq)) ?_ ?_
      · rintro i ys Hy z hz hyl ⟨sy,qs,rfl,hql,hqs⟩
        have hi2:i<2:=(Jw.mp hz).1
        have ez:z= .int (la-1+(i:Int)):=by
          match i,hi2,hz with
          |0,_,hz=>cases hz;show V.int (la-1)=V.int (la-1+0);rw[Int.add_zero]
          |1,_,hz=>cases hz;show V.int la=V.int (la-1+1);rw[Int.sub_add_cancel]
        subst ez;refine⟨_,rfl,_,rfl,_,rfl,_,rfl,FS,fun p hp=>?_⟩
        have up:=FZ.upd (o:= .tup [.str nm,.int ag,.int (la-1+(i:Int))]) hp
        refine⟨cd,tb,kt,p,t,kss,nm,ag,la-1+(i:Int),0,rfl,(hcq.same sy).same up,qb,(dp.t▸dp.ok.tp),hn,a0,a1,by lia,by lia,⟨by decide,by decide⟩,fun pr Hz sz hps=>⟨(sy.trans up).trans sz,qs++[pr],by simp,by simp [hql],fun k p' hk=>?_⟩⟩
        by_cases hkl':k<qs.length
        · rw[DR hkl']at hk
          exact Gx.same (up.trans sz) (hqs k p' hk)
        · rw[J9 (by lia)]at hk
          cases ek:k-qs.length with
          | zero => rw[ek]at hk;cases hk;obtain rfl:k=i:=by lia
                    exact hps
          |succ m=>rw[ek]at hk;cases hk
      rintro ys Hy hyl ⟨sy,qs,rfl,hql,hqs⟩ prl hprl
      obtain⟨q0,q1,rfl⟩:∃q0 q1,qs=[q0,q1]:=by
        match qs,hql with
        | [q0,q1],_=>exact⟨q0,q1,rfl⟩
      have ur:=FZ.upd (o:= .lst (([q0,q1]:List Addr).map V.ref)) hprl
      have Sr:=sy.trans ur;have eprl:(F5 Hy prl (.lst (([q0,q1]:List Addr).map V.ref))) prl=some (.lst [.ref q0,.ref q1]):=qb
      have hp0:=Gx.same ur (hqs 0 q0 rfl);have hp1:=Gx.same ur (hqs 1 q1 rfl);have pwr:=pwq.same Sr;have hor:=hoq.same Sr;have hcr:=hcq.same Sr;generalize F5 Hy prl (.lst (([q0,q1]:List Addr).map V.ref))=Hr at *
      have er:=pwr.en j _ ex1;simp only at er
      have atp:Zl (xs'.map fun x=>V.ref x.1.e) (0+(j:Int))=some (.ref x.1.e):=by rw[Int.zero_add];exact pwr.at (x:=(x.1,x.2.1,L1)) ex1
      refine⟨_,rfl,_,rfl,pl,_,_,_,rfl,rfl,F8.of pwr.pe,atp,x.1.e,_,_,_,rfl,rfl,Ga.of er.tu,rfl,x.1.a.p,rfl,er.dl.dr.no,_,rfl,prl,_,_,_,rfl,rfl,F8.of eprl,rfl,_,rfl,prl,_,_,_,rfl,rfl,F8.of eprl,rfl,?_⟩
      have e10:la-1+((1:Nat):Int)=la-1+1:=rfl
      have e00:la-1+((0:Nat):Int)=la-1:=Int.add_zero _
      rw[e00]at hp0;have rd0:=gF (nm:=nm) (d:=0) dp (l0 ag la (eoj.trans eo)) a1 (show 0<=la-1 by lia) (by lia) ⟨by decide,by decide⟩
      have rd1:=gF (nm:=nm) (c:=la-1+1) (d:=0) dp (l0 ag la (eoj.trans eo)) a1 (by lia) (by lia) ⟨by decide,by decide⟩
      have tp:t.Perm Gz:=dp.t▸dp.ok.tp
      refine⟨x.1.a,x.2.1,L1,q0,q1,Qt t kss nm ag (la-1) 0,Qt t kss nm ag (la-1+1) 0,la-1,0,0,rfl,er.dl,by lia,dp.ok,hp0,hp1,dw tp hn (by lia) (by lia) ⟨by decide,by decide⟩,dw tp hn (by lia) (by lia) ⟨by decide,by decide⟩,rd0,rd1,rfl,rfl,hno,dp.rm,fun Hs ms ds=>?_⟩
      have ms':=sU ms;have es:=er.door ms' ds;have pes:Mv (eS x.1) Hr Hs:=nD ms'
      have npl:=pwr.np j _ ex1;have pls:Hs pl=some (.lst (xs'.map fun x=> .ref x.1.e)):=pes _ _ npl pwr.pe
      have Nr:NT (eS x.1) Hr:=er.nt
      refine⟨_,rfl,_,rfl,FS,fun t3 ht3=>?_⟩
      have u3:=FZ.upd (o:= .tup [.int ag,.int la,.non]) ht3
      have e3:=es.same u3;have md3:=e3.md;obtain⟨H4,dp4,m4,kb4⟩:=md3.kn.put nm (a:=t3) (e:=⟨ag,la,none⟩) (by lia) ⟨.non,qb,rfl⟩
      refine⟨_,rfl,_,rfl,pl,_,_,_,rfl,rfl,F8.of (u3 _ _ pls),atp,x.1.e,_,_,_,rfl,rfl,Ga.of e3.tu,rfl,x.1.m,_,rfl,md3.g_known,_,rfl,x.1.kd,H4,rfl,dp4,?_⟩
      have md4:=md3.putK m4 kb4;have m4':Mv [x.1.m,x.1.kd] _ H4:=m4.mono (fun c h z=>h (by rw[Jl.mp z];simp))
      have e4:=e3.model m4' md4;have Mall:Mv (eS x.1) Hr H4:=(pes.trans u3.mv).trans (ou m4')
      have lae:la-1+1=la:=by lia
      rw[lae]at e4;have e4':HK K C H4 x.1 {x.2.1 with kn:=ze x.2.1.kn nm ⟨ag,la,none⟩} (L1++[.learn (Qt t kss nm ag (la-1) 0) (Qt t kss nm ag la 0)]) {x.2.1 with kn:=ze x.2.1.kn nm ⟨ag,la,none⟩}:=e4
      refine⟨_,pwr.step ex1 Mall e4',hcr.mv Mall Nr,hor.mv Mall Nr (ntl j x ex),(fun c ys h=>Mall.tup Nr (Sr _ _ (uq _ _ (tps c ys h)))),?_,_,_,_,_,rfl⟩
      exact nxt (HN.set (x:=x) (g:=fun i D=>if i=j then c9 nm D os[j]else if i<j then c9 nm D (os.getD i none)else D) st ex (by simp only[JZ,JD];exact ex1) (by simp) (by simp only[D8];rw[eo];rfl) (fun i hi=>by funext D;rw[Jb hi])) (by simp) (fun i hi=>by funext D;rw[Jb hi])
    · rintro σ Hx ⟨xs',pw1,hc1,ho1,tps,st,o4,o5,o6,o7,rfl⟩
      exact q Hx xs' pw1 hc1 (st.ext fun i x hi=>by
        have:i<2:=by rw[<- lx];exact(Jw.mp hi).1
        rw[Jc this]) tps
theorem kU(a:At K mg "_law_heard" bh ["_law_code","_law_pair_here","_law_plain","_law_places"])(T:Gw K mg tk)(U:G0 K C)(xU:Mf P w K mg base C "hear" ["self","thing"] 6 (nH K C))(dU:Df P w K mg base "_law_press" ["_law_code","_law_plain","_law_deed"] 4 gq)(dE:Df P w K mg base "_law_hear" ["_law_own","_law_plain"] 2 iC):Df P w K mg base "_law_heard" ["_law_code","_law_pair_here","_law_plain","_law_places"] 7 (lG K C):=by
 refine a.dq HG fun f _ A _ s H vs Q E hr h=>?_
 ·obtain⟨cd,tb,kt,pl,p,ps,b,c,H0,t,kss,xs,nm,age,n,is,rfl,pw,lx,hc,hn,a0,a1,n0,n1,hp,hps,ndi,hi2,hx,q⟩:=h
  refine⟨_,(qe (qV JJ rfl (aG (qv 3)) (qg (i:=4) HG.nd rfl (Or.inl rfl))
   (qd (zQ (zi xU U.cl hr.mo (qt qF (qt qK (qv 1) (qv 4)) qf) (qc (qo dU hr.mo (qc (qv 0) (qc (qv 2) (qc qf qa)))) qa)))
   (qe (zQ (qo dE hr.mo (qc (qt qF (qt qK (qv 1) (qv 4)) qf) (qc (qv 2) qa)))))))),?_⟩
  refine⟨_,rfl,ps,rfl,⟨_,.inl hps⟩,?_⟩
  have hlen:is.length<=2:=by
   match is,ndi,hi2 with
   | [],_,_=>exact JB _
   | [_],_,_=>exact(by decide:1<=2)
   | [_,_],_,_=>exact Je 2
   |x::y::z::r,nd,h=>
    have h1:=h x (by simp)
    have h2:=h y (by simp)
    have h3:=h z (by simp)
    simp only[Ek,Jk,not_or]at nd;lia
  refine nG (K:=K) (a:=ps) (xs:=is.map fun i:Nat=>V.int (i:Int)) (fun j σ Hx=>∃xs',Pw K C H0 Hx b c pl xs'/\GW Hx cd tb kt t kss/\Hx p=some (.tup [.str nm,.int age,.int n])/\Rd Hx ps (.tup (is.map fun i:Nat=>V.int (i:Int)))/\HN (fun i D=>if i∈is.take j then{D with kn:=F4 D nm age n}else D) j xs xs'/\∃o4,σ=[some (.ref cd),some (.ref pl),some (.ref p),some (.ref ps),o4]) ⟨xs,pw,hc,hp,hps,(HN.refl xs).ext (fun i x hi=>by simp),_,rfl⟩ (fun j σ Hx _ h=>let⟨_,_,_,_,r,_⟩:=h;.inl r) ?_ ?_
  ·rintro j z σ Hx hz ⟨xs',pw1,hc1,hp1,hps1,st,o4,rfl⟩
   rw[Jq]at hz;cases ei:is[j]? with
   |none=>rw[ei]at hz;cases hz
   |some i=>
   rw[ei]at hz;cases hz;have hmem:=DX ei;have hi:=hi2 i hmem;have hj:j<is.length:=(Jw.mp ei).1
   have hix:i<xs.length:=by rw[lx];exact hi
   have ex:=Jj hix;obtain⟨x,rx⟩:∃x,x=xs[i]:=⟨_,rfl⟩
   rw[<- rx]at ex;have nin:i∉is.take j:=fun z=>by
    obtain⟨k,hk,ek⟩:=List.mem_iff_getElem.mp z;rw[List.getElem_take]at ek;rw[DW]at hk
    exact(List.pairwise_iff_getElem.mp ndi) k j (by lia) hj (by lia) (ek.trans (Jw.mp ei).2.symm)
   obtain⟨L1,ex1,ll⟩:=st.2 i x ex;have ex1:xs'[i]? =some (x.1,x.2.1,L1):=by rw[ex1];show some (x.1,(if i∈is.take j then _ else x.2.1),L1)=_;rw[Jb nin]
   obtain⟨dp,hLl⟩:=hx i x ex;have tp:t.Perm Gz:=dp.t▸dp.ok.tp
   have en:=pw1.en i _ ex1;simp only at en
   have atp:Zl (xs'.map fun x=>V.ref x.1.e) (i:Int)=some (.ref x.1.e):=pw1.at (x:=(x.1,x.2.1,L1)) ex1
   refine⟨_,rfl,_,rfl,pl,_,_,_,rfl,rfl,F8.of pw1.pe,atp,x.1.e,_,_,_,rfl,rfl,Ga.of en.tu,rfl,x.1.a.p,rfl,en.dl.dr.no,_,rfl,_,rfl,cd,tb,kt,p,t,kss,nm,age,n,3,rfl,hc1,hp1,tp,hn,a0,a1,n0,n1,⟨by decide,by decide⟩,fun pr H2 s2 hpr=>?_⟩
   have pw2:=pw1.same s2;have en2:=en.same s2;have okP:=dw (kss:=kss) (age:=age) tp hn n0 n1 (d:=3) ⟨by decide,by decide⟩
   refine⟨x.1.a,x.2.1,L1,.ref pr,some (Qt t kss nm age n 3),rfl,en2.dl,by lia,dp.ok,⟨pr,rfl,hpr,okP⟩,(fun z=>by cases z),fun PP hP pr' q' H3 hpr' m3 _ _ d3=>?_⟩
   cases hP;rw[lL dp n0 n1 ⟨by decide,by decide⟩,uA]at d3
   have m3':=sU m3;have en3:=en2.door m3' d3;have pes:Mv (eS x.1) H2 H3:=nD m3'
   have npl:=pw2.np i _ ex1;have pl3:H3 pl=some (.lst (xs'.map fun x=> .ref x.1.e)):=pes _ _ npl pw2.pe
   have N2:NT (eS x.1) H2:=en2.nt
   have hp3:=pes.tup N2 (s2 _ _ hp1);refine⟨_,rfl,_,rfl,pl,_,_,_,rfl,rfl,F8.of pl3,atp,x.1.e,_,_,_,rfl,rfl,Ga.of en3.tu,rfl,_,rfl,x.1.m,x.1.kd,p,x.2.1,nm,age,n,rfl,en3.md,hp3,dp.ok,dp.f0,fun H4 m4 md4=>?_⟩
   have en4:=en3.model m4 md4;have Mall:Mv (eS x.1) H2 H4:=pes.trans (ou m4)
   refine⟨_,pw2.step ex1 Mall en4,(hc1.same s2).mv Mall N2,Mall.tup N2 (s2 _ _ hp1),Mall.rd N2 (Rd.same s2 hps1),?_,_,rfl⟩
   refine HN.set (x:=x) st ex (by show _=some (x.1,(if i∈is.take j then _ else x.2.1),L1);rw[Jb nin];exact ex1) (by simp) ?_ (fun k hk=>?_)
   ·show(if i∈is.take (j+1)then _ else _)=_
    rw[Jc (by rw[D4,ei];simp)]
   ·funext D
    have:k∈is.take (j+1)↔k∈is.take j:=by rw[D4,ei];simp;exact fun z=>absurd z hk
    by_cases z:k∈is.take j
    ·rw[Jc z,Jc (this.mpr z)]
    ·rw[Jb z,Jb (fun w=>z (this.mp w))]
  ·rintro σ Hx ⟨xs',pw1,hc1,hp1,hps1,st,o4,rfl⟩
   refine q Hx xs' pw1 hc1 ?_
   rw[Jf,Ee]at st;exact st.mono hlen
end
section
variable{P:Program}{w:World}{K:Frag}{mg:FX}{base:Heap}{tk:Nat->Tok}
theorem dv(a:At K mg "_law_alike" be ["_law_found","_law_due"])(T:Gw K mg tk):∀n:Nat,n<=8->Df P w K mg base "_law_alike" ["_law_found","_law_due"] (n+1) (BT n)
 |0,_=>by
  refine a.dq cZ fun f _ A _ s H vs Q E hr h=>?_
  ·obtain⟨x,y,rfl,e,q⟩:=h
   refine⟨_,(qd (qC (qW (qk Zk T.b_isinstance Ju (qc (qv 1) (qc (qu (qc (qB (v:= .ty "list") rfl T.b_list DT rfl) (qc (qB (v:= .ty "tuple") rfl T.b_tuple JI rfl) qa))) qa)))) Qq qr)
   (qd (qC (QW.pt (zX (qW (qk qG T.b_isinstance Ju (qc (qv 1) (qc (qB (v:= .ty "str") rfl T.b_str EU rfl) qa)))) (zG (qx zM (qv 1) qM (qq _))))) (qe (ql (zh zz (qv 0) (qv 1) (qq _)))) qr)
   (qe (ql (zB (qk qG T.b_isinstance Ju (qc (qv 0) (qc (qB (v:= .ty "int") rfl T.b_int EJ rfl) qa))) (zB (aQ (qk qG T.b_isinstance Ju (qc (qv 0) (qc (qB (v:= .ty "bool") rfl T.b_bool EK rfl) qa)))) (Qu (zh zz (qv 0) (qv 1) (qq _))))))))),?_⟩
   cases e with
   |int _ i=>
    refine⟨_,rfl,FR,fun p hp=>⟨_,p,["list","tuple"],"int",rfl,qb,.int i,by simp,_,rfl,?_⟩⟩
    rw[show(["list","tuple"].any (zo "int"))=false from by decide]
    refine qZ ⟨_,rfl,_,"str","int",rfl,.int i,by simp,_,rfl,?_⟩
    rw[show zo "int" "str"=false from by decide]
    refine qZ ⟨_,rfl,rfl,_,rfl,?_⟩
    refine qS (fun z=>nomatch (Jv z)) (fun _=>⟨_,rfl,_,"int","int",rfl,.int i,by simp,_,rfl,?_⟩)
    rw[show zo "int" "int"=true from by decide]
    refine za ⟨_,rfl,_,"bool","int",rfl,.int i,by simp,_,rfl,?_⟩
    rw[show zo "int" "bool"=false from by decide]
    refine⟨_,rfl,za ⟨_,rfl,_,rfl,rfl,?_⟩⟩
    rw[Jg rfl];exact q _ (FZ.upd hp)
   |str _ z=>
    refine⟨_,rfl,FR,fun p hp=>⟨_,p,["list","tuple"],"str",rfl,qb,.str z,by simp,_,rfl,?_⟩⟩
    rw[show(["list","tuple"].any (zo "str"))=false from by decide]
    refine qZ ⟨_,rfl,_,"str","str",rfl,.str z,by simp,_,rfl,?_⟩
    rw[show zo "str" "str"=true from by decide]
    refine za (za ⟨_,rfl,_,rfl,rfl,?_⟩)
    rw[Jg rfl];exact q _ (FZ.upd hp)
   |non _=>
    refine⟨_,rfl,FR,fun p hp=>⟨_,p,["list","tuple"],"NoneType",rfl,qb,.non,by simp,_,rfl,?_⟩⟩
    rw[show(["list","tuple"].any (zo "NoneType"))=false from by decide]
    refine qZ ⟨_,rfl,_,"str","NoneType",rfl,.non,by simp,_,rfl,?_⟩
    rw[show zo "NoneType" "str"=false from by decide]
    refine qZ ⟨_,rfl,rfl,_,rfl,?_⟩
    refine qS (fun _=>⟨_,rfl,_,rfl,rfl,?_⟩) (fun z=>absurd (Jg rfl) z)
    rw[Jg rfl];exact q _ (FZ.upd hp)
 |n+1,hn=>by
  have dL:=dv a T n (by lia)
  refine a.dq cZ fun f _ A _ s H vs Q E hr h=>?_
  ·obtain⟨x,y,rfl,e,q⟩:=h
   cases e with
   |int _ i=>
    refine⟨_,(qd (qC (qW (qk Zk T.b_isinstance Ju (qc (qv 1) (qc (qu (qc (qB (v:= .ty "list") rfl T.b_list DT rfl) (qc (qB (v:= .ty "tuple") rfl T.b_tuple JI rfl) qa))) qa)))) Qq qr)
   (qd (qC (QW.pt (zX (qW (qk qG T.b_isinstance Ju (qc (qv 1) (qc (qB (v:= .ty "str") rfl T.b_str EU rfl) qa)))) (zG (qx zM (qv 1) qM (qq _))))) (qe (ql (zh zz (qv 0) (qv 1) (qq _)))) qr)
   (qe (ql (zB (qk qG T.b_isinstance Ju (qc (qv 0) (qc (qB (v:= .ty "int") rfl T.b_int EJ rfl) qa))) (zB (aQ (qk qG T.b_isinstance Ju (qc (qv 0) (qc (qB (v:= .ty "bool") rfl T.b_bool EK rfl) qa)))) (Qu (zh zz (qv 0) (qv 1) (qq _))))))))),?_⟩
    refine⟨_,rfl,FR,fun p hp=>⟨_,p,["list","tuple"],"int",rfl,qb,.int i,by simp,_,rfl,?_⟩⟩
    rw[show(["list","tuple"].any (zo "int"))=false from by decide]
    refine qZ ⟨_,rfl,_,"str","int",rfl,.int i,by simp,_,rfl,?_⟩
    rw[show zo "int" "str"=false from by decide]
    refine qZ ⟨_,rfl,rfl,_,rfl,?_⟩
    refine qS (fun z=>nomatch (Jv z)) (fun _=>⟨_,rfl,_,"int","int",rfl,.int i,by simp,_,rfl,?_⟩)
    rw[show zo "int" "int"=true from by decide]
    refine za ⟨_,rfl,_,"bool","int",rfl,.int i,by simp,_,rfl,?_⟩
    rw[show zo "int" "bool"=false from by decide]
    refine⟨_,rfl,za ⟨_,rfl,_,rfl,rfl,?_⟩⟩
    rw[Jg rfl];exact q _ (FZ.upd hp)
   |str _ z=>
    refine⟨_,(qd (qC (qW (qk Zk T.b_isinstance Ju (qc (qv 1) (qc (qu (qc (qB (v:= .ty "list") rfl T.b_list DT rfl) (qc (qB (v:= .ty "tuple") rfl T.b_tuple JI rfl) qa))) qa)))) Qq qr)
   (qd (qC (QW.pt (zX (qW (qk qG T.b_isinstance Ju (qc (qv 1) (qc (qB (v:= .ty "str") rfl T.b_str EU rfl) qa)))) (zG (qx zM (qv 1) qM (qq _))))) (qe (ql (zh zz (qv 0) (qv 1) (qq _)))) qr)
   (qe (ql (zB (qk qG T.b_isinstance Ju (qc (qv 0) (qc (qB (v:= .ty "int") rfl T.b_int EJ rfl) qa))) (zB (aQ (qk qG T.b_isinstance Ju (qc (qv 0) (qc (qB (v:= .ty "bool") rfl T.b_bool EK rfl) qa)))) (Qu (zh zz (qv 0) (qv 1) (qq _))))))))),?_⟩
    refine⟨_,rfl,FR,fun p hp=>⟨_,p,["list","tuple"],"str",rfl,qb,.str z,by simp,_,rfl,?_⟩⟩
    rw[show(["list","tuple"].any (zo "str"))=false from by decide]
    refine qZ ⟨_,rfl,_,"str","str",rfl,.str z,by simp,_,rfl,?_⟩
    rw[show zo "str" "str"=true from by decide]
    refine za (za ⟨_,rfl,_,rfl,rfl,?_⟩)
    rw[Jg rfl];exact q _ (FZ.upd hp)
   |non _=>
    refine⟨_,(qd (qC (qW (qk Zk T.b_isinstance Ju (qc (qv 1) (qc (qu (qc (qB (v:= .ty "list") rfl T.b_list DT rfl) (qc (qB (v:= .ty "tuple") rfl T.b_tuple JI rfl) qa))) qa)))) Qq qr)
   (qd (qC (QW.pt (zX (qW (qk qG T.b_isinstance Ju (qc (qv 1) (qc (qB (v:= .ty "str") rfl T.b_str EU rfl) qa)))) (zG (qx zM (qv 1) qM (qq _))))) (qe (ql (zh zz (qv 0) (qv 1) (qq _)))) qr)
   (qe (ql (zB (qk qG T.b_isinstance Ju (qc (qv 0) (qc (qB (v:= .ty "int") rfl T.b_int EJ rfl) qa))) (zB (aQ (qk qG T.b_isinstance Ju (qc (qv 0) (qc (qB (v:= .ty "bool") rfl T.b_bool EK rfl) qa)))) (Qu (zh zz (qv 0) (qv 1) (qq _))))))))),?_⟩
    refine⟨_,rfl,FR,fun p hp=>⟨_,p,["list","tuple"],"NoneType",rfl,qb,.non,by simp,_,rfl,?_⟩⟩
    rw[show(["list","tuple"].any (zo "NoneType"))=false from by decide]
    refine qZ ⟨_,rfl,_,"str","NoneType",rfl,.non,by simp,_,rfl,?_⟩
    rw[show zo "NoneType" "str"=false from by decide]
    refine qZ ⟨_,rfl,rfl,_,rfl,?_⟩
    refine qS (fun _=>⟨_,rfl,_,rfl,rfl,?_⟩) (fun z=>absurd (Jg rfl) z)
    rw[Jg rfl];exact q _ (FZ.upd hp)
   | @tup _ c d xs ys h1 h2 hl hz hi=>
    refine⟨_,(qd (qC (qW (qk Zk T.b_isinstance Ju (qc (qv 1) (qc (qu (qc (qB (v:= .ty "list") rfl T.b_list DT rfl) (qc (qB (v:= .ty "tuple") rfl T.b_tuple JI rfl) qa))) qa)))) (qd (qC (QW.pt (zX (qx Z9 (qk qG T.b_isinstance Ju (qc (qv 0) (qc (qB (v:= .ty "list") rfl T.b_list DT rfl) qa))) (qk qG T.b_isinstance Ju (qc (qv 1) (qc (qB (v:= .ty "list") rfl T.b_list DT rfl) qa))) (qq _)) (zG (qx Z9 (qk qG T.b_isinstance Ju (qc (qv 0) (qc (qB (v:= .ty "tuple") rfl T.b_tuple JI rfl) qa))) (qk qG T.b_isinstance Ju (qc (qv 1) (qc (qB (v:= .ty "tuple") rfl T.b_tuple JI rfl) qa))) (qq _))))) (qe (ql ZM)) qr)
   (qd (qC (qx Z9 (qk qP T.b_len J8 (qc (qv 0) qa)) (qk qP T.b_len J8 (qc (qv 1) qa)) (qq _)) (qe (ql ZM)) qr)
   (qe (ql (qk (aU rfl) T.b_all FE (qc (zN (own:=["_law_part","_law_more"]) (fr:=[]) (js:=[]) rfl (Bi rfl T.b_zip (qc (qv 0) (qc (qv 1) qa))) rfl (fun _ _ h=>nomatch h) rfl (bg rfl (by decide +kernel) (by decide +kernel) (by decide +kernel)) (fun _ _ _ _=>iA (K:=K) rfl 2 rfl (qm (qg (i:=0) (show List.Nodup (["_law_part","_law_more"]:List Str)from by decide +kernel) rfl (Or.inl rfl) (.inr rfl)) (qm (qg (i:=1) (show List.Nodup (["_law_part","_law_more"]:List Str)from by decide +kernel) rfl (Or.inl rfl) (.inr rfl)) qO))) (fun _ _ _ _=>(qo dL hr.mo (qc (qv 0) (qc (qv 1) qa))))) qa)))))) qr)
   (qd (qC (QW.pt (zX (qW (qk qG T.b_isinstance Ju (qc (qv 1) (qc (qB (v:= .ty "str") rfl T.b_str EU rfl) qa)))) (zG (qx zM (qv 1) qM (qq _))))) (qe (ql (zh zz (qv 0) (qv 1) (qq _)))) qr)
   (qe (ql (zB (qk qG T.b_isinstance Ju (qc (qv 0) (qc (qB (v:= .ty "int") rfl T.b_int EJ rfl) qa))) (zB (aQ (qk qG T.b_isinstance Ju (qc (qv 0) (qc (qB (v:= .ty "bool") rfl T.b_bool EK rfl) qa)))) (Qu (zh zz (qv 0) (qv 1) (qq _))))))))),?_⟩
    refine⟨_,rfl,FR,fun p hp=>⟨_,p,["list","tuple"],"tuple",rfl,qb,.tup (Rd.same (FZ.upd hp) h2),by simp,_,rfl,?_⟩⟩
    rw[show(["list","tuple"].any (zo "tuple"))=true from by decide]
    have s1:FZ H _:=FZ.upd (o:= .tup (["list","tuple"].map V.ty)) hp
    have k1:=Rd.same s1 h1;have k2:=Rd.same s1 h2;refine za ⟨_,rfl,_,"list","tuple",rfl,.tup k1,by simp,_,rfl,_,"list","tuple",rfl,.tup k2,by simp,rfl,_,rfl,?_⟩
    refine Z8 rfl ⟨_,rfl,_,"tuple","tuple",rfl,.tup k1,by simp,_,rfl,_,"tuple","tuple",rfl,.tup k2,by simp,rfl,_,rfl,?_⟩
    refine Z8 rfl ?_
    refine⟨_,rfl,c,_,rfl,.inr (.inl k1),_,rfl,d,_,rfl,.inr (.inl k2),rfl,_,rfl,?_⟩
    refine Z8 (by rw[hl]) ?_
    refine⟨_,rfl,_,rfl,c,d,xs,ys,rfl,k1,k2,vL hl hz (fun i zs H2=>zs=(List.replicate i true).map V.bl/\FZ H H2) ⟨rfl,s1⟩ (fun i zs H2 ⟨_,s2⟩=>⟨Rd.same s2 h1,Rd.same s2 h2⟩) ?_ ?_⟩
    ·rintro i zs H2 pp x y hx hy hzl ⟨rfl,s2⟩ hpp
     have s3:=s2.trans (FZ.upd (o:= .tup [x,y]) hpp)
     refine⟨_,rfl,_,rfl,x,y,rfl,(hi i x y hx hy).same s3,fun H4 s4=>⟨?_,s3.trans s4⟩⟩
     rw[List.replicate_succ',JU];rfl
    ·rintro zs H2 hzl ⟨rfl,s2⟩ p2 hp2
     refine⟨p2,_,rfl,F8.of qb,?_⟩
     rw[show(List.replicate xs.length true).all id=true from by simp]
     exact q _ (s2.trans (FZ.upd hp2))
   | @lst _ c d xs ys h1 h2 hl hz hi=>
    refine⟨_,(qd (qC (qW (qk Zk T.b_isinstance Ju (qc (qv 1) (qc (qu (qc (qB (v:= .ty "list") rfl T.b_list DT rfl) (qc (qB (v:= .ty "tuple") rfl T.b_tuple JI rfl) qa))) qa)))) (qd (qC (QW.pt (zX (qx Z9 (qk qG T.b_isinstance Ju (qc (qv 0) (qc (qB (v:= .ty "list") rfl T.b_list DT rfl) qa))) (qk qG T.b_isinstance Ju (qc (qv 1) (qc (qB (v:= .ty "list") rfl T.b_list DT rfl) qa))) (qq _)) (zG (qx Z9 (qk qG T.b_isinstance Ju (qc (qv 0) (qc (qB (v:= .ty "tuple") rfl T.b_tuple JI rfl) qa))) (qk qG T.b_isinstance Ju (qc (qv 1) (qc (qB (v:= .ty "tuple") rfl T.b_tuple JI rfl) qa))) (qq _))))) (qe (ql ZM)) qr)
   (qd (qC (qx Z9 (qk qP T.b_len J8 (qc (qv 0) qa)) (qk qP T.b_len J8 (qc (qv 1) qa)) (qq _)) (qe (ql ZM)) qr)
   (qe (ql (qk (aU rfl) T.b_all FE (qc (zN (own:=["_law_part","_law_more"]) (fr:=[]) (js:=[]) rfl (Ad rfl T.b_zip (qc (qv 0) (qc (qv 1) qa))) rfl (fun _ _ h=>nomatch h) rfl (bg rfl (by decide +kernel) (by decide +kernel) (by decide +kernel)) (fun _ _ _ _=>iA (K:=K) rfl 2 rfl (qm (qg (i:=0) (show List.Nodup (["_law_part","_law_more"]:List Str)from by decide +kernel) rfl (Or.inl rfl) (.inr rfl)) (qm (qg (i:=1) (show List.Nodup (["_law_part","_law_more"]:List Str)from by decide +kernel) rfl (Or.inl rfl) (.inr rfl)) qO))) (fun _ _ _ _=>(qo dL hr.mo (qc (qv 0) (qc (qv 1) qa))))) qa)))))) qr)
   (qd (qC (QW.pt (zX (qW (qk qG T.b_isinstance Ju (qc (qv 1) (qc (qB (v:= .ty "str") rfl T.b_str EU rfl) qa)))) (zG (qx zM (qv 1) qM (qq _))))) (qe (ql (zh zz (qv 0) (qv 1) (qq _)))) qr)
   (qe (ql (zB (qk qG T.b_isinstance Ju (qc (qv 0) (qc (qB (v:= .ty "int") rfl T.b_int EJ rfl) qa))) (zB (aQ (qk qG T.b_isinstance Ju (qc (qv 0) (qc (qB (v:= .ty "bool") rfl T.b_bool EK rfl) qa)))) (Qu (zh zz (qv 0) (qv 1) (qq _))))))))),?_⟩
    refine⟨_,rfl,FR,fun p hp=>⟨_,p,["list","tuple"],"list",rfl,qb,.lst (FZ.upd hp _ _ h2),by simp,_,rfl,?_⟩⟩
    rw[show(["list","tuple"].any (zo "list"))=true from by decide]
    have s1:FZ H _:=FZ.upd (o:= .tup (["list","tuple"].map V.ty)) hp
    have k1:=s1 _ _ h1;have k2:=s1 _ _ h2;refine za ⟨_,rfl,_,"list","list",rfl,.lst k1,by simp,_,rfl,_,"list","list",rfl,.lst k2,by simp,rfl,_,rfl,?_⟩
    refine Z8 rfl ⟨_,rfl,_,"tuple","list",rfl,.lst k1,by simp,_,rfl,_,"tuple","list",rfl,.lst k2,by simp,rfl,_,rfl,?_⟩
    refine Z8 rfl ?_
    refine⟨_,rfl,c,_,rfl,.inl (F8.of k1),_,rfl,d,_,rfl,.inl (F8.of k2),rfl,_,rfl,?_⟩
    refine Z8 (by rw[hl]) ?_
    refine⟨_,rfl,_,rfl,c,d,xs,ys,rfl,.inl k1,.inl k2,uO hl hz (fun i zs H2=>zs=(List.replicate i true).map V.bl/\FZ H H2) ⟨rfl,s1⟩ (fun i zs H2 ⟨_,s2⟩=>⟨.inl (s2 _ _ h1),.inl (s2 _ _ h2)⟩) ?_ ?_⟩
    ·rintro i zs H2 pp x y hx hy hzl ⟨rfl,s2⟩ hpp
     have s3:=s2.trans (FZ.upd (o:= .tup [x,y]) hpp)
     refine⟨_,rfl,_,rfl,x,y,rfl,(hi i x y hx hy).same s3,fun H4 s4=>⟨?_,s3.trans s4⟩⟩
     rw[List.replicate_succ',JU];rfl
    ·rintro zs H2 hzl ⟨rfl,s2⟩ p2 hp2
     refine⟨p2,_,rfl,F8.of qb,?_⟩
     rw[show(List.replicate xs.length true).all id=true from by simp]
     exact q _ (s2.trans (FZ.upd hp2))
end
section
variable{P:Program}{w:World}{K:Frag}{mg:FX}{base:Heap}{tk:Nat->Tok}
def ug:Sp:=fun vs H Q _=>∃x:Bool,vs=[.bl x,.bl x]/\Q (.bl true) H
theorem sF(a:At K mg "_law_is" gg ["_law_found","_law_due"])(T:Gw K mg tk):Df P w K mg base "_law_is" ["_law_found","_law_due"] 1 ug:=by
 refine a.dq uC fun f _ A _ s H vs Q E hr h=>?_
 ·obtain⟨x,rfl,q⟩:=h
  refine⟨_,(qe (ql (zB (qk fU T.b_isinstance Ju (qc (qv 0) (qc (qB (v:= .ty "bool") rfl T.b_bool EK rfl) qa))) (Qu (zh zz (qv 0) (qv 1) (qq _)))))),?_⟩
  refine⟨_,rfl,.bl x,"bool","bool",rfl,.bl x,by simp [fY],by simp [fV],?_⟩
  rw[show zo "bool" "bool"=true from by decide]
  refine⟨_,rfl,za ⟨_,rfl,_,rfl,rfl,?_⟩⟩
  rw[Jg rfl];exact q
end
end Lw
namespace L3
open PySem PySem.Spec PyProof.Rows L2
open PySem.W (kdl_dict kdl_call)
section
variable{X:Cx}
theorem jC:∀{us:List Value} {ss:List Str},F6 (ss.map V.str) us->StrsAre us ss
 | [],[],_=> .nil
 | [],_::_,h=>by cases h
 |_::_,[],h=>by cases h
 |u::us,x::ss,h=>by
  cases h with
  |cons r t=>obtain⟨t',rfl⟩:=r;exact .cons _ _ (jC t)
theorem cX:qT X (.builtin "sorted") (fun xs H Q=>∃(p:Addr) (ss:List Str),xs=[.ref p]/\H p=some (.lst (ss.map V.str))/\ss.length<64/\
  ∀l ss',H l=none->ss'.Perm ss->sortedS ss'=true->Q (.ref l) (F5 H l (.lst (ss'.map V.str)))):=by
 intro tx s σ H xs us Q I r h;obtain⟨p,ss,rfl,hp,h64,q⟩:=h;obtain⟨u,rfl,ru⟩:=zL r;cases ru;obtain⟨its,r1,p1,_⟩:=I.list (F8.of hp)
 have hl:=r1.length;rw[Jf]at hl;refine sorted_strs p1.isList (jC r1) (by lia) fun out ss' a1 a2 a3=>?_
 obtain⟨e,he⟩:=sortedAll_at s.heap its out;refine⟨.ref (s.heap.objs.size+1),_,I.laid (t':=s.toks) (o:= .lst (ss'.map V.str)) (fun b o q=>sortedAll_old q) (Eb _) ?_,rfl,q _ ss' (I.hok.fresh (Eb _)) a2 a3⟩
 have hm:ss'.length=ss.length:=a2.length_eq
 exact⟨by rw[Jf,JH];lia,out.toList,e,aT a1,he⟩
end
end L3
namespace Lw
open PySem L2 L3
section
variable{P:Program}{w:World}{K:Frag}{mg:FX}{base:Heap}{tk:Nat->Tok}
theorem jV(a:At K mg "_law_window" aL ["_law_base"])(T:Gw K mg tk):Df P w K mg base "_law_window" ["_law_base"] 1 (eu 34):=by
 refine a.dq jY fun f _ A _ s H vs Q E hr h=>?_
 ·obtain⟨ba,rfl,b0,b1,q⟩:=h
  refine⟨_,(qe (ql (qI (mS rfl) T.b_list DT (qc (qI tJ T.b_range PyProof.Rows.boot_range (qc (qv 0) (qc (qp qJ (qk (zZ rfl) T.b_min PyProof.Rows.boot_min (qc qf (qc (qp qJ (qv 0) qf) qa))) qf) qa))) qa)))),?_⟩
  refine⟨_,rfl,_,rfl,_,_,rfl,rfl,_,_,rfl,_,_,rfl,rfl,_,_,rfl,fun r hr0=>⟨r,ba,((if ba+34<4095 then ba+34 else 4095)-ba+1).toNat,rfl,?_,by lia,by lia,?_,fun l hl=>?_⟩⟩
  ·rw[qb]
   congr 2
   rw[Int.toNat_of_nonneg (by split<;>lia)];lia
  ·split<;>lia
  ·exact q l _ ((FZ.upd hr0).trans (FZ.upd hl)) qb
theorem oZ(a:At K mg "_law_one" eE ["_law_owns","_law_drawn_here"])(T:Gw K mg tk)(dI:Df P w K mg base "_law_word" ["_law_own","_law_plain"] 1 fk)(dO:Df P w K mg base "_law_window" ["_law_base"] 1 (eu 34)):Df P w K mg base "_law_one" ["_law_owns","_law_drawn_here"] 2 (lX 34):=by
 refine a.dq GF fun f _ A _ s H vs Q E hr h=>?_
 ·obtain⟨ol,m1,kd1,m2,kd2,dr,nl,D,D',nms,many,ba,rfl,hol,md,md',hdr,hnl,l64,m8,b0,b1,q⟩:=h
  refine⟨_,(qd (qV JJ rfl (zI (qk cX T.b_sorted PyProof.Rows.boot_sorted (qc (qt qF (qv 1) qf) qa))) (qg (i:=2) GF.nd rfl (Or.inl rfl))
   (qe (qV JJ rfl (zE rfl T.b_range (qc (qt qF (qv 1) qf) qa)) (qg (i:=3) GF.nd rfl (Or.inl rfl))
   (qe (qV JJ rfl (zI (qo dO hr.mo (qc (qt qF (qv 1) qf) qa))) (qg (i:=4) GF.nd rfl (Or.inl rfl))
   (qd (qy (i:=5) GF.nd rfl (Or.inr rfl) (qu (qc (qv 2) (qc (qv 3) (qc (qv 4) qa)))))
   (qd (iJ (i:=6) GF.nd rfl (Or.inl rfl) (own:=["_law_own"]) (fr:=["_law_plain"]) (js:=[5]) rfl (zI (qv 0)) rfl (ie rfl) rfl (im rfl (by decide +kernel) (by decide +kernel) (by decide +kernel) rfl rfl rfl) (fun _ _ _ _=>qg (i:=0) (show List.Nodup (["_law_own","_law_plain"]:List Str)from by decide +kernel) rfl (Or.inl rfl) (.inr rfl)) (fun _ _ _ _=>(qo dI hr.mo (qc (qv 0) (qc (qv 1) qa)))))
   (qe (qC (qx zz (Z4 EB PySem.F.slot_list_count PySem.F.type_list_count tY (qv 6) (qc qw qa)) qf (qq _)) (qe (ql (qu (qc (qv 5) qa)))) qr)))))))))
   (qe (ql qM))),?_⟩
  refine⟨_,rfl,dr,_,_,_,rfl,rfl,Ga.of hdr,rfl,nl,nms,rfl,hnl,l64,fun l5 ms hl5 pm so=>⟨l5,rfl,⟨_,F8.of qb⟩,?_⟩⟩
  have u5:=FZ.upd (o:= .lst (ms.map V.str)) hl5
  have q:∀u H',FZ H H'->HV H' u (ms.findSome? (zT D D' many ba (qU 34 ba)))->Q u H':=fun u H' s t=>q u ms H' s pm so t
  have lm:ms.length<64:=by rw[pm.length_eq];exact l64
  have wn:qU 34 ba<=41:=by unfold qU;split<;>lia
  refine Qc (K:=K) (a:=l5) (xs:=ms.map V.str) (fun i σ Hx=>FZ H Hx/\Hx l5=some (.lst (ms.map V.str))/\(∀j z,j<i->ms[j]? =some z->zT D D' many ba (qU 34 ba) z=none)/\∃o2 o3 o4 o5 o6,σ=[some (.ref ol),some (.ref dr),o2,o3,o4,o5,o6]) ⟨u5,qb,fun j z hj _=>absurd hj (Nat.not_lt_zero _),_,_,_,_,_,rfl⟩ (fun i σ Hx _ h=>F8.of h.2.1) ?_ ?_
  ·rintro i z σ H6 hz ⟨s6,e6,no,o2,o3,o4,o5,o6,rfl⟩
   rw[Jq]at hz;obtain⟨nm,hnm,rfl⟩:=DQ.mp hz;refine⟨_,rfl,dr,_,_,_,rfl,rfl,Ga.of (s6 _ _ hdr),rfl,_,rfl,by lia,by lia,?_⟩
   rw[DZ];refine zY (n:=many) (Pv:=fun k σ Hx=>FZ H Hx/\Hx l5=some (.lst (ms.map V.str))/\(∀x:Int,0<=x->x<0+(k:Int)->lC D D' ba (qU 34 ba) nm x=none)/\∃o3 o4 o5 o6,σ=[some (.ref ol),some (.ref dr),some (.str nm),o3,o4,o5,o6]) ⟨s6,e6,fun x h1 h2=>by lia,_,_,_,_,rfl⟩ ?_ ?_
   ·rintro k σ H7 hk ⟨s7,e7,no7,o3,o4,o5,o6,rfl⟩
    obtain⟨Ag,eA⟩:∃Ag:Int,Ag=0+(k:Int):=⟨_,rfl⟩
    rw[<- eA]at no7⊢;refine⟨_,rfl,dr,_,_,_,rfl,rfl,Ga.of (s7 _ _ hdr),rfl,ba,rfl,b0,b1,fun wl H8 s8 e8=>⟨wl,rfl,⟨_,F8.of e8⟩,?_⟩⟩
    have e8:H8 wl=some (.lst (Z1 ba (qU 34 ba))):=e8
    refine Qc (K:=K) (a:=wl) (xs:=Z1 ba (qU 34 ba)) (fun c σ Hx=>FZ H8 Hx/\(∀x:Int,ba<=x->x<ba+(c:Int)->bG D nm Ag x=bG D' nm Ag x)/\∃o4 o5 o6,σ=[some (.ref ol),some (.ref dr),some (.str nm),some (.int Ag),o4,o5,o6]) ⟨FZ.refl _,fun x h1 h2=>by lia,_,_,_,rfl⟩ (fun c σ Hx _ h=>F8.of (h.1 _ _ e8)) ?_ ?_
    ·rintro c z σ H9 hc ⟨s9,no9,o4,o5,o6,rfl⟩
     obtain⟨rfl,hcn⟩:=oR hc;obtain⟨X,eX⟩:∃X:Int,X=ba+(c:Int):=⟨_,rfl⟩
     rw[<- eX]at no9⊢;have S9:=(s7.trans s8).trans s9;refine⟨_,rfl,_,rfl,_,rfl,FS,fun pp hpp=>?_⟩
     have up:=FZ.upd (o:= .tup [.str nm,.int Ag,.int X]) hpp
     have epp:(F5 H9 pp (.tup [.str nm,.int Ag,.int X])) pp=some (.tup [.str nm,.int Ag,.int X]):=qb
     have Sa:=S9.trans up;refine⟨_,rfl,ol,rfl,⟨_,F8.of (Sa _ _ hol)⟩,?_⟩
     generalize F5 H9 pp (.tup [.str nm,.int Ag,.int X])=Ha at *
     refine Zj (K:=K) (a:=ol) (xs:=[.ref m1,.ref m2]) (FR) (fun i ys Hx=>FZ Ha Hx/\ys=([qA D nm Ag X,qA D' nm Ag X].take i).map V.str) ⟨FZ.refl _,rfl⟩ (fun i ys Hx h=>F8.of (h.1 _ _ (Sa _ _ hol))) ?_ ?_
     ·rintro j ys Hb x hx hyl ⟨sb,rfl⟩
      have Sb:=Sa.trans sb
      match j,hx with
      |0,hx=>
       cases hx
       exact⟨_,rfl,_,rfl,m1,kd1,pp,D,nm,Ag,X,rfl,md.same Sb,sb _ _ epp,fun Hc sc=>⟨sb.trans sc,rfl⟩⟩
      |1,hx=>
       cases hx
       exact⟨_,rfl,_,rfl,m2,kd2,pp,D',nm,Ag,X,rfl,md'.same Sb,sb _ _ epp,fun Hc sc=>⟨sb.trans sc,rfl⟩⟩
     ·rintro ys Hb hyl ⟨sb,rfl⟩ wl2 hwl2
      have uw:=FZ.upd (o:= .lst (([qA D nm Ag X,qA D' nm Ag X].take 2).map V.str)) hwl2
      refine⟨_,rfl,.inl ⟨rfl,_,F8.of qb⟩,wl2,[qA D nm Ag X,qA D' nm Ag X],"open",rfl,rfl,qb,rfl,_,rfl,?_⟩
      have cnt:([qA D nm Ag X,qA D' nm Ag X].count ("open":Str)=1)↔¬(bG D nm Ag X=bG D' nm Ag X):=by
       unfold bG;rw[List.count_cons,List.count_cons,List.count_nil]
       by_cases z1:qA D nm Ag X="open"<;>by_cases z2:qA D' nm Ag X="open"<;>simp [z1,z2]
      refine qS (fun y=>?_) (fun y=>?_)
      ·have hne:¬(bG D nm Ag X=bG D' nm Ag X):=cnt.mp (by have:=Jv y;injection this with this;lia)
       refine⟨_,rfl,FQ,fun r hr9=>?_⟩
       have ur:=FZ.upd (o:= .tup [.ref pp]) hr9
       have e1:lC D D' ba (qU 34 ba) nm Ag=some [(nm,Ag,X)]:=by
        unfold lC;exact Qr hcn (by rw[<- eX];exact Jb hne) fun x x0 x1=>Jc (no9 x x0 (by lia))
       have e2:zT D D' many ba (qU 34 ba) nm=some [(nm,Ag,X)]:=by
        unfold zT;exact Qr hk (by rw[<- eA];exact e1) fun x x0 x1=>no7 x x0 (by lia)
       have:=q (.ref r) _ (((Sa.trans sb).trans uw).trans ur)
       rw[bP (f:=zT D D' many ba (qU 34 ba)) hnm e2 no]at this
       exact this (HV.one (z:=(nm,Ag,X)) qb (ur _ _ (uw _ _ (sb _ _ epp))))
      ·have heq:bG D nm Ag X=bG D' nm Ag X:=Decidable.not_not.mp fun z=>y (Jg (by rw[cnt.mpr z];rfl))
       refine⟨((s9.trans up).trans sb).trans uw,fun x x0 x1=>?_,_,_,_,rfl⟩
       by_cases hx:x<X
       ·exact no9 x x0 hx
       ·obtain rfl:x=X:=by lia
        exact heq
    ·rintro σ H9 ⟨s9,no9,o4,o5,o6,rfl⟩
     refine⟨(s7.trans s8).trans s9,s9 _ _ (s8 _ _ e7),fun x x0 x1=>?_,_,_,_,_,rfl⟩
     by_cases hx:x<Ag
     ·exact no7 x x0 hx
     ·obtain rfl:x=Ag:=by lia
      unfold lC;exact zm fun y y0 y1=>Jc (no9 y y0 (by rw[lW];exact y1))
   ·rintro σ H7 ⟨s7,e7,no7,o3,o4,o5,o6,rfl⟩
    refine⟨s7,e7,fun j z hj hz2=>?_,_,_,_,_,_,rfl⟩
    by_cases hji:j<i
    ·exact no j z hji hz2
    ·obtain rfl:j=i:=by lia
     have ez:z=nm:=Jy (hz2.symm.trans hnm)
     rw[ez];unfold zT;exact zm no7
  ·rintro σ H6 ⟨s6,e6,no,o2,o3,o4,o5,o6,rfl⟩
   have e1:ms.findSome? (zT D D' many ba (qU 34 ba))=none:=bF fun x hx=>by
    obtain⟨j,hj,rfl⟩:=List.mem_iff_getElem.mp hx;exact no j _ (by rw[Jf];exact hj) (Jj hj)
   have:=q .non _ s6
   rw[e1]at this;exact this rfl
end
section
variable{P:Program}{w:World}{K:Frag}{mg:FX}{base:Heap}{tk:Nat->Tok}
theorem pK(a:At K mg "_law_two" du ["_law_owns","_law_drawn_here"])(T:Gw K mg tk)(dI:Df P w K mg base "_law_word" ["_law_own","_law_plain"] 1 fk)(dE:Df P w K mg base "_law_hear" ["_law_own","_law_plain"] 2 iC)(dO:Df P w K mg base "_law_window" ["_law_base"] 1 (eu 34))(xO:Df P w K mg base "_law_copied" ["_law_own"] 1 mK)(xE:Df P w K mg base "_law_one" ["_law_owns","_law_drawn_here"] 2 (lX 34)):Df P w K mg base "_law_two" ["_law_owns","_law_drawn_here"] 3 (uQ 34):=by
 refine a.dq Gk fun f _ A _ s H vs Q E hr h=>?_
 ·obtain⟨ol,m1,kd1,m2,kd2,dr,nl,D,D',nms,many,ba,rfl,hol,md,md',ok1,ok2,nf1,nf2,hdr,hnl,l64,m8,b0,b1,q⟩:=h
  refine⟨_,(qd (qV JJ rfl (zI (qk cX T.b_sorted PyProof.Rows.boot_sorted (qc (qt qF (qv 1) qf) qa))) (qg (i:=2) Gk.nd rfl (Or.inl rfl))
   (qe (qV JJ rfl (zE rfl T.b_range (qc (qt qF (qv 1) qf) qa)) (qg (i:=3) Gk.nd rfl (Or.inl rfl))
   (qe (qV JJ rfl (zI (qo dO hr.mo (qc (qt qF (qv 1) qf) qa))) (qg (i:=4) Gk.nd rfl (Or.inl rfl))
   (qd (qy (i:=5) Gk.nd rfl (Or.inr rfl) (qu (qc (qv 2) (qc (qv 3) (qc (qv 4) qa)))))
   (qe (qC (qx (AC hr) (zN (own:=["_law_own"]) (fr:=["_law_plain"]) (js:=[5]) rfl (zI (qv 0)) rfl (ie rfl) rfl (im rfl (by decide +kernel) (by decide +kernel) (by decide +kernel) rfl rfl rfl) (fun _ _ _ _=>qg (i:=0) (show List.Nodup (["_law_own","_law_plain"]:List Str)from by decide +kernel) rfl (Or.inl rfl) (.inr rfl)) (fun _ _ _ _=>(qo dI hr.mo (qc (qv 0) (qc (qv 1) qa))))) (zb (qc qw (qc qw qa))) (qq _)) (qd (iJ (i:=6) Gk.nd rfl (Or.inl rfl) (own:=["_law_own"]) (fr:=[]) (js:=[]) rfl (zI (qv 0)) rfl (fun _ _ h=>nomatch h) rfl (bg rfl (by decide +kernel) (by decide +kernel) (by decide +kernel)) (fun _ _ _ _=>qg (i:=0) (show List.Nodup (["_law_own"]:List Str)from by decide +kernel) rfl (Or.inl rfl) (.inr rfl)) (fun _ _ _ _=>(qo xO hr.mo (qc (qv 0) qa))))
   (qd (qV JJ rfl (zI (qv 6)) (qg (i:=7) Gk.nd rfl (Or.inl rfl))
   (qe (zQ (qo dE hr.mo (qc (qv 7) (qc (qv 5) qa))))))
   (qd (qy (i:=8) Gk.nd rfl (Or.inl rfl) (qo xE hr.mo (qc (qv 6) (qc (qu (qc (zb (qc (qv 2) qa)) (qc (qt qF (qv 1) qf) (qc (qt qF (qv 1) qf) qa)))) qa))))
   (qe (qC (qx aj (qv 8) qM (qq _)) (qe (ql (qp ZH (qu (qc (qv 5) qa)) (qv 8)))) qr))))) qr))))))))
   (qe (ql qM))),?_⟩
  refine⟨_,rfl,dr,_,_,_,rfl,rfl,Ga.of hdr,rfl,nl,nms,rfl,hnl,l64,fun l5 ms hl5 pm so=>⟨l5,rfl,⟨_,F8.of qb⟩,?_⟩⟩
  have u5:=FZ.upd (o:= .lst (ms.map V.str)) hl5
  have q:∀u H',FZ H H'->HV H' u (ms.findSome? (ZV D D' many ba (qU 34 ba)))->Q u H':=fun u H' s t=>q u ms H' s pm so t
  refine Qc (K:=K) (a:=l5) (xs:=ms.map V.str) (fun i σ Hx=>FZ H Hx/\Hx l5=some (.lst (ms.map V.str))/\(∀j z,j<i->ms[j]? =some z->ZV D D' many ba (qU 34 ba) z=none)/\∃o2 o3 o4 o5 o6 o7 o8,σ=[some (.ref ol),some (.ref dr),o2,o3,o4,o5,o6,o7,o8]) ⟨u5,qb,fun j z hj _=>absurd hj (Nat.not_lt_zero _),_,_,_,_,_,_,_,rfl⟩ (fun i σ Hx _ h=>F8.of h.2.1) ?_ ?_
  ·rintro i z σ H6 hz ⟨s6,e6,no,o2,o3,o4,o5,o6,o7,o8,rfl⟩
   rw[Jq]at hz;obtain⟨nm,hnm,rfl⟩:=DQ.mp hz;obtain⟨fC,eC⟩:∃fC:Int->Int->Option Qs,fC=fun a c=>if qA D nm a c=""/\qA D' nm a c="" then none else(zT {D with kn:=F4 D nm a c} {D' with kn:=F4 D' nm a c} many ba (qU 34 ba) nm).map fun r=>(nm,a,c)::r:=⟨_,rfl⟩
   have eT:ZV D D' many ba (qU 34 ba) nm=Qb 0 many fun a=>Qb ba (qU 34 ba) fun c=>fC a c:=by rw[eC];rfl
   refine⟨_,rfl,dr,_,_,_,rfl,rfl,Ga.of (s6 _ _ hdr),rfl,_,rfl,by lia,by lia,?_⟩
   rw[DZ];refine zY (n:=many) (Pv:=fun k σ Hx=>FZ H Hx/\Hx l5=some (.lst (ms.map V.str))/\(∀x:Int,0<=x->x<0+(k:Int)->(Qb ba (qU 34 ba) fun c=>fC x c)=none)/\∃o3 o4 o5 o6 o7 o8,σ=[some (.ref ol),some (.ref dr),some (.str nm),o3,o4,o5,o6,o7,o8]) ⟨s6,e6,fun x h1 h2=>by lia,_,_,_,_,_,_,rfl⟩ ?_ ?_
   ·rintro k σ H7 hk ⟨s7,e7,no7,o3,o4,o5,o6,o7,o8,rfl⟩
    obtain⟨Ag,eA⟩:∃Ag:Int,Ag=0+(k:Int):=⟨_,rfl⟩
    rw[<- eA]at no7⊢;refine⟨_,rfl,dr,_,_,_,rfl,rfl,Ga.of (s7 _ _ hdr),rfl,ba,rfl,b0,b1,fun wl H8 s8 e8=>⟨wl,rfl,⟨_,F8.of e8⟩,?_⟩⟩
    refine Qc (K:=K) (a:=wl) (xs:=Z1 ba (qU 34 ba)) (fun c σ Hx=>FZ H8 Hx/\(∀x:Int,ba<=x->x<ba+(c:Int)->fC Ag x=none)/\∃o4 o5 o6 o7 o8,σ=[some (.ref ol),some (.ref dr),some (.str nm),some (.int Ag),o4,o5,o6,o7,o8]) ⟨FZ.refl _,fun x h1 h2=>by lia,_,_,_,_,_,rfl⟩ (fun c σ Hx _ h=>F8.of (h.1 _ _ e8)) ?_ ?_
    ·rintro c z σ H9 hc ⟨s9,no9,o4,o5,o6,o7,o8,rfl⟩
     obtain⟨rfl,hcn⟩:=oR hc;obtain⟨X,eX⟩:∃X:Int,X=ba+(c:Int):=⟨_,rfl⟩
     rw[<- eX]at no9⊢;have S9:=(s7.trans s8).trans s9;have nxt:∀{Hn:Hp},FZ H9 Hn->fC Ag X=none->∀o5 o6 o7 o8,(fun c σ Hx=>FZ H8 Hx/\(∀x:Int,ba<=x->x<ba+(c:Int)->fC Ag x=none)/\∃o4 o5 o6 o7 o8,σ=[some (V.ref ol),some (.ref dr),some (.str nm),some (.int Ag),o4,o5,o6,o7,o8]:Nat->List (Option V)->Hp->Prop) (c+1) [some (.ref ol),some (.ref dr),some (.str nm),some (.int Ag),some (.int X),o5,o6,o7,o8] Hn:=fun sn h0 o5 o6 o7 o8=>⟨s9.trans sn,fun x x0 x1=>by
      by_cases hx:x<X
      ·exact no9 x x0 hx
      ·obtain rfl:x=X:=by lia
       exact h0,_,_,_,_,_,rfl⟩
     refine⟨_,rfl,_,rfl,_,rfl,FS,fun pp hpp=>?_⟩
     have up:=FZ.upd (o:= .tup [.str nm,.int Ag,.int X]) hpp
     have epp:(F5 H9 pp (.tup [.str nm,.int Ag,.int X])) pp=some (.tup [.str nm,.int Ag,.int X]):=qb
     have Sa:=S9.trans up;refine⟨_,rfl,ol,rfl,⟨_,F8.of (Sa _ _ hol)⟩,?_⟩
     generalize F5 H9 pp (.tup [.str nm,.int Ag,.int X])=Ha at *
     refine Zj (K:=K) (a:=ol) (xs:=[.ref m1,.ref m2]) (FR) (fun i ys Hx=>FZ Ha Hx/\ys=([qA D nm Ag X,qA D' nm Ag X].take i).map V.str) ⟨FZ.refl _,rfl⟩ (fun i ys Hx h=>F8.of (h.1 _ _ (Sa _ _ hol))) ?_ ?_
     ·rintro j ys Hb x hx hyl ⟨sb,rfl⟩
      have Sb:=Sa.trans sb
      match j,hx with
      |0,hx=>
       cases hx
       exact⟨_,rfl,_,rfl,m1,kd1,pp,D,nm,Ag,X,rfl,md.same Sb,sb _ _ epp,fun Hc sc=>⟨sb.trans sc,rfl⟩⟩
      |1,hx=>
       cases hx
       exact⟨_,rfl,_,rfl,m2,kd2,pp,D',nm,Ag,X,rfl,md'.same Sb,sb _ _ epp,fun Hc sc=>⟨sb.trans sc,rfl⟩⟩
     ·rintro ys Hb hyl ⟨sb,rfl⟩ wl2 hwl2
      have uw:=FZ.upd (o:= .lst (([qA D nm Ag X,qA D' nm Ag X].take 2).map V.str)) hwl2
      refine⟨FR,fun el hel=>?_⟩
      have ue:=FZ.upd (o:= .lst [.str "",.str ""]) hel
      refine⟨wl2,el,[qA D nm Ag X,qA D' nm Ag X],["",""],rfl,rfl,ue _ _ qb,qb,rfl,_,rfl,?_⟩
      have wds:([qA D nm Ag X,qA D' nm Ag X]=([("":Str),("":Str)]))↔(qA D nm Ag X=""/\qA D' nm Ag X=""):=by simp
      have S10:=(sb.trans uw).trans ue;refine qS (fun y=>?_) (fun y=>?_)
      case refine_2=>
       have heq:=wds.mp (Decidable.not_not.mp fun z=>y (Jg z))
       refine nxt (up.trans S10) (by rw[eC];exact Jc heq) _ _ _ _
      have hne:¬(qA D nm Ag X=""/\qA D' nm Ag X=""):=fun z=>Jv y (wds.mpr z)
      have fCX:fC Ag X=(zT {D with kn:=F4 D nm Ag X} {D' with kn:=F4 D' nm Ag X} many ba (qU 34 ba) nm).map fun r=>(nm,Ag,X)::r:=by rw[eC];exact Jb hne
      have SB:=Sa.trans S10;have epb:=S10 _ _ epp;have upB:=up.trans S10;generalize F5 (F5 Hb wl2 (.lst (([qA D nm Ag X,qA D' nm Ag X].take 2).map V.str))) el (.lst [.str "",.str ""])=HB at *
      clear uw ue S10 sb hel hwl2 hyl;refine⟨_,rfl,ol,rfl,⟨_,F8.of (SB _ _ hol)⟩,Zj (K:=K) (xs:=[.ref m1,.ref m2]) (FR) (fun i ys Hx=>FZ HB Hx/\((i=0/\ys=[])\/(i=1/\∃x kx,ys=[.ref x]/\HB x=none/\HB kx=none/\Gf Hx x kx D)\/(i=2/\∃x kx y ky,ys=[.ref x,.ref y]/\HB x=none/\HB kx=none/\Gf Hx x kx D/\HB y=none/\HB ky=none/\Gf Hx y ky D'/\x≠y/\x≠ky/\kx≠y/\kx≠ky))) ⟨FZ.refl _,.inl ⟨rfl,rfl⟩⟩ (fun i ys Hx h=>F8.of (h.1 _ _ (SB _ _ hol))) ?_ ?_⟩
      ·rintro i ys Hx z hz hyl ⟨sx,⟨rfl,rfl⟩|⟨rfl,x,kx,rfl,fx,fkx,mx⟩|⟨rfl,_⟩⟩
       ·cases hz
        refine⟨_,rfl,m1,kd1,D,rfl,md.same (SB.trans sx),fun m' kd' Hy sy f1 f2 md'=>⟨sx.trans sy,.inr (.inl ⟨rfl,m',kd',rfl,Qn f1 sx,Qn f2 sx,md'⟩)⟩⟩
       ·cases hz
        refine⟨_,rfl,m2,kd2,D',rfl,md'.same (SB.trans sx),fun m' kd' Hy sy f1 f2 md'=>⟨sx.trans sy,.inr (.inr ⟨rfl,x,kx,m',kd',rfl,fx,fkx,mx.same sy,Qn f1 sx,Qn f2 sx,md',?_,?_,?_,?_⟩)⟩⟩
        ·exact qi mx.di f1
        ·exact qi mx.di f2
        ·obtain⟨_,hd,_⟩:=mx.kn;exact qi hd f1
        ·obtain⟨_,hd,_⟩:=mx.kn;exact qi hd f2
       ·cases hz
      ·rintro ys Hx hyl ⟨sx,⟨h0,_⟩|⟨h0,_⟩|⟨_,x,kx,y',ky,rfl,fx,fkx,mx,fy,fky,my,n1,n2,n3,n4⟩⟩ l hl
       ·cases h0
       ·cases h0
       have u:=FZ.upd (o:= .lst [.ref x,.ref y']) hl
       have el:F5 Hx l (.lst [.ref x,.ref y']) l=some (.lst [.ref x,.ref y']):=qb
       have mx1:=mx.same u;have my1:=my.same u;have nlx:l≠x:=(qi mx.di hl).symm
       have nlkx:l≠kx:=by obtain⟨_,hd,_⟩:=mx.kn;exact(qi hd hl).symm
       have nly:l≠y':=(qi my.di hl).symm
       have nlky:l≠ky:=by obtain⟨_,hd,_⟩:=my.kn;exact(qi hd hl).symm
       have su:=sx.trans u;have mem2:∀{z kz w:Addr},w≠z->w≠kz->w∉[z,kz]:=fun h1 h2 h=>by
        rcases Jk.mp h with h|h
        ·exact h1 h
        ·exact h2 (Jl.mp h)
       have same2:∀{z kz:Addr} {Ha Hb:Hp},HB z=none->HB kz=none->FZ HB Ha->Mv [z,kz] Ha Hb->FZ HB Hb:=fun f1 f2 sa mv w o ew=>mv _ _ (mem2 (qi ew f1) (qi ew f2)) (sa _ _ ew)
       have nt2:∀{z kz:Addr} {D:Dr} {Ha:Hp},Gf Ha z kz D->NT [z,kz] Ha:=fun{z kz D Ha} md w hw=>by
        rcases Jk.mp hw with h|h
        ·rw[h];exact⟨_,md.di,trivial⟩
        ·rw[Jl.mp h];obtain⟨_,hd,_⟩:=md.kn;exact⟨_,hd,trivial⟩
       generalize F5 Hx l (.lst [.ref x,.ref y'])=H1 at *
       refine ZB (fun σ' H'=>FZ HB H'/\H' l=some (.lst [.ref x,.ref y'])/\Gf H' x kx {D with kn:=F4 D nm Ag X}/\Gf H' y' ky {D' with kn:=F4 D' nm Ag X}/\∃o7,σ'=[some (.ref ol),some (.ref dr),some (.str nm),some (.int Ag),some (.int X),some (.ref pp),some (.ref l),o7,o8]) (fun D0 hrt hnx=>?_) ?_
       ·refine⟨_,rfl,l,rfl,⟨_,F8.of el⟩,Qc (K:=K) (a:=l) (xs:=[.ref x,.ref y']) (fun j σ Hz=>FZ HB Hz/\Hz l=some (.lst [.ref x,.ref y'])/\Gf Hz x kx (if 1<=j then{D with kn:=F4 D nm Ag X}else D)/\Gf Hz y' ky (if 2<=j then{D' with kn:=F4 D' nm Ag X}else D')/\∃o7,σ=[some (.ref ol),some (.ref dr),some (.str nm),some (.int Ag),some (.int X),some (.ref pp),some (.ref l),o7,o8]) ⟨su,el,mx1,my1,_,rfl⟩ (fun j σ Hz _ h=>F8.of h.2.1) ?_ ?_⟩
        ·rintro j z σ Hz hz ⟨sz,elz,mxz,myz,o7,rfl⟩
         match j,hz with
         |0,hz=>
          cases hz;have mxz:Gf Hz x kx D:=mxz
          have myz:Gf Hz y' ky D':=myz
          refine⟨_,rfl,_,rfl,x,kx,pp,D,nm,Ag,X,rfl,mxz,sz _ _ epb,ok1,nf1,fun H4 mv4 md4=>?_⟩
          exact⟨same2 fx fkx sz mv4,mv4 _ _ (mem2 nlx nlkx) elz,md4,myz.mv mv4 (nt2 mxz) (mem2 n1.symm n3.symm) (mem2 n2.symm n4.symm),_,rfl⟩
         |1,hz=>
          cases hz;have mxz:Gf Hz x kx {D with kn:=F4 D nm Ag X}:=mxz
          have myz:Gf Hz y' ky D':=myz
          refine⟨_,rfl,_,rfl,y',ky,pp,D',nm,Ag,X,rfl,myz,sz _ _ epb,ok2,nf2,fun H4 mv4 md4=>?_⟩
          exact⟨same2 fy fky sz mv4,mv4 _ _ (mem2 nly nlky) elz,mxz.mv mv4 (nt2 myz) (mem2 n1 n2) (mem2 n3 n4),md4,_,rfl⟩
         |j+2,hz=>cases hz
        ·rintro σ Hz ⟨sz,elz,mxz,myz,o7,rfl⟩
         exact hnx _ _ ⟨sz,elz,mxz,myz,_,rfl⟩
       rintro σ Hz ⟨sz,elz,mxz,myz,o7',rfl⟩
       have Sz:=SB.trans sz;refine⟨_,rfl,_,rfl,FQ,fun nl2 hnl2=>?_⟩
       have un:=FZ.upd (o:= .lst [.str nm]) hnl2
       refine⟨_,rfl,dr,_,_,_,rfl,rfl,Ga.of (un _ _ (Sz _ _ hdr)),rfl,_,rfl,dr,_,_,_,rfl,rfl,Ga.of (un _ _ (Sz _ _ hdr)),rfl,FS,fun dr2 hdr2=>?_⟩
       have ud:=FZ.upd (o:= .tup [.ref nl2,.int (many:Int),.int ba]) hdr2
       have Su:=un.trans ud;refine⟨l,x,kx,y',ky,dr2,nl2,_,_,[nm],many,ba,rfl,Su _ _ elz,mxz.same Su,myz.same Su,qb,ud _ _ qb,by show 1<64;decide,m8,b0,b1,fun v ms2 Hv sv pm2 so2 tv=>?_⟩
       obtain rfl:ms2=[nm]:=List.perm_singleton.mp pm2
       have e1:[nm].findSome? (zT {D with kn:=F4 D nm Ag X} {D' with kn:=F4 D' nm Ag X} many ba (qU 34 ba))=zT {D with kn:=F4 D nm Ag X} {D' with kn:=F4 D' nm Ag X} many ba (qU 34 ba) nm:=by
        rw[List.findSome?_cons,List.findSome?_nil];cases zT {D with kn:=F4 D nm Ag X} {D' with kn:=F4 D' nm Ag X} many ba (qU 34 ba) nm<;>rfl
       rw[e1]at tv;have Sall:=(sz.trans Su).trans sv;cases eo:zT {D with kn:=F4 D nm Ag X} {D' with kn:=F4 D' nm Ag X} many ba (qU 34 ba) nm with
       |none=>
        rw[eo]at tv;have tv:v= .non:=tv
        subst tv;refine⟨_,rfl,rfl,_,rfl,qZ ?_⟩
        exact nxt (upB.trans Sall) (by rw[fCX,eo];rfl) _ _ _ _
       |some r=>
        rw[eo]at tv;obtain⟨tt,as,rfl,htt,la,has⟩:=tv;refine⟨_,rfl,rfl,_,rfl,za ?_⟩
        have rl:r.length<=1:=by
         have:∀{r:Qs},zT {D with kn:=F4 D nm Ag X} {D' with kn:=F4 D' nm Ag X} many ba (qU 34 ba) nm=some r->r.length=1:=fun{r} h=>by
          unfold zT Qb at h;obtain⟨a,_,h⟩:=List.exists_of_findSome?_eq_some h
          unfold lC Qb at h;obtain⟨c,_,h⟩:=List.exists_of_findSome?_eq_some h
          split at h
          ·cases h
          ·cases h;rfl
         rw[this eo];exact Je _
        refine⟨_,rfl,FQ,fun t0 ht0=>⟨_,rfl,t0,tt,_,_,rfl,rfl,qb,(FZ.upd ht0) _ _ htt,by rw[Jf,la,JH];show 1+_<=_;lia,fun rr Hr sr hrr=>?_⟩⟩
        have ut:=FZ.upd (o:= .tup [.ref pp]) ht0
        have e2:Qb ba (qU 34 ba) (fun c=>fC Ag c)=some ((nm,Ag,X)::r):=Qr hcn (by rw[<- eX,fCX,eo];rfl) fun x x0 x1=>no9 x x0 (by lia)
        have e3:ZV D D' many ba (qU 34 ba) nm=some ((nm,Ag,X)::r):=by
         rw[eT];exact Qr hk (by rw[<- eA];exact e2) fun x x0 x1=>no7 x x0 (by lia)
        have:=q (.ref rr) Hr (((SB.trans Sall).trans ut).trans sr)
        rw[bP (f:=ZV D D' many ba (qU 34 ba)) hnm e3 no]at this
        refine this ⟨rr,pp::as,rfl,hrr,by rw[JN,JN,la],fun j b z h1 h2=>?_⟩
        cases j with
        |zero=>cases h1;cases h2;exact sr _ _ (ut _ _ (Sall _ _ epb))
        |succ j=>exact sr _ _ (ut _ _ (has j b z h1 h2))
    ·rintro σ H9 ⟨s9,no9,o4,o5,o6,o7,o8,rfl⟩
     refine⟨(s7.trans s8).trans s9,s9 _ _ (s8 _ _ e7),fun x x0 x1=>?_,_,_,_,_,_,_,rfl⟩
     by_cases hx:x<Ag
     ·exact no7 x x0 hx
     ·obtain rfl:x=Ag:=by lia
      exact zm fun y y0 y1=>no9 y y0 (by rw[lW];exact y1)
   ·rintro σ H7 ⟨s7,e7,no7,o3,o4,o5,o6,o7,o8,rfl⟩
    refine⟨s7,e7,fun j z hj hz2=>?_,_,_,_,_,_,_,_,rfl⟩
    by_cases hji:j<i
    ·exact no j z hji hz2
    ·obtain rfl:j=i:=by lia
     have ez:z=nm:=Jy (hz2.symm.trans hnm)
     rw[ez,eT];exact zm no7
  ·rintro σ H6 ⟨s6,e6,no,o2,o3,o4,o5,o6,o7,o8,rfl⟩
   have e1:ms.findSome? (ZV D D' many ba (qU 34 ba))=none:=bF fun x hx=>by
    obtain⟨j,hj,rfl⟩:=List.mem_iff_getElem.mp hx;exact no j _ (by rw[Jf];exact hj) (Jj hj)
   have:=q .non _ s6
   rw[e1]at this;exact this rfl
end
section
variable{P:Program}{w:World}{K:Frag}{mg:FX}{base:Heap}{tk:Nat->Tok}
theorem pG(a:At K mg "_law_few" cM ["_law_box_here"])(T:Gw K mg tk)(dA:Df P w K mg base "_law_take" ["_law_box_here","_law_many"] 1 bN):Df P w K mg base "_law_few" ["_law_box_here"] 2 og:=by
 refine a.dq HM fun f _ A _ s H vs Q E hr h=>?_
 ·obtain⟨b,c,rfl,hb,hc,q⟩:=h
  refine⟨_,(qd (qy (i:=1) HM.nd rfl (Or.inl rfl) (qt qK (zb (qc (zb (qc qw (qc qw qa))) (qc (zb (qc qw qa)) (qc (zb (qc qw (qc qw qa))) (qc (zb (qc qw qa)) (qc (zb (qc qw (qc qw (qc qw qa)))) qa)))))) (qo dA hr.mo (qc (qv 0) (qc qf qa)))))
   (qe (ql (qu (qc (qv 1) (qc (qp qJ qf (qo dA hr.mo (qc (qv 0) (qc qf qa)))) (qc (qt qK (zb (qc qf (qc qf (qc qf (qc qf qa))))) (qo dA hr.mo (qc (qv 0) (qc qf qa)))) qa))))))),?_⟩
  refine⟨FR,fun l1 h1=>⟨FQ,fun l2 h2=>⟨FR,fun l3 h3=>⟨FQ,fun l4 h4=>⟨FS,fun l5 h5=>⟨FU,fun l6 h6=>?_⟩⟩⟩⟩⟩⟩
  have u1:=FZ.upd (o:= .lst [.str "a",.str "ab"]) h1
  have u2:=FZ.upd (o:= .lst [.str "b"]) h2
  have u3:=FZ.upd (o:= .lst [.str "aaaaaaab",.str "aaaaaaaa"]) h3
  have u4:=FZ.upd (o:= .lst [.str "zz"]) h4
  have u5:=FZ.upd (o:= .lst [.str "yx",.str "x",.str "xy"]) h5
  have u6:=FZ.upd (o:= .lst [.ref l1,.ref l2,.ref l3,.ref l4,.ref l5]) h6
  have pick:∀x∈[V.ref l1,.ref l2,.ref l3,.ref l4,.ref l5],∃nl nms,x= .ref nl/\Iv nms 1 0/\H nl=none/\(F5 (F5 (F5 (F5 (F5 (F5 H l1 (.lst [.str "a",.str "ab"])) l2 (.lst [.str "b"])) l3 (.lst [.str "aaaaaaab",.str "aaaaaaaa"])) l4 (.lst [.str "zz"])) l5 (.lst [.str "yx",.str "x",.str "xy"])) l6 (.lst [.ref l1,.ref l2,.ref l3,.ref l4,.ref l5])) nl=some (.lst (nms.map V.str)):=by
   intro x hx;simp only[Jk,Js,Jt]at hx;rcases hx with rfl|rfl|rfl|rfl|rfl
   ·exact⟨l1,["a","ab"],rfl,⟨by decide +kernel,fun z hz=>(by simp only[Jk,Js,Jt]at hz;rcases hz with rfl|rfl<;>exact⟨by decide +kernel,by decide +kernel,by decide +kernel⟩),by decide,by decide,by decide,by decide,by decide,by decide⟩,h1,(u6 _ _ (u5 _ _ (u4 _ _ (u3 _ _ (u2 _ _ qb)))))⟩
   ·exact⟨l2,["b"],rfl,⟨by decide +kernel,fun z hz=>(by simp only[Jk,Js,Jt]at hz;subst hz;exact⟨by decide +kernel,by decide +kernel,by decide +kernel⟩),by decide,by decide,by decide,by decide,by decide,by decide⟩,(Qn h2 u1),(u6 _ _ (u5 _ _ (u4 _ _ (u3 _ _ qb))))⟩
   ·exact⟨l3,["aaaaaaab","aaaaaaaa"],rfl,⟨by decide +kernel,fun z hz=>(by simp only[Jk,Js,Jt]at hz;rcases hz with rfl|rfl<;>exact⟨by decide +kernel,by decide +kernel,by decide +kernel⟩),by decide,by decide,by decide,by decide,by decide,by decide⟩,(Qn (Qn h3 u2) u1),(u6 _ _ (u5 _ _ (u4 _ _ qb)))⟩
   ·exact⟨l4,["zz"],rfl,⟨by decide +kernel,fun z hz=>(by simp only[Jk,Js,Jt]at hz;subst hz;exact⟨by decide +kernel,by decide +kernel,by decide +kernel⟩),by decide,by decide,by decide,by decide,by decide,by decide⟩,(Qn (Qn (Qn h4 u3) u2) u1),(u6 _ _ (u5 _ _ qb))⟩
   ·exact⟨l5,["yx","x","xy"],rfl,⟨by decide +kernel,fun z hz=>(by simp only[Jk,Js,Jt]at hz;rcases hz with rfl|rfl|rfl<;>exact⟨by decide +kernel,by decide +kernel,by decide +kernel⟩),by decide,by decide,by decide,by decide,by decide,by decide⟩,(Qn (Qn (Qn (Qn h5 u4) u3) u2) u1),(u6 _ _ qb)⟩
  have S6:=((((u1.trans u2).trans u3).trans u4).trans u5).trans u6;have e6:(F5 (F5 (F5 (F5 (F5 (F5 H l1 (.lst [.str "a",.str "ab"])) l2 (.lst [.str "b"])) l3 (.lst [.str "aaaaaaab",.str "aaaaaaaa"])) l4 (.lst [.str "zz"])) l5 (.lst [.str "yx",.str "x",.str "xy"])) l6 (.lst [.ref l1,.ref l2,.ref l3,.ref l4,.ref l5])) l6=some (.lst [.ref l1,.ref l2,.ref l3,.ref l4,.ref l5]):=qb
  have n6:l6≠b:=fun z=>by obtain⟨_,_,_,e,_⟩:=hb;rw[z]at h6;rw[((((u1.trans u2).trans u3).trans u4).trans u5) _ _ e]at h6;cases h6
  generalize (F5 (F5 (F5 (F5 (F5 (F5 H l1 (.lst [.str "a",.str "ab"])) l2 (.lst [.str "b"])) l3 (.lst [.str "aaaaaaab",.str "aaaaaaaa"])) l4 (.lst [.str "zz"])) l5 (.lst [.str "yx",.str "x",.str "xy"])) l6 (.lst [.ref l1,.ref l2,.ref l3,.ref l4,.ref l5]))=H6 at *
  clear u1 u2 u3 u4 u5 u6 h1 h2 h3 h4 h5 h6;have g6:=S6.grc hb;refine⟨_,rfl,b,5,c,rfl,g6.bx,by lia,by decide,by decide,fun r1 H1 r10 r11 g1=>?_⟩
  obtain⟨x,hx,hm⟩:=ab (xs:=[V.ref l1,.ref l2,.ref l3,.ref l4,.ref l5]) r10 r11
  obtain⟨nl,nms,rfl,fw,fn,en⟩:=pick x hm;have nlb:nl≠b:=fun z=>by obtain⟨_,_,_,e,_⟩:=hb;rw[z,e]at fn;cases fn
  refine⟨l6,_,_,_,rfl,rfl,F8.of (g1.kp _ _ n6 e6),hx,?_⟩
  have G1:=g6.trans g1;refine⟨_,rfl,_,rfl,b,3,c+1,rfl,G1.bx,by lia,by decide,by decide,fun r2 H2 r20 r21 g2=>⟨_,_,rfl,rfl,FT,fun l7 h7=>?_⟩⟩
  have G2:=G1.trans g2;have u7:=FZ.upd (o:= .lst [.int 0,.int 0,.int 4076,.int 4083]) h7
  have n7:=Zm G2.bx h7;have G3:=G2.same u7;refine⟨_,rfl,b,4,c+1+1,rfl,G3.bx,by lia,by decide,by decide,fun r3 H3 r30 r31 g3=>?_⟩
  obtain⟨x2,hx2,hm2⟩:=ab (xs:=[V.int 0,.int 0,.int 4076,.int 4083]) r30 r31
  obtain⟨ba,rfl,b0,b1⟩:∃ba:Int,x2= .int ba/\0<=ba/\ba<=4083:=by
   simp only[Jk,Js,Jt]at hm2;rcases hm2 with rfl|rfl|rfl|rfl<;>exact⟨_,rfl,by decide,by decide⟩
  have G4:=G3.trans g3;refine⟨l7,_,_,_,rfl,rfl,F8.of (g3.kp _ _ n7 qb),hx2,FS,fun t ht=>?_⟩
  obtain⟨mk,emk⟩:∃mk:Nat,1+r2=(mk:Int):=⟨(1+r2).toNat,by lia⟩
  show Q (.ref t) (F5 H3 t (.tup [.ref nl,.int (1+r2),.int ba]))
  rw[emk];have ut:=FZ.upd (o:= .tup [.ref nl,.int (mk:Int),.int ba]) ht
  exact q t nl nms mk ba _ ((G4.same ut).mono (by lia)) qb (ut _ _ (g3.kp _ _ nlb (u7 _ _ (g2.kp _ _ nlb (g1.kp _ _ nlb en))))) fn ⟨fw.nd,fw.nm,fw.l1,fw.l3,by lia,by lia,b0,b1⟩
end
end Lw
namespace L3
open PySem PySem.Spec PyProof.Rows L2
theorem rQ{α:Type}{xs:List α}(h:xs.length=2):∃x y,xs=[x,y]:=by
 cases xs with
 |nil=>cases h
 |cons x r=>cases r with
  |nil=>cases h
  |cons y r=>cases r with
   |nil=>exact⟨x,y,rfl⟩
   |cons z r=>cases h
end L3
namespace Lw
open PySem L2 L3
section
variable{P:Program}{w:World}{K:Frag}{mg:FX}{base:Heap}{tk:Nat->Tok}{C:Addr}
def Ic(t:List Int)(kss:List (List Int))(ba:Int)(nms:List Str)(D:Dr):Prop:=Ia t kss ba (ba+15) nms D/\∀z∈nms,z∈D.kn.map (·.1)
theorem Ic.learn{t:List Int}{kss:List (List Int)}{ba age c:Int}{nms:List Str}{D:Dr}{nm:Str}(h:Ic t kss ba nms D)(hl:D.kn.length<=11)(a0:0<=age)(a1:age<kss.length)(c0:1<=c)(c1:c<4096)(b0:ba<c)(b1:c<=ba+15):Ic t kss ba (nms++[nm]) {D with kn:=ze D.kn nm ⟨age,c,none⟩}:=⟨h.1.learn hl a0 a1 c0 c1 b0 b1,fun z hz=>by
 show z∈(ze D.kn nm ⟨age,c,none⟩).map (·.1)
 rw[ZU];rcases JW.mp hz with hz|hz
 ·split
  ·exact h.2 z hz
  ·exact EL _ (h.2 z hz)
 ·split
  ·rename_i q;rw[Jl.mp hz];exact q
  ·exact J1 _ hz⟩
theorem Ic.hear{t:List Int}{kss:List (List Int)}{ba age c:Int}{nms:List Str}{D:Dr}{nm:Str}(h:Ic t kss ba nms D)(c0:0<=c)(c1:c<4096)(b1:c<=ba+15):Ic t kss ba nms {D with kn:=F4 D nm age c}:=⟨h.1.hear1 c0 c1 b1,fun z hz=>by
 show z∈(F4 D nm age c).map (·.1)
 rw[Z5];exact h.2 z hz⟩
theorem fB(a:At K mg "_law_near_alike" Q8 ["_law_box_here","_law_drawn_here"])(T:Gw K mg tk)(U:G0 K C)(yH:Mi P w K mg base C "Door" ["self","table","keys","near","far","most"] 1 (mz K C))(dA:Df P w K mg base "_law_take" ["_law_box_here","_law_many"] 1 bN)(xV:Df P w K mg base "_law_table" ["_law_box_here"] 2 lI)(x9:Df P w K mg base "_law_key" ["_law_box_here"] 2 oP)(xW:Df P w K mg base "_law_model" ["_law_near","_law_far","_law_keys"] 1 oy)(yK:Df P w K mg base "_law_learnt" ["_law_code","_law_pair_here","_law_name","_law_told"] 8 (jg K C))(xK:Df P w K mg base "_law_heard" ["_law_code","_law_pair_here","_law_plain","_law_places"] 7 (lG K C)):Df P w K mg base "_law_near_alike" ["_law_box_here","_law_drawn_here"] 9 (l9 K C):=by
 refine a.dq F1 fun f _ A _ s H vs Q E hr h=>?_
 ·obtain⟨b,dr,nl,c,nms,many,ba,rfl,hb,hc,hdr,hnl,nlb,ok,q⟩:=h
  have m1:=ok.m1;have m3:=ok.m3;have b0:=ok.b0;have b1:=ok.b1;have l1:=ok.l1;have l3:=ok.l3;refine⟨_,(qd (zg (qv 1) (zw rfl (qm (qg (i:=2) F1.nd rfl (Or.inl rfl)) (qm (qg (i:=3) F1.nd rfl (Or.inl rfl)) (qm (qg (i:=4) F1.nd rfl (Or.inl rfl)) qO)))))
   (qd (qy (i:=5) F1.nd rfl (Or.inl rfl) (qu (qc (qo xV hr.mo (qc (qv 0) qa)) (qc (qI q9 T.b_tuple JI (qc (zN (own:=["_law_k"]) (fr:=["_law_box_here"]) (js:=[0]) rfl (zE rfl T.b_range (qc (qv 3) qa)) rfl (ie rfl) rfl (im rfl (by decide +kernel) (by decide +kernel) (by decide +kernel) rfl rfl rfl) (fun _ _ _ _=>qg (i:=0) (show List.Nodup (["_law_k","_law_box_here"]:List Str)from by decide +kernel) rfl (Or.inl rfl) (.inr rfl)) (fun _ _ _ _=>(ZI eI (qo x9 hr.mo (qc (qv 1) qa)) af (ai qf)))) qa)) qa))))
   (qd (qy (i:=6) F1.nd rfl (Or.inl rfl) (qp qJ qf (qo dA hr.mo (qc (qv 0) (qc qf qa)))))
   (qd (qy (i:=7) F1.nd rfl (Or.inl rfl) (zb qa))
   (qd (qV JJ rfl (zE rfl T.b_range (qc qf qa)) (qg (i:=8) F1.nd rfl (Or.inl rfl))
   (qd (qy (i:=9) F1.nd rfl (Or.inl rfl) (qp qJ (qv 6) (qt qK (zb (qc qf (qc qf (qc qf (qc (qo dA hr.mo (qc (qv 0) (qc qf qa))) qa))))) (qo dA hr.mo (qc (qv 0) (qc qf qa))))))
   (qe (zQ (Z4 EB EV EW QK (qv 7) (qc (qu (qc (Aa yH hr.mo (qc (qt qF (qv 5) qf) (qc (qt qF (qv 5) qf) (qc (qv 6) (qc (qv 9) (qc (qp qJ qf (qp Q0 qf (qv 8))) qa)))))) (qc (qo xW hr.mo (qc (qv 6) (qc (qv 9) (qc (qv 3) qa)))) qa))) qa))))))
   (qd (qV JJ rfl (zI (qv 2)) (qg (i:=10) F1.nd rfl (Or.inl rfl))
   (qd (qy (i:=11) F1.nd rfl (Or.inl rfl) (qu (qc (qo dA hr.mo (qc (qv 0) (qc (qv 3) qa))) (qc (qk (zZ rfl) T.b_min PyProof.Rows.boot_min (qc qf (qc (qp qJ (qp qJ (qv 4) qf) (qo dA hr.mo (qc (qv 0) (qc qf qa)))) qa))) qa))))
   (qd (qy (i:=12) F1.nd rfl (Or.inl rfl) (qt qK (zb (qc (qu (qc (qp Qe (qv 3) qf) (qc (qt qF (qv 11) qf) qa))) (qc (qu (qc (qt qF (qv 11) qf) (qc (qp qJ qf (qv 4)) qa))) qa))) (qo dA hr.mo (qc (qv 0) (qc qf qa)))))
   (qe (zQ (qo yK hr.mo (qc (qv 5) (qc (qv 7) (qc (qv 10) (qc (zb (qc (qv 11) (qc (qt qK (zb (qc (qv 12) (qc (qv 11) qa))) (qk (zZ rfl) T.b_min PyProof.Rows.boot_min (qc qf (qc (qo dA hr.mo (qc (qv 0) (qc qf qa))) qa)))) qa))) qa))))))))))
   (qd (qV JJ rfl (zE rfl T.b_range (qc (qo dA hr.mo (qc (qv 0) (qc qf qa))) qa)) (qg (i:=13) F1.nd rfl (Or.inl rfl))
   (qd (qy (i:=10) F1.nd rfl (Or.inl rfl) (qt qK (qv 2) (qo dA hr.mo (qc (qv 0) (qc (qk qP T.b_len J8 (qc (qv 2) qa)) qa)))))
   (qd (qy (i:=14) F1.nd rfl (Or.inl rfl) (qo dA hr.mo (qc (qv 0) (qc (qv 3) qa))))
   (qe (zQ (qo xK hr.mo (qc (qv 5) (qc (qv 7) (qc (qu (qc (qv 10) (qc (qv 14) (qc (qk (zZ rfl) T.b_min PyProof.Rows.boot_min (qc qf (qc (qp qJ (qv 4) (qo dA hr.mo (qc (qv 0) (qc qf qa)))) qa))) qa)))) (qc (qu (qc qf (qc qf qa))) qa))))))))))
   (qd (qC (qx zz (qo dA hr.mo (qc (qv 0) (qc qf qa))) qf (qq _)) (qd (qy (i:=15) F1.nd rfl (Or.inl rfl) (zD hr (zD hr (qt qF (qt qK (qv 7) qf) qf) qw) (qt qK (qv 2) qf)))
   (qd (qy (i:=16) F1.nd rfl (Or.inl rfl) (qk (zZ rfl) T.b_min PyProof.Rows.boot_min (qc qf (qc (qp Qe (qp qJ (qt qF (qv 15) qf) (qk (zZ rfl) T.b_min PyProof.Rows.boot_min (qc (zD hr (qt qF (qt qK (qv 7) qf) qf) qw) (qc (zD hr (qt qF (qt qK (qv 7) qf) qf) qw) qa)))) qf) qa))))
   (qd (qy (i:=14) F1.nd rfl (Or.inl rfl) (qp qJ (qt qF (qv 15) qf) (qo dA hr.mo (qc (qv 0) (qc (qp Qe (qv 3) (qt qF (qv 15) qf)) qa)))))
   (qe (zQ (qo xK hr.mo (qc (qv 5) (qc (qv 7) (qc (qu (qc (qt qK (qv 2) qf) (qc (qv 14) (qc (qv 16) qa)))) (qc (qu (qc qf (qc qf qa))) qa)))))))))) qr)
   (qe (ql (qv 7))))))))))),?_⟩
  refine⟨_,rfl,dr,_,rfl,.tup hdr,rfl,_,_,rfl,_,_,rfl,_,_,rfl,rfl,?_⟩
  refine⟨_,rfl,b,c,rfl,hb,by lia,fun tb t H1 g1 ftb etb tp=>?_⟩
  refine⟨_,rfl,_,rfl,by lia,by lia,?_⟩
  rw[DZ];have ntb:tb≠b:=fun z=>by obtain⟨_,_,_,e,_⟩:=hb;rw[z,e]at ftb;cases ftb
  refine cm (n:=many) (JM m3 (by decide)) (fun i ys Hx=>HQ b (c+16+9*i) H Hx/\Hx tb=some (.tup (t.map V.int))/\∃(as:List Addr) (kss:List (List Int)),ys=as.map V.ref/\as.length=i/\kss.length=i/\∀(j:Nat) (x:Addr) (z:List Int),as[j]? =some x->kss[j]? =some z->Hx x=some (.tup (z.map V.int))) ⟨g1,etb,[],[],rfl,rfl,rfl,fun j x z e=>by cases e⟩ ?_ ?_
  ·rintro i ys Hx hi hyl ⟨G,et,as,kss,rfl,lA,lK,hks⟩
   refine⟨_,rfl,b,c+16+9*i,rfl,G.bx,by lia,fun p ks H2 g2 fp ep dk l1 l8=>⟨_,rfl,p,_,rfl,ep,fun y H3 s3 hy _=>?_⟩⟩
   rw[cx]at hy;have kp:∀{x:Addr} {xs:List V},Hx x=some (.tup xs)->H3 x=some (.tup xs):=fun{x xs} e=>s3 _ _ (g2.kp _ _ (fun z=>by obtain⟨_,_,_,eb,_⟩:=G.bx;rw[z,eb]at e;cases e) e)
   refine⟨((G.trans g2).same s3).mono (by lia),kp et,as++[y],kss++[am ks none (some 2)],by simp,by simp [lA],by simp [lK],fun j x z e1 e2=>?_⟩
   by_cases hj:j<as.length
   ·rw[DR hj]at e1
    rw[DR (by lia)]at e2
    exact kp (hks j x z e1 e2)
   ·rw[J9 (by lia)]at e1
    rw[J9 (by lia)]at e2
    cases ej:j-as.length with
    |zero=>rw[ej]at e1;rw[show j-kss.length=0 by lia]at e2;cases e1;cases e2;exact hy
    |succ k=>rw[ej]at e1;cases e1
  rintro ys Hx hyl ⟨G,et,as,kss,rfl,lA,lK,hks⟩ l0 hl0
  obtain rfl:kss.length=many:=lK
  refine⟨l0,_,rfl,.inl ⟨F8.of qb,fun kt hkt=>⟨FR,fun cd hcd=>?_⟩⟩⟩
  have u1:=FZ.upd (o:= .lst (as.map V.ref)) hl0
  have u2:=FZ.upd (o:= .tup (as.map V.ref)) hkt
  have u3:=FZ.upd (o:= .tup [.ref tb,.ref kt]) hcd
  have S3:=(u1.trans u2).trans u3;have hC:GW (F5 (F5 (F5 Hx l0 (.lst (as.map V.ref))) kt (.tup (as.map V.ref))) cd (.tup [.ref tb,.ref kt])) cd tb kt t kss:=⟨qb,.inl (S3 _ _ et),as,.inl (.inl (u3 _ _ qb)),lA,fun j x z e1 e2=> .inl (.inl (S3 _ _ (hks j x z e1 e2)))⟩
  have G3:=G.same S3;generalize F5 (F5 (F5 Hx l0 (.lst (as.map V.ref))) kt (.tup (as.map V.ref))) cd (.tup [.ref tb,.ref kt])=H3 at *
  clear hks et u1 u2 u3 hl0 hkt hcd;refine⟨_,rfl,b,4,_,rfl,G3.bx,by lia,by decide,by decide,fun r1 Hn r10 r11 gn=>⟨_,_,rfl,rfl,FP,fun pl hpl=>?_⟩⟩
  have G3':=G3.trans gn;have hCn:=hC.mv (S:=[b]) (fun c o h e=>gn.kp c o (fun z=>h (Jl.mpr z)) e) (QQ G3.bx)
  have u4:=FZ.upd (o:= .lst []) hpl
  have G4:=G3'.same u4;have hC4:=hCn.same u4;have b0':H b≠none:=fun z=>by obtain⟨_,_,_,e,_⟩:=hb;rw[z]at e;cases e
  have pw0:Pw K C H (F5 Hn pl (.lst [])) b (c+44) pl []:=⟨fun c o h e=>G4.kp c o (fun z=>h (Jl.mpr z)) e,G4.bx.mono (by lia),b0',(fun i x h=>by cases h),(fun i j x y _ h=>by cases h),(fun i x h=>by cases h),qb,(fun i x h=>by cases h),G3'.fresh (hb.mono (by lia)) hpl⟩
  generalize F5 Hn pl (.lst [])=H4 at *
  clear G4 u4 hpl G3' G3 hCn gn hC S3 G;refine ZB (fun σ' H'=>∃xs o8 o9,Pw K C H H' b (c+50) pl xs/\xs.length=2/\(∀(i:Nat) (x:En),xs[i]? =some x->(Ic t kss ba (nms.take 0) x.2.1)/\x.2.2.length<=2*0)/\GW H' cd tb kt t kss/\σ'=[some (.ref b),some (.ref dr),some (.ref nl),some (.int (kss.length:Int)),some (.int ba),some (.ref cd),some (.int (1+r1)),some (.ref pl),o8,o9,none,none,none,none,none,none,none]) (fun D' hrt hnx=>?_) ?_
  refine⟨_,rfl,by decide,by decide,?_⟩
  refine zY (n:=2) (Pv:=fun j σ Hy=>∃xs,Pw K C H Hy b (c+44+2*j) pl xs/\xs.length=j/\(∀(i:Nat) (x:En),xs[i]? =some x->(Ic t kss ba (nms.take 0) x.2.1)/\x.2.2.length<=2*0)/\GW Hy cd tb kt t kss/\∃o8 o9,σ=[some (.ref b),some (.ref dr),some (.ref nl),some (.int (kss.length:Int)),some (.int ba),some (.ref cd),some (.int (1+r1)),some (.ref pl),o8,o9,none,none,none,none,none,none,none]) ⟨[],pw0,rfl,(fun i x h=>by cases h),hC4,_,_,rfl⟩ ?_ ?_
  ·rintro j σ Hy hj ⟨xs,pw,lx,hxs,hCy,o8,o9,rfl⟩
   have j2:j<2:=hj
   refine⟨_,rfl,_,rfl,b,10,_,rfl,pw.bx,by lia,by decide,by decide,fun r2 H2 r20 r21 g2=>⟨FT,fun l1 hl1=>?_⟩⟩
   have u2:=FZ.upd (o:= .lst [.int 0,.int 1,.int 2,.int r2]) hl1
   have n1:=Zm g2.bx hl1;have g2':=g2.same u2;refine⟨_,rfl,b,4,_,rfl,g2'.bx,by lia,by decide,by decide,fun r3 H3 r30 r31 g3=>?_⟩
   obtain⟨x,hx,hm⟩:=ab (xs:=[V.int 0,.int 1,.int 2,.int r2]) r30 r31
   obtain⟨z,rfl,z0,z1⟩:∃z:Int,x= .int z/\0<=z/\z<=9:=by
    simp only[Jk,Js,Jt]at hm;rcases hm with rfl|rfl|rfl|rfl<;>exact⟨_,rfl,by lia,by lia⟩
   have g3':=g2'.trans g3;refine⟨l1,_,_,_,rfl,rfl,F8.of (g3.kp _ _ n1 qb),hx,_,_,rfl,rfl,?_⟩
   have hCy:=hCy.mv (S:=[b]) (fun c o h e=>g3'.kp c o (fun z=>h (Jl.mpr z)) e) (QQ pw.bx)
   have pw:=pw.grc g3';clear g3' g3 g2' g2 u2 hl1 n1;refine⟨_,rfl,.inl ⟨rfl,_,F8.of pw.pe⟩,?_⟩
   refine⟨_,rfl,cd,_,_,_,rfl,rfl,Ga.of hCy.e,rfl,_,rfl,cd,_,_,_,rfl,rfl,Ga.of hCy.e,rfl,_,rfl,_,rfl,_,rfl,_,_,rfl,rfl,.inl ⟨by decide,by decide⟩,_,_,rfl,rfl,fun x dx nx ndx nex=>?_⟩
   have sJ:FZ H3 (F5 (F5 H3 dx (.own x)) x (.ins C dx [])):=(FZ.upd ndx).trans (FZ.upd (by rw[qj nex.symm];exact nx))
   obtain⟨D,eD⟩:∃D:Dr,D=⟨t,kss,1+r1,1+r1+z,3+9*(0+(j:Int)),0,[]⟩:=⟨_,rfl⟩
   refine⟨x,tb,kt,dx,1+r1,1+r1+z,3+9*(0+(j:Int)),t,kss,rfl,qb,.inr (.inl (Rd.same sJ hCy.tb)),hCy.ks.same sJ,by lia,fun ta hk bd' lg Hi h1 h2 h3 mv dr' kr=>⟨rfl,?_⟩⟩
   have sK:FZ H3 Hi:=fun c o e=>mv c o (zr (qi e nx)) (sJ c o e)
   have dl:GQ K C Hi ⟨x,ta,hk,bd',lg⟩ D []:=by rw[eD];exact F2.dl dr' kr
   have fz:∀z∈dS ⟨x,ta,hk,bd',lg⟩,H3 z=none:=fun z hz=>by
    rcases Be hz with rfl|rfl|rfl|rfl
    ·exact nx
    ·exact Qn h1 sJ
    ·exact Qn h2 sJ
    ·exact Qn h3 sJ
   refine⟨_,rfl,_,rfl,_,rfl,D,by rw[eD];rfl,by rw[eD],by rw[eD],fun m kd H6 s6 fm fkd md=>⟨FR,fun e he=>?_⟩⟩
   have u7:=FZ.upd (o:= .tup [.ref x,.ref m]) he
   have S7:=(sK.trans s6).trans u7;obtain⟨f0,ebd,_⟩:=id dl.dr.kb;have ent:HK K C (F5 H6 e (.tup [.ref x,.ref m])) ⟨e,⟨x,ta,hk,bd',lg⟩,m,kd⟩ D [] D:=⟨qb,(dl.same s6).same u7,md.same u7,(qi ebd fm).symm,(qi ebd fkd).symm⟩
   have fe:∀z∈eS ⟨e,⟨x,ta,hk,bd',lg⟩,m,kd⟩,H3 z=none:=fun z hz=>by
    rcases uL hz with hz|rfl|rfl
    ·exact fz z hz
    ·exact Qn fm sK
    ·exact Qn fkd sK
   refine⟨pl,_,_,rfl,rfl,S7 _ _ pw.pe,by rw[Jf,lx,JH];lia,?_⟩
   have mp:Mv [pl] (F5 H6 e (.tup [.ref x,.ref m])) (F5 (F5 H6 e (.tup [.ref x,.ref m])) pl (.lst ((xs.map fun x=>V.ref x.1.e)++[.ref e]))):=Mv.upd1
   have np:NT [pl] (F5 H6 e (.tup [.ref x,.ref m])):=NT.one (S7 _ _ pw.pe) trivial
   refine⟨xs++[(⟨e,⟨x,ta,hk,bd',lg⟩,m,kd⟩,D,[])],(pw.add S7 ent fe).mono (by lia),by simp [lx],fun i y hy=>?_,(hCy.same S7).mv mp np,_,_,rfl⟩
   by_cases hi:i<xs.length
   ·rw[DR hi]at hy;exact hxs i y hy
   ·rw[J9 (by lia)]at hy
    cases ei:i-xs.length with
    |succ k=>rw[ei]at hy;cases hy
    |zero=>
     rw[ei]at hy;cases hy;rw[eD]
     exact⟨⟨⟨⟨⟨tp,JO _,by show kss.length<=8;lia,JB _,Fl⟩,rfl,rfl,by show 1+r1<=1+r1+z;lia⟩,⟨by show 1<=1+r1;lia,by show 1+r1<=13;lia,by show 1+r1<=1+r1+z;lia,by show 1+r1+z<=100;lia,JO _,by show(0:Int)<(kss.length:Int);lia⟩,by show 1+r1+z<=13;lia,by show 1+r1<=4;lia,by show 3<=3+9*(0+(j:Int));lia,rfl,(fun e he=>nomatch he),(fun z hz=>nomatch hz),JB _⟩,(fun z hz=>nomatch hz)⟩,Je _⟩
  ·rintro σ Hy ⟨xs,pw,lx,hxs,hCy,o8,o9,rfl⟩
   exact hnx _ _ ⟨xs,_,_,pw.mono (by lia),lx,hxs,hCy,rfl⟩
  clear pw0 hC4
  rintro σ Hy ⟨xs,o8,o9,pw,lx2,hxs,hCy,rfl⟩
  refine eZ (fun σ' H'=>∃xs oa ob oc,Pw K C H H' b (c+70) pl xs/\xs.length=2/\(∀(i:Nat) (x:En),xs[i]? =some x->Ic t kss ba nms x.2.1/\x.2.2.length<=6)/\GW H' cd tb kt t kss/\σ'=[some (.ref b),some (.ref dr),some (.ref nl),some (.int (kss.length:Int)),some (.int ba),some (.ref cd),some (.int (1+r1)),some (.ref pl),o8,o9,oa,ob,oc,none,none,none,none]) (fun D' hrt hnx=>?_) ?_
  refine⟨_,rfl,nl,rfl,⟨_,F8.of (pw.s _ _ (zr nlb) hnl)⟩,?_⟩
  refine Qc (K:=K) (a:=nl) (xs:=nms.map V.str) (fun j σ Hz=>∃xs,Pw K C H Hz b (c+50+4*j) pl xs/\xs.length=2/\(∀(i:Nat) (x:En),xs[i]? =some x->Ic t kss ba (nms.take j) x.2.1/\x.2.2.length<=2*j)/\GW Hz cd tb kt t kss/\∃oa ob oc,σ=[some (.ref b),some (.ref dr),some (.ref nl),some (.int (kss.length:Int)),some (.int ba),some (.ref cd),some (.int (1+r1)),some (.ref pl),o8,o9,oa,ob,oc,none,none,none,none]) ⟨xs,pw,lx2,hxs,hCy,_,_,_,rfl⟩ (fun j σ Hz _ h=>let⟨_,p,_⟩:=h;F8.of (p.s _ _ (zr nlb) hnl)) ?_ ?_
  ·rintro j z σ Hz hz ⟨xs,pw,lx,hxs,hCz,oa,ob,oc,rfl⟩
   rw[Jq]at hz;obtain⟨nm,en,rfl⟩:=DQ.mp hz;have hj:j<nms.length:=(Jw.mp en).1
   have hnm:=ok.nm nm (DX en);refine⟨_,rfl,_,rfl,b,_,_,rfl,pw.bx,by lia,by lia,by lia,fun ag Ha ag0 ag1 ga=>?_⟩
   have pwa:=pw.grc ga;refine⟨_,rfl,_,_,rfl,rfl,_,rfl,b,7,_,rfl,pwa.bx,by lia,by decide,by decide,fun r2 Hb r20 r21 gb=>⟨_,_,rfl,rfl,_,_,rfl,FR,fun t0 ht0=>?_⟩⟩
   obtain⟨la,ela⟩:∃la,la=(if ba+1+r2<4095 then ba+1+r2 else 4095):=⟨_,rfl⟩
   have la0:1<=la/\la<4096/\ba<la/\la<=ba+15:=by rw[ela];split<;>lia
   rw[<- ela];have v0:=FZ.upd (o:= .tup [.int ag,.int la]) ht0
   have pwb:=(pwa.grc gb).same v0;have e0:(F5 Hb t0 (.tup [.int ag,.int la])) t0=some (.tup [.int ag,.int la]):=qb
   have Mb:Mv [b] Hz (F5 Hb t0 (.tup [.int ag,.int la])):=fun x o h e=>v0 _ _ (gb.kp _ _ (fun z=>h (Jl.mpr z)) (ga.kp _ _ (fun z=>h (Jl.mpr z)) e))
   have hCb:=hCz.mv Mb (QQ pw.bx);generalize F5 Hb t0 (.tup [.int ag,.int la])=Hc at *
   refine⟨_,rfl,_,_,rfl,rfl,_,rfl,t0,_,_,_,rfl,rfl,Ga.of e0,rfl,FR,fun t1 ht1=>?_⟩
   have v1:=FZ.upd (o:= .tup [.int ((kss.length:Int)-1),.int la]) ht1
   refine⟨_,rfl,t0,_,_,_,rfl,rfl,Ga.of (v1 _ _ e0),rfl,_,rfl,_,_,rfl,rfl,FR,fun t2 ht2=>⟨FR,fun l3' hl3=>?_⟩⟩
   have v2:=FZ.upd (o:= .tup [.int ag,.int (1+ba)]) ht2
   have v3:=FZ.upd (o:= .lst [.ref t1,.ref t2]) hl3
   have V3:=(v1.trans v2).trans v3;have d1:=v3 _ _ (v2 _ _ (show(F5 Hc t1 (.tup [.int ((kss.length:Int)-1),.int la])) t1=some (.tup [.int ((kss.length:Int)-1),.int la])from qb))
   have d2:=v3 _ _ (show(F5 (F5 Hc t1 (.tup [.int ((kss.length:Int)-1),.int la])) t2 (.tup [.int ag,.int (1+ba)])) t2=some (.tup [.int ag,.int (1+ba)])from qb)
   have d3:(F5 (F5 (F5 Hc t1 (.tup [.int ((kss.length:Int)-1),.int la])) t2 (.tup [.int ag,.int (1+ba)])) l3' (.lst [.ref t1,.ref t2])) l3'=some (.lst [.ref t1,.ref t2]):=qb
   have nl3:=Zm (pwb.same (v1.trans v2)).bx hl3;have pwc:=pwb.same V3;have hCc:=hCb.same V3;have e3:=V3 _ _ e0;generalize F5 (F5 (F5 Hc t1 (.tup [.int ((kss.length:Int)-1),.int la])) t2 (.tup [.int ag,.int (1+ba)])) l3' (.lst [.ref t1,.ref t2])=Hd at *
   clear v1 v2 v3 V3 ht1 ht2 hl3 hCb pwb pwa Mb v0 ga gb e0 ht0;refine⟨_,rfl,b,2,_,rfl,pwc.bx,by lia,by decide,by decide,fun r3 He r30 r31 ge=>?_⟩
   obtain⟨x,hx,hm⟩:=ab (xs:=[V.ref t1,.ref t2]) r30 r31
   obtain⟨to,ao,lo,rfl,eo,ho⟩:∃to ao lo,x= .ref to/\Hd to=some (.tup [.int ao,.int lo])/\0<=ao/\ao<(kss.length:Int)/\1<=lo/\lo<4096/\ba<lo/\lo<=ba+15:=by
    simp only[Jk,Js,Jt]at hm;rcases hm with rfl|rfl
    ·exact⟨t1,_,_,rfl,d1,by lia,by lia,la0⟩
    ·exact⟨t2,_,_,rfl,d2,ag0,ag1,by lia,by lia,by lia,by lia⟩
   have Me:Mv [b] Hd He:=fun x o h e=>ge.kp _ _ (fun z=>h (Jl.mpr z)) e
   have Ne:=QQ pwc.bx;refine⟨l3',_,_,_,rfl,rfl,F8.of (ge.kp _ _ nl3 d3),hx,?_⟩
   refine⟨_,rfl,_,rfl,_,rfl,_,rfl,_,rfl,_,rfl,FR,fun l4 hl4=>?_⟩
   have pwe:=pwc.grc ge;have v4:=FZ.upd (o:= .lst [.ref to,.ref t0]) hl4
   have nl4:=Zm pwe.bx hl4;have pwf:=pwe.same v4;refine⟨_,rfl,b,6,_,rfl,pwf.bx,by lia,by decide,by decide,fun r4 Hf r40 r41 gf=>?_⟩
   have ix0:0<=(if r4<1 then r4 else 1)/\(if r4<1 then r4 else 1)<(([V.ref to,.ref t0]:List V).length:Int):=by show _/\_<(2:Int);split<;>lia
   obtain⟨v,hv,hvm⟩:=ab ix0.1 ix0.2;have pwg:=pwf.grc gf;have Mf:Mv [b] Hd Hf:=fun x o h e=>gf.kp _ _ (fun z=>h (Jl.mpr z)) (v4 _ _ (Me _ _ h e))
   have hCg:=hCc.mv Mf Ne;have el4:=gf.kp _ _ nl4 (show(F5 He l4 (.lst [.ref to,.ref t0])) l4=some (.lst [.ref to,.ref t0])from qb)
   obtain⟨tv,av,lv,rfl,ev,hv2⟩:∃tv av lv,v= .ref tv/\Hf tv=some (.tup [.int av,.int lv])/\0<=av/\av<(kss.length:Int)/\1<=lv/\lv<4096/\ba<lv/\lv<=ba+15:=by
    simp only[Jk,Js,Jt]at hvm;rcases hvm with rfl|rfl
    ·exact⟨to,_,_,rfl,Mf.tup Ne eo,ho⟩
    ·exact⟨t0,_,_,rfl,Mf.tup Ne e3,ag0,ag1,la0⟩
   refine⟨_,_,rfl,l4,_,_,_,rfl,rfl,F8.of el4,hv,FR,fun tl htl=>?_⟩
   have v6:=FZ.upd (o:= .lst [.ref t0,.ref tv]) htl
   have pwh:=pwg.same v6;have ntl:∀(i:Nat) (x:En),xs[i]? =some x->tl∉eS x.1:=fun i x hx z=>(pwg.en i x hx).some z htl
   refine⟨cd,tb,kt,pl,tl,b,_,H,t,kss,xs,nm,[some (ag,la),some (av,lv)],rfl,pwh,lx,hCg.same v6,hnm,HP.two qb ⟨t0,rfl,v6 _ _ (Mf.tup Ne e3)⟩ ⟨tv,rfl,v6 _ _ ev⟩,rfl,ntl,fun i x hx=>?_,fun a l h=>?_,fun Hn xs' pwn hCn st _=>?_⟩
   ·obtain⟨⟨h1,_⟩,h5⟩:=hxs i x hx
    have hf:=h1.few;have mo:=h1.mo;rw[DW]at hf;refine⟨⟨h1.hr.ok,h1.hr.t,h1.hr.ks,by lia⟩,fun a l e=>?_,re fun z=>uI ok.nd en (h1.sub nm z),by lia,by lia⟩
    rw[h1.le]
    match i,e with
    |0,e=>cases e;exact ag0
    |1,e=>cases e;exact hv2.1
    |i+2,e=>cases e
   ·simp only[Jk,Js,Jt,Option.some.injEq,Prod.mk.injEq]at h
    rcases h with⟨rfl,rfl⟩|⟨rfl,rfl⟩
    ·exact⟨ag0,ag1,la0.1,la0.2.1⟩
    ·exact⟨hv2.1,hv2.2.1,hv2.2.2.1,hv2.2.2.2.1⟩
   ·refine⟨xs',pwn.mono (by lia),st.1.trans lx,fun i y hy=>?_,hCn,_,_,_,rfl⟩
    have hi:i<xs.length:=by rw[<- st.1];exact(Jw.mp hy).1
    obtain⟨L',e,le⟩:=st.2 i xs[i] (Jj hi)
    obtain⟨h1,h5⟩:=hxs i xs[i] (Jj hi)
    rw[e]at hy;cases hy;refine⟨?_,by show L'.length<=2*(j+1);lia⟩
    have hf:=h1.1.few;rw[DW]at hf;rw[D4,en]
    match i,hi,h1,hf with
    |0,_,h1,hf=>exact h1.learn (by lia) ag0 ag1 la0.1 la0.2.1 la0.2.2.1 la0.2.2.2
    |1,_,h1,hf=>exact h1.learn (by lia) hv2.1 hv2.2.1 hv2.2.2.1 hv2.2.2.2.1 hv2.2.2.2.2.1 hv2.2.2.2.2.2
    |i+2,hi,_,_=>rw[lx]at hi;lia
  ·rintro σ Hz ⟨xs,pw,lx,hxs,hCz,oa,ob,oc,rfl⟩
   have lnm:(nms.map V.str).length=nms.length:=Jf _
   rw[lnm]at pw hxs;refine hnx _ _ ⟨xs,_,_,_,pw.mono (by lia),lx,fun i x hx=>?_,hCz,rfl⟩
   obtain⟨h1,h2⟩:=hxs i x hx;rw[Ee]at h1
   exact⟨h1,by lia⟩
  clear pw lx2 hxs hCy
  rintro σ Hy ⟨xs,oa,ob,oc,pw,lx2,hxs,hCy,rfl⟩
  refine eZ (fun σ' H'=>∃xs oa od oe,Pw K C H H' b (c+80) pl xs/\xs.length=2/\(∀(i:Nat) (x:En),xs[i]? =some x->Ic t kss ba nms x.2.1/\x.2.2.length<=12)/\GW H' cd tb kt t kss/\σ'=[some (.ref b),some (.ref dr),some (.ref nl),some (.int (kss.length:Int)),some (.int ba),some (.ref cd),some (.int (1+r1)),some (.ref pl),o8,o9,oa,ob,oc,od,oe,none,none]) (fun D' hrt hnx=>?_) ?_
  refine⟨_,rfl,b,3,_,rfl,pw.bx,by lia,by decide,by decide,fun rn Hh rn0 rn1 gh=>⟨_,rfl,by lia,by lia,?_⟩⟩
  have pwx:=pw.grc gh;have hCx:=hCy.mv (S:=[b]) (fun c o h e=>gh.kp c o (fun z=>h (Jl.mpr z)) e) (QQ pw.bx)
  refine zY (n:=rn.toNat) (Pv:=fun j σ Hx=>∃xs,Pw K C H Hx b (c+71+3*j) pl xs/\xs.length=2/\(∀(i:Nat) (x:En),xs[i]? =some x->Ic t kss ba nms x.2.1/\x.2.2.length<=6+2*j)/\GW Hx cd tb kt t kss/\∃oa od oe,σ=[some (.ref b),some (.ref dr),some (.ref nl),some (.int (kss.length:Int)),some (.int ba),some (.ref cd),some (.int (1+r1)),some (.ref pl),o8,o9,oa,ob,oc,od,oe,none,none]) ⟨xs,pwx,lx2,hxs,hCx,_,_,_,rfl⟩ ?_ ?_
  ·rintro j σ Hx hj ⟨xs,pw,lx,hxs,hCz,oa,od,oe,rfl⟩
   have j3:j<2:=by lia
   have enl:=pw.s _ _ (zr nlb) hnl;refine⟨_,rfl,_,rfl,_,rfl,nl,_,rfl,.inl (F8.of enl),b,_,_,rfl,pw.bx,by lia,by rw[Jf];lia,by rw[Jf];lia,fun r H2 r0 r1 g2=>?_⟩
   have pw2:=pw.grc g2;obtain⟨nm,hat,hnm⟩:=yq r0 r1 ok.nm;refine⟨nl,_,_,_,rfl,rfl,F8.of (pw2.s _ _ (zr nlb) hnl),hat,?_⟩
   refine⟨_,rfl,_,rfl,b,_,_,rfl,pw2.bx,by lia,by lia,by lia,fun ag H3 ag0 ag1 g3=>?_⟩
   have pw3:=pw2.grc g3;refine⟨_,rfl,_,rfl,_,rfl,_,rfl,_,rfl,_,rfl,b,16,_,rfl,pw3.bx,by lia,by decide,by decide,fun r4 H4 r40 r41 g4=>⟨_,_,rfl,rfl,_,_,rfl,FS,fun p hp=>⟨FR,fun ps hps=>?_⟩⟩⟩
   obtain⟨n,en⟩:∃n,n=(if ba+r4<4095 then ba+r4 else 4095):=⟨_,rfl⟩
   have n0:0<=n/\n<4096/\n<=ba+15:=by rw[en];split<;>lia
   rw[<- en]at hps⊢;have v0:=FZ.upd (o:= .tup [.str nm,.int ag,.int n]) hp
   have v1:=FZ.upd (o:= .tup [.int 0,.int 1]) hps
   have M4:Mv [b] Hx H4:=fun c o h e=>by
    have nb:c≠b:=fun z=>h (Jl.mpr z)
    exact g4.kp _ _ nb (g3.kp _ _ nb (g2.kp _ _ nb e))
   have hC4:=((hCz.mv M4 (QQ pw.bx)).same v0).same v1;have pw5:=((pw3.grc g4).same v0).same v1;refine⟨cd,tb,kt,pl,p,ps,b,_,H,t,kss,xs,nm,ag,n,[0,1],rfl,pw5,lx,hC4,hnm,ag0,ag1,n0.1,n0.2.1,v1 _ _ qb,.inl qb,by decide,by decide,fun i x hx=>?_,fun Hn xs' pwn hCn st=>?_⟩
   ·obtain⟨h1,h2⟩:=hxs i x hx
    exact⟨h1.1.hr,by lia⟩
   ·refine⟨xs',pwn.mono (by lia),st.1.trans lx,?_,hCn,_,_,_,rfl⟩
    have:=st.all (p:=Ic t kss ba nms) (q:=Ic t kss ba nms) hxs (fun i D hD=>?_)
    ·intro i x hx
     obtain⟨h1,h2⟩:=this i x hx
     exact⟨h1,by lia⟩
    ·show Ic t kss ba nms (if i∈[0,1]then _ else _)
     split
     ·exact hD.hear n0.1 n0.2.1 n0.2.2
     ·exact hD
  ·rintro σ Hx ⟨xs,pw,lx,hxs,hCz,oa,od,oe,rfl⟩
   have rn2:rn.toNat<=2:=by lia
   exact hnx _ _ ⟨xs,_,_,_,pw.mono (by lia),lx,fun i x hx=>⟨(hxs i x hx).1,by have h2:=(hxs i x hx).2;lia⟩,hCz,rfl⟩
  clear pw lx2 hxs hCy
  rintro σ Hy ⟨xs,oa,od,oe,pw,lx,hxs,hCy,rfl⟩
  refine eZ (fun σ' H'=>∃xs,Pw K C H H' b (c+300) pl xs/\xs.length=2/\(∀(i:Nat) (x:En),xs[i]? =some x->Ib ba nms x.2.1/\x.2.1.kss.length=kss.length/\∀z∈nms,z∈x.2.1.kn.map (·.1))/\σ'[7]? =some (some (.ref pl))) (fun D' hrt hnx=>?_) ?_
  ·refine⟨_,rfl,b,3,_,rfl,pw.bx,by lia,by decide,by decide,fun rn Hh rn0 rn1 gh=>⟨rfl,_,rfl,?_⟩⟩
   have pwx:=pw.grc gh;have hCx:=hCy.mv (S:=[b]) (fun c o h e=>gh.kp c o (fun z=>h (Jl.mpr z)) e) (QQ pw.bx)
   refine qS (fun _=>?_) (fun _=>hnx _ _ ⟨xs,pwx.mono (by lia),lx,fun i x hx=>⟨(hxs i x hx).1.1.done l3,by rw[(hxs i x hx).1.1.hr.ks],(hxs i x hx).1.2⟩,rfl⟩)
   obtain⟨x0,x1,rfl⟩:=rQ lx;have en0:=pwx.en 0 x0 rfl;have en1:=pwx.en 1 x1 rfl;have enl:=pwx.s _ _ (zr nlb) hnl;obtain⟨n0,nr,rfl⟩:∃n0 nr,nms=n0::nr:=by
    cases nms with
    |nil=>cases l1
    |cons a r=>exact⟨a,r,rfl⟩
   obtain⟨q0,k0⟩:=(hxs 0 x0 rfl).1
   have q1:=(hxs 1 x1 rfl).1.1;rcases en0.md.kn.get n0 with⟨z,_⟩|⟨e,ar,he,dg,bu⟩
   ·have:=k0 n0 (Jz)
    obtain⟨p,hp,e⟩:=JA.mp this
    have:=List.lookup_eq_none_iff.mp z p hp
    rw[e]at this;simp at this
   obtain⟨wv,er,_⟩:=bu;obtain⟨kl,_⟩:=q0.kl _ (zv he)
   have a0:0<=e.age:=kl.a0
   have a1:e.age<kss.length:=by have:=kl.a1;rw[q0.hr.ks]at this;exact this
   have c0:1<=e.last:=kl.l0
   have f0:=q0.dn.n0;have f0':=q0.dn.nf;have f1:=q1.dn.n0;have f1':=q1.dn.nf;refine⟨_,rfl,pl,_,_,_,rfl,rfl,F8.of pwx.pe,rfl,x0.1.e,_,_,_,rfl,rfl,Ga.of en0.tu,rfl,x0.1.m,_,rfl,en0.md.g_known,_,rfl,nl,_,_,_,rfl,rfl,F8.of enl,Qv (j:=0) rfl,x0.1.kd,_,rfl,dg,?_⟩
   refine⟨_,rfl,ar,_,_,_,rfl,rfl,Ga.of er,rfl,_,rfl,pl,_,_,_,rfl,rfl,F8.of pwx.pe,rfl,x0.1.e,_,_,_,rfl,rfl,Ga.of en0.tu,rfl,x0.1.m,_,rfl,en0.md.g_far,_,rfl,pl,_,_,_,rfl,rfl,F8.of pwx.pe,rfl,x1.1.e,_,_,_,rfl,rfl,Ga.of en1.tu,rfl,x1.1.m,_,rfl,en1.md.g_far,_,_,rfl,_,_,rfl,rfl,_,_,rfl,rfl,_,_,rfl,?_⟩
   refine⟨_,rfl,ar,_,_,_,rfl,rfl,Ga.of er,rfl,_,rfl,_,rfl,_,rfl,ar,_,_,_,rfl,rfl,Ga.of er,rfl,_,_,rfl,rfl,b,_,_,rfl,pwx.bx,by lia,by lia,by lia,fun r5 H5 r50 r51 g5=>⟨_,_,rfl,rfl,?_⟩⟩
   have pwy:=pwx.grc g5;have hC5:=hCx.mv (S:=[b]) (fun c o h e=>g5.kp c o (fun z=>h (Jl.mpr z)) e) (QQ pwx.bx)
   have enl5:=pwy.s _ _ (zr nlb) hnl;obtain⟨cn,ecn⟩:∃cn,cn=(if e.last+(if x1.2.1.far<x0.2.1.far then x1.2.1.far else x0.2.1.far)-1<4095 then e.last+(if x1.2.1.far<x0.2.1.far then x1.2.1.far else x0.2.1.far)-1 else 4095):=⟨_,rfl⟩
   have cn0:0<=cn/\cn<4096:=by rw[ecn];split<;>split<;>lia
   refine⟨_,rfl,_,rfl,_,rfl,nl,_,_,_,rfl,rfl,F8.of enl5,Qv (j:=0) rfl,_,rfl,_,rfl,FS,fun p hp=>⟨FR,fun ps hps=>?_⟩⟩
   rw[<- ecn]at hps⊢;have v0:=FZ.upd (o:= .tup [.str n0,.int (e.age+r5),.int cn]) hp
   have v1:=FZ.upd (o:= .tup [.int 0,.int 1]) hps
   refine⟨cd,tb,kt,pl,p,ps,b,_,H,t,kss,[x0,x1],n0,e.age+r5,cn,[0,1],rfl,(pwy.same v0).same v1,rfl,(hC5.same v0).same v1,ok.nm n0 (Jz),by lia,by lia,cn0.1,cn0.2,v1 _ _ qb,.inl qb,by decide,by decide,fun i x hx=>?_,fun Hn xs' pwn hCn st=>?_⟩
   ·obtain⟨h1,h2⟩:=hxs i x hx
    exact⟨h1.1.hr,by lia⟩
   ·refine hnx _ _ ⟨xs',pwn.mono (by lia),st.1,fun i x hx=>?_,rfl⟩
    have:=st.all (p:=Ic t kss ba (n0::nr)) (q:=fun D=>Ib ba (n0::nr) D/\D.kss.length=kss.length/\∀z∈n0::nr,z∈D.kn.map (·.1)) hxs (fun i D hD=>?_)
    ·exact(this i x hx).1
    ·show(fun D=>Ib ba (n0::nr) D/\D.kss.length=kss.length/\∀z∈n0::nr,z∈D.kn.map (·.1)) (if i∈[0,1]then _ else _)
     split
     ·exact⟨hD.1.last l3 cn0.1 cn0.2,by show D.kss.length=_;rw[hD.1.hr.ks],fun z hz=>by rw[Z5];exact hD.2 z hz⟩
     ·exact⟨hD.1.done l3,by rw[hD.1.hr.ks],hD.2⟩
  rintro σ Hx ⟨xs,pw,lx,hxs,hs7⟩
  exact⟨_,hs7,q pl xs _ pw lx hxs⟩
end
section
variable{P:Program}{w:World}{K:Frag}{mg:FX}{base:Heap}{tk:Nat->Tok}{C:Addr}
theorem wB{H:Hp}{n:Nat}{x y:V}(h:HU H n x y):HU H (n+1) x y:=by
 induction h with
 |int n i=>exact .int _ i
 |str n x=>exact .str _ x
 |non n=>exact .non _
 |tup h1 h2 hl hz _ ih=>exact .tup h1 h2 hl hz ih
 |lst h1 h2 hl hz _ ih=>exact .lst h1 h2 hl hz ih
theorem gk{H:Hp}{v:V}{o:Option Qs}(h:HV H v o):decide (v= .non)=o.isNone:=by
 cases o with
 |none=>rw[show v= .non from h];exact Jg rfl
 |some r=>obtain⟨t,as,rfl,_⟩:=h;exact Jn (fun z=>nomatch z)
theorem Bf{f:Addr}{fd:FuncData}(F:Io K "law" "law" Z2 f fd)(T:Gw K mg tk)(U:G0 K C)(xZ:Df P w K mg base "_law_box" ["_law_script","_law_k"] 1 (sO K))(yE:Df P w K mg base "_law_few" ["_law_box_here"] 2 og)(xC:Df P w K mg base "_law_near_alike" ["_law_box_here","_law_drawn_here"] 9 (l9 K C))(xE:Df P w K mg base "_law_one" ["_law_owns","_law_drawn_here"] 2 (lX 34))(yD:Df P w K mg base "_law_two" ["_law_owns","_law_drawn_here"] 3 (uQ 34))(dQ:Df P w K mg base "telling" ["one","other"] 6 (j9 K C))(yI:Df P w K mg base "agree" ["one","other"] 7 (oG K C))(yM:∀n:Nat,n<=8->Df P w K mg base "_law_alike" ["_law_found","_law_due"] (n+1) (BT n))(yF:Df P w K mg base "_law_is" ["_law_found","_law_due"] 1 ug):Hl P w K mg base aO 10 f fd ["_law_script"] (j6 K):=by
 have dL:=yM 3 (by decide)
 refine F.dq GO (fun vs H Q E h=>?_) (fun cdv A outer s H vs Q E hr h=>?_)
 ·obtain⟨x,ns,rfl,_⟩:=h
  rfl
 ·obtain⟨sc,ns,rfl,hS,hlen,q⟩:=h
  refine⟨_,(qd (qV JJ rfl (zE rfl T.b_range (qc (qp qJ qf (qk qP T.b_len J8 (qc (ZI oC (qv 0) af (ai qf)) qa))) qa)) (qg (i:=1) GO.nd rfl (Or.inl rfl))
   (qd (qy (i:=2) GO.nd rfl (Or.inl rfl) (qo xZ hr.mo (qc (qv 0) (qc (qv 1) qa))))
   (qd (qy (i:=3) GO.nd rfl (Or.inl rfl) (qo yE hr.mo (qc (qv 2) qa)))
   (qd (zg (qo xC hr.mo (qc (qv 2) (qc (qv 3) qa))) (zw rfl (qm (zw rfl (qm (qg (i:=4) GO.nd rfl (Or.inl rfl)) (qm (qg (i:=5) GO.nd rfl (Or.inl rfl)) qO))) (qm (zw rfl (qm (qg (i:=6) GO.nd rfl (Or.inl rfl)) (qm (qg (i:=7) GO.nd rfl (Or.inl rfl)) qO))) qO))))
   (qd (qy (i:=8) GO.nd rfl (Or.inl rfl) (qo xE hr.mo (qc (zb (qc (qv 5) (qc (qv 7) qa))) (qc (qv 3) qa))))
   (qd (qC (qx zM (qv 8) qM (qq _)) (qe (qy (i:=8) GO.nd rfl (Or.inl rfl) (qo yD hr.mo (qc (zb (qc (qv 5) (qc (qv 7) qa))) (qc (qv 3) qa))))) qr)
   (qd (qy (i:=9) GO.nd rfl (Or.inl rfl) (qo dQ hr.mo (qc (qv 4) (qc (qv 6) qa))))
   (qd (qC (QW.pt (zX (Qd (qW (qo dL hr.mo (qc (qv 9) (qc (qv 8) qa))))) (zG (Qd (qW (qo yF hr.mo (qc (qo yI hr.mo (qc (qv 4) (qc (qv 6) qa))) (qc (zh zM (qv 8) qM (qq _)) qa)))))))) (qe (ql ZM)) qr)
   (qe (qC (Qd (qW (qo dL hr.mo (qc (zb (qc (qo dQ hr.mo (qc (qv 6) (qc (qv 4) qa))) (qc (qo dQ hr.mo (qc (qv 4) (qc (qv 6) qa))) qa))) (qc (zb (qc (qv 8) (qc (qv 8) qa))) qa))))) (qe (ql ZM)) qr))))))))))
   (qe (ql ZM))),?_⟩
  refine⟨_,rfl,_,rfl,sc,_,rfl,hS,fun l0 hl0=>⟨l0,_,rfl,.inl (F8.of qb),_,_,rfl,rfl,_,rfl,?_,?_,?_⟩⟩
  ·lia
  ·rw[cx,Jf]
   have:(am ns none (some 2)).length<=ns.length:=by unfold am;rw[DW,Fu];lia
   lia
  have u0:=FZ.upd (o:= .lst (Zy (ns.map V.int) none (some 2))) hl0
  have hS0:=u0.seq hS;generalize F5 H l0 (.lst (Zy (ns.map V.int) none (some 2)))=Ha at *
  refine zY (Pv:=fun k σ Hx=>FZ Ha Hx/\∃(o1 o2 o3 o4 o5 o6 o7 o8 o9:Option V),σ=[some (.ref sc),o1,o2,o3,o4,o5,o6,o7,o8,o9]) ⟨FZ.refl _,none,none,none,none,none,none,none,none,none,rfl⟩ ?_ ?_
  ·rintro k σ H1 hk ⟨s1,o1,o2,o3,o4,o5,o6,o7,o8,o9,rfl⟩
   refine⟨_,rfl,_,rfl,sc,ns,k,by simp,s1.seq hS0,fun b H2 fb s2 bx2=>?_⟩
   refine⟨_,rfl,b,0,rfl,bx2,by decide,fun dr nl nms many ba H3 g3 edr enl fnl ok=>?_⟩
   have nlb:nl≠b:=fun z=>by obtain⟨_,_,_,e,_⟩:=bx2;rw[z,e]at fnl;cases fnl
   have drb:dr≠b:=fun z=>by obtain⟨_,_,_,e,_⟩:=g3.bx;rw[z,e]at edr;cases edr
   refine⟨_,rfl,_,rfl,b,dr,nl,_,nms,many,ba,rfl,g3.bx,by decide,edr,enl,nlb,ok,fun pl xs H4 pw lx hxs=>?_⟩
   obtain⟨x0,x1,rfl⟩:=rQ lx;have en0:=pw.en 0 x0 rfl;have en1:=pw.en 1 x1 rfl;obtain⟨r0,hm0,al0⟩:=hxs 0 x0 rfl;obtain⟨r1,hm1,al1⟩:=hxs 1 x1 rfl;subst hm0;have l3:=ok.l3;have m3:=ok.m3;have b1:=ok.b1;have td0:=r0.td;have td1:=r1.td;have edr4:=pw.s _ _ (zr drb) edr;have enl4:=pw.s _ _ (zr nlb) enl;have base4:∀c o,Ha c=some o->H4 c=some o:=fun c o e=>by
    have nb:c≠b:=fun z=>by rw[z]at e;rw[s1 _ _ e]at fb;cases fb
    exact pw.s c o (zr nb) (g3.kp c o nb (s2 _ _ (s1 _ _ e)))
   refine⟨pl,_,rfl,.lst pw.pe,rfl,_,_,rfl,?_⟩
   refine⟨x0.1.e,_,rfl,.tup en0.tu,rfl,_,_,rfl,_,_,rfl,rfl,?_⟩
   refine⟨_,_,rfl,x1.1.e,_,rfl,.tup en1.tu,rfl,_,_,rfl,_,_,rfl,rfl,rfl,?_⟩
   clear hxs lx pw hS hS0 u0 hl0 s1 s2 g3 fb bx2;refine⟨_,rfl,_,rfl,FR,fun ol hol=>?_⟩
   have uo:=FZ.upd (o:= .lst [.ref x0.1.m,.ref x1.1.m]) hol
   refine⟨_,rfl,ol,x0.1.m,x0.1.kd,x1.1.m,x1.1.kd,dr,nl,x0.2.1,x1.2.1,nms,x0.2.1.kss.length,ba,rfl,qb,(en0.same uo).md,(en1.same uo).md,uo _ _ edr4,uo _ _ enl4,by lia,by lia,ok.b0,by lia,fun u ms Hd sd pm so tl=>?_⟩
   have Sd:=uo.trans sd;have due:=r0.due r1 hm1.symm ok.b0 b1 ms;refine ZB (fun σ' H'=>∃v,FZ H4 H'/\HV H' v (zF x0.2.1 x1.2.1 ms)/\σ'=[some (.ref sc),some (.int (0+(k:Int))),some (.ref b),some (.ref dr),some (.ref x0.1.a.p),some (.ref x0.1.m),some (.ref x1.1.a.p),some (.ref x1.1.m),some v,o9]) (fun D0 hrt hnx=>?_) ?_
   ·cases ef:ms.findSome? (zT x0.2.1 x1.2.1 x0.2.1.kss.length ba (qU 34 ba))with
    |some r=>
     rw[ef]at tl due;refine⟨_,rfl,rfl,_,rfl,qS (fun y=>?_) (fun _=>hnx _ _ ⟨u,Sd,by rw[due];exact tl,rfl⟩)⟩
     rw[gk (o:=some r) tl]at y
     cases y
    |none=>
     rw[ef]at tl due;refine⟨_,rfl,rfl,_,rfl,qS (fun _=>?_) (fun y=>absurd (by rw[gk (o:=none) tl];rfl) y)⟩
     have en0d:=en0.same Sd;have en1d:=en1.same Sd;refine⟨_,rfl,_,rfl,FR,fun ol2 hol2=>?_⟩
     have uo2:=FZ.upd (o:= .lst [.ref x0.1.m,.ref x1.1.m]) hol2
     refine⟨_,rfl,ol2,x0.1.m,x0.1.kd,x1.1.m,x1.1.kd,dr,nl,x0.2.1,x1.2.1,nms,x0.2.1.kss.length,ba,rfl,qb,(en0d.same uo2).md,(en1d.same uo2).md,td0.ok,td1.ok,td0.dn.nf,td1.dn.nf,uo2 _ _ (Sd _ _ edr4),uo2 _ _ (Sd _ _ enl4),by lia,by lia,ok.b0,by lia,fun u2 ms2 He se pm2 so2 tl2=>?_⟩
     obtain rfl:ms=ms2:=fS pm so pm2 so2
     exact hnx _ _ ⟨u2,(Sd.trans uo2).trans se,by rw[due];exact tl2,rfl⟩
   clear tl sd uo hol Sd due
   rintro σ He ⟨u,Se,tl,rfl⟩
   have nms':∀{ns2:List Str},ns2.Nodup->PyProof.Rows.sortedS ns2=true->(∀k,k∈ns2↔k∈x0.2.1.kn.map (·.1)\/k∈x1.2.1.kn.map (·.1))->ns2=ms:=fun n2 s2 m2=>pS n2 (pm.nodup_iff.mpr ok.nd) s2 so fun k=>(m2 k).trans ((show(k∈x0.2.1.kn.map (·.1)\/k∈x1.2.1.kn.map (·.1))↔k∈nms from⟨fun h=>h.elim (r0.sub k) (r1.sub k),fun h=> .inl (al0 k h)⟩).trans pm.mem_iff.symm)
   have e0:=en0.same Se;have e1:=en1.same Se;refine⟨_,rfl,_,rfl,x0.1.a.p,x0.1.a.ta,x0.1.a.hk,x0.1.a.bd,x0.1.a.lg,_,x0.2.1,x1.1.a.p,x1.1.a.ta,x1.1.a.hk,x1.1.a.bd,x1.1.a.lg,_,x1.2.1,rfl,e0.dl.dr,e1.dl.dr,td0,td1,fun v ns1 Hf sf nd1 mem1 sn1 tv=>?_⟩
   rw[nms' nd1 sn1 mem1]at tv;have tl:=tl.same sf;have le2:∀r,zF x0.2.1 x1.2.1 ms=some r->r.length<=2:=fun r h=>yz h
   refine ZB (fun σ' H'=>FZ Hf H'/\σ'=[some (.ref sc),some (.int (0+(k:Int))),some (.ref b),some (.ref dr),some (.ref x0.1.a.p),some (.ref x0.1.m),some (.ref x1.1.a.p),some (.ref x1.1.m),some u,some v]) (fun D0 hrt hnx=>?_) ?_
   ·refine⟨_,rfl,_,rfl,_,_,rfl,wB (tv.eqw tl le2),fun Hg sg=>⟨_,rfl,qZ ?_⟩⟩
    have e0g:=(e0.same sf).same sg;have e1g:=(e1.same sf).same sg;refine⟨_,rfl,_,rfl,x0.1.a.p,x0.1.a.ta,x0.1.a.hk,x0.1.a.bd,x0.1.a.lg,_,x0.2.1,x1.1.a.p,x1.1.a.ta,x1.1.a.hk,x1.1.a.bd,x1.1.a.lg,_,x1.2.1,rfl,e0g.dl.dr,e1g.dl.dr,td0,td1,fun ns2 Hi si nd2 mem2 sn2=>⟨_,rfl,rfl,(zF x0.2.1 x1.2.1 ms).isNone,?_,?_⟩⟩
    ·rw[nms' nd2 sn2 mem2,gk tl];rfl
    ·exact⟨_,rfl,qZ (hnx _ _ ⟨sg.trans si,rfl⟩)⟩
   rintro σ Hg ⟨sg,rfl⟩
   have tl:=tl.same sg;have e0g:=(e0.same sf).same sg;have e1g:=(e1.same sf).same sg;have comm:∀{ns2:List Str},zF x1.2.1 x0.2.1 ns2=zF x0.2.1 x1.2.1 ns2:=fun{ns2}=>uR td1.dn td0.dn td1.kn td0.kn hm1 ns2
   refine⟨_,rfl,_,rfl,x1.1.a.p,x1.1.a.ta,x1.1.a.hk,x1.1.a.bd,x1.1.a.lg,_,x1.2.1,x0.1.a.p,x0.1.a.ta,x0.1.a.hk,x0.1.a.bd,x0.1.a.lg,_,x0.2.1,rfl,e1g.dl.dr,e0g.dl.dr,td1,td0,fun v2 ns2 Hi si nd2 mem2 sn2 tv2=>?_⟩
   rw[nms' nd2 sn2 fun k=>(mem2 k).trans Or.comm,comm]at tv2
   have e0i:=e0g.same si;have e1i:=e1g.same si;refine⟨_,rfl,_,rfl,x0.1.a.p,x0.1.a.ta,x0.1.a.hk,x0.1.a.bd,x0.1.a.lg,_,x0.2.1,x1.1.a.p,x1.1.a.ta,x1.1.a.hk,x1.1.a.bd,x1.1.a.lg,_,x1.2.1,rfl,e0i.dl.dr,e1i.dl.dr,td0,td1,fun v3 ns3 Hj sj nd3 mem3 sn3 tv3=>?_⟩
   rw[nms' nd3 sn3 mem3]at tv3;refine⟨FR,fun l1 hl1=>?_⟩
   have w1:=FZ.upd (o:= .lst [v2,v3]) hl1
   refine⟨_,rfl,_,rfl,FR,fun l2 hl2=>?_⟩
   have w2:=FZ.upd (o:= .lst [u,u]) hl2
   have tl:=(((tl.same si).same sj).same w1).same w2;refine⟨_,_,rfl,HU.ltwo (w2 _ _ qb) qb (((tv2.same sj).same w1).same w2 |>.eqw tl le2) ((tv3.same w1).same w2 |>.eqw tl le2),fun Hz sz=>⟨_,rfl,qZ ⟨fun c o e=>sz _ _ (w2 _ _ (w1 _ _ (sj _ _ (si _ _ (sg _ _ (sf _ _ (Se _ _ (base4 c o e)))))))),_,_,_,_,_,_,_,_,_,rfl⟩⟩⟩
  rintro σ Hx ⟨_,o1,o2,o3,o4,o5,o6,o7,o8,o9,rfl⟩
  exact q _
end
theorem AZ{l:W.OpenLaw}{w:World}{K:Frag}{h:Heap}{mg:FX}{fa:Addr}(X:K.In h)(G:h.Ns mainGlobals mg)(hfa:mg "law"=some (.ref fa))
  {C:Addr}
  (aCD:W.nsIn K mainGlobals "Door"=some (some (.ref C)))
  (pgD:W.plainGet K C Str.empty=true)
  (hdD:W.hasDictIn K C=true)
  (poD:W.plainOver K C=true)
  (saD:W.findIn K (.ref C) "__setattr__"=some (some (.builtin "object.__setattr__")))
  (mkD:W.makesIn K C=true)
  (kcD:W.keepIn K (.ref C)=true)
  (n_D_table:W.findIn K (.ref C) "table"=some none)
  (n_D_house_keys:W.findIn K (.ref C) "house_keys"=some none)
  (n_D_near:W.findIn K (.ref C) "near"=some none)
  (n_D_far:W.findIn K (.ref C) "far"=some none)
  (n_D_most:W.findIn K (.ref C) "most"=some none)
  (n_D_least_age:W.findIn K (.ref C) "least_age"=some none)
  (n_D_buttons:W.findIn K (.ref C) "buttons"=some none)
  (n_D_log:W.findIn K (.ref C) "log"=some none)
  (A0:Ac K mg "is_number" bp)
  (A1:Ac K mg "is_digit" bV)
  (A2:Ac K mg "are_digits" ap)
  (A3:Ac K mg "back_table" aH)
  (A4:Ac K mg "coded" ib)
  (A5:Ac K mg "decoded" cU)
  (A6:Ac K mg "is_name" eB)
  (A7:Ac K mg "is_code" cO)
  (A8:Ac K mg "is_press" cf)
  (A9:Ac K mg "letter_digits" Zt)
  (A10:Ac K mg "key_of" gs)
  (A11:Ac K mg "count_digits" ZC)
  (A12:Ac K mg "press_of" b9)
  (A13:Ac K mg "read_press" aI)
  (A14:Ac K mg "word_of" cY)
  (A15:Ac K mg "step_by" dc)
  (A16:HY K C "__init__" "Door.__init__" Q4)
  (A17:HY K C "is_full" "Door.is_full" Zz)
  (A18:HY K C "button_of" "Door.button_of" Q9)
  (A19:HY K C "takes_age" "Door.takes_age" Ze)
  (A20:HY K C "takes_from" "Door.takes_from" QX)
  (A21:HY K C "plain_step" "Door.plain_step" Qm)
  (A22:HY K C "answer_to" "Door.answer_to" Zd)
  (A23:HY K C "hear" "Door.hear" bi)
  (A24:HY K C "read_right" "Door.read_right" QZ)
  (A25:HY K C "learn" "Door.learn" au)
  (A26:HY K C "known_now" "Door.known_now" Zc)
  (A27:HY K C "keys_now" "Door.keys_now" Zn)
  (A28:HY K C "closed_now" "Door.closed_now" QY)
  (A29:HY K C "bounds_told" "Door.bounds_told" QM)
  (A30:Ac K mg "stretches_of" ZJ)
  (A31:Ac K mg "names_known" ZX)
  (A32:Ac K mg "lesser_end" aN)
  (A33:Ac K mg "counts_in" bm)
  (A34:Ac K mg "least_apart" ZZ)
  (A35:Ac K mg "press_apart" Z0)
  (A36:Ac K mg "pair_apart" aM)
  (A37:Ac K mg "telling" c8)
  (A38:Ac K mg "agree" iM)
  (A39:Ac K mg "_law_box" cN)
  (A40:Ac K mg "_law_take" cj)
  (A41:Ac K mg "_law_table" bw)
  (A42:Ac K mg "_law_key" c6)
  (A43:Ac K mg "_law_model" bf)
  (A44:Ac K mg "_law_word" cp)
  (A45:Ac K mg "_law_hear" bZ)
  (A46:Ac K mg "_law_press" bt)
  (A47:Ac K mg "_law_learnt" aA)
  (A48:Ac K mg "_law_heard" bh)
  (A49:Ac K mg "_law_window" aL)
  (A50:Ac K mg "_law_alike" be)
  (A51:Ac K mg "_law_one" eE)
  (A52:Ac K mg "_law_copied" aq)
  (A53:Ac K mg "_law_two" du)
  (A54:Ac K mg "_law_few" cM)
  (A55:Ac K mg "_law_near_alike" Q8)
  (A56:Ac K mg "_law_is" gg)
  {f57:Addr}{od57 an57:Option Addr}{sl57:Array (Option Value)}{oc57 kV57 dc57 pm57 cd57 ct57:Value}
  (a57:W.nsIn K mainGlobals "law"=some (some (.ref f57)))
  (l57:K.lookup f57=some ⟨oc57,od57,.func (W.fnOf "law" "law" (Qw Z2) (zH Z2) (qh Z2) .none kV57 dc57 pm57 an57 cd57 ct57),sl57⟩)
  (c57:W.codeIn K cd57 "law"=true)
  (k57:W.keepIn K (.ref f57)=true)
  {t0:Tok}
  (yg0:W.nsIn K mainGlobals "DIGITS"=some (some (.int 16 t0)))
  {t1:Tok}
  (yg1:W.nsIn K mainGlobals "KEY_PLACES"=some (some (.int 4 t1)))
  {t2:Tok}
  (yg2:W.nsIn K mainGlobals "LONGEST_NAME"=some (some (.int 8 t2)))
  {t3:Tok}
  (yg3:W.nsIn K mainGlobals "CODE_DIGITS"=some (some (.int 5 t3)))
  {t4:Tok}
  (yg4:W.nsIn K mainGlobals "COUNTS"=some (some (.int 4096 t4)))
  (z0:W.nsIn K mainGlobals "isinstance"=some none)
  (z1:W.nsIn K mainGlobals "bool"=some none)
  (z2:W.nsIn K mainGlobals "int"=some none)
  (z3:W.nsIn K mainGlobals "tuple"=some none)
  (z4:W.nsIn K mainGlobals "all"=some none)
  (z5:W.nsIn K mainGlobals "any"=some none)
  (z6:W.nsIn K mainGlobals "len"=some none)
  (z7:W.nsIn K mainGlobals "abs"=some none)
  (z8:W.nsIn K mainGlobals "list"=some none)
  (z9:W.nsIn K mainGlobals "enumerate"=some none)
  (z10:W.nsIn K mainGlobals "range"=some none)
  (z11:W.nsIn K mainGlobals "max"=some none)
  (z12:W.nsIn K mainGlobals "min"=some none)
  (z13:W.nsIn K mainGlobals "str"=some none)
  (z14:W.nsIn K mainGlobals "zip"=some none)
  (z15:W.nsIn K mainGlobals "ord"=some none)
  (z16:W.nsIn K mainGlobals "sum"=some none)
  (z17:W.nsIn K mainGlobals "reversed"=some none)
  (z18:W.nsIn K mainGlobals "sorted"=some none)
  (z19:W.nsIn K mainGlobals "dict"=some none)
  (z20:W.nsIn K mainGlobals "set"=some none):
  ∃fd:FuncData,(∀(s:Shared) (v:Value),BindsTo s fd ⟨[v],[]⟩ [("_law_script",v)])/\∀base:Heap,K.In base->base.Ns mainGlobals mg->Hl l.prog w K mg base aO 10 fa fd ["_law_script"] (j6 K):=by
 have e:=hfa.symm.trans (Ez X G a57);cases e;have T:Gw K mg (fun i=>if i=0 then t0 else if i=1 then t1 else if i=2 then t2 else if i=3 then t3 else if i=4 then t4 else 0):=⟨Ez X G yg0,Ez X G yg1,Ez X G yg2,Ez X G yg3,Ez X G yg4,JV X G z0,JV X G z1,JV X G z2,JV X G z3,JV X G z4,JV X G z5,JV X G z6,JV X G z7,JV X G z8,JV X G z9,JV X G z10,JV X G z11,JV X G z12,JV X G z13,JV X G z14,JV X G z15,JV X G z16,JV X G z17,JV X G z18,JV X G z19,JV X G z20⟩
 refine⟨W.fnOf "law" "law" (Qw Z2) (zH Z2) (qh Z2) .none kV57 dc57 pm57 an57 cd57 ct57,fun s v=> .of_eq rfl,fun base _ _=>?_⟩
 have U:G0 K C:=⟨⟨pgD,hdD,poD,saD⟩,n_D_table,n_D_house_keys,n_D_near,n_D_far,n_D_most,n_D_least_age,n_D_buttons,n_D_log⟩
 have dR:=kN (P:=l.prog) (w:=w) (base:=base) (A0.at fun _ _ _ _ _ _=>QU fun _=>rfl) T
 have xY:=mW (A1.at fun _ _ _ _ _ _=>QU fun _=>rfl) T dR
 have xT:=jM (A2.at fun _ _ _ _ _ _=>QU fun _=>rfl) T xY
 have xR:=jU (P:=l.prog) (w:=w) (base:=base) (A3.at fun _ _ _ _ _ _=>QU fun _=>rfl) T
 have xN:=vm (P:=l.prog) (w:=w) (base:=base) (A4.at fun _ _ _ _ _ _=>fL fun _ _ _=>rfl) T
 have yB:=rK (A5.at fun _ _ _ _ _ _=>fL fun _ _ _=>rfl) T xR
 have x6:=rq (P:=l.prog) (w:=w) (base:=base) (A6.at fun _ _ _ _ _ _=>QU fun _=>rfl) T
 have yA:=pY (A7.at fun _ _ _ _ _ _=>QU fun _=>rfl) T xT
 have dX:=mZ (A8.at fun _ _ _ _ _ _=>QU fun _=>rfl) T x6 dR yA
 have xG:=f6 (P:=l.prog) (w:=w) (base:=base) (A9.at fun _ _ _ _ _ _=>QU fun _=>rfl) T
 have xH:=tV (A10.at fun _ _ _ _ _ _=>fL fun _ _ _=>rfl) T xG xN
 have xI:=gN (P:=l.prog) (w:=w) (base:=base) (A11.at fun _ _ _ _ _ _=>QU fun _=>rfl) T
 have xX:=ng (A12.at fun _ _ _ _ _ _=>C9 fun _ _ _ _ _ _=>rfl) T xI xH xN
 have dP:=jX (A13.at fun _ _ _ _ _ _=>fL fun _ _ _=>rfl) T xH yB
 have x8:=oY (P:=l.prog) (w:=w) (base:=base) (A14.at fun _ _ _ _ _ _=>jn fun _ _ _ _=>rfl) T
 have xD:=pW (A15.at fun _ _ _ _ _ _=>Dg fun _ _ _ _ _=>rfl) T x8
 have A16:=A16.at (ps:=["self","table","keys","near","far","most"]) fun _ _ _ _ _ _=>C9 fun _ _ _ _ _ _=>rfl
 have yJ:=iD (P:=l.prog) (w:=w) (base:=base) A16 T U
 have yH:=yJ.mi mkD kcD (Ez X G aCD);have yL:=(gI (P:=l.prog) (w:=w) (base:=base) A16 T U).mi mkD kcD (Ez X G aCD)
 have xJ:=hV (P:=l.prog) (w:=w) (base:=base) (A17.at fun _ _ _ _ _ _=>QU fun _=>rfl) T U
 have dC:=fF (P:=l.prog) (w:=w) (base:=base) (A18.at fun _ _ _ _ _ _=>Zw fun _ _=>rfl) T U
 have dH:=fD (P:=l.prog) (w:=w) (base:=base) (A19.at fun _ _ _ _ _ _=>Zw fun _ _=>rfl) T U
 have dB:=dy (A20.at fun _ _ _ _ _ _=>fL fun _ _ _=>rfl) T U dH
 have A21:=A21.at (ps:=["self","button","age","count"]) fun _ _ _ _ _ _=>jn fun _ _ _ _=>rfl
 have dG:=cR A21 T U dB xD;have G_Door_plain_step:=cK A21 T U dB xD;have xB:=fE (A22.at fun _ _ _ _ _ _=>Zw fun _ _=>rfl) T U dC dB dG dP
 have xU:=lN (A23.at fun _ _ _ _ _ _=>Zw fun _ _=>rfl) T U dX xB
 have dM:=c5 (A24.at fun _ _ _ _ _ _=>Zw fun _ _=>rfl) T U dX dH dP
 have xS:=jS (A25.at fun _ _ _ _ _ _=>fL fun _ _ _=>rfl) T U dM xJ
 have xA:=fI (P:=l.prog) (w:=w) (base:=base) (A26.at fun _ _ _ _ _ _=>QU fun _=>rfl) T U
 have xF:=gl (P:=l.prog) (w:=w) (base:=base) (A27.at fun _ _ _ _ _ _=>QU fun _=>rfl) T U
 have dY:=dz (P:=l.prog) (w:=w) (base:=base) (A28.at fun _ _ _ _ _ _=>QU fun _=>rfl) T U
 have dD:=cH (P:=l.prog) (w:=w) (base:=base) (A29.at fun _ _ _ _ _ _=>QU fun _=>rfl) T U
 have dW:=gW (A30.at fun _ _ _ _ _ _=>fL fun _ _ _=>rfl) T U dB dD
 have dZ:=iF (A31.at fun _ _ _ _ _ _=>QU fun _=>rfl) T U xA
 have xQ:=jN (A32.at fun _ _ _ _ _ _=>jn fun _ _ _ _=>rfl) T U dD
 have xL:=lq (P:=l.prog) (w:=w) (base:=base) (A33.at fun _ _ _ _ _ _=>QU fun _=>rfl) T
 have xM:=io (A34.at fun _ _ _ _ _ _=>Zw fun _ _=>rfl) T xL
 have dJ:=ip (A35.at fun _ _ _ _ _ _=>jn fun _ _ _ _=>rfl) T U xF dW xM
 have xP:=jR (A36.at fun _ _ _ _ _ _=>jn fun _ _ _ _=>rfl) T U dY G_Door_plain_step xQ dJ
 have dQ:=p9 (A37.at fun _ _ _ _ _ _=>Zw fun _ _=>rfl) T U dC dZ dJ xP
 have yI:=vy (A38.at fun _ _ _ _ _ _=>Zw fun _ _=>rfl) T dQ
 have xZ:=p8 (P:=l.prog) (w:=w) (base:=base) (A39.at fun _ _ _ _ _ _=>Zw fun _ _=>rfl) T
 have dA:=mQ (P:=l.prog) (w:=w) (base:=base) (A40.at fun _ _ _ _ _ _=>Zw fun _ _=>rfl) T
 have xV:=kK (A41.at fun _ _ _ _ _ _=>QU fun _=>rfl) T dA
 have x9:=rB (A42.at fun _ _ _ _ _ _=>QU fun _=>rfl) T dA
 have xW:=ki (P:=l.prog) (w:=w) (base:=base) (A43.at fun _ _ _ _ _ _=>fL fun _ _ _=>rfl) T
 have dI:=mT (P:=l.prog) (w:=w) (base:=base) (A44.at fun _ _ _ _ _ _=>Zw fun _ _=>rfl) T
 have dE:=mV (A45.at fun _ _ _ _ _ _=>Zw fun _ _=>rfl) T dI
 have dU:=mD (A46.at fun _ _ _ _ _ _=>fL fun _ _ _=>rfl) T xX
 have N_law_learnt:=iN (A47.at fun _ _ _ _ _ _=>jn fun _ _ _ _=>rfl) T U xS dU
 have xK:=kU (A48.at fun _ _ _ _ _ _=>jn fun _ _ _ _=>rfl) T U xU dU dE
 have dO:=jV (P:=l.prog) (w:=w) (base:=base) (A49.at fun _ _ _ _ _ _=>QU fun _=>rfl) T
 have dL:=dv (P:=l.prog) (w:=w) (base:=base) (A50.at fun _ _ _ _ _ _=>Zw fun _ _=>rfl) T
 have xE:=oZ (A51.at fun _ _ _ _ _ _=>Zw fun _ _=>rfl) T dI dO
 have xO:=jK (P:=l.prog) (w:=w) (base:=base) (A52.at fun _ _ _ _ _ _=>QU fun _=>rfl) T
 have yD:=pK (A53.at fun _ _ _ _ _ _=>Zw fun _ _=>rfl) T dI dE dO xO xE
 have yE:=pG (A54.at fun _ _ _ _ _ _=>QU fun _=>rfl) T dA
 have xC:=fB (A55.at fun _ _ _ _ _ _=>Zw fun _ _=>rfl) T U yL dA xV x9 xW N_law_learnt xK
 have yF:=sF (P:=l.prog) (w:=w) (base:=base) (A56.at fun _ _ _ _ _ _=>Zw fun _ _=>rfl) T
 exact Bf (mr (st:=Z2) l57 c57 k57) T U xZ yE xC xE yD dQ yI dL yF
theorem vE{l:W.OpenLaw}{q:Program}{loose:List Str}{XP:(Str->Option Value)->Heap->Prop}{YP:World->Heap->Prop}{d:DefRec}{K:Params->Frag}(hn:l.most=some 63)(hdf:d.params.defaults=[])
  (hY:∀(w:World) (h:Heap),YP w h->(K w.params).In h)
  (F:∀(w:World) (mg:FX) (fa:Addr) (h:Heap),(K w.params).In h->h.Ns mainGlobals mg->mg d.name=some (.ref fa)->
   ∃fd:FuncData,(∀(s:Shared) (u:Value),BindsTo s fd ⟨[u],[]⟩ [("_law_script",u)])/\∀base:Heap,(K w.params).In base->base.Ns mainGlobals mg->Hl l.prog w (K w.params) mg base aO 10 fa fd ["_law_script"] (j6 (K w.params))):
  W.WalkO q loose XP YP l.row.toRowW d [] (fun f vs=>PySem.call f vs):=
 L2.AM (n:=63) (k:=10) (x:="_law_script") (CX:=fun _=>aO) (sp:=fun w=>j6 (K w.params)) hn (by decide) hdf ⟨rfl,by decide,by decide⟩ hY F (fun _ _ a ns hl _ hS=>⟨a,ns,rfl,hS,hl,fun _=>rfl⟩) fun _ _ _ _ _ z=>z
end Lw
namespace PySem.W.Fast
def tw14407497556987710487:=()
def tw7353514611906320414:=()
def tw16730038545375932160:=()
def tw10830168020888105827:=()
def tw17583101059275464413:=()
def tw18419722765174838565:=()
def tw8784655457356709137:=()
def tw4333470585434115999:=()
def tw2637133192975944399:=()
def tw16834881443062077100:=()
def tw5167173300971103084:=()
def tw2632216403035771005:=()
def tw14280367232935099870:=()
def tw1513027337628388852:=()
def tw3920971926204403801:=()
def tw4027310970612078232:=()
def tw12178551115059504540:=()
def tw7762583231852065887:=()
def tw12574477126388542615:=()
def tw17867406519843104837:=()
def tw15589847391757790500:=()
def tw14153319973364770903:=()
def tw17507972419413865693:=()
def tw10719569170318025719:=()
def tw9217202812334387920:=()
def tw11005232608947383334:=()
def tw14377767936299718306:=()
def tw698954970982964307:=()
def tw7177497093153612010:=()
def tw18019973957568511615:=()
def tw8343906841296394923:=()
def tw675137428350253483:=()
def tw15865059931804584929:=()
def tw13144923205809843946:=()
def tw12872706128016748360:=()
def tw4140629272894452520:=()
def tw16550611308863074601:=()
def tw7168983953231525168:=()
def tw6652429964494033086:=()
def tw13163170052784176026:=()
def tw1419311893742189694:=()
def tw1328045220805499836:=()
def tw751731557853335475:=()
def tw16050715606117246189:=()
def tw11656631238076137840:=()
def tw12874674589993086711:=()
def tw18442457236369402976:=()
def tw18127309837320002203:=()
def tw15276143688313761490:=()
def tw12919221272916952341:=()
def tw7062030538579094795:=()
def tw411626692508577965:=()
def tw3869926493266837168:=()
def tw1438288013367887370:=()
def tw12673069487074129500:=()
def tw1454755718045804338:=()
def tw6392039188464616118:=()
def tw1654433411171197094:=()
def tw14908124136641975718:=()
def tw18392866107733083802:=()
def tw9627098058451268502:=()
def tw3411575544223733683:=()
def tw2654697286254708459:=()
def tw3988350859035129699:=()
def tw13818012038076801619:=()
def tw13084599178794963333:=()
def tw17877477412453304638:=()
def tw13110163103778277312:=()
def tw10936438046595489951:=()
def tw13972641088092779222:=()
def tw12521695750725051091:=()
def tw11196805082775910689:=()
def tw356004885658680415:=()
def tw3350574304171489296:=()
def tw2462681952153542265:=()
def tw15043723141887894844:=()
def tw12420462353791021557:=()
def tw16290605092706434802:=()
def tw7063078956671292837:=()
def tw11396519738009854918:=()
def tw2222549108677809651:=()
def tw8042393881886392462:=()
def tw4544108196225363329:=()
def tw17909411846438436319:=()
def tw13360307783741764141:=()
def tw3972593963034212527:=()
def tw15927983022267716432:=()
def tw8678648607878780498:=()
def tw14659543976528225787:=()
def tw3143518242430523987:=()
def tw10634908530114081953:=()
def tw12809398601181167721:=()
def tw2600798245655308932:=()
def tw12435356994366030779:=()
def tw17065195640752878463:=()
def tw4920718874784699597:=()
def tw7030102742858266234:=()
def tw7467813164024183800:=()
def tw3859610690667650418:=()
def tw14771844208881864188:=()
def tw8565360670846927871:=()
def tw8425627714933482549:=()
def tw16394900391457730005:=()
def tw312025319046447875:=()
def tw17891435491732304944:=()
def tw17685049333334330606:=()
def tw7227040273860532713:=()
def tw23341709731833911:=()
def tw9213681916987248358:=()
def tw13707720844700124189:=()
def tw6926489656976611430:=()
def tw14485917094088166887:=()
def tw11713048514238203180:=()
def tw16384395957503179027:=()
def tw5197430276382735471:=()
def tw3928520331030861727:=()
def tw15031026246729950224:=()
def tw2344452876552837991:=()
def tw14865728870072591971:=()
def tw3689002291482925995:=()
def tw16782792784239136287:=()
def tw5880578041903043678:=()
def tw13672925419335237851:=()
def tw6431347237238642192:=()
def tw5839492011026947397:=()
def tw2825387891250995073:=()
def tw8752198137129191202:=()
def tw2948170183838626802:=()
def tw15616657770146375212:=()
def tw1510474408679168331:=()
def tw1601566358735037847:=()
def tw14655932471416224358:=()
def tw7500178451258903121:=()
def tw12230941666862988080:=()
def tw14914564893016321967:=()
def tw9282113405825288610:=()
def tw9365918372885031850:=()
def tw3079863950836936247:=()
def tw15204610260124768763:=()
def tw2867343474776666412:=()
def tw5107086595248294375:=()
def tw2433299858238412119:=()
def tw17771015045874884936:=()
def tw17539190543619933708:=()
def tw12535159355318265675:=()
def tw70162148764757573:=()
def tw11423089765723460292:=()
def tw14956608563339527594:=()
def tw2199559054178562340:=()
def tw5706153488602148937:=()
def tw2879139704268834782:=()
def tw7122251936019661528:=()
def tw14680154352981186776:=()
def tw8415920382879054818:=()
def tw1820870194593842900:=()
def tw11189659318107367996:=()
def tw1833706117873086940:=()
def tw7427063744116820142:=()
def tw1168464232971934657:=()
def tw5768995267546447907:=()
def tw7790813772555190963:=()
def tw18434609818794659830:=()
def tw5258983324834330076:=()
def tw667672275098146441:=()
def tw8543205765143656571:=()
def tw6468096779845272688:=()
def tw6716066744922350843:=()
def tw2911362261792162876:=()
def tw3969143473063209263:=()
def tw12049300562177296954:=()
def tw5577383689536919520:=()
def tw16912338516713158724:=()
def tw1430871784925911967:=()
def tw9965746558960977954:=()
def tw14699263783299429893:=()
def tw7206265533175360424:=()
def tw3807883335274685783:=()
def tw2027897023352229042:=()
def tw12920086450205926842:=()
def tw17875929394800446752:=()
def tw8364643722410254268:=()
def tw7138029401737047589:=()
def tw8836947185964432088:=()
def tw5713995667504267484:=()
def tw15229648807751736966:=()
def tw13014692121678173811:=()
def tw1566036188468791807:=()
def tw3395726362952964741:=()
def tw14249492662843125125:=()
def tw2251289595327220149:=()
def tw8466194661322253930:=()
def tw6624631047902580989:=()
def tw7522829323986910097:=()
def tw13103436499843131188:=()
def tw15612518869294304635:=()
def tw12440245805749265582:=()
def tw14594842845025845674:=()
def tw17905563985857230268:=()
def tw16923383233485838486:=()
def tw15258660806087654439:=()
def tw11868028010501807128:=()
def tw8147863138702662070:=()
def tw4246023286388201669:=()
def tw15149272899491783831:=()
def tw8727497323795850190:=()
def tw6903215425726484362:=()
def tw8871532403719184120:=()
def tw391270275044484089:=()
def tw15575656599453092440:=()
def tw15978821815606679221:=()
def tw13362936020256725716:=()
def tw8827537062738742437:=()
def tw15073126917727830571:=()
def tw17663426543220369314:=()
def tw3814281241962044306:=()
def tw11259196758303970236:=()
def tw288129879860912830:=()
def tw17521729939907339167:=()
def tw216256348955687617:=()
def tw4750780963247070156:=()
def tw12030263684059250848:=()
def tw10920162268013274018:=()
def tw16335045509920324938:=()
def tw16191191017354951175:=()
def tw16411055932007427604:=()
def tw10254337788747571051:=()
def tw8007542455937652341:=()
def tw16991148986800905346:=()
def tw7676804899206866745:=()
def tw1794320938229486519:=()
def tw11480699670566821250:=()
def tw6993716846438256079:=()
def tw14126158179351088903:=()
def tw5192609763453221394:=()
def tw2008727948387305285:=()
def tw13384410519576852546:=()
def tw3238679346737800629:=()
def tw2573718424857910610:=()
def tw16645741580289797304:=()
def tw555815624347373290:=()
def tw12274677102395881363:=()
def tw11343669666337335260:=()
def tw4971469675372946082:=()
def tw15019310298867991820:=()
def tw17974069330003661245:=()
def tw17666313370059262894:=()
def tw12889984638565761976:=()
def tw3383738401908588669:=()
def tw11494703429889756861:=()
def tw13469364002581059171:=()
def tw12966046272115766010:=()
def tw7272381989053620982:=()
def tw2181738387756994181:=()
def tw12422900618132767436:=()
def tw8241571180477013902:=()
def tw13862261420263467044:=()
def tw5350751324316576947:=()
def tw13318387172484018151:=()
def tw16114699928111334159:=()
def tw5499408523256443760:=()
def tw12694797179054460363:=()
def tw15086327911118732115:=()
def tw13806615118237665524:=()
def tw12836086335376807295:=()
def tw9547154643475898274:=()
def tw9267190965560103940:=()
def tw14133616924728385423:=()
def tw11041849936489631065:=()
def tw6007075190666233095:=()
def tw4224617233343907822:=()
def tw16243986385486050849:=()
def tw13261258619406310008:=()
def tw1104591085393280249:=()
def tw5485154398080626056:=()
def tw3506890980151201945:=()
def tw12902990658991339805:=()
def tw904225354029872246:=()
def tw14866335622887718037:=()
def tw2773802782695167669:=()
def tw17865372231455400851:=()
def tw2530737231835791697:=()
def tw11708907696468191042:=()
def tw4362629707170769318:=()
def tw18337424925766473538:=()
def tw13422698606092293454:=()
def tw10637867929365346245:=()
def tw13827761429900302931:=()
def tw13010785915137832958:=()
def tw9702274819926158144:=()
def tw9423123965812477386:=()
def tw17420605295215964189:=()
def tw9526888613888081700:=()
def tw9237594734717883531:=()
def tw2191944424375057249:=()
def tw11504209964227557077:=()
def tw8217832974946709402:=()
def tw2958836994742097083:=()
def tw836371363453888948:=()
def tw15818319824319420039:=()
def tw8795223824144584106:=()
def tw17473321546926189192:=()
def tw17331272050040500618:=()
def tw142114223265717692:=()
def tw540318861375490053:=()
def tw14801601652163312493:=()
def tw13631647859978431134:=()
def tw16833583037248771680:=()
def tw14353965227378382997:=()
def tw2578212504012352918:=()
def tw6203610771434237025:=()
def tw9891703570178754757:=()
def tw8516361031688316121:=()
def tw6826786016673194676:=()
def tw445117208070482488:=()
def tw2273295978532728929:=()
def tw48401369872923549:=()
def tw5753332546389825065:=()
def tw4582207859887885466:=()
def tw3097937955064203788:=()
def tw15484191644148050236:=()
def tw2900029838488842252:=()
def tw9983381146333264408:=()
def tw2643411990848119983:=()
def tw14924668418679379718:=()
def tw7997086719698915362:=()
def tw5336970388264382522:=()
def tw1930167375837538075:=()
def tw11220489533580466123:=()
def tw829831859918524758:=()
def tw6021722214334551327:=()
def tw16213213877273385129:=()
def tw10201782690218433908:=()
def tw16687110430377273934:=()
def tw635726988000709703:=()
def tw16581810084333339041:=()
def tw13876245555218118022:=()
def tw18178014683105967496:=()
def tw5644317427597500708:=()
def tw11190007201504097331:=()
def tw9834002347938462238:=()
def tw7230594263435138218:=()
def tw5512797005433706062:=()
def tw13114737697132895067:=()
def tw8860724250315835860:=()
def tw5646395465185755289:=()
def tw3915177793491741363:=()
def tw12831183901327943389:=()
def tw9452106200516126216:=()
def tw5686199945052730869:=()
def tw18041395949088909364:=()
def tw6379365527788035007:=()
def tw4794909454758772556:=()
def tw174142274358500883:=()
def tw14966022402776232251:=()
def tw14121810107322043040:=()
def tw9503733073713779725:=()
def tw1796669900334279682:=()
def tw5854641143595542046:=()
def tw4125012116617117204:=()
def tw12219564823716717073:=()
def tw6535328399393581054:=()
def tw3570029082032152325:=()
def tw3339060803640579050:=()
def tw14075182517818531400:=()
def tw13078869880112142453:=()
def tw9684054631630340032:=()
def tw8202668042578759548:=()
def tw7606093540289382943:=()
def tw7464185885052620731:=()
def tw7398265517732905587:=()
def tw16661212417709628077:=()
def tw16464709679712892531:=()
def tw14678800454984741278:=()
def tw4541473764527230794:=()
def tw3757215250318890920:=()
def tw8768895735347202753:=()
def tw6758388926936925107:=()
def tw4557081804626475697:=()
def tw3595150133019709399:=()
def tw13197076375704579448:=()
def tw13036177579649780850:=()
def tw5350600541691426642:=()
def tw2073490022221602867:=()
def tw13868491431825671236:=()
def tw11258227624450520160:=()
def tw11052500273601703137:=()
def tw1339723842572616062:=()
def tw6649140603697133503:=()
def tw14817253638236724889:=()
def tw12392746069839061057:=()
def tw273678748983188143:=()
def tw17785776447608089752:=()
def tw16527205580791109031:=()
def tw12798985334964062843:=()
def tw11975123836182812481:=()
def tw9636066275631001870:=()
def tw9341168876719579953:=()
def tw9293282592083494793:=()
def tw9282490713445584331:=()
def tw9236084526346329521:=()
def tw9032811967596291527:=()
def tw8994373256140995517:=()
def tw8974539434663781448:=()
def tw8931897379489317866:=()
def tw8903522805259239981:=()
def tw8546326398731843586:=()
def tw8372794995539971110:=()
def tw8343091273269093081:=()
def tw830148360241358632:=()
def tw8293525335868078642:=()
def tw8240337596251877582:=()
def tw818801942023437067:=()
def tw797159850547675691:=()
def tw774773852175578571:=()
def tw7563018344882420480:=()
def tw7493042094904717837:=()
def tw7390772323399372560:=()
def tw733323465824267605:=()
def tw725729123712702934:=()
def tw7091153408104434377:=()
def tw7077342589395171627:=()
def tw6855507225932539295:=()
def tw6852949103487620186:=()
def tw6710108398521082539:=()
def tw6705617168859538481:=()
def tw6615258092580433146:=()
def tw6259540760251954046:=()
def tw6238090996842700251:=()
def tw623140138347222201:=()
def tw57794685054232814:=()
def tw5664322419179176924:=()
def tw5616386893779742853:=()
def tw5444262077533421418:=()
def tw5371744343720001075:=()
def tw5184800508853821509:=()
def tw5037388990056683986:=()
def tw4993762938506166510:=()
def tw4985136324185727706:=()
def tw4857891969897394510:=()
def tw4816561401342442976:=()
def tw4730055869773524641:=()
def tw4728891306261048626:=()
def tw4666535229004816330:=()
def tw4608968036753221681:=()
def tw4560348687106148517:=()
def tw4463571026667318993:=()
def tw4395271599327888513:=()
def tw4386876878811739731:=()
def tw4328568811966653722:=()
def tw4300633453848876289:=()
def tw4256054895310266576:=()
def tw4241447694796356820:=()
def tw4216972240709419487:=()
def tw4206698838112974345:=()
def tw4205010331669198045:=()
def tw4152370284211146568:=()
def tw3635796508532795169:=()
def tw3471406374355428890:=()
def tw3422803251159475509:=()
def tw310206324518691684:=()
def tw30810167275522944:=()
def tw3035542550105343310:=()
def tw3021773997855762888:=()
def tw2986411177090486719:=()
def tw2924337315953191931:=()
def tw2770033140628667461:=()
def tw2747584207464547510:=()
def tw2725595072531795518:=()
def tw2383713670958421352:=()
def tw2341274531555360981:=()
def tw2117128039953581058:=()
def tw2079157476008565998:=()
def tw1924669095565968799:=()
def tw1835791015011751803:=()
def tw18220372299041581407:=()
def tw18118696520598587437:=()
def tw18106182863546931197:=()
def tw18057073546473107506:=()
def tw18033533747749068990:=()
def tw17988203731718065074:=()
def tw17854231689484002848:=()
def tw1776478561045772676:=()
def tw17657673903456276039:=()
def tw17618152729247000816:=()
def tw17586058753557125049:=()
def tw17352707045284939204:=()
def tw17271346313661905118:=()
def tw17182134736534282424:=()
def tw16927282063656490789:=()
def tw16792363006792438330:=()
def tw1677157201166804016:=()
def tw16676055405403342315:=()
def tw16576190939584045506:=()
def tw16441440835532394511:=()
def tw16246419442545254310:=()
def tw16130806124541775593:=()
def tw15804959084815572984:=()
def tw15653700326878269581:=()
def tw15450288259347459734:=()
def tw15253920004961903895:=()
def tw1524992588764731606:=()
def tw15139146462051513660:=()
def tw14962302830744306762:=()
def tw1495409082479540996:=()
def tw14900127687534406880:=()
end PySem.W.Fast
open PySem PySem.W PyProof.Rows
set_option maxRecDepth 100000 in
set_option maxHeartbeats 0 in
theorem PySem.Challenge.cw_rollcode_k33_told_apart_by_two_holds : PySem.Challenge.rw_rollcode_k33_told_apart_by_two.Holds := by
 w_on;o_law;k_head;(case hw=>w_witness2)
 k_fill
 refine Lw.vE (l:=PySem.Challenge.rw_rollcode_k33_told_apart_by_two) rfl rfl (fun w h Y=>PySem.W.kIn_of Y) ?F
 case F=>
  intro w mg fa h KX G hmg;refine' Lw.AZ KX G hmg ?aCD ?pgD ?hdD ?poD ?saD ?mkD ?kcD ?n_D_table ?n_D_house_keys ?n_D_near ?n_D_far ?n_D_most ?n_D_least_age ?n_D_buttons ?n_D_log ?A0 ?A1 ?A2 ?A3 ?A4 ?A5 ?A6 ?A7 ?A8 ?A9 ?A10 ?A11 ?A12 ?A13 ?A14 ?A15 ?A16 ?A17 ?A18 ?A19 ?A20 ?A21 ?A22 ?A23 ?A24 ?A25 ?A26 ?A27 ?A28 ?A29 ?A30 ?A31 ?A32 ?A33 ?A34 ?A35 ?A36 ?A37 ?A38 ?A39 ?A40 ?A41 ?A42 ?A43 ?A44 ?A45 ?A46 ?A47 ?A48 ?A49 ?A50 ?A51 ?A52 ?A53 ?A54 ?A55 ?A56 ?a57 ?l57 ?c57 ?k57 ?yg0 ?yg1 ?yg2 ?yg3 ?yg4 ?z0 ?z1 ?z2 ?z3 ?z4 ?z5 ?z6 ?z7 ?z8 ?z9 ?z10 ?z11 ?z12 ?z13 ?z14 ?z15 ?z16 ?z17 ?z18 ?z19 ?z20
  (case aCD|pgD|hdD|poD|saD|mkD|kcD|n_D_table|n_D_house_keys|n_D_near|n_D_far|n_D_most|n_D_least_age|n_D_buttons|n_D_log=>k_is)
  (case A0|A1|A2|A3|A4|A5|A6|A7|A8|A9|A10|A11|A12|A13|A14|A15=>refine' L3.wZ KX G ?ya ?yl ?yc ?yk;case ya|yl|yc|yk=>k_is)
  (case A16|A17|A18|A19|A20|A21|A22|A23|A24|A25|A26|A27|A28|A29=>refine' L3.CD ?ya ?yi ?yl ?yc ?yk;case ya|yi|yl|yc|yk=>k_is)
  (case A30|A31|A32|A33|A34|A35|A36|A37|A38|A39|A40|A41|A42|A43|A44|A45|A46|A47|A48|A49|A50|A51|A52|A53|A54|A55|A56=>refine' L3.wZ KX G ?ya ?yl ?yc ?yk;case ya|yl|yc|yk=>k_is)
  (case a57|l57|c57|k57|yg0|yg1|yg2|yg3|yg4|z0|z1|z2|z3|z4|z5|z6|z7|z8|z9|z10|z11|z12|z13|z14|z15|z16|z17|z18|z19|z20=>k_is)