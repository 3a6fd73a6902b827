import PyProof.Rows.All
import Wide.All
import OpenK.AllK
import Wide.FinOn
import Lean
import PyProof.EqAt
import PyProof.EqKinds
import PyProof.TupleCall
import PySem.Challenge.RW_rollcode_k31_what_opens_now
import PyProof.AttrMissHeap
import PyProof.Rows.SetFrom
import KE.KDictOf
import PyProof.DictWalks
import PyProof.Rows.DictUnroll
import PyProof.StationsW
import PyProof.ExcClass2
import OpenK.KOwn
import PyProof.ExcBaseAll.ValueError
import PyProof.RulesAs
import PyProof.NsDelKeeps
import PyProof.Rows.Catch
import KE.KIsAll
import PyProof.ExcArgsOwn
import PyProof.Rows.CatchOwn
import PyProof.ExcAttrAll.ValueError
import PyProof.ExcInit
import PyProof.InstStoreFacts
import PyProof.FString
import OpenK.KCls
import PyProof.ListMulRoad
import PyProof.FactsAll.tuple_2
set_option Elab.async false
set_option maxRecDepth 100000
set_option maxHeartbeats 4000000
set_option linter.unusedVariables false
set_option linter.all false
open PySem.W (Frag)
namespace L2
open PySem PySem.Spec PyProof.Rows
abbrev qJ:=Sum Int Str
def bN:qJ->Value->Bool
 | .inl k,v=>Value.isInt k v
 | .inr x,v=>Value.isStrOf x v
def wv(w:World):qJ->Int
 | .inl k=>hashInt k
 | .inr x=>hashStr w x
theorem zC:∀{k:qJ} {v:Value},bN k v=true->(∃i t,k=Sum.inl i/\v=Value.int i t)\/(∃x t,k=Sum.inr x/\v=Value.str x t)
 | .inl i,v,h=>by
  obtain⟨t,e⟩:=Value.isInt_shape (k:=i) (v:=v) h
  exact .inl ⟨i,t,rfl,e⟩
 | .inr x,v,h=>by
  obtain⟨t,e⟩:=Value.isStrOf_shape (x:=x) (v:=v) h
  exact .inr ⟨x,t,rfl,e⟩
theorem lE(i:Int)(t:Tok):bN (.inl i) (.int i t)=true:=by simp [bN,Value.isInt]
theorem mZ(x:Str)(t:Tok):bN (.inr x) (.str x t)=true:=by simp [bN,Value.isStrOf]
theorem uE(a b:Int):decide ((Sum.inl a:qJ)=Sum.inl b)=(a==b):=by
 by_cases e:a=b
 ·subst e;simp
 ·have h:¬(Sum.inl a:qJ)=Sum.inl b:=fun q=>e (Sum.inl.inj q)
  rw[decide_eq_false h]
  exact(beq_eq_false_iff_ne.mpr e).symm
theorem uK(a b:Str):decide ((Sum.inr a:qJ)=Sum.inr b)=decide (a=b):=by
 by_cases e:a=b
 ·subst e;simp
 ·have h:¬(Sum.inr a:qJ)=Sum.inr b:=fun q=>e (Sum.inr.inj q)
  rw[decide_eq_false h,decide_eq_false e]
theorem t7(a:Int)(b:Str):decide ((Sum.inl a:qJ)=Sum.inr b)=false:=decide_eq_false (fun q=>nomatch q)
theorem uF(a:Str)(b:Int):decide ((Sum.inr a:qJ)=Sum.inl b)=false:=decide_eq_false (fun q=>nomatch q)
def qU(prog:Program)(w:World):PySem.KeyKind prog w qJ where
 is:=bN
 hash:=wv w
 inj:=fun v a b ha hb=>by
  rcases zC ha with⟨i,t,rfl,rfl⟩|⟨x,t,rfl,rfl⟩
  ·rcases zC hb with⟨j,u,rfl,e⟩|⟨y,u,rfl,e⟩
   ·injection e with e1 _;rw[e1]
   ·exact nomatch e
  ·rcases zC hb with⟨j,u,rfl,e⟩|⟨y,u,rfl,e⟩
   ·exact nomatch e
   ·injection e with e1 _;rw[e1]
 byValue:=fun k v h=>by
  rcases zC h with⟨i,t,rfl,rfl⟩|⟨x,t,rfl,rfl⟩<;>rfl
 pyHash:=fun hv h=>by
  rcases zC hv with⟨i,t,rfl,rfl⟩|⟨x,t,rfl,rfl⟩
  ·exact wpAny_pyHash_int h
  ·exact wpAny_pyHash_str h
 eqBool:=fun hu hv h=>by
  rcases zC hu with⟨i,t,rfl,rfl⟩|⟨x,t,rfl,rfl⟩
  ·rcases zC hv with⟨j,u,rfl,rfl⟩|⟨y,u,rfl,rfl⟩
   ·rw[uE]at h;exact wpAny_eqBool_int h
   ·rw[t7]at h;exact SeqAt.EqAt.int_str i t y u _ _ _ _ h
  ·rcases zC hv with⟨j,u,rfl,rfl⟩|⟨y,u,rfl,rfl⟩
   ·rw[uF]at h;exact SeqAt.EqAt.str_int x t j u _ _ _ _ h
   ·rw[uK]at h;exact wpAny_eqBool_str h
 «strs»:=fun k x t v h=>by
  rcases zC h with⟨i,u,rfl,e⟩|⟨y,u,rfl,e⟩
  ·exact nomatch e
  ·injection e with e1 _
   subst e1
   cases v<;>rfl
theorem i9(prog:Program)(w:World)(i:Int)(t:Tok):(qU prog w).is (.inl i) (.int i t)=true:=lE i t
theorem iV(prog:Program)(w:World)(x:Str)(t:Tok):(qU prog w).is (.inr x) (.str x t)=true:=mZ x t
inductive V where
 |non|bl (b:Bool)|int (i:Int)|str (x:Str)|byt (b:Array UInt8)|flt (b:UInt64)|ref (a:Addr)|ty (n:String)
 deriving DecidableEq
def RelV:V->Value->Prop
 | .non,u=>u=Value.none
 | .bl b,u=>u=Value.bool b
 | .int i,u=>∃t,u=Value.int i t
 | .str x,u=>∃t,u=Value.str x t
 | .byt b,u=>∃t,u=Value.bytes b t
 | .flt b,u=>∃t,u=Value.float b t
 | .ref a,u=>u=Value.ref a
 | .ty n,u=>u=Value.type n
abbrev Vals:List V->List Value->Prop:=Paired RelV
theorem Vals.length{xs:List V}{us:List Value}(r:Vals xs us):xs.length=us.length:=Paired.length r
theorem Vals.get:∀{xs:List V} {us:List Value} {i:Nat} {x:V},Vals xs us->xs[i]? =some x->∃u,us[i]? =some u/\RelV x u
 |_,_,_,_,.nil,e=>by simp at e
 |_,_,0,_,.cons r _,e=>by simp at e;subst e;exact⟨_,rfl,r⟩
 |_,_,i+1,x,.cons _ t,e=>by
  obtain⟨u,h1,h2⟩:=Vals.get (i:=i) (x:=x) t (by simpa using e)
  exact⟨u,by simpa using h1,h2⟩
theorem Vals.set{x:V}{u:Value}(r:RelV x u):∀{xs:List V} {us:List Value} (i:Nat),Vals xs us->Vals (xs.set i x) (us.set i u)
 |_,_,_,.nil=> .nil
 |_,_,0,.cons _ t=> .cons r t
 |_,_,i+1,.cons q t=> .cons q (Vals.set r i t)
theorem Vals.append:∀{xs ys:List V} {us ws:List Value},Vals xs us->Vals ys ws->Vals (xs++ys) (us++ws)
 |_,_,_,_,.nil,s=>s
 |_,_,_,_,.cons r t,s=> .cons r (Vals.append t s)
theorem Vals.take:∀{xs:List V} {us:List Value} (n:Nat),Vals xs us->Vals (xs.take n) (us.take n)
 |_,_,0,_=> .nil
 |_,_,_+1,.nil=> .nil
 |_,_,n+1,.cons r t=> .cons r (Vals.take n t)
theorem Vals.drop:∀{xs:List V} {us:List Value} (n:Nat),Vals xs us->Vals (xs.drop n) (us.drop n)
 |_,_,0,r=>r
 |_,_,_+1,.nil=> .nil
 |_,_,n+1,.cons _ t=>Vals.drop n t
def RelO:Option V->Option Value->Prop
 |some v,some u=>RelV v u
 |none,none=>True
 |_,_=>False
def KV{κ:Type}:List (κ×V)->List (κ×Value)->Prop:=Paired fun(p:κ×V) (q:κ×Value)=>p.1=q.1/\RelV p.2 q.2
def kV:qJ->V
 | .inl i=> .int i
 | .inr x=> .str x
inductive HO where
 |lst (xs:List V)
 |tup (xs:List V)
 |dK (kvs:List (qJ×V))|dT (kvs:List (List qJ×V))
 |set (S:Int->Bool) (n:Nat)
 |ins (C dx:Addr) (fs:List (Str×V))
 |own (x:Addr)
 |xd (fs:List (Str×V))
 |met (f x:Addr)
 |rng (lo hi:Int)
 |frz (o:Obj) (u:HO)
 |tbl (ps:Array Value)
 |ext (φ:Heap->Prop)
abbrev Hp:=Addr->Option HO
def upd(H:Hp)(a:Addr)(o:HO):Hp:=fun b=>if b=a then some o else H b
theorem qc{H:Hp}{a:Addr}{o:HO}:upd H a o a=some o:=by unfold upd;rw[if_pos rfl]
theorem qh{H:Hp}{a b:Addr}{o:HO}(h:b≠a):upd H a o b=H b:=by unfold upd;rw[if_neg h]
theorem zI{H:Hp}{a b:Addr}{o u:HO}(h:H a=some o)(h':H b=some u)(d:o≠u):a≠b:=by
 intro e;subst e;rw[h]at h';exact d (Option.some.inj h')
theorem qo{H:Hp}{a b:Addr}{o:HO}(h:H a=some o)(h':H b=none):a≠b:=by
 intro e;subst e;rw[h]at h';cases h'
section
variable(P:Program)(w:World)
def ObjOk(H:Hp)(h:Heap)(a:Addr):HO->Prop
 | .lst xs=>xs.length<=sizeLine/\∃(its:List Value) (n:Nat),Vals xs its/\h.get? a=some {cls:= .type "list",data:= .seq its.toArray n}
 | .tup xs=>xs.length<=sizeLine/\∃its:List Value,Vals xs its/\IsTup h a its.toArray
 | .dK kvs=>kvs.length<=sizeLine/\(a==sysModules)=false/\∃vs,KV kvs vs/\h.DictOf (qU P w) a vs
 | .dT kvs=>kvs.length<=sizeLine/\(a==sysModules)=false/\∃xs:List (List qJ×Addr×Value),
   Paired (fun(p:List qJ×V) (q:List qJ×Addr×Value)=>p.1=q.1/\H q.2.1=some (.tup (p.1.map kV))/\RelV p.2 q.2.2) kvs xs/\
   ∃o es ep,h.get? a=some o/\o.ExactDict/\o.data= .dict es ep/\es.toList=xs.map (entryOfKey (tupleKind (qU P w)))/\(xs.map (·.1)).Nodup
 | .set S n=>h.SetOf (intKind P w) a S n
 | .ins C dx fs=>H dx=some (.own a)/\fs.length<=1000/\dx≠a/\h.get? a=some (PySem.W.instObj C dx)/\
   ∃mA,h.Ns1 dx mA/\(∀f,RelO (fs.lookup f) (mA f))/\PySem.Within mA (fs.map (·.1))
 | .own _=>∃o,h.get? a=some o
 | .xd fs=>∃mA,h.Ns1 a mA/\∀f,RelO (fs.lookup f) (mA f)
 | .rng lo hi=>∃t u v,h.get? a=some {cls:= .type "range",data:= .fields #[.int lo t,.int hi u,.int 1 v]}
 | .frz o u=>h.get? a=some o/\ObjOk H h a u
 | .tbl ps=>h.get? a=some {cls:= .none,data:= .fields ps}
 | .met f x=>h.get? a=some (PySem.W.methodObj (.ref f) (.ref x))
 | .ext φ=>φ h/\(∃o,h.get? a=some o)/\∀h1 h2:Heap,φ h1->(∀o,h1.get? a=some o->h2.get? a=some o)->φ h2
def HOk(H:Hp)(h:Heap):Prop:=∀a o,H a=some o->ObjOk P w H h a o
end
section
variable{P:Program}{w:World}{H H':Hp}{h h':Heap}{a:Addr}{o:HO}
theorem ObjOk.lt(x:ObjOk P w H h a o):a<h.objs.size:=by
 cases o with
 |lst xs=>obtain⟨_,_,_,_,e⟩:=x;exact Heap.lt_size e
 |tup xs=>obtain⟨_,_,_,p⟩:=x;exact p.lt
 |dK kvs=>obtain⟨_,_,_,_,o,_,_,e,_⟩:=x;exact Heap.lt_size e
 |dT kvs=>obtain⟨_,_,_,_,o,_,_,e,_⟩:=x;exact Heap.lt_size e
 |set S n=>obtain⟨o,_,_,_,e,_⟩:=x;exact Heap.lt_size e
 |ins C dx fs=>obtain⟨_,_,_,e,_⟩:=x;exact Heap.lt_size e
 |own y=>obtain⟨_,e⟩:=x;exact Heap.lt_size e
 |xd fs=>obtain⟨_,⟨_,_,_,e,_⟩,_⟩:=x;exact Heap.lt_size e
 |rng lo hi=>obtain⟨_,_,_,e⟩:=x;exact Heap.lt_size e
 |frz ob u=>obtain⟨e,_⟩:=x;exact Heap.lt_size e
 |tbl ps=>exact Heap.lt_size (show h.get? a=some _ from x)
 |met f y=>exact Heap.lt_size (show h.get? a=some _ from x)
 |ext φ=>obtain⟨_,⟨_,e⟩,_⟩:=x;exact Heap.lt_size e
theorem Paired.mapP{α β:Type}{F G:α->β->Prop}:∀{l₁:List α} {l₂:List β},Paired F l₁ l₂->(∀a b,F a b->G a b)->Paired G l₁ l₂
 |_,_,.nil,_=> .nil
 |_,_,.cons r t,f=> .cons (f _ _ r) (Paired.mapP t f)
theorem ObjOk.stay(x:ObjOk P w H h a o)(k:∀b u,(b=a\/H b=some (.own a))->h.get? b=some u->h'.get? b=some u)
  (ho:∀b,H b=some (.own a)->H' b=some (.own a))(ht:∀b xs,H b=some (.tup xs)->H' b=some (.tup xs)):ObjOk P w H' h' a o:=by
 induction o with
 |lst xs=>obtain⟨z,its,n,r,e⟩:=x;exact⟨z,its,n,r,k _ _ (.inl rfl) e⟩
 |tup xs=>obtain⟨z,its,r,ob,e,c⟩:=x;exact⟨z,its,r,ob,k _ _ (.inl rfl) e,c⟩
 |dK kvs=>obtain⟨z,y,vs,r,ob,es,ep,e,c⟩:=x;exact⟨z,y,vs,r,ob,es,ep,k _ _ (.inl rfl) e,c⟩
 |dT kvs=>
  obtain⟨z,y,xs,r,ob,es,ep,e,c⟩:=x
  exact⟨z,y,xs,Paired.mapP r fun p q z=>⟨z.1,ht _ _ z.2.1,z.2.2⟩,ob,es,ep,k _ _ (.inl rfl) e,c⟩
 |set S n=>obtain⟨ob,es,ep,t,e,c⟩:=x;exact⟨ob,es,ep,t,k _ _ (.inl rfl) e,c⟩
 |ins C dx fs=>
  obtain⟨d,z,ne,e,mA,⟨od,es,ep,e2,c⟩,r⟩:=x
  exact⟨ho _ d,z,ne,k _ _ (.inl rfl) e,mA,⟨od,es,ep,k _ _ (.inr d) e2,c⟩,r⟩
 |own y=>obtain⟨ob,e⟩:=x;exact⟨ob,k _ _ (.inl rfl) e⟩
 |xd fs=>obtain⟨mA,⟨od,es,ep,e,c⟩,r⟩:=x;exact⟨mA,⟨od,es,ep,k _ _ (.inl rfl) e,c⟩,r⟩
 |rng lo hi=>obtain⟨t,u,v,e⟩:=x;exact⟨t,u,v,k _ _ (.inl rfl) e⟩
 |frz ob u ih=>obtain⟨e,q⟩:=x;exact⟨k _ _ (.inl rfl) e,ih q⟩
 |tbl ps=>
  have e:h.get? a=some {cls:= .none,data:= .fields ps}:=x
  show h'.get? a=some {cls:= .none,data:= .fields ps}
  exact k a _ (.inl rfl) e
 |met f y=>
  have e:h.get? a=some (W.methodObj (.ref f) (.ref y)):=x
  show h'.get? a=some (W.methodObj (.ref f) (.ref y))
  exact k a _ (.inl rfl) e
 |ext φ=>obtain⟨p,⟨o,e⟩,st⟩:=x;exact⟨st _ _ p fun o q=>k _ _ (.inl rfl) q,⟨o,k _ _ (.inl rfl) e⟩,st⟩
theorem HOk.lt(x:HOk P w H h)(e:H a=some o):a<h.objs.size:=(x a o e).lt
theorem HOk.fresh(x:HOk P w H h)(e:h.objs.size<=a):H a=none:=by
 cases q:H a with
 |none=>rfl
 |some u=>exact absurd (Nat.lt_of_lt_of_le (x.lt q) e) (Nat.lt_irrefl _)
theorem HOk.kept(x:HOk P w H h)(k:∀b u,h.get? b=some u->h'.get? b=some u):HOk P w H h':=fun a o e=>
 (x a o e).stay (fun b u _ q=>k b u q) (fun _ q=>q) fun _ _ q=>q
theorem HOk.laid(x:HOk P w H h)(k:∀b u,h.get? b=some u->h'.get? b=some u)(hp:h.objs.size<=a)(new:ObjOk P w (upd H a o) h' a o):HOk P w (upd H a o) h':=fun b u e=>by
 have hn:=x.fresh hp
 by_cases hb:b=a
 ·subst hb;rw[qc]at e;cases e;exact new
 ·rw[qh hb]at e
  exact(x b u e).stay (fun c v _ q=>k c v q) (fun c q=>by rw[qh (qo q hn)];exact q) fun c xs q=>by rw[qh (qo q hn)];exact q
end
def Rd(H:Hp)(a:Addr)(u:HO):Prop:=H a=some u\/∃o,H a=some (.frz o u)
theorem Rd.ok{P:Program}{w:World}{H:Hp}{h:Heap}{a:Addr}{u:HO}(r:Rd H a u)(x:HOk P w H h):ObjOk P w H h a u:=by
 rcases r with r|⟨o,r⟩
 ·exact x a u r
 ·obtain⟨_,q⟩:=x a _ r
  exact q
def ny:Option HO->Prop
 |some (.lst _)=>True
 |some (.dK _)=>True
 |some (.dT _)=>True
 |some (.set _ _)=>True
 |some (.ins _ _ _)=>True
 |some (.ext _)=>True
 |_=>False
section
variable{P:Program}{w:World}{H:Hp}{h h':Heap}{x e:Addr}{o':HO}
theorem HOk.write(ok:HOk P w H h)(mu:ny (H x))(he:e=x\/H e=some (.own x))(k:∀b u,b≠e->h.get? b=some u->h'.get? b=some u)(heo:∃u,h'.get? e=some u)
  (new:ObjOk P w (upd H x o') h' x o'):HOk P w (upd H x o') h':=fun b u q=>by
 have nown:∀c y,H c=some (.own y)->c≠x:=fun c y r z=>by subst z;rw[r]at mu;exact mu
 have ntup:∀c xs,H c=some (.tup xs)->c≠x:=fun c xs r z=>by subst z;rw[r]at mu;exact mu
 by_cases hb:b=x
 ·subst hb;rw[qc]at q;cases q;exact new
 ·rw[qh hb]at q
  by_cases hbe:b=e
  ·have q':H b=some (.own x):=by
    rcases he with z|z
    ·exact absurd (hbe.trans z) hb
    ·rw[hbe];exact z
   rw[q]at q';cases q'
   obtain⟨v,hv⟩:=heo
   exact⟨v,by rw[hbe];exact hv⟩
  ·refine(ok b u q).stay (fun c v hc r=>k c v ?_ r) (fun c r=>by rw[qh (nown c b r)];exact r) fun c xs r=>by rw[qh (ntup c xs r)];exact r
   rcases hc with rfl|hc
   ·exact hbe
   ·rintro rfl
    rcases he with z|z
    ·exact nown c b hc z
    ·rw[hc]at z;cases z;exact hb rfl
end
structure Un(fs ex:List Addr)(H H':Hp)(h h':Heap):Prop where
 keep:∀b o,h.get? b=some o->H b=none->b∉fs->b∉ex->h'.get? b=some o
 slot:∀b o,h.get? b=some o->H b=none->b∈fs->b∉ex->∃sl,h'.get? b=some {o with slots:=sl}
 free:∀b o,h.get? b=some o->H b=none->b∉ex->H' b=none
 there:∀b o,h.get? b=some o->b∉ex->∃o',h'.get? b=some o'
 tups:∀b xs,H b=some (.tup xs)->H' b=some (.tup xs)
 frzs:∀b o u,H b=some (.frz o u)->H' b=some (.frz o u)
 tbls:∀b ps,H b=some (.tbl ps)->∃more,H' b=some (.tbl (ps++more))
section
variable{fs fs' ex ex':List Addr}{H H1 H2:Hp}{h h1 h2 h':Heap}{a x e:Addr}{o:HO}
theorem Un.any(u:Un fs ex H H1 h h1){b:Addr}{ob:Obj}(q:h.get? b=some ob)(n:H b=none)(hx:b∉ex):∃sl,h1.get? b=some {ob with slots:=sl}:=by
 by_cases hb:b∈fs
 ·exact u.slot b ob q n hb hx
 ·exact⟨ob.slots,u.keep b ob q n hb hx⟩
theorem Un.kept(k:∀b u,h.get? b=some u->h'.get? b=some u):Un fs ex H H h h':=
 ⟨fun b ob q _ _ _=>k b ob q,fun b ob q _ _ _=>⟨ob.slots,k b ob q⟩,fun _ _ _ n _=>n,fun b ob q _=>⟨ob,k b ob q⟩,fun _ _ q=>q,fun _ _ _ q=>q,fun _ ps q=>⟨#[],by rw[q];simp⟩⟩
theorem Un.refl:Un fs ex H H h h:=Un.kept fun _ _ q=>q
theorem Un.laid(k:∀b u,h.get? b=some u->h'.get? b=some u)(hp:h.objs.size<=a)(hn:H a=none):Un fs ex H (upd H a o) h h' where
 keep:=fun b u q _ _ _=>k b u q
 slot:=fun b u q _ _ _=>⟨u.slots,k b u q⟩
 free:=fun b u q n _=>by rw[qh (Nat.ne_of_lt (Nat.lt_of_lt_of_le (Heap.lt_size q) hp))];exact n
 there:=fun b u q _=>⟨u,k b u q⟩
 tups:=fun b xs q=>by rw[qh (qo q hn)];exact q
 frzs:=fun b u xs q=>by rw[qh (qo q hn)];exact q
 tbls:=fun b ps q=>⟨#[],by rw[qh (qo q hn),q];simp⟩
theorem Un.write(mu:ny (H x))(he:e=x\/H e=some (.own x))(k:∀b u,b≠e->h.get? b=some u->h'.get? b=some u)(heo:∃u,h'.get? e=some u):Un fs ex H (upd H x o) h h':=by
 have hx:∀b,H b=none->b≠x:=fun b n z=>by subst z;rw[n]at mu;exact mu
 have hb:∀b,H b=none->b≠e:=fun b n z=>by
  subst z
  rcases he with r|r
  ·exact hx b n r
  ·rw[n]at r;cases r
 have hm:∀b u,H b=some u->¬ny (some u)->b≠x:=fun b u q nm z=>by subst z;rw[q]at mu;exact nm mu
 refine⟨fun b u q n _ _=>k b u (hb b n) q,fun b u q n _ _=>⟨u.slots,k b u (hb b n) q⟩,fun b u q n _=>by rw[qh (hx b n)];exact n,fun b u q _=>?_,
  fun b xs q=>by rw[qh (hm b _ q fun z=>z)];exact q,fun b u xs q=>by rw[qh (hm b _ q fun z=>z)];exact q,fun b ps q=>⟨#[],by rw[qh (hm b _ q fun z=>z),q];simp⟩⟩
 by_cases hbe:b=e
 ·subst hbe;exact heo
 ·exact⟨u,k b u hbe q⟩
end
def rE(h:Heap)(H:Hp):List Addr:=(List.range h.objs.size).filter fun a=>(H a).isSome
def aJ(h:Heap)(H:Hp):Heap:=PySem.W.hideAll h (rE h H)
theorem mj(h:Heap)(H:Hp):(aJ h H).objs.size=h.objs.size:=W.hideAll_size _ _
theorem ow{h:Heap}{H:Hp}{b:Addr}{o:Obj}(e:h.get? b=some o)(n:H b=none):(aJ h H).get? b=some o:=
 W.hideAll_get _ e fun hm=>by
  have q:(H b).isSome=true:=(List.mem_filter.mp hm).2
  rw[n]at q;simp at q
theorem sB{h:Heap}{H:Hp}{b:Addr}{o:Obj}(e:(aJ h H).get? b=some o):h.get? b=some o/\H b=none:=by
 have e':h.get? b=some o:=W.of_hideAll (rE h H) e
 refine⟨e',?_⟩
 cases q:H b with
 |none=>rfl
 |some x=>
  have hm:b∈rE h H:=List.mem_filter.mpr ⟨List.mem_range.mpr (Heap.lt_size e'),by simp [q]⟩
  have z:(aJ h H).get? b=none:=W.hideAll_none (rE h H) hm
  rw[z]at e;cases e
structure Mod(K:Frag)(mg:Str->Option Value)(base:Heap):Prop where
 kin:K.In base
 glob:base.Ns mainGlobals mg
 blt:∃mb,base.Ns builtinsNs mb/\∀x:Str,x≠"__name__"->mb x=bootBuiltins x
 nolimit:base.NoLimit
structure Cx where
 prog:Program
 w:World
 K:Frag
 mg:Str->Option Value
 base:Heap
 A:Around
 N:List Str
 s₀:Shared
 H₀:Hp
 env:Env
 outer:List Env
 stack:List Env
 ex:List Addr
 fn:Str->Bool
 calm:Bool
 pn:List (Addr×Obj)
 xe:Value->Shared->Prop
def aN(l:List Env):List Addr:=l.filterMap (·.frame)
abbrev Cx.fs(X:Cx):List Addr:=aN X.outer
def uv(sc:Scope)(x:Str):Prop:=sc.names.lookup x=some .local\/sc.names.lookup x=some .cell\/sc.names.lookup x=some .free
def ff(sc:Scope)(x:Str):Prop:=sc.names.lookup x=some .local\/sc.names.lookup x=some .cell
def wg(env:Env)(h:Heap)(m:Str->Option Value)(x:Str)(u:Value):Prop:=
 (env.kindOf x=some .local/\m x=some u)\/((env.kindOf x=some .cell\/env.kindOf x=some .free)/\∃c,env.cells.lookup x=some c/\h.IsCell c (some u))
structure Cx.Ok(X:Cx):Prop where
 mod:Mod X.K X.mg X.base
 kind:X.env.scope.kind= .function
 glob:X.env.globals=mainGlobals
 blt:X.env.builtins=builtinsNs
 above:X.s₀.heap.objs.size<=X.env.locals
 inj:∀x y c,X.env.cells.lookup x=some c->X.env.cells.lookup y=some c->x=y
 has:∀x,(X.env.kindOf x=some .cell\/X.env.kindOf x=some .free)->∃c,X.env.cells.lookup x=some c
 cab:∀x c,X.fn x=true->X.env.cells.lookup x=some c->X.s₀.heap.objs.size<=c
 hd:X.calm=true->X.A.handled=none
 frames:X.A.frames=some X.stack
 stk:X.stack=X.outer\/(X.stack=X.env::X.outer/\X.env.frame=some X.env.locals)
 exf:∀b∈X.ex,b≠X.env.locals/\∀x c,X.env.cells.lookup x=some c->c≠b
 bs:∀b o,X.base.get? b=some o->X.s₀.heap.get? b=some o/\X.H₀ b=none
 bsz:X.base.objs.size<=X.s₀.heap.objs.size
 noex:∀b o,X.base.get? b=some o->b∉X.ex
 exfs:∀b∈X.ex,b∉X.fs
 funs:X.s₀.heap.FunFrames X.base X.outer
 frf:∀b∈X.fs,X.H₀ b=none
structure Inv(X:Cx)(pins:List (Addr×Obj))(σ:List (Option V))(H:Hp)(s:Shared):Prop where
 ok:X.Ok
 os:s.os=X.s₀.os
 bare:AllBare s.gens
 base:Un X.fs X.ex X.H₀ H X.s₀.heap s.heap
 loc:∃m,s.heap.Ns X.env.locals m/\∀(i:Nat) (x:Str) (v:V),X.N[i]? =some x->σ[i]? =some (some v)->uv X.env.scope x->∃u,RelV v u/\wg X.env s.heap m x u
 cell:∀x c,X.env.cells.lookup x=some c->∃v,s.heap.IsCell c v
 free:H X.env.locals=none
 freeC:∀x c,X.env.cells.lookup x=some c->H c=none
 pin:∀p∈X.pn++pins,s.heap.get? p.1=some p.2/\H p.1=none/\p.1≠X.env.locals/\p.1∉X.fs/\∀v,p.2.data≠ .cell v
 hok:HOk X.prog X.w H s.heap
 len:σ.length=X.N.length
section
variable{X:Cx}{pins:List (Addr×Obj)}{σ:List (Option V)}{H H':Hp}{s:Shared}{h':Heap}
theorem Cx.Ok.nofr(ok:X.Ok){b:Addr}{o:Obj}(e:X.base.get? b=some o):b∉X.fs:=fun hb=>by
 have:=(ok.funs.mem hb).1
 rw[e]at this;cases this
theorem Inv.bs(I:Inv X pins σ H s):∀b o,X.base.get? b=some o->s.heap.get? b=some o/\H b=none:=fun b o e=>
 ⟨I.base.keep b o (I.ok.bs b o e).1 (I.ok.bs b o e).2 (I.ok.nofr e) (I.ok.noex b o e),I.base.free b o (I.ok.bs b o e).1 (I.ok.bs b o e).2 (I.ok.noex b o e)⟩
theorem Inv.bk(I:Inv X pins σ H s):∀b o,X.base.get? b=some o->s.heap.get? b=some o:=fun b o e=>(I.bs b o e).1
theorem Inv.mod(I:Inv X pins σ H s):Mod X.K X.mg X.base:=I.ok.mod
theorem Inv.kIn(I:Inv X pins σ H s):X.K.In s.heap:=I.ok.mod.kin.keeps I.bk
theorem Inv.lt(I:Inv X pins σ H s):X.env.locals<s.heap.objs.size:=let⟨_,hn,_⟩:=I.loc;hn.lt
theorem Inv.sz(I:Inv X pins σ H s):X.s₀.heap.objs.size<=s.heap.objs.size:=Nat.le_trans I.ok.above (Nat.le_of_lt I.lt)
theorem Inv.nofs(I:Inv X pins σ H s){a:Addr}(h:s.heap.objs.size<=a):a∉X.fs:=fun hb=>by
 obtain⟨_,o,ho,_⟩:=I.ok.funs.mem hb
 exact absurd (Nat.lt_of_lt_of_le (Heap.lt_size ho) (Nat.le_trans I.sz h)) (Nat.lt_irrefl _)
theorem Inv.cne(I:Inv X pins σ H s):∀x c,X.env.cells.lookup x=some c->c≠X.env.locals:=fun x c e z=>by
 obtain⟨v,o,ho,hd⟩:=I.cell x c e
 obtain⟨m,⟨o',es,ep,ho',hd',_⟩,_⟩:=I.loc
 rw[z,ho']at ho;cases ho;rw[hd']at hd;cases hd
theorem Inv.funs(I:Inv X pins σ H s):s.heap.FunFrames X.base X.outer:=by
 have all:∀(l:List Env),(∀b∈aN l,b∈X.fs)->X.s₀.heap.FunFrames X.base l->s.heap.FunFrames X.base l:=by
  intro l
  induction l with
  |nil=>intro _ _;trivial
  |cons env r ih=>
   intro hs hl
   obtain⟨hk,⟨L,o,hf,hn,ho,hd⟩,hr⟩:=hl
   have hL:L∈X.fs:=hs L (by unfold aN;rw[List.filterMap_cons,hf];exact List.mem_cons_self)
   obtain⟨sl,e⟩:=I.base.slot L o ho (I.ok.frf L hL) hL fun z=>I.ok.exfs L z hL
   exact⟨hk,⟨L,_,hf,hn,e,hd⟩,ih (fun b hb=>hs b (by unfold aN;rw[List.filterMap_cons,hf];exact List.mem_cons_of_mem _ hb)) hr⟩
 exact all X.outer (fun _ hb=>hb) I.ok.funs
theorem Inv.stack(I:Inv X pins σ H s):s.heap.FunFrames X.base X.stack:=by
 rcases I.ok.stk with e|⟨e,hf⟩
 ·rw[e];exact I.funs
 ·rw[e]
  obtain⟨m,hn,_⟩:=I.loc
  refine .cons (by rw[I.ok.kind];decide) hf hn ?_ I.funs
  exact Heap.get?_none_of_le (Nat.le_trans I.ok.bsz I.ok.above)
theorem Inv.stkSub(I:Inv X pins σ H s):∀b∈aN X.stack,b∈X.env.locals::X.fs:=fun b hb=>by
 rcases I.ok.stk with e|⟨e,hf⟩
 ·rw[e]at hb;exact List.mem_cons_of_mem _ hb
 ·rw[e]at hb
  unfold aN at hb
  rw[List.filterMap_cons,hf]at hb
  exact hb
theorem Inv.stkFree(I:Inv X pins σ H s):∀b∈aN X.stack,H b=none:=fun b hb=>by
 rcases List.mem_cons.mp (I.stkSub b hb)with e|hb
 ·rw[e];exact I.free
 ·obtain⟨_,o,ho,_⟩:=I.ok.funs.mem hb
  exact I.base.free b o ho (I.ok.frf b hb) fun z=>I.ok.exfs b z hb
theorem Inv.step{g':Array GenState}{t':Nat}{d':Drawn}{ch:List Addr}(I:Inv X pins σ H s)
  (hch:∀b∈ch,(b∈X.ex\/X.s₀.heap.objs.size<=b)/\b≠X.env.locals/\(∀x c,X.env.cells.lookup x=some c->c≠b)/\∀p∈X.pn++pins,p.1≠b)
  (keep:∀b o,b≠X.env.locals->b∉X.fs->b∉ch->s.heap.get? b=some o->H b=none->h'.get? b=some o)
  (slot:∀b o,b≠X.env.locals->b∈X.fs->b∉ch->s.heap.get? b=some o->H b=none->∃sl,h'.get? b=some {o with slots:=sl})(free:∀b o,b∉ch->s.heap.get? b=some o->H b=none->H' b=none)
  (there:∀b o,b∉ch->s.heap.get? b=some o->∃o',h'.get? b=some o')
  (tups:∀b xs,H b=some (.tup xs)->H' b=some (.tup xs))(frzs:∀b o u,H b=some (.frz o u)->H' b=some (.frz o u))(tbls:∀b ps,H b=some (.tbl ps)->∃more,H' b=some (.tbl (ps++more)))
  (ns:∀m,s.heap.Ns X.env.locals m->h'.Ns X.env.locals m)(hok:HOk X.prog X.w H' h')(hg:AllBare g'):
  Inv X pins σ H' {s with heap:=h',gens:=g',drawn:=d',toks:=t'}:=by
 have neL:∀b o,X.s₀.heap.get? b=some o->b≠X.env.locals:=fun b o e=>Nat.ne_of_lt (Nat.lt_of_lt_of_le (Heap.lt_size e) I.ok.above)
 have neC:∀b o,X.s₀.heap.get? b=some o->b∉X.ex->b∉ch:=fun b o e hx hb=>by
  rcases(hch b hb).1 with z|z
  ·exact hx z
  ·exact absurd (Nat.lt_of_lt_of_le (Heap.lt_size e) z) (Nat.lt_irrefl _)
 have cellK:∀x c,X.env.cells.lookup x=some c->∀v,s.heap.IsCell c v->h'.IsCell c v:=fun x c e v ⟨o,ho,hd⟩=>by
  have nch:c∉ch:=fun z=>(hch c z).2.2.1 x c e rfl
  by_cases hc:c∈X.fs
  ·obtain⟨sl,q⟩:=slot c o (I.cne x c e) hc nch ho (I.freeC x c e)
   exact⟨_,q,hd⟩
  ·exact⟨o,keep c o (I.cne x c e) hc nch ho (I.freeC x c e),hd⟩
 refine⟨I.ok,I.os,hg,⟨fun b o e n hb hx=>?_,fun b o e n hb hx=>?_,fun b o e n hx=>?_,fun b o e hx=>?_,fun b xs e=>tups b xs (I.base.tups b xs e),fun b o xs e=>frzs b o xs (I.base.frzs b o xs e),fun b ps e=>?_⟩,?_,fun x c e=>?_,?_,fun x c e=>?_,fun p hp=>?_,hok,I.len⟩
 ·exact keep b o (neL b o e) hb (neC b o e hx) (I.base.keep b o e n hb hx) (I.base.free b o e n hx)
 ·obtain⟨sl,e1⟩:=I.base.slot b o e n hb hx
  obtain⟨sl',e2⟩:=slot b _ (neL b o e) hb (neC b o e hx) e1 (I.base.free b o e n hx)
  exact⟨sl',e2⟩
 ·obtain⟨o',e1⟩:=I.base.there b o e hx
  exact free b o' (neC b o e hx) e1 (I.base.free b o e n hx)
 ·obtain⟨o',e1⟩:=I.base.there b o e hx
  exact there b o' (neC b o e hx) e1
 ·obtain⟨m1,e1⟩:=I.base.tbls b ps e
  obtain⟨m2,e2⟩:=tbls b _ e1
  exact⟨m1++m2,by rw[e2,Array.append_assoc]⟩
 ·obtain⟨m,hn,hl⟩:=I.loc
  refine⟨m,ns m hn,fun i x v e1 e2 e3=>?_⟩
  obtain⟨u,r,l⟩:=hl i x v e1 e2 e3
  refine⟨u,r,?_⟩
  rcases l with l|⟨k,c,e,z⟩
  ·exact .inl l
  ·exact .inr ⟨k,c,e,cellK x c e _ z⟩
 ·obtain⟨v,z⟩:=I.cell x c e
  exact⟨v,cellK x c e v z⟩
 ·obtain⟨m,⟨o,_,_,ho,_⟩,_⟩:=I.loc
  exact free _ o (fun z=>(hch _ z).2.1 rfl) ho I.free
 ·obtain⟨v,o,ho,hd⟩:=I.cell x c e
  exact free c o (fun z=>(hch c z).2.2.1 x c e rfl) ho (I.freeC x c e)
 ·obtain⟨e,n,ne,nf,d⟩:=I.pin p hp
  have nch:p.1∉ch:=fun z=>(hch p.1 z).2.2.2 p hp rfl
  exact⟨keep p.1 p.2 ne nf nch e n,free p.1 p.2 nch e n,ne,nf,d⟩
theorem Inv.un{t':Nat}(I:Inv X pins σ H s)(u:Un X.fs [] H H' s.heap h')(hok:HOk X.prog X.w H' h'):Inv X pins σ H' {s with heap:=h',toks:=t'}:=by
 obtain⟨m,⟨o,es,ep,ho,r⟩,_⟩:=id I.loc
 obtain⟨sl,hL⟩:=u.any ho I.free (by simp)
 exact I.step (g':=s.gens) (d':=s.drawn) (ch:=[]) (fun _ z=>nomatch z) (fun b o _ hb _ e n=>u.keep b o e n hb (by simp)) (fun b o _ hb _ e n=>u.slot b o e n hb (by simp)) (fun b o _ e n=>u.free b o e n (by simp)) (fun b o _ e=>u.there b o e (by simp)) u.tups u.frzs u.tbls (fun m' hm=>by
  obtain⟨o',es',ep',ho',r'⟩:=hm
  rw[ho]at ho';cases ho'
  exact⟨_,es',ep',hL,r'⟩) hok I.bare
theorem Inv.call{g':Array GenState}{t':Nat}{d':Drawn}{ch:List Addr}(I:Inv X pins σ H s)(u:Un (aN X.stack) ch H H' s.heap h')(hok:HOk X.prog X.w H' h')(hg:AllBare g')
  (hch:∀b∈ch,(b∈X.ex\/X.s₀.heap.objs.size<=b)/\b≠X.env.locals/\(∀x c,X.env.cells.lookup x=some c->c≠b)/\∀p∈X.pn++pins,p.1≠b):
  Inv X pins σ H' {s with heap:=h',gens:=g',drawn:=d',toks:=t'}:=by
 obtain⟨m,⟨o,es,ep,ho,r⟩,_⟩:=id I.loc
 obtain⟨sl,hL⟩:=u.any ho I.free fun z=>(hch _ z).2.1 rfl
 exact I.step (ch:=ch) hch (fun b o hL hb hc e n=>u.keep b o e n (fun z=>(List.mem_cons.mp (I.stkSub b z)).elim hL hb) hc) (fun b o _ _ hc e n=>u.any e n hc) (fun b o hc e n=>u.free b o e n hc) (fun b o hc e=>u.there b o e hc) u.tups u.frzs u.tbls (fun m' hm=>by
  obtain⟨o',es',ep',ho',r'⟩:=hm
  rw[ho]at ho';cases ho'
  exact⟨_,es',ep',hL,r'⟩) hok hg
theorem Inv.turned{t':Nat}{it:Addr}(I:Inv X pins σ H s)(k:∀b o,b≠it->s.heap.get? b=some o->h'.get? b=some o)(hn:H it=none)(hL:it≠X.env.locals)
  (h1:it∈X.ex\/X.s₀.heap.objs.size<=it)(h2:∀x c,X.env.cells.lookup x=some c->c≠it)(h3:∀p∈X.pn++pins,p.1≠it):Inv X pins σ H {s with heap:=h',toks:=t'}:=by
 have nit:∀b u,H b=some u->b≠it:=fun b u e z=>by rw[z,hn]at e;cases e
 refine I.step (g':=s.gens) (d':=s.drawn) (ch:=[it]) (fun b hb=>?_) (fun b o _ _ hc e _=>k b o (fun z=>hc (by simp [z])) e) (fun b o _ _ hc e _=>⟨o.slots,k b o (fun z=>hc (by simp [z])) e⟩) (fun _ _ _ _ n=>n)
  (fun b o hc e=>⟨o,k b o (fun z=>hc (by simp [z])) e⟩) (fun _ _ e=>e) (fun _ _ _ e=>e) (fun b ps e=>⟨#[],by rw[e];simp⟩) (fun m hm=>?_) (fun b u e=>?_) I.bare
 ·have e:b=it:=by simpa using hb
  subst e
  exact⟨h1,hL,h2,h3⟩
 ·obtain⟨o,es,ep,ho,r⟩:=hm
  exact⟨o,es,ep,k _ o (Ne.symm hL) ho,r⟩
 ·refine(I.hok b u e).stay (fun c v hc q=>k c v ?_ q) (fun _ q=>q) fun _ _ q=>q
  rcases hc with z|z
  ·rw[z];exact nit b u e
  ·exact nit c _ z
theorem Inv.tok(I:Inv X pins σ H s)(t:Nat):Inv X pins σ H {s with toks:=t}:=I.un (h':=s.heap) (t':=t) Un.refl I.hok
theorem Inv.kept{t':Nat}(I:Inv X pins σ H s)(k:∀b u,s.heap.get? b=some u->h'.get? b=some u):Inv X pins σ H {s with heap:=h',toks:=t'}:=I.un (Un.kept k) (I.hok.kept k)
theorem Inv.laid{a:Addr}{o:HO}{t':Nat}(I:Inv X pins σ H s)(k:∀b u,s.heap.get? b=some u->h'.get? b=some u)(hp:s.heap.objs.size<=a)(new:ObjOk X.prog X.w (upd H a o) h' a o):
  Inv X pins σ (upd H a o) {s with heap:=h',toks:=t'}:=I.un (Un.laid k hp (I.hok.fresh hp)) (I.hok.laid k hp new)
theorem Inv.write{x e:Addr}{o:HO}{t':Nat}(I:Inv X pins σ H s)(mu:ny (H x))(he:e=x\/H e=some (.own x))(k:∀b u,b≠e->s.heap.get? b=some u->h'.get? b=some u)(heo:∃u,h'.get? e=some u)
  (new:ObjOk X.prog X.w (upd H x o) h' x o):Inv X pins σ (upd H x o) {s with heap:=h',toks:=t'}:=I.un (Un.write mu he k heo) (I.hok.write mu he k heo new)
theorem Inv.pins_of{pins':List (Addr×Obj)}(I:Inv X pins σ H s)(h:∀p∈pins',s.heap.get? p.1=some p.2/\H p.1=none/\p.1≠X.env.locals/\p.1∉X.fs/\∀v,p.2.data≠ .cell v):Inv X pins' σ H s:=
 ⟨I.ok,I.os,I.bare,I.base,I.loc,I.cell,I.free,I.freeC,fun p hp=>(List.mem_append.mp hp).elim (fun z=>I.pin p (List.mem_append_left _ z)) (h p),I.hok,I.len⟩
theorem gC{N:List Str}(hN:N.Nodup){i j:Nat}{x:Str}(a:N[i]? =some x)(b:N[j]? =some x):i=j:=by
 obtain⟨h1,e1⟩:=List.getElem?_eq_some_iff.mp a
 obtain⟨h2,e2⟩:=List.getElem?_eq_some_iff.mp b
 exact(List.getElem_inj hN).mp (e1.trans e2.symm)
theorem fq{M:Model}{A:Around}{E:Value->Shared->Prop}{i:Nat}{x:Str}{v:V}{u:Value}{Q:Unit->Shared->Prop}(I:Inv X pins σ H s)(hN:X.N.Nodup)(hi:X.N[i]? =some x)(hx:ff X.env.scope x)(r:RelV v u)
  (h:∀s',Inv X pins (σ.set i (some v)) H s'->(∃a,Heap.SameBut a s.heap s'.heap/\(a=X.env.locals\/X.env.cells.lookup x=some a))->Q () s')(hf:X.fn x=true\/X.env.scope.names.lookup x=some .local:=by first|exact .inl rfl|exact .inr rfl|assumption):wpAny M A (storeName X.env x u) Q E s:=by
 obtain⟨m,hn,hl⟩:=id I.loc
 have hcls:(X.env.scope.kind== .class||(X.env.scope.kind== .module&&X.env.locals != X.env.globals))=false:=by rw[I.ok.kind];rfl
 have hiσ:i<σ.length:=by rw[I.len];exact(List.getElem?_eq_some_iff.mp hi).1
 have cne:=I.cne
 have tracked:∀{a:Addr} {h':Heap},(∃o,s.heap.get? a=some o/\H a=none)->Heap.SameBut a s.heap h'->HOk X.prog X.w H h':=fun{a h'} ha hs b ob e=>by
  obtain⟨_,_,hfree⟩:=ha
  refine(I.hok b ob e).stay (fun c w' hc q=>(hs.2 c ?_).trans q) (fun _ q=>q) fun _ _ q=>q
  rintro rfl
  rcases hc with rfl|hc
  ·rw[hfree]at e;cases e
  ·rw[hfree]at hc;cases hc
 rcases hx with hk|hk
 ·refine wpAny_storeName_local hk hn (fun h' hn' hs=>?_) hcls
  obtain⟨oL,_,_,hoL,_⟩:=id hn
  refine h _ ⟨I.ok,I.os,I.bare,⟨fun b o e n hb hx=>?_,fun b o e n hb hx=>?_,I.base.free,fun b o e hx=>?_,I.base.tups,I.base.frzs,I.base.tbls⟩,⟨_,hn',fun j y v' e1 e2 e3=>?_⟩,fun y c e=>?_,I.free,I.freeC,fun p hp=>?_,tracked ⟨oL,hoL,I.free⟩ hs,by simpa using I.len⟩ ⟨_,hs,.inl rfl⟩
  ·exact(hs.2 b (Nat.ne_of_lt (Nat.lt_of_lt_of_le (Heap.lt_size e) I.ok.above))).trans (I.base.keep b o e n hb hx)
  ·obtain⟨sl,e1⟩:=I.base.slot b o e n hb hx
   exact⟨sl,(hs.2 b (Nat.ne_of_lt (Nat.lt_of_lt_of_le (Heap.lt_size e) I.ok.above))).trans e1⟩
  ·obtain⟨o',e1⟩:=I.base.there b o e hx
   exact⟨o',(hs.2 b (Nat.ne_of_lt (Nat.lt_of_lt_of_le (Heap.lt_size e) I.ok.above))).trans e1⟩
  ·by_cases hj:j=i
   ·subst hj
    rw[hi]at e1;cases e1
    rw[List.getElem?_set_self hiσ]at e2
    cases e2
    exact⟨u,r,.inl ⟨hk,by simp⟩⟩
   ·rw[List.getElem?_set_ne (Ne.symm hj)]at e2
    obtain⟨u',r',q⟩:=hl j y v' e1 e2 e3
    refine⟨u',r',?_⟩
    rcases q with⟨k,e⟩|⟨k,c,e,z⟩
    ·refine .inl ⟨k,?_⟩
     have:y≠x:=fun e=>hj (gC hN e1 (e▸hi))
     simp [this,e]
    ·exact .inr ⟨k,c,e,z.sameBut hs (cne y c e)⟩
  ·obtain⟨w',z⟩:=I.cell y c e
   exact⟨w',z.sameBut hs (cne y c e)⟩
  ·obtain⟨e,n,ne,nf,d⟩:=I.pin p hp
   exact⟨(hs.2 p.1 ne).trans e,n,ne,nf,d⟩
 ·have hfn:X.fn x=true:=by
   rcases hf with z|z
   ·exact z
   ·rw[z]at hk;cases hk
  obtain⟨c,hc⟩:=I.ok.has x (.inl hk)
  obtain⟨w',z⟩:=I.cell x c hc
  refine wpAny_storeName_cell I.ok.kind hk hc z (fun h' hc' hs=>?_)
  obtain⟨oc,hoc,hocd⟩:=id z
  refine h {s with heap:=h'} ⟨I.ok,I.os,I.bare,⟨fun b o e n hb hx=>?_,fun b o e n hb hx=>?_,I.base.free,fun b o e hx=>?_,I.base.tups,I.base.frzs,I.base.tbls⟩,⟨m,hn.sameBut hs (Ne.symm (cne x c hc)),fun j y v' e1 e2 e3=>?_⟩,fun y c' e=>?_,I.free,I.freeC,fun p hp=>?_,tracked ⟨oc,hoc,I.freeC x c hc⟩ hs,by simpa using I.len⟩ ⟨c,hs,.inr hc⟩
  ·exact(hs.2 b (Nat.ne_of_lt (Nat.lt_of_lt_of_le (Heap.lt_size e) (I.ok.cab x c hfn hc)))).trans (I.base.keep b o e n hb hx)
  ·obtain⟨sl,e1⟩:=I.base.slot b o e n hb hx
   exact⟨sl,(hs.2 b (Nat.ne_of_lt (Nat.lt_of_lt_of_le (Heap.lt_size e) (I.ok.cab x c hfn hc)))).trans e1⟩
  ·obtain⟨o',e1⟩:=I.base.there b o e hx
   exact⟨o',(hs.2 b (Nat.ne_of_lt (Nat.lt_of_lt_of_le (Heap.lt_size e) (I.ok.cab x c hfn hc)))).trans e1⟩
  ·by_cases hj:j=i
   ·subst hj
    rw[hi]at e1;cases e1
    rw[List.getElem?_set_self hiσ]at e2
    cases e2
    exact⟨u,r,.inr ⟨.inl hk,c,hc,hc'⟩⟩
   ·rw[List.getElem?_set_ne (Ne.symm hj)]at e2
    obtain⟨u',r',q⟩:=hl j y v' e1 e2 e3
    refine⟨u',r',?_⟩
    rcases q with q|⟨k,c',e,z'⟩
    ·exact .inl q
    ·refine .inr ⟨k,c',e,z'.sameBut hs ?_⟩
     rintro rfl
     exact hj (gC hN e1 (I.ok.inj _ _ _ e hc▸hi))
  ·by_cases hcc:c'=c
   ·subst hcc;exact⟨_,hc'⟩
   ·obtain⟨w2,z2⟩:=I.cell y c' e
    exact⟨w2,z2.sameBut hs hcc⟩
  ·obtain⟨e,n,ne,nf,d⟩:=I.pin p hp
   refine⟨(hs.2 p.1 ?_).trans e,n,ne,nf,d⟩
   intro q
   rw[q,hoc]at e
   have q':oc=p.2:=Option.some.inj e
   exact d w' (by rw[<- q'];exact hocd)
theorem gN{M:Model}{A:Around}{E:Value->Shared->Prop}{i:Nat}{x:Str}{v:V}{u:Value}{Q:Unit->Shared->Prop}(I:Inv X pins σ H s)(hN:X.N.Nodup)(hi:X.N[i]? =some x)(hx:ff X.env.scope x)(r:RelV v u)
  (h:∀s',Inv X pins (σ.set i (some v)) H s'->Q () s')(hf:X.fn x=true\/X.env.scope.names.lookup x=some .local:=by first|exact .inl rfl|exact .inr rfl|assumption):wpAny M A (storeName X.env x u) Q E s:=
 fq I hN hi hx r (fun s' I' _=>h s' I') hf
theorem Inv.call'{s':Shared}{ch:List Addr}(I:Inv X pins σ H s)(ho:s'.os=s.os)(u:Un (aN X.stack) ch H H' s.heap s'.heap)(hok:HOk X.prog X.w H' s'.heap)(hg:AllBare s'.gens)
  (hch:∀b∈ch,(b∈X.ex\/X.s₀.heap.objs.size<=b)/\b≠X.env.locals/\(∀x c,X.env.cells.lookup x=some c->c≠b)/\∀p∈X.pn++pins,p.1≠b):Inv X pins σ H' s':=by
 obtain⟨h',g',d',t',o'⟩:=s'
 have e:o'=s.os:=ho
 subst e
 exact I.call (g':=g') (t':=t') (d':=d') u hok hg hch
end
abbrev XK:=Value->Option Addr->Hp->Prop
abbrev St:=List (Option V)
abbrev VK:=V->Hp->Prop
abbrev TE:=St->Hp->VK->Prop
abbrev TT:=St->Hp->(Bool->Hp->Prop)->Prop
abbrev TA:=St->Hp->(List V->Hp->Prop)->Prop
structure Ends where
 nx:St->Hp->Prop
 rt:VK
 bk:St->Hp->Prop:=fun _ _=>False
 ct:St->Hp->Prop:=fun _ _=>False
abbrev TS:=Ends->St->Hp->Prop
def EP(X:Cx)(pins:List (Addr×Obj))(σ:St)(Q:VK)(u:Value)(s':Shared):Prop:=∃v H',Inv X pins σ H' s'/\RelV v u/\Q v H'
def TP(X:Cx)(pins:List (Addr×Obj))(σ:St)(Q:Bool->Hp->Prop)(b:Bool)(s':Shared):Prop:=∃H',Inv X pins σ H' s'/\Q b H'
def AP(X:Cx)(pins:List (Addr×Obj))(σ:St)(Q:List V->Hp->Prop)(us:List Value)(s':Shared):Prop:=∃vs H',Inv X pins σ H' s'/\Vals vs us/\Q vs H'
def SP(X:Cx)(pins:List (Addr×Obj))(D:Ends)(f:Flow)(s':Shared):Prop:=
 match f with
 | .next=>∃σ' H',Inv X pins σ' H' s'/\D.nx σ' H'
 | .brk=>∃σ' H',Inv X pins σ' H' s'/\D.bk σ' H'
 | .cont=>∃σ' H',Inv X pins σ' H' s'/\D.ct σ' H'
 | .ret u=>∃v σ' H',Inv X pins σ' H' s'/\RelV v u/\D.rt v H'
def PE(X:Cx)(e:Expr)(t:TE):Prop:=
 ∀(pins:List (Addr×Obj)) (s:Shared) (σ:St) (H:Hp) (Q:VK),Inv X pins σ H s->t σ H Q->wpAny (model X.prog X.w) X.A (eval e X.env) (EP X pins σ Q) X.xe s
def PT(X:Cx)(e:Expr)(t:TT):Prop:=
 ∀(pins:List (Addr×Obj)) (s:Shared) (σ:St) (H:Hp) (Q:Bool->Hp->Prop),Inv X pins σ H s->t σ H Q->wpAny (model X.prog X.w) X.A (isTrue e X.env (eval e X.env)) (TP X pins σ Q) X.xe s
def PW(X:Cx)(e:Expr)(t:TT):Prop:=
 ∀(whole:Sem Value) (pins:List (Addr×Obj)) (s:Shared) (σ:St) (H:Hp) (Q:Bool->Hp->Prop),Inv X pins σ H s->t σ H Q->wpAny (model X.prog X.w) X.A (isTrue e X.env whole) (TP X pins σ Q) X.xe s
theorem PW.pt{X:Cx}{e:Expr}{t:TT}(h:PW X e t):PT X e t:=h _
def PA(X:Cx)(es:List Expr)(t:TA):Prop:=
 ∀(pos:Pos) (pins:List (Addr×Obj)) (s:Shared) (σ:St) (H:Hp) (Q:List V->Hp->Prop),Inv X pins σ H s->t σ H Q->wpAny (model X.prog X.w) X.A (spliced (backTo pos (starEach es X.env))) (AP X pins σ Q) X.xe s
def PS(X:Cx)(st:Stmt)(t:TS):Prop:=
 ∀(pins:List (Addr×Obj)) (s:Shared) (σ:St) (H:Hp) (D:Ends),Inv X pins σ H s->t D σ H->wpAny (model X.prog X.w) X.A (exec st X.env) (SP X pins D) X.xe s
def PSs(X:Cx)(st:List Stmt)(t:TS):Prop:=
 ∀(pins:List (Addr×Obj)) (s:Shared) (σ:St) (H:Hp) (D:Ends),Inv X pins σ H s->t D σ H->wpAny (model X.prog X.w) X.A (execs st X.env) (SP X pins D) X.xe s
theorem qD{α:Type}{t:Sem α}{Q Q':α->Shared->Prop}{M:Model}{A:Around}{E:Value->Shared->Prop}{s:Shared}(h:wpAny M A t Q E s)(hQ:∀a s,Q a s->Q' a s):wpAny M A t Q' E s:=wpAny_mono h hQ fun _ _ x=>x
section
variable{X:Cx}
def uj(i:Nat):TE:=fun σ H Q=>∃v,σ[i]? =some (some v)/\Q v H
def tC(v:V):TE:=fun _ H Q=>Q v H
theorem tK{i:Nat}{x:Str}{pos:Pos}(hN:X.N[i]? =some x)(hv:uv X.env.scope x)(hd:(x==("__debug__":Str))=false:=by decide)(hcd:(x==("__classdict__":Str))=false:=by decide):PE X (.Name x pos) (uj i):=by
 intro pins s σ H Q I h
 obtain⟨v,e,h⟩:=h
 obtain⟨m,hn,hl⟩:=I.loc
 obtain⟨u,r,l⟩:=hl i x v hN e hv
 have fin:EP X pins σ Q u s:=⟨v,H,I,r,h⟩
 rcases l with⟨hk,hm⟩|⟨hk,c,hc,hcell⟩
 ·exact wpAny_Name (wpAny_loadName_local I.ok.kind hk hn hm fin) hd
 ·rcases hk with hk|hk
  ·exact wpAny_Name (wpAny_loadName_cell I.ok.kind hk hc hcell fin) hd
  ·exact wpAny_Name (wpAny_loadName_free I.ok.kind hk hc hcell fin hcd) hd
theorem uM{i j pos}:PE X (.Constant (.int i) j pos) (tC (.int i)):=fun _ _ _ H _ I h=>wpAny_Constant_int ⟨.int i,H,I.tok _,⟨_,rfl⟩,h⟩
theorem vG{b j pos}:PE X (.Constant (.bool b) j pos) (tC (.bl b)):=fun _ _ _ H _ I h=>Constant_bool ⟨.bl b,H,I,rfl,h⟩
theorem va{j pos}:PE X (.Constant .none j pos) (tC .non):=fun _ _ _ H _ I h=>Constant_none ⟨.non,H,I,rfl,h⟩
theorem uB{x j pos}:PE X (.Constant (.str x) j pos) (tC (.str x)):=fun _ _ _ H _ I h=>Calls.Constant_str ⟨.str x,H,I.tok _,⟨_,rfl⟩,h⟩
def Gl(X:Cx)(x:Str):Prop:=X.env.kindOf x=some .globalImplicit
theorem eO{E:Value->Shared->Prop}{pins:List (Addr×Obj)}{s:Shared}{σ:St}{H:Hp}{x:Str}{u:Value}{pos:Pos}{Q:Value->Shared->Prop}(I:Inv X pins σ H s)(hg:Gl X x)(hm:X.mg x=some u)(h:Q u s)
  (hd:(x==("__debug__":Str))=false:=by decide):wpAny (model X.prog X.w) X.A (eval (.Name x pos) X.env) Q E s:=
 Calls.Name_function_global I.ok.kind hg (Calls.loadGlobal_global (by rw[I.ok.glob];exact I.mod.glob.keeps I.bk) hm h) hd
theorem Qs{E:Value->Shared->Prop}{pins:List (Addr×Obj)}{s:Shared}{σ:St}{H:Hp}{x:Str}{u:Value}{pos:Pos}{Q:Value->Shared->Prop}(I:Inv X pins σ H s)(hg:Gl X x)(hm:X.mg x=none)(hv:bootBuiltins x=some u)(h:Q u s)
  (hn:x≠"__name__":=by decide)(hd:(x==("__debug__":Str))=false:=by decide):wpAny (model X.prog X.w) X.A (eval (.Name x pos) X.env) Q E s:=by
 obtain⟨mb,h1,h2⟩:=I.mod.blt
 exact Calls.Name_function_global I.ok.kind hg (Calls.loadGlobal_builtin (by rw[I.ok.glob];exact I.mod.glob.keeps I.bk) hm (by rw[I.ok.blt];exact h1.keeps I.bk) ((h2 x hn).trans hv) h) hd
theorem tj{x:Str}{v:V}{u:Value}{pos:Pos}(hg:Gl X x)(hm:X.mg x=some u)(r:RelV v u)(hd:(x==("__debug__":Str))=false:=by decide):PE X (.Name x pos) (tC v):=
 fun _ _ _ H _ I h=>eO I hg hm ⟨v,H,I,r,h⟩ hd
theorem sI{x:Str}{v:V}{u:Value}{pos:Pos}(hg:Gl X x)(hm:X.mg x=none)(hv:bootBuiltins x=some u)(r:RelV v u)(hn:x≠"__name__":=by decide)(hd:(x==("__debug__":Str))=false:=by decide):PE X (.Name x pos) (tC v):=
 fun _ _ _ H _ I h=>Qs I hg hm hv ⟨v,H,I,r,h⟩ hn hd
variable{a b:Expr}{ta tb:TE}{pos:Pos}
def PC(X:Cx)(op:CmpOp)(a b:Expr)(t:TE):Prop:=
 ∀(pins:List (Addr×Obj)) (s:Shared) (σ:St) (H:Hp) (Q:VK),Inv X pins σ H s->t σ H Q->
  wpAny (model X.prog X.w) X.A (eval a X.env) (fun v s₁=>wpAny (model X.prog X.w) X.A (eval b X.env) (fun u s₂=>wpAny (model X.prog X.w) X.A (compareOp op v u) (EP X pins σ Q) X.xe s₂) X.xe s₁) X.xe s
def tB(t:TE):TT:=fun σ H Q=>t σ H fun x H1=>∃c,x= .bl c/\Q c H1
theorem ug{op:CmpOp}{t:TE}(h:PC X op a b t)(h1:behindInMarks op b=false:=by first|exact nobehind _ (by decide) (by decide)|rfl):PT X (.Compare a [op] [b] pos) (tB t):=by
 intro pins s σ H Q I hw
 refine wpAny_isTrue_Compare1 (qD (h pins s σ H _ I hw) fun v s1 h1=>qD h1 fun u s2 h2=>qD h2 fun c s3 ⟨x,H1,I1,r1,q1⟩=>?_) h1
 obtain⟨d,rfl,q⟩:=q1
 cases r1
 exact wpAny_truthy_bool ⟨H1,I1,q⟩
theorem tO{e:Expr}{t:TE}(h:PE X e t)(he:∀whole,isTrue e X.env whole=(do let v <- whole;standAt e.pos;holding [v] (truthy v)):=by intro _;rfl):PT X e (tB t):=by
 intro pins s σ H Q I hw
 refine isTrue_plain (qD (h pins s σ H _ I hw) fun v s1 ⟨x,H1,I1,r1,q1⟩=>?_) (he _)
 obtain⟨d,rfl,q⟩:=q1
 cases r1
 exact wpAny_truthy_bool ⟨H1,I1,q⟩
variable{tA tB':TT}{rest:List Expr}
def uA(t u:TT):TT:=fun σ H Q=>t σ H fun c H1=>if c=true then u σ H1 Q else Q false H1
def vZ(t u:TT):TT:=fun σ H Q=>t σ H fun c H1=>if c=true then Q true H1 else u σ H1 Q
def uT(t:TT):TT:=fun σ H Q=>t σ H fun c H1=>Q (!c) H1
theorem sH(ha:PT X a tA):PW X (.BoolOp .And [a] pos) tA:=by
 intro wh pins s σ H Q I h
 refine isTrue_and (qD (ha pins s σ H Q I h) fun c s1 e=>?_)
 cases c with
 |true=>exact isTrue_and_nil e
 |false=>exact e
theorem tM(ha:PT X a tA):PW X (.BoolOp .Or [a] pos) tA:=by
 intro wh pins s σ H Q I h
 refine isTrue_or (qD (ha pins s σ H Q I h) fun c s1 e=>?_)
 cases c with
 |false=>exact isTrue_or_nil e
 |true=>exact e
theorem uW(ha:PT X a tA)(hb:PW X (.BoolOp .And (b::rest) pos) tB'):PW X (.BoolOp .And (a::b::rest) pos) (uA tA tB'):=by
 intro wh pins s σ H Q I h
 refine isTrue_and (qD (ha pins s σ H _ I h) fun c s1 ⟨H1,I1,q1⟩=>?_)
 cases c with
 |true=>exact hb wh pins s1 σ H1 Q I1 q1
 |false=>exact⟨H1,I1,q1⟩
theorem vK(ha:PT X a tA)(hb:PW X (.BoolOp .Or (b::rest) pos) tB'):PW X (.BoolOp .Or (a::b::rest) pos) (vZ tA tB'):=by
 intro wh pins s σ H Q I h
 refine isTrue_or (qD (ha pins s σ H _ I h) fun c s1 ⟨H1,I1,q1⟩=>?_)
 cases c with
 |true=>exact⟨H1,I1,q1⟩
 |false=>exact hb wh pins s1 σ H1 Q I1 q1
theorem ui(ha:PT X a tA):PT X (.UnaryOp .Not a pos) (uT tA):=by
 intro pins s σ H Q I h
 exact isTrue_not (ha pins s σ H (fun c H1=>Q (!c) H1) I h)
def rB(ta tb:TE):TE:=fun σ H Q=>ta σ H fun x H1=>∃c,x= .bl c/\if c=true then tb σ H1 Q else Q (.bl false) H1
def rf(ta:TE):TE:=fun σ H Q=>ta σ H fun x H1=>∃c,x= .bl c/\Q (.bl (!c)) H1
theorem vo{op}{t:TE}(h:PE X a t):PE X (.BoolOp op [a] pos) t:=fun pins s σ H Q I hw=>BoolOp_one (h pins s σ H Q I hw)
theorem vz(ha:PE X a ta)(hb:PE X (.BoolOp .And (b::rest) pos) tb):PE X (.BoolOp .And (a::b::rest) pos) (rB ta tb):=by
 intro pins s σ H Q I h
 refine BoolOp_and (qD (ha pins s σ H _ I h) fun v s1 ⟨x,H1,I1,r1,q1⟩=>?_)
 obtain⟨c,rfl,q1⟩:=q1
 cases r1
 refine wpAny_truthy_bool ?_
 cases c with
 |true=>exact hb pins s1 σ H1 Q I1 q1
 |false=>exact⟨.bl false,H1,I1,rfl,q1⟩
theorem tH(ha:PE X a ta):PE X (.UnaryOp .Not a pos) (rf ta):=by
 intro pins s σ H Q I h
 refine UnaryOp_ (qD (ha pins s σ H _ I h) fun v s1 ⟨x,H1,I1,r1,q1⟩=>?_)
 obtain⟨c,rfl,q1⟩:=q1
 cases r1
 exact not_of (wpAny_truthy_bool ⟨.bl (!c),H1,I1,rfl,q1⟩)
def wb(t:TT)(ta tb:TE):TE:=fun σ H Q=>t σ H fun c H1=>if c=true then ta σ H1 Q else tb σ H1 Q
theorem oZ{c:Expr}(hc:PT X c tA)(ha:PE X a ta)(hb:PE X b tb):PE X (.IfExp c a b pos) (wb tA ta tb):=by
 intro pins s σ H Q I h
 refine wpAny_IfExp (qD (hc pins s σ H _ I h) fun d s1 ⟨H1,I1,q1⟩=>?_)
 cases d with
 |true=>exact ha pins s1 σ H1 Q I1 q1
 |false=>exact hb pins s1 σ H1 Q I1 q1
end
def SqL(K:Frag)(H:Hp)(a:Addr)(xs:List V):Prop:=
 Rd H a (.lst xs)\/
  ∃(o:Obj) (its:Array Value) (n:Nat),K.lookup a=some o/\o.cls= .type "list"/\o.dict=none/\o.data= .seq its n/\its.size<=sizeLine/\Vals xs its.toList
def SqT(K:Frag)(H:Hp)(a:Addr)(xs:List V):Prop:=
 Rd H a (.tup xs)\/
  ∃(o:Obj) (its:Array Value) (n:Nat),K.lookup a=some o/\o.cls= .type "tuple"/\o.data= .seq its n/\its.size<=sizeLine/\Vals xs its.toList
def wk:Value->Option V
 | .none=>some .non
 | .bool b=>some (.bl b)
 | .int i _=>some (.int i)
 | .str x _=>some (.str x)
 | .bytes b _=>some (.byt b)
 | .float b _=>some (.flt b)
 | .ref a=>some (.ref a)
 | .type n=>some (.ty n)
 |_=>none
theorem RelV.abs{x:V}{u:Value}(r:RelV x u):wk u=some x:=by
 cases x with
 |non=>cases r;rfl
 |bl _=>cases r;rfl
 |int _=>obtain⟨t,rfl⟩:=r;rfl
 |str _=>obtain⟨t,rfl⟩:=r;rfl
 |byt _=>obtain⟨t,rfl⟩:=r;rfl
 |flt _=>obtain⟨t,rfl⟩:=r;rfl
 |ref _=>cases r;rfl
 |ty _=>cases r;rfl
theorem RelV.inj{x y:V}{u:Value}(r:RelV x u)(q:RelV y u):x=y:=Option.some.inj (r.abs.symm.trans q.abs)
theorem Vals.inj:∀{xs ys:List V} {us:List Value},Vals xs us->Vals ys us->xs=ys
 |_,_,_,.nil,.nil=>rfl
 |_,_,_,.cons r t,.cons r' t'=>by rw[r.inj r',Vals.inj t t']
section
variable{X:Cx}{pins:List (Addr×Obj)}{σ:St}{H:Hp}{s:Shared}{a:Addr}{xs ys:List V}
theorem SqL.of{K:Frag}(h:H a=some (.lst xs)):SqL K H a xs:= .inl (.inl h)
theorem SqT.of{K:Frag}(h:H a=some (.tup xs)):SqT K H a xs:= .inl (.inl h)
theorem Inv.list(I:Inv X pins σ H s)(h:SqL X.K H a xs):∃its:List Value,Vals xs its/\PlainL s.heap a its.toArray/\xs.length<=sizeLine:=by
 rcases h with h|⟨o,its,n,hk,hc,hd,hs,hz,r⟩
 ·obtain⟨z,its,n,r,e⟩:=h.ok I.hok
  exact⟨its,r,⟨_,n,e,rfl,rfl,rfl⟩,z⟩
 ·refine⟨its.toList,r,⟨o,n,I.kIn a o hk,hc,hd,by simpa using hs⟩,?_⟩
  have e:=r.length
  simp only[Array.length_toList]at e
  omega
theorem Inv.tuple(I:Inv X pins σ H s)(h:SqT X.K H a xs):∃its:List Value,Vals xs its/\IsTup s.heap a its.toArray/\xs.length<=sizeLine:=by
 rcases h with h|⟨o,its,n,hk,hc,hs,hz,r⟩
 ·obtain⟨z,its,r,p⟩:=h.ok I.hok
  exact⟨its,r,p,z⟩
 ·refine⟨its.toList,r,⟨o,I.kIn a o hk,hc,n,by simpa using hs⟩,?_⟩
  have e:=r.length
  simp only[Array.length_toList]at e
  omega
theorem Inv.list_inj(I:Inv X pins σ H s)(h:SqL X.K H a xs)(h':SqL X.K H a ys):xs=ys:=by
 obtain⟨its,r,⟨o,n,e,_,_,d⟩,_⟩:=I.list h
 obtain⟨its',r',⟨o',n',e',_,_,d'⟩,_⟩:=I.list h'
 rw[e]at e';cases e'
 rw[d]at d'
 injection d' with d1 _
 have:its=its':=by simpa using congrArg Array.toList d1
 subst this
 exact r.inj r'
theorem Inv.tuple_inj(I:Inv X pins σ H s)(h:SqT X.K H a xs)(h':SqT X.K H a ys):xs=ys:=by
 obtain⟨its,r,⟨o,e,_,n,d⟩,_⟩:=I.tuple h
 obtain⟨its',r',⟨o',e',_,n',d'⟩,_⟩:=I.tuple h'
 rw[e]at e';cases e'
 rw[d]at d'
 injection d' with d1 _
 have:its=its':=by simpa using congrArg Array.toList d1
 subst this
 exact r.inj r'
end
abbrev Cx.wish(X:Cx)(E:Value->Shared->Prop):Cx:={X with xe:=E}
abbrev Cx.nox(X:Cx):Cx:=X.wish fun _ _=>False
theorem Cx.Ok.wish{X:Cx}(ok:X.Ok)(E:Value->Shared->Prop):(X.wish E).Ok:=
 ⟨ok.mod,ok.kind,ok.glob,ok.blt,ok.above,ok.inj,ok.has,ok.cab,ok.hd,ok.frames,ok.stk,ok.exf,ok.bs,ok.bsz,ok.noex,ok.exfs,ok.funs,ok.frf⟩
theorem Cx.Ok.unwish{X:Cx}{E:Value->Shared->Prop}(ok:(X.wish E).Ok):X.Ok:=
 ⟨ok.mod,ok.kind,ok.glob,ok.blt,ok.above,ok.inj,ok.has,ok.cab,ok.hd,ok.frames,ok.stk,ok.exf,ok.bs,ok.bsz,ok.noex,ok.exfs,ok.funs,ok.frf⟩
section
variable{X:Cx}{pins:List (Addr×Obj)}{σ:St}{H:Hp}{s:Shared}{E:Value->Shared->Prop}
theorem Inv.wish(I:Inv X pins σ H s)(E:Value->Shared->Prop):Inv (X.wish E) pins σ H s:=⟨I.ok.wish E,I.os,I.bare,I.base,I.loc,I.cell,I.free,I.freeC,I.pin,I.hok,I.len⟩
theorem Inv.unwish(I:Inv (X.wish E) pins σ H s):Inv X pins σ H s:=⟨I.ok.unwish,I.os,I.bare,I.base,I.loc,I.cell,I.free,I.freeC,I.pin,I.hok,I.len⟩
theorem SP.unwish{D:Ends}{f:Flow}{s':Shared}(h:SP (X.wish E) pins D f s'):SP X pins D f s':=by
 cases f with
 |next=>obtain⟨σ',H',I,q⟩:=h;exact⟨σ',H',I.unwish,q⟩
 |brk=>obtain⟨σ',H',I,q⟩:=h;exact⟨σ',H',I.unwish,q⟩
 |cont=>obtain⟨σ',H',I,q⟩:=h;exact⟨σ',H',I.unwish,q⟩
 |ret u=>obtain⟨v,σ',H',I,r,q⟩:=h;exact⟨v,σ',H',I.unwish,r,q⟩
theorem PSs.nox{st:List Stmt}{t:TS}(h:PSs X.nox st t):PSs X st t:=fun pins s σ H D I hw=>
 wpAny_mono (h pins s σ H D (I.wish _) hw) (fun _ _ q=>q.unwish) fun _ _ z=>False.elim z
end
section
variable{X:Cx}{st:Stmt}{rest:List Stmt}{t u:TS}{e:Expr}{te:TE}{pos:Pos}
def rb:TS:=fun D σ H=>D.nx σ H
def iz(t u:TS):TS:=fun D σ H=>t {D with nx:=u D} σ H
theorem rT:PSs X [] rb:=fun _ _ σ H _ I h=>wpAny_execs_nil ⟨σ,H,I,h⟩
theorem oR(h1:PS X st t)(h2:PSs X rest u):PSs X (st::rest) (iz t u):=by
 intro pins s σ H D I h
 refine wpAny_execs_cons (qD (h1 pins s σ H {D with nx:=u D} I h) fun f s1 q=>?_)
 cases f with
 |next=>
  obtain⟨σ',H',I',q⟩:=q
  exact h2 pins s1 σ' H' D I' q
 |ret v=>exact q
 |brk=>exact q
 |cont=>exact q
theorem sM(h1:PS X st t):PSs X [st] t:=by
 intro pins s σ H D I h
 refine wpAny_execs_cons (qD (h1 pins s σ H D I h) fun f s1 q=>?_)
 cases f with
 |next=>exact wpAny_execs_nil q
 |ret v=>exact q
 |brk=>exact q
 |cont=>exact q
theorem Inv.quiet{pins:List (Addr×Obj)}{σ:St}{H:Hp}{s:Shared}(I:Inv X pins σ H s):interactive X.env=false:=by simp [interactive,I.ok.kind]
def pU(te:TE):TS:=fun D σ H=>te σ H fun _ H1=>D.nx σ H1
theorem se(he:PE X e te)(hs:swapsWith e none pos.line X.env=pure false:=by rfl):PS X (.Expr e pos) (pU te):=by
 intro pins s σ H D I h
 exact wpAny_Expr_any (qD (he pins s σ H _ I h) fun v s1 ⟨x,H1,I1,r1,q1⟩=>⟨σ,H1,I1,q1⟩) I.quiet hs
def uw(te:TE):TS:=fun D σ H=>te σ H D.rt
theorem vq(he:PE X e te):PS X (.Return (some e) pos) (uw te):=by
 intro pins s σ H D I h
 exact wpAny_Return_some (qD (he pins s σ H _ I h) fun v s1 ⟨x,H1,I1,r1,q1⟩=>⟨x,σ,H1,I1,r1,q1⟩)
def tX(c:TT)(t u:TS):TS:=fun D σ H=>c σ H fun b H1=>if b=true then t D σ H1 else u D σ H1
theorem vO{c:Expr}{a b:List Stmt}{tc:TT}(hc:PT X c tc)(ha:PSs X a t)(hb:PSs X b u):PS X (.If c a b pos) (tX tc t u):=by
 intro pins s σ H D I h
 refine wpAny_If (qD (hc pins s σ H _ I h) fun d s1 ⟨H1,I1,q1⟩=>?_)
 cases d with
 |true=>exact ha pins s1 σ H1 D I1 q1
 |false=>exact hb pins s1 σ H1 D I1 q1
def lT:TS:=fun _ _ _=>False
theorem mP{sts:List Stmt}:PSs X sts lT:=fun _ _ _ _ _ _ h=>h.elim
end
abbrev TG:=V->St->Hp->(St->Hp->Prop)->Prop
abbrev ZQ:=List V->St->Hp->(St->Hp->Prop)->Prop
def PG(X:Cx)(target:Expr)(t:TG):Prop:=
 ∀(pins:List (Addr×Obj)) (s:Shared) (σ:St) (H:Hp) (v:V) (u:Value) (Q:St->Hp->Prop),Inv X pins σ H s->RelV v u->t v σ H Q->
  wpAny (model X.prog X.w) X.A (assign target X.env u) (fun _ s'=>∃σ' H',Inv X pins σ' H' s'/\Q σ' H') X.xe s
def jM(X:Cx)(ts:List Expr)(t:ZQ):Prop:=
 ∀(pins:List (Addr×Obj)) (s:Shared) (σ:St) (H:Hp) (vs:List V) (us:List Value) (Q:St->Hp->Prop),Inv X pins σ H s->Vals vs us->t vs σ H Q->
  wpAny (model X.prog X.w) X.A (assignInOrder ((assignEach ts X.env).map (·.2)) us) (fun _ s'=>∃σ' H',Inv X pins σ' H' s'/\Q σ' H') X.xe s
abbrev cF:=V->V->V->Hp->(Hp->Prop)->Prop
def hV(X:Cx)(t:cF):Prop:=
 ∀(pins:List (Addr×Obj)) (s:Shared) (σ:St) (H:Hp) (o i v:V) (ov iv u:Value) (Q:Hp->Prop),Inv X pins σ H s->RelV o ov->RelV i iv->RelV v u->t o i v H Q->
  wpAny (model X.prog X.w) X.A (setItem ov iv u) (fun _ s'=>∃H',Inv X pins σ H' s'/\Q H') X.xe s
abbrev ly:=V->V->Hp->VK->Prop
def tR(X:Cx)(op:Operator)(t:ly):Prop:=
 ∀(pins:List (Addr×Obj)) (s:Shared) (σ:St) (H:Hp) (x y:V) (v u:Value) (Q:VK),Inv X pins σ H s->RelV x v->RelV y u->t x y H Q->
  wpAny (model X.prog X.w) X.A (inplaceOp op v u) (EP X pins σ Q) X.xe s
section
variable{X:Cx}{pos:Pos}
def Qe(i:Nat):TG:=fun v σ H Q=>Q (σ.set i (some v)) H
theorem rW{i:Nat}{x:Str}(hN:X.N.Nodup)(hi:X.N[i]? =some x)(hx:ff X.env.scope x)(hf:X.fn x=true\/X.env.scope.names.lookup x=some .local:=by first|exact .inl rfl|exact .inr rfl|assumption):PG X (.Name x pos) (Qe i):=by
 intro pins s σ H v u Q I r h
 exact wpAny_assign_Name (gN I hN hi hx r (fun s' I'=>⟨_,H,I',h⟩) hf)
def gB:ZQ:=fun vs σ H Q=>vs=[]/\Q σ H
def ZN(t:TG)(u:ZQ):ZQ:=fun vs σ H Q=>∃v r,vs=v::r/\t v σ H fun σ' H'=>u r σ' H' Q
theorem sZ:jM X [] gB:=by
 intro pins s σ H vs us Q I r h
 obtain⟨e,h⟩:=h
 subst e
 cases r
 exact assignInOrder_nil ⟨σ,H,I,h⟩
theorem oK{e:Expr}{es:List Expr}{t:TG}{u:ZQ}(h1:PG X e t)(h2:jM X es u)
  (hs:(assignEach (e::es) X.env).map (·.2)=assign e X.env::(assignEach es X.env).map (·.2):=by rfl):jM X (e::es) (ZN t u):=by
 intro pins s σ H vs us Q I r h
 obtain⟨v,vr,e1,h⟩:=h
 subst e1
 cases r with
 |cons r rr=>
  rw[hs]
  refine assignInOrder_cons (qD (h1 pins s σ H _ _ _ I r h) fun _ s1 ⟨σ1,H1,I1,q1⟩=>?_)
  exact h2 pins s1 σ1 H1 _ _ Q I1 rr q1
def ee(K:Frag)(n:Nat)(t:ZQ):TG:=fun v σ H Q=>∃a xs,v= .ref a/\SqT K H a xs/\xs.length=n/\t xs σ H Q
theorem ia{es:List Expr}{k:Nat}{t:ZQ}{n:Nat}(hc:X.calm=true)(h:jM X es t)
  (hn:(assignEach es X.env).length=n:=by rfl)(hst:(assignEach es X.env).findIdx? (·.1)=none:=by rfl):PG X (.Tuple es k pos) (ee X.K n t):=by
 intro pins s σ H v u Q I r hw
 obtain⟨a,xs,e1,hq,hl,hw⟩:=hw
 subst e1
 cases r
 obtain⟨its,rv,ht,hz⟩:=I.tuple hq
 refine assign_Tuple_tuple (I.ok.hd hc) ht (by simp [hn,<- hl,rv.length]) hst fun h' hx=>?_
 have I1:Inv X pins σ H {s with heap:=h'}:=I.kept (t':=s.toks) fun b o e=>hx b o (Nat.ne_of_lt (Heap.lt_size e)) e
 exact h pins _ σ H xs _ Q I1 (by simpa using rv) hw
def tS(to ti:TE)(t:cF):TG:=fun v σ H Q=>to σ H fun o H1=>ti σ H1 fun i H2=>t o i v H2 fun H3=>Q σ H3
theorem tN{o i:Expr}{to ti:TE}{t:cF}(ho:PE X o to)(hi:PE X i ti)(hs:hV X t)
  (ha:∀v,assign (.Subscript o i pos) X.env v=(do
   let ov <- holding [v] (eval o X.env)
   let iv <- holding [v,ov] (eval i X.env)
   standAt pos
   holding [v,ov,iv] (setItem ov iv v)
   release [v,ov,iv] []):=by intro _;rfl):PG X (.Subscript o i pos) (tS to ti t):=by
 intro pins s σ H v u Q I r h
 rw[ha]
 refine wpAny_bind (wpAny_holding (qD (ho pins s σ H _ I h) fun ov s1 ⟨x,H1,I1,r1,q1⟩=>?_))
 refine wpAny_bind (wpAny_holding (qD (hi pins s1 σ H1 _ I1 q1) fun iv s2 ⟨y,H2,I2,r2,q2⟩=>?_))
 refine wpAny_bind (wpAny_standAt (wpAny_bind (wpAny_holding (qD (hs pins s2 σ H2 x y v ov iv u _ I2 r1 r2 r q2) fun _ s3 ⟨H3,I3,q3⟩=>?_))))
 exact wpAny_release ⟨σ,H3,I3,q3⟩
def eC(te:TE)(g:TG):TS:=fun D σ H=>te σ H fun x H1=>g x σ H1 D.nx
theorem ve{tg e:Expr}{te:TE}{g:TG}(he:PE X e te)(hg:PG X tg g)(hs:swapsWithSole [tg] e pos.line X.env=pure false:=by rfl)(hw:swappedStores [tg] e X.env=pure none:=by rfl)
  (h1:(assignEach [tg] X.env).map (·.2)=[assign tg X.env]:=by rfl):PS X (.Assign [tg] e pos) (eC te g):=by
 intro pins s σ H D I h
 refine wpAny_Assign_stores (qD (he pins s σ H _ I h) fun v s1 ⟨x,H1,I1,r1,q1⟩=>?_) hs hw
 rw[h1]
 exact qD (hg pins s1 σ H1 x v _ I1 r1 q1) fun _ s2 q=>q
theorem vE{i:Nat}{x:Str}{e:Expr}{te:TE}{pos':Pos}(hN:X.N.Nodup)(hi:X.N[i]? =some x)(hx:ff X.env.scope x)(he:PE X e te)(hs:swapsWith e (some (.Name x pos')) pos.line X.env=pure false:=by rfl)(hf:X.fn x=true\/X.env.scope.names.lookup x=some .local:=by first|exact .inl rfl|exact .inr rfl|assumption):
  PS X (.Assign [.Name x pos'] e pos) (eC te (Qe i)):=by
 intro pins s σ H D I h
 refine wpAny_Assign_Name (qD (he pins s σ H _ I h) fun v s1 ⟨y,H1,I1,r1,q1⟩=>?_) hs
 exact gN I1 hN hi hx r1 (fun s2 I2=>⟨_,H1,I2,q1⟩) hf
def rJ(to ti te:TE)(tget:V->V->Hp->VK->Prop)(tip:ly)(tset:cF):TS:=fun D σ H=>to σ H fun o H1=>ti σ H1 fun i H2=>tget o i H2 fun x H3=>te σ H3 fun y H4=>tip x y H4 fun z H5=>tset o i z H5 fun H6=>D.nx σ H6
def nQ(X:Cx)(t:V->V->Hp->VK->Prop):Prop:=
 ∀(pins:List (Addr×Obj)) (s:Shared) (σ:St) (H:Hp) (o i:V) (ov iv:Value) (Q:VK),Inv X pins σ H s->RelV o ov->RelV i iv->t o i H Q->
  wpAny (model X.prog X.w) X.A (getItem ov iv) (EP X pins σ Q) X.xe s
theorem tE{o i e:Expr}{to ti te:TE}{tget:V->V->Hp->VK->Prop}{tip:ly}{tset:cF}{op:Operator}{tpos:Pos}(ho:PE X o to)(hi:PE X i ti)(hg:nQ X tget)(he:PE X e te)(hp:tR X op tip)(hs:hV X tset)
  (ha:∀ov iv new,augStore i ov iv new=(do holding [new,ov,iv] (setItem ov iv new);release [new,ov,iv] [];pure .next):=by intros;rfl):PS X (.AugAssign (.Subscript o i tpos) op e pos) (rJ to ti te tget tip tset):=by
 intro pins s σ H D I h
 refine wpAny_AugAssign_SubscriptAny (qD (ho pins s σ H _ I h) fun ov s1 ⟨x1,H1,I1,r1,q1⟩=>?_) ha
 refine qD (hi pins s1 σ H1 _ I1 q1) fun iv s2 ⟨x2,H2,I2,r2,q2⟩=>?_
 refine qD (hg pins s2 σ H2 x1 x2 ov iv _ I2 r1 r2 q2) fun old s3 ⟨x3,H3,I3,r3,q3⟩=>?_
 refine qD (he pins s3 σ H3 _ I3 q3) fun v s4 ⟨x4,H4,I4,r4,q4⟩=>?_
 refine qD (hp pins s4 σ H4 x3 x4 old v _ I4 r3 r4 q4) fun new s5 ⟨x5,H5,I5,r5,q5⟩=>?_
 exact qD (hs pins s5 σ H5 x1 x2 x5 ov iv new _ I5 r1 r2 r5 q5) fun _ s6 ⟨H6,I6,q6⟩=>⟨σ,H6,I6,q6⟩
def wJ(f:Int->Int->Int):ly:=fun x y H Q=>∃i j,x= .int i/\y= .int j/\Q (.int (f i j)) H
theorem vx:tR X .Add (wJ fun i j=>i+j):=by
 intro pins s σ H x y v u Q I r1 r2 h
 obtain⟨i,j,e1,e2,q⟩:=h
 subst e1;subst e2
 obtain⟨t,rfl⟩:=r1
 obtain⟨t',rfl⟩:=r2
 exact iadd_int ⟨.int _,H,I.tok _,⟨_,rfl⟩,q⟩
end
structure It where
 go:Nat->Hp->Prop
 yld:Nat->Hp->V->Hp->Prop
 stop:Nat->Hp->Prop
def Zd(X:Cx)(pins:List (Addr×Obj))(H:Hp)(b:Addr):Prop:=
 H b=none/\b≠X.env.locals/\b∉X.fs/\(b∈X.ex\/X.s₀.heap.objs.size<=b)/\(∀x c,X.env.cells.lookup x=some c->c≠b)/\∀p∈X.pn++pins,p.1≠b
theorem Inv.fpOk{X:Cx}{pins:List (Addr×Obj)}{σ:St}{H H':Hp}{s:Shared}{b:Addr}(I:Inv X pins σ H s)(hb:s.heap.objs.size<=b)(hn:H' b=none):Zd X pins H' b:=by
 refine⟨hn,Nat.ne_of_gt (Nat.lt_of_lt_of_le I.lt hb),I.nofs hb,.inr (Nat.le_trans I.sz hb),fun x c e z=>?_,fun p hp z=>?_⟩
 ·obtain⟨v,q⟩:=I.cell x c e
  exact absurd (Nat.lt_of_lt_of_le q.lt (by rw[z];exact hb)) (Nat.lt_irrefl _)
 ·exact absurd (Nat.lt_of_lt_of_le (Heap.lt_size (I.pin p hp).1) (by rw[z];exact hb)) (Nat.lt_irrefl _)
structure Turn(P:Program)(w:World)(K:Frag)(tg:Expr)(J:It)(fp:List Addr)(it:Addr)(tn:Nat->Heap->Prop):Prop where
 mem:it∈fp
 obj:∀i h,tn i h->∀b∈fp,∃o,h.get? b=some o/\∀v,o.data≠ .cell v
 keep:∀i h h',tn i h->(∀b∈fp,∀o,h.get? b=some o->h'.get? b=some o)->tn i h'
 item:∀(X:Cx),X.prog=P->X.w=w->X.K=K->X.calm=true->∀(i:Nat) (pins:List (Addr×Obj)) (s:Shared) (σ:St) (H:Hp) (E:Value->Shared->Prop),Inv X pins σ H s->(∀b∈fp,Zd X pins H b)->tn i s.heap->J.go i H->
  wpAny (model P w) X.A (pyNext (.ref it)) (fun r s1=>∃u,r=some u/\
   wpAny (model P w) X.A (letOwnedTupleGo tg (.ref it) u) (fun _ s2=>∃x H',Inv X pins σ H' s2/\RelV x u/\J.yld i H x H'/\tn (i+1) s2.heap/\∀b∈fp,H' b=none) E s1) E s
 done:∀(X:Cx),X.prog=P->X.w=w->X.K=K->X.calm=true->∀(i:Nat) (pins:List (Addr×Obj)) (s:Shared) (σ:St) (H:Hp) (E:Value->Shared->Prop),Inv X pins σ H s->(∀b∈fp,Zd X pins H b)->tn i s.heap->J.stop i H->
  wpAny (model P w) X.A (pyNext (.ref it)) (fun r s1=>r=none/\Inv X pins σ H s1) E s
 self:∀(A:Around) (i:Nat) (s:Shared) (Q:Value->Shared->Prop) (E:Value->Shared->Prop),tn i s.heap->Q (.ref it) s->wpAny (model P w) A (pyIter (.ref it)) Q E s
abbrev TI:=St->Hp->(It->Hp->Prop)->Prop
def v8(X:Cx)(pins:List (Addr×Obj))(σ:St)(tg:Expr)(R:It->Hp->Prop)(itv:Value)(s2:Shared):Prop:=
 ∃(it:Addr) (fp:List Addr) (tn:Nat->Heap->Prop) (J:It) (H':Hp),itv= .ref it/\Inv X pins σ H' s2/\Turn X.prog X.w X.K tg J fp it tn/\tn 0 s2.heap/\(∀b∈fp,Zd X pins H' b)/\R J H'
def PI(X:Cx)(tg iter:Expr)(wi:TI):Prop:=
 ∀(pins:List (Addr×Obj)) (s:Shared) (σ:St) (H:Hp) (R:It->Hp->Prop),Inv X pins σ H s->wi σ H R->
  wpAny (model X.prog X.w) X.A (eval iter X.env) (fun v s1=>wpAny (model X.prog X.w) X.A (pyIter v) (v8 X pins σ tg R) X.xe s1) X.xe s
theorem ax{M:Model}{A:Around}{E:Value->Shared->Prop}{s:Shared}{tg:Expr}{it:Addr}{u:Value}{o:Obj}{n:String}{vs:Array Value}{Q:Unit->Shared->Prop}(ho:s.heap.get? it=some o)(hc:o.cls= .type n)(hd:o.data= .fields vs)
    (hn:["enumerate","zip","dict_itemiterator","dict_reverseitemiterator","odict_iterator","itertools.zip_longest","itertools.pairwise"].contains n=false)(hQ:Q () s):wpAny M A (letOwnedTupleGo tg (.ref it) u) Q E s:=by
  unfold letOwnedTupleGo
  cases tg<;>first
    |exact wpAny_pure hQ
    |(cases u<;>first
        |exact wpAny_pure hQ
        | (refine wpAny_bind (wpAny_load ho ?_)
           rw[hc,hd]
           show wpAny M A (if(["enumerate","zip","dict_itemiterator","dict_reverseitemiterator","odict_iterator","itertools.zip_longest","itertools.pairwise"].contains n&&vs[0]? ==some (rawInt _))=true then _ else _) Q E s
           rw[if_neg (by intro h;rw[hn,Bool.false_and]at h;cases h)]
           exact wpAny_pure hQ))
def fh(K:Frag)(a:Addr):It:=
 ⟨fun i H=>∃xs x,SqL K H a xs/\xs[i]? =some x,fun i H x H'=>H'=H/\∀xs,SqL K H a xs->xs[i]? =some x,fun i H=>∃xs,SqL K H a xs/\xs.length<=i⟩
def cM(K:Frag)(a:Addr):It:=
 ⟨fun i H=>∃xs x,SqT K H a xs/\xs[i]? =some x,fun i H x H'=>H'=H/\∀xs,SqT K H a xs->xs[i]? =some x,fun i H=>∃xs,SqT K H a xs/\xs.length<=i⟩
def fQ(lo:Int)(n:Nat):It:=⟨fun i _=>i<n,fun i H x H'=>H'=H/\x= .int (lo+i),fun i _=>n<=i⟩
theorem fO{P:Program}{w:World}{K:Frag}{tg:Expr}(a it:Addr):Turn P w K tg (fh K a) [it] it (fun i h=>h.IsListIter it a i) where
 mem:=by simp
 obj:=fun i h st b hb=>by
  have e:b=it:=by simpa using hb
  subst e
  obtain⟨o,e,c,d⟩:=st
  exact⟨o,e,fun v z=>by rw[d]at z;cases z⟩
 keep:=fun i h h' st k=>st.at fun o e=>k it (by simp) o e
 item:=by
  intro X hP hw hK hc i pins s σ H E I hf st hg
  subst hP hw hK
  obtain⟨xs,x,hq,hx⟩:=hg
  obtain⟨its,rv,p,hz⟩:=I.list hq
  obtain⟨u,hu,ru⟩:=rv.get hx
  obtain⟨f0,f1,f2,f3,f4,f5⟩:=hf it (by simp)
  refine wpAny_pyNext_list_item st p.isList (x:=u) (by simpa using hu) fun h' st' sb=>?_
  have I1:Inv X pins σ H {s with heap:=h'}:=I.turned (t':=s.toks) (fun b o hb e=>(sb.2 b hb).trans e) f0 f1 f3 f4 f5
  obtain⟨o,e,c,d⟩:=id st'
  exact⟨u,rfl,ax (s:={s with heap:=h'}) e c d (by decide) ⟨x,H,I1,ru,⟨rfl,fun ys hy=>by rw[I.list_inj hy hq];exact hx⟩,st',fun b hb=>(hf b hb).1⟩⟩
 done:=by
  intro X hP hw hK hc i pins s σ H E I hf st hg
  subst hP hw hK
  obtain⟨xs,hq,hx⟩:=hg
  obtain⟨its,rv,p,hz⟩:=I.list hq
  obtain⟨f0,f1,f2,f3,f4,f5⟩:=hf it (by simp)
  have hl:=rv.length
  exact wpAny_pyNext_list_end (I.ok.hd hc) st p.isList (by simp;omega) fun h' eb=>⟨rfl,I.turned (t':=s.toks) (fun b o hb e=>eb b o hb e) f0 f1 f3 f4 f5⟩
 self:=fun _ _ _ _ _ st h=>wpAny_pyIter_listiter st h
theorem cZ{P:Program}{w:World}{K:Frag}{tg:Expr}(a it:Addr):Turn P w K tg (cM K a) [it] it (fun i h=>h.IsTupleIter it a i) where
 mem:=by simp
 obj:=fun i h st b hb=>by
  have e:b=it:=by simpa using hb
  subst e
  obtain⟨o,e,c,d⟩:=st
  exact⟨o,e,fun v z=>by rw[d]at z;cases z⟩
 keep:=fun i h h' st k=>st.at fun o e=>k it (by simp) o e
 item:=by
  intro X hP hw hK hc i pins s σ H E I hf st hg
  subst hP hw hK
  obtain⟨xs,x,hq,hx⟩:=hg
  obtain⟨its,rv,p,hz⟩:=I.tuple hq
  obtain⟨u,hu,ru⟩:=rv.get hx
  obtain⟨f0,f1,f2,f3,f4,f5⟩:=hf it (by simp)
  refine wpAny_pyNext_tuple_item st (show s.heap.IsTuple a its.toArray from p) (x:=u) (by simpa using hu) fun h' st' sb=>?_
  have I1:Inv X pins σ H {s with heap:=h'}:=I.turned (t':=s.toks) (fun b o hb e=>(sb.2 b hb).trans e) f0 f1 f3 f4 f5
  obtain⟨o,e,c,d⟩:=id st'
  exact⟨u,rfl,ax (s:={s with heap:=h'}) e c d (by decide) ⟨x,H,I1,ru,⟨rfl,fun ys hy=>by rw[I.tuple_inj hy hq];exact hx⟩,st',fun b hb=>(hf b hb).1⟩⟩
 done:=by
  intro X hP hw hK hc i pins s σ H E I hf st hg
  subst hP hw hK
  obtain⟨xs,hq,hx⟩:=hg
  obtain⟨its,rv,p,hz⟩:=I.tuple hq
  obtain⟨f0,f1,f2,f3,f4,f5⟩:=hf it (by simp)
  have hl:=rv.length
  exact wpAny_pyNext_tuple_end (I.ok.hd hc) st (show s.heap.IsTuple a its.toArray from p) (by simp;omega) fun h' eb=>⟨rfl,I.turned (t':=s.toks) (fun b o hb e=>eb b o hb e) f0 f1 f3 f4 f5⟩
 self:=fun _ _ _ _ _ st h=>wpAny_pyIter_tupleiter st h
theorem j4{P:Program}{w:World}{K:Frag}{tg:Expr}(it:Addr)(lo:Int)(n:Nat):Turn P w K tg (fQ lo n) [it] it (fun i h=>IsRangeIter h it (lo+(i:Nat)*1) ((n:Int)-(i:Nat)) 1) where
 mem:=by simp
 obj:=fun i h st b hb=>by
  have e:b=it:=by simpa using hb
  subst e
  exact⟨_,st,fun v z=>by
   have z':Data.fields _=Data.cell v:=z
   cases z'⟩
 keep:=fun i h h' st k=>k it (by simp) _ st
 item:=by
  intro X hP hw hK hc i pins s σ H E I hf st hg
  subst hP hw hK
  obtain⟨f0,f1,f2,f3,f4,f5⟩:=hf it (by simp)
  have W:=Walks.range (prog:=X.prog) (w:=X.w) (I.ok.hd hc) it lo 1 n
  refine W.item i s _ _ hg st fun v h' tk hv st' kk=>?_
  obtain⟨t,rfl⟩:=hv
  have I1:Inv X pins σ H {s with heap:=h',toks:=tk}:=I.turned (fun b o hb e=>kk b o (by simpa using hb) e) f0 f1 f3 f4 f5
  refine⟨_,rfl,ax (s:={s with heap:=h',toks:=tk}) (n:="range_iterator") st' rfl rfl (by decide) ⟨.int (lo+i),H,I1,⟨t,?_⟩,⟨rfl,rfl⟩,st',fun b hb=>(hf b hb).1⟩⟩
  rw[Int.mul_one]
 done:=by
  intro X hP hw hK hc i pins s σ H E I hf st hg
  subst hP hw hK
  obtain⟨f0,f1,f2,f3,f4,f5⟩:=hf it (by simp)
  exact wpAny_pyNext_range_end (I.ok.hd hc) st (by have:n<=i:=hg;omega) fun h' eb=>⟨rfl,I.turned (t':=s.toks) (fun b o hb e=>eb b o hb e) f0 f1 f3 f4 f5⟩
 self:=fun _ _ _ _ _ st h=>wpAny_pyIter_rangeiter st h
section
variable{X:Cx}{tg:Expr}
def pT(K:Frag)(tl:TE):TI:=fun σ H R=>tl σ H fun x H1=>∃a,x= .ref a/\(∃xs,SqL K H1 a xs)/\R (fh K a) H1
def uh(K:Frag)(tl:TE):TI:=fun σ H R=>tl σ H fun x H1=>∃a,x= .ref a/\(∃xs,SqT K H1 a xs)/\R (cM K a) H1
theorem rV{l:Expr}{tl:TE}(hl:PE X l tl):PI X tg l (pT X.K tl):=by
 intro pins s σ H R I h
 refine qD (hl pins s σ H _ I h) fun v s1 ⟨x,H1,I1,r1,q1⟩=>?_
 obtain⟨a,e,⟨xs,hq⟩,q⟩:=q1
 subst e
 cases r1
 obtain⟨its,rv,p,hz⟩:=I1.list hq
 refine wpAny_pyIter_list p.isList ?_
 refine⟨s1.heap.objs.size,[s1.heap.objs.size],_,_,H1,rfl,I1.kept (t':=s1.toks) fun b o e=>Heap.get?_push_of_some _ e,fO a _,⟨_,Heap.get?_push_size _ rfl,rfl,rfl⟩,fun b hb=>?_,q⟩
 have e:b=s1.heap.objs.size:=by simpa using hb
 subst e
 exact I1.fpOk (Nat.le_refl _) (I1.hok.fresh (Nat.le_refl _))
theorem vn{l:Expr}{tl:TE}(hl:PE X l tl):PI X tg l (uh X.K tl):=by
 intro pins s σ H R I h
 refine qD (hl pins s σ H _ I h) fun v s1 ⟨x,H1,I1,r1,q1⟩=>?_
 obtain⟨a,e,⟨xs,hq⟩,q⟩:=q1
 subst e
 cases r1
 obtain⟨its,rv,p,hz⟩:=I1.tuple hq
 refine wpAny_pyIter_tuple (show s1.heap.IsTuple a its.toArray from p) ?_
 refine⟨s1.heap.objs.size,[s1.heap.objs.size],_,_,H1,rfl,I1.kept (t':=s1.toks) fun b o e=>Heap.get?_push_of_some _ e,cZ a _,⟨_,Heap.get?_push_size _ rfl,rfl,rfl⟩,fun b hb=>?_,q⟩
 have e:b=s1.heap.objs.size:=by simpa using hb
 subst e
 exact I1.fpOk (Nat.le_refl _) (I1.hok.fresh (Nat.le_refl _))
theorem gL{pins:List (Addr×Obj)}{σ:St}{H:Hp}{s:Shared}{R:It->Hp->Prop}{E:Value->Shared->Prop}{lo hi:Int}{t u v:Tok}{tk:Nat}(I:Inv X pins σ H s)(h1: -(2 ^ 62)<=lo)(h2:lo<2 ^ 62)(h3: -(2 ^ 62)<=hi)(h4:hi<2 ^ 62)
  (q:R (fQ lo (hi-lo).toNat) H):wpAny (model X.prog X.w) X.A (pyIter (.ref s.heap.objs.size)) (v8 X pins σ tg R) E {s with heap:=s.heap.push {cls:= .type "range",data:= .fields #[.int lo t,.int hi u,.int 1 v]},toks:=tk}:=by
 refine wpAny_pyIter_range (IsRange.new ..) (small_one h1 h2 h3 h4) ?_
 have I1:Inv X pins σ H {s with heap:=s.heap.push {cls:= .type "range",data:= .fields #[.int lo t,.int hi u,.int 1 v]},toks:=tk}:=I.kept fun b o e=>Heap.get?_push_of_some _ e
 refine⟨(s.heap.push {cls:= .type "range",data:= .fields #[.int lo t,.int hi u,.int 1 v]}).objs.size,[(s.heap.push {cls:= .type "range",data:= .fields #[.int lo t,.int hi u,.int 1 v]}).objs.size],_,_,H,rfl,
  I1.kept (t':=tk) fun b o e=>Heap.get?_push_of_some _ e,j4 _ lo (hi-lo).toNat,?_,fun b hb=>?_,q⟩
 ·have e1:lo+((0:Nat):Int)*1=lo:=by simp
  have e2:(((hi-lo).toNat:Nat):Int)-((0:Nat):Int)=Builtin.Range.rangeSize lo hi 1:=by rw[rangeSize_one];split<;>omega
  show IsRangeIter _ _ (lo+((0:Nat):Int)*1) ((((hi-lo).toNat:Nat):Int)-((0:Nat):Int)) 1
  rw[e1,e2]
  exact Heap.get?_push_size _ rfl
 ·have e:b=(s.heap.push {cls:= .type "range",data:= .fields #[.int lo t,.int hi u,.int 1 v]}).objs.size:=by simpa using hb
  subst e
  exact I1.fpOk (Nat.le_refl _) (I1.hok.fresh (Nat.le_refl _))
def pW(ta:TA):TI:=fun σ H R=>ta σ H fun vs H1=>∃j:Int,vs=[.int j]/\ -(2 ^ 62)<=j/\j<2 ^ 62/\R (fQ 0 j.toNat) H1
def pK(ta:TA):TI:=fun σ H R=>ta σ H fun vs H1=>∃i j:Int,vs=[.int i,.int j]/\(-(2 ^ 62)<=i/\i<2 ^ 62/\ -(2 ^ 62)<=j/\j<2 ^ 62)/\R (fQ i (j-i).toNat) H1
theorem lI{a:Expr}{ta:TA}{p pos:Pos}(hg:Gl X "range")(hm:X.mg "range"=none)(ha:PA X [a] ta)(hs:starEach [a] X.env=[(false,eval a X.env)]:=by rfl):PI X tg (.Call (.Name "range" p) [a] [] pos) (pW ta):=by
 intro pins s σ H R I h
 refine Call_ (Qs I hg hm boot_range (PyProof.Rows.callWith_type1 (qD (ha pos pins s σ H _ I h) fun us s1 ⟨vs,H1,I1,r1,q1⟩=>?_) hs rfl))
 obtain⟨j,e,q1,q2,q⟩:=q1
 subst e
 cases r1 with
 |cons r rr=>
  cases rr
  obtain⟨t,rfl⟩:=r
  exact call_range_1 (gL I1 (by omega) (by omega) q1 q2 (by simpa using q))
theorem mX{a b:Expr}{ta:TA}{p pos:Pos}(hg:Gl X "range")(hm:X.mg "range"=none)(ha:PA X [a,b] ta)(hs:starEach [a,b] X.env=[(false,eval a X.env),(false,eval b X.env)]:=by rfl)(hs2:starEach [b] X.env=[(false,eval b X.env)]:=by rfl):
  PI X tg (.Call (.Name "range" p) [a,b] [] pos) (pK ta):=by
 intro pins s σ H R I h
 refine Call_ (Qs I hg hm boot_range (PyProof.Rows.callWith_type1 (qD (ha pos pins s σ H _ I h) fun us s1 ⟨vs,H1,I1,r1,q1⟩=>?_) (by rw[hs,hs2]) (by rw[hs2];rfl)))
 obtain⟨i,j,e,⟨q1,q2,q3,q4⟩,q⟩:=q1
 subst e
 cases r1 with
 |cons r rr=>
  cases rr with
  |cons r' rr=>
   cases rr
   obtain⟨t,rfl⟩:=r
   obtain⟨t',rfl⟩:=r'
   exact call_range_2 (gL I1 q1 q2 q3 q4 q)
def uI(wi:TI)(g:TG)(tb:TS):TS:=fun D σ H=>wi σ H fun J H1=>∃W:Nat->Nat->St->Hp->Prop,(∃m,W 0 m σ H1)/\∀i m σ H,W i m σ H->
 (J.stop i H/\D.nx σ H)\/(J.go i H/\∃N:St->Hp->Prop,(∀σ' H',N σ' H'->∃m',m'<m/\W (i+1) m' σ' H')/\∀x H',J.yld i H x H'->g x σ H' fun σ2 H2=>tb {D with nx:=N,ct:=N,bk:=D.nx} σ2 H2)
def cL(fp:List Addr)(h:Heap):List (Addr×Obj):=fp.filterMap fun b=>(h.get? b).map fun o=>(b,o)
theorem aB{fp:List Addr}{h:Heap}{b:Addr}{o:Obj}(hb:b∈fp)(e:h.get? b=some o):(b,o)∈cL fp h:=List.mem_filterMap.mpr ⟨b,hb,by rw[e];rfl⟩
theorem mY{fp:List Addr}{h:Heap}{p:Addr×Obj}(hp:p∈cL fp h):p.1∈fp/\h.get? p.1=some p.2:=by
 obtain⟨b,hb,e⟩:=List.mem_filterMap.mp hp
 cases q:h.get? b with
 |none=>rw[q]at e;cases e
 |some o=>
  rw[q]at e
  have e':(b,o)=p:=Option.some.inj e
  subst e'
  exact⟨hb,q⟩
theorem Inv.pinned{pins:List (Addr×Obj)}{σ:St}{H:Hp}{s:Shared}{fp:List Addr}(I:Inv X pins σ H s)(hf:∀b∈fp,Zd X pins H b)(ho:∀b∈fp,∃o,s.heap.get? b=some o/\∀v,o.data≠ .cell v):Inv X (pins++cL fp s.heap) σ H s:=
 I.pins_of fun p hp=>(List.mem_append.mp hp).elim (fun z=>I.pin p (List.mem_append_right _ z)) fun z=>by
  obtain⟨hb,e⟩:=mY z
  obtain⟨f0,f1,f2,_⟩:=hf p.1 hb
  obtain⟨o,e',d⟩:=ho p.1 hb
  rw[e]at e';cases e'
  exact⟨e,f0,f1,f2,d⟩
theorem Inv.unpinned{pins pl:List (Addr×Obj)}{σ:St}{H:Hp}{s:Shared}(I:Inv X (pins++pl) σ H s):Inv X pins σ H s:=I.pins_of fun p hp=>I.pin p (List.mem_append_right _ (List.mem_append_left _ hp))
theorem uN{iter:Expr}{body:List Stmt}{wi:TI}{g:TG}{tb:TS}{pos:Pos}(hp:PassesOwn (model X.prog X.w) X.A X.env X.xe)(hc:X.calm=true)(hi:PI X tg iter wi)(hg:PG X tg g)(hb:PSs X body tb)
  (hs:∀x,foldedSetIterable iter X.env x=pure x:=by intro _;rfl):PS X (.For tg iter body [] pos) (uI wi g tb):=by
 intro pins s σ H D I h
 refine wpAny_For (qD (hi pins s σ H _ I h) fun v s1 h1=>qD h1 fun itv s2 h2=>?_) hs
 obtain⟨it,fp,tn,J,H2,e,I2,T,st2,f2,W,⟨m0,w0⟩,turn⟩:=h2
 subst e
 have stat:∀{H':Hp},(∀b∈fp,H' b=none)->∀b∈fp,Zd X pins H' b:=fun hn b hb=>⟨hn b hb,(f2 b hb).2⟩
 refine codeAny_forLoop_any (fun n s'=>∃i σ' H',Inv X pins σ' H' s'/\tn i s'.heap/\(∀b∈fp,H' b=none)/\W i n σ' H') ?_ m0 ⟨0,σ,H2,I2,st2,fun b hb=>(f2 b hb).1,w0⟩
 rintro n s3 ⟨i,σ3,H3,I3,st3,fr3,w3⟩
 rcases turn i n σ3 H3 w3 with⟨stop,qn⟩|⟨go,N,hN,step⟩
 ·refine wpAny_passesOwn hp (qD (T.done X rfl rfl rfl hc i pins s3 σ3 H3 X.xe I3 (stat fr3) st3 stop) fun r s4 ⟨hr,I4⟩=>?_)
  subst hr
  exact wpAny_execs_nil ⟨σ3,H3,I4,qn⟩
 ·refine wpAny_passesOwn hp (qD (T.item X rfl rfl rfl hc i pins s3 σ3 H3 X.xe I3 (stat fr3) st3 go) fun r s4 ⟨u,hr,h4⟩=>?_)
  subst hr
  refine wpAny_passesOwn hp (qD h4 fun _ s5 ⟨x,H5,I5,r5,y5,st5,fr5⟩=>?_)
  have I5':=I5.pinned (stat fr5) (T.obj _ _ st5)
  refine wpAny_passesOwn hp (qD (hg _ s5 σ3 H5 x u _ I5' r5 (step x H5 y5)) fun _ s6 ⟨σ6,H6,I6,q6⟩=>?_)
  refine wpAny_passesOwn hp (qD (hb _ s6 σ6 H6 _ I6 q6) fun f s7 q7=>?_)
  have again:∀{σ7:St} {H7:Hp},Inv X (pins++cL fp s5.heap) σ7 H7 s7->N σ7 H7->∃m,m<n/\∃i σ' H',Inv X pins σ' H' s7/\tn i s7.heap/\(∀b∈fp,H' b=none)/\W i m σ' H':=fun{σ7 H7} I7 n7=>by
   obtain⟨m',hm,w7⟩:=hN σ7 H7 n7
   refine⟨m',hm,i+1,σ7,H7,I7.unpinned,T.keep _ _ _ st5 fun b hb o e=>(I7.pin (b,o) (List.mem_append_right _ (List.mem_append_right _ (aB hb e)))).1,fun b hb=>?_,w7⟩
   obtain⟨o,e,d⟩:=T.obj _ _ st5 b hb
   exact(I7.pin (b,o) (List.mem_append_right _ (List.mem_append_right _ (aB hb e)))).2.1
  cases f with
  |next=>obtain⟨σ7,H7,I7,n7⟩:=q7;exact again I7 n7
  |cont=>obtain⟨σ7,H7,I7,n7⟩:=q7;exact again I7 n7
  |brk=>obtain⟨σ7,H7,I7,q7⟩:=q7;exact⟨σ7,H7,I7.unpinned,q7⟩
  |ret v=>obtain⟨x7,σ7,H7,I7,r7,q7⟩:=q7;exact⟨x7,σ7,H7,I7.unpinned,r7,q7⟩
end
theorem zY{K:Frag}{a:Addr}{xs:List V}{g:TG}{tb:TS}{D:Ends}{σ:St}{H:Hp}(Pv:Nat->St->Hp->Prop)(h0:Pv 0 σ H)(hl:∀i σ H,i<=xs.length->Pv i σ H->SqL K H a xs)
  (hs:∀i x σ H,xs[i]? =some x->Pv i σ H->g x σ H fun σ2 H2=>tb {D with nx:=Pv (i+1),ct:=Pv (i+1),bk:=D.nx} σ2 H2)(hd:∀σ H,Pv xs.length σ H->D.nx σ H):
  ∃W:Nat->Nat->St->Hp->Prop,(∃m,W 0 m σ H)/\∀i m σ H,W i m σ H->
   ((fh K a).stop i H/\D.nx σ H)\/((fh K a).go i H/\∃N:St->Hp->Prop,(∀σ' H',N σ' H'->∃m',m'<m/\W (i+1) m' σ' H')/\∀x H',(fh K a).yld i H x H'->g x σ H' fun σ2 H2=>tb {D with nx:=N,ct:=N,bk:=D.nx} σ2 H2):=by
 refine⟨fun i m σ H=>m=xs.length-i/\i<=xs.length/\Pv i σ H,⟨xs.length,by simp,Nat.zero_le _,h0⟩,?_⟩
 rintro i m σ H ⟨rfl,hi,p⟩
 have q:=hl i σ H hi p
 by_cases hlt:i<xs.length
 ·refine .inr ⟨⟨xs,xs[i],q,by simp [hlt]⟩,Pv (i+1),fun σ' H' p'=>⟨xs.length-(i+1),by omega,rfl,hlt,p'⟩,fun x H' y=>?_⟩
  obtain⟨e,y⟩:=y
  subst e
  exact hs i x σ _ (y xs q) p
 ·have e:i=xs.length:=by omega
  subst e
  exact .inl ⟨⟨xs,q,Nat.le_refl _⟩,hd σ H p⟩
theorem jl{K:Frag}{a:Addr}{xs:List V}{g:TG}{tb:TS}{D:Ends}{σ:St}{H:Hp}(Pv:Nat->St->Hp->Prop)(h0:Pv 0 σ H)(hl:∀i σ H,i<=xs.length->Pv i σ H->SqT K H a xs)
  (hs:∀i x σ H,xs[i]? =some x->Pv i σ H->g x σ H fun σ2 H2=>tb {D with nx:=Pv (i+1),ct:=Pv (i+1),bk:=D.nx} σ2 H2)(hd:∀σ H,Pv xs.length σ H->D.nx σ H):
  ∃W:Nat->Nat->St->Hp->Prop,(∃m,W 0 m σ H)/\∀i m σ H,W i m σ H->
   ((cM K a).stop i H/\D.nx σ H)\/((cM K a).go i H/\∃N:St->Hp->Prop,(∀σ' H',N σ' H'->∃m',m'<m/\W (i+1) m' σ' H')/\∀x H',(cM K a).yld i H x H'->g x σ H' fun σ2 H2=>tb {D with nx:=N,ct:=N,bk:=D.nx} σ2 H2):=by
 refine⟨fun i m σ H=>m=xs.length-i/\i<=xs.length/\Pv i σ H,⟨xs.length,by simp,Nat.zero_le _,h0⟩,?_⟩
 rintro i m σ H ⟨rfl,hi,p⟩
 have q:=hl i σ H hi p
 by_cases hlt:i<xs.length
 ·refine .inr ⟨⟨xs,xs[i],q,by simp [hlt]⟩,Pv (i+1),fun σ' H' p'=>⟨xs.length-(i+1),by omega,rfl,hlt,p'⟩,fun x H' y=>?_⟩
  obtain⟨e,y⟩:=y
  subst e
  exact hs i x σ _ (y xs q) p
 ·have e:i=xs.length:=by omega
  subst e
  exact .inl ⟨⟨xs,q,Nat.le_refl _⟩,hd σ H p⟩
theorem QM{lo:Int}{n:Nat}{g:TG}{tb:TS}{D:Ends}{σ:St}{H:Hp}(Pv:Nat->St->Hp->Prop)(h0:Pv 0 σ H)
  (hs:∀i σ H,i<n->Pv i σ H->g (.int (lo+i)) σ H fun σ2 H2=>tb {D with nx:=Pv (i+1),ct:=Pv (i+1),bk:=D.nx} σ2 H2)(hd:∀σ H,Pv n σ H->D.nx σ H):
  ∃W:Nat->Nat->St->Hp->Prop,(∃m,W 0 m σ H)/\∀i m σ H,W i m σ H->
   ((fQ lo n).stop i H/\D.nx σ H)\/((fQ lo n).go i H/\∃N:St->Hp->Prop,(∀σ' H',N σ' H'->∃m',m'<m/\W (i+1) m' σ' H')/\∀x H',(fQ lo n).yld i H x H'->g x σ H' fun σ2 H2=>tb {D with nx:=N,ct:=N,bk:=D.nx} σ2 H2):=by
 refine⟨fun i m σ H=>m=n-i/\i<=n/\Pv i σ H,⟨n,by simp,Nat.zero_le _,h0⟩,?_⟩
 rintro i m σ H ⟨rfl,hi,p⟩
 by_cases hlt:i<n
 ·refine .inr ⟨hlt,Pv (i+1),fun σ' H' p'=>⟨n-(i+1),by omega,rfl,hlt,p'⟩,fun x H' y=>?_⟩
  obtain⟨e,y⟩:=y
  subst e y
  exact hs i σ _ hlt p
 ·have e:i=n:=by omega
  subst e
  exact .inl ⟨Nat.le_refl _,hd σ H p⟩
abbrev R2:=V->V->Hp->VK->Prop
def zr(X:Cx)(f:Value->Value->Sem Value)(r:R2):Prop:=
 ∀(pins:List (Addr×Obj)) (s:Shared) (σ:St) (H:Hp) (x y:V) (v u:Value) (Q:VK),Inv X pins σ H s->RelV x v->RelV y u->r x y H Q->
  wpAny (model X.prog X.w) X.A (f v u) (EP X pins σ Q) X.xe s
def pZ(X:Cx)(f:Value->Sem Value)(r:V->Hp->VK->Prop):Prop:=
 ∀(pins:List (Addr×Obj)) (s:Shared) (σ:St) (H:Hp) (x:V) (v:Value) (Q:VK),Inv X pins σ H s->RelV x v->r x H Q->
  wpAny (model X.prog X.w) X.A (f v) (EP X pins σ Q) X.xe s
def qY(X:Cx)(f:Value)(r:List V->Hp->VK->Prop):Prop:=
 ∀(pins:List (Addr×Obj)) (s:Shared) (σ:St) (H:Hp) (xs:List V) (us:List Value) (Q:VK),Inv X pins σ H s->Vals xs us->r xs H Q->
  wpAny (model X.prog X.w) X.A (call f us) (EP X pins σ Q) X.xe s
def eZ(r:R2)(ta tb:TE):TE:=fun σ H Q=>ta σ H fun x H1=>tb σ H1 fun y H2=>r x y H2 Q
def v7(r:V->Hp->VK->Prop)(ta:TE):TE:=fun σ H Q=>ta σ H fun x H1=>r x H1 Q
def rI(C:Int->Int->Prop)(g:Int->Int->V):R2:=fun x y H Q=>∃i j,x= .int i/\y= .int j/\C i j/\Q (g i j) H
def fT(g:Int->Int->V):R2:=fun x y H Q=>∃i j,x= .int i/\y= .int j/\Q (g i j) H
def rU(g:Int->V):V->Hp->VK->Prop:=fun x H Q=>∃i,x= .int i/\Q (g i) H
section
variable{X:Cx}{a b c:Expr}{ta tb tc:TE}{pos:Pos}
theorem ou(ha:PE X a ta)(hb:PE X b tb){pins:List (Addr×Obj)}{s:Shared}{σ:St}{H:Hp}{R:V->V->Hp->Prop}(I:Inv X pins σ H s)
  (h:ta σ H fun x H1=>tb σ H1 fun y H2=>R x y H2){Q:Value->Shared->Prop}{f:Value->Value->Sem Value}
  (hf:∀v u s2 x y H2,Inv X pins σ H2 s2->RelV x v->RelV y u->R x y H2->wpAny (model X.prog X.w) X.A (f v u) Q X.xe s2):
  wpAny (model X.prog X.w) X.A (eval a X.env) (fun v s₁=>wpAny (model X.prog X.w) X.A (eval b X.env) (fun u s₂=>wpAny (model X.prog X.w) X.A (f v u) Q X.xe s₂) X.xe s₁) X.xe s:=by
 refine qD (ha pins s σ H _ I h) fun v s1 ⟨x,H1,I1,r1,q1⟩=>?_
 refine qD (hb pins s1 σ H1 _ I1 q1) fun u s2 ⟨y,H2,I2,r2,q2⟩=>?_
 exact hf v u s2 x y H2 I2 r1 r2 q2
theorem vW{op:Operator}{r:R2}(ho:zr X (binaryOp op) r)(ha:PE X a ta)(hb:PE X b tb):PE X (.BinOp a op b pos) (eZ r ta tb):=by
 intro pins s σ H Q I h
 exact wpAny_BinOp (ou ha hb I h fun v u s2 x y H2 I2 rx ry q=>ho pins s2 σ H2 x y v u Q I2 rx ry q)
theorem vM{op:UnaryOp}{r:V->Hp->VK->Prop}(ho:pZ X (unaryOp op) r)(ha:PE X a ta):PE X (.UnaryOp op a pos) (v7 r ta):=by
 intro pins s σ H Q I h
 exact UnaryOp_ (qD (ha pins s σ H _ I h) fun v s1 ⟨x,H1,I1,r1,q1⟩=>ho pins s1 σ H1 x v Q I1 r1 q1)
theorem rp{f:Value->Value->Sem Value}{C:Int->Int->Prop}{g:Int->Int->Int}
  (rule:∀(i j:Int) (t u:Tok) (s:Shared) (Q:Value->Shared->Prop) (E:Value->Shared->Prop),C i j->Q (.int (g i j) s.toks) {s with toks:=s.toks+1}->wpAny (model X.prog X.w) X.A (f (.int i t) (.int j u)) Q E s):
  zr X f (rI C fun i j=> .int (g i j)):=by
 intro pins s σ H x y v u Q I rx ry h
 obtain⟨i,j,rfl,rfl,hc,q⟩:=h
 obtain⟨t,rfl⟩:=rx
 obtain⟨t',rfl⟩:=ry
 exact rule i j t t' s _ _ hc ⟨.int (g i j),H,I.tok _,⟨_,rfl⟩,q⟩
theorem uD{f:Value->Value->Sem Value}{g:Int->Int->Int}
  (rule:∀(i j:Int) (t u:Tok) (s:Shared) (Q:Value->Shared->Prop) (E:Value->Shared->Prop),Q (.int (g i j) s.toks) {s with toks:=s.toks+1}->wpAny (model X.prog X.w) X.A (f (.int i t) (.int j u)) Q E s):
  zr X f (fT fun i j=> .int (g i j)):=by
 intro pins s σ H x y v u Q I rx ry h
 obtain⟨i,j,rfl,rfl,q⟩:=h
 obtain⟨t,rfl⟩:=rx
 obtain⟨t',rfl⟩:=ry
 exact rule i j t t' s _ _ ⟨.int (g i j),H,I.tok _,⟨_,rfl⟩,q⟩
theorem kC{f:Value->Value->Sem Value}{g:Int->Int->Bool}
  (rule:∀(i j:Int) (t u:Tok) (s:Shared) (Q:Value->Shared->Prop) (E:Value->Shared->Prop),Q (.bool (g i j)) s->wpAny (model X.prog X.w) X.A (f (.int i t) (.int j u)) Q E s):
  zr X f (fT fun i j=> .bl (g i j)):=by
 intro pins s σ H x y v u Q I rx ry h
 obtain⟨i,j,rfl,rfl,q⟩:=h
 obtain⟨t,rfl⟩:=rx
 obtain⟨t',rfl⟩:=ry
 exact rule i j t t' s _ _ ⟨.bl (g i j),H,I,rfl,q⟩
def wz(i j:Int):Prop:=0<j/\j<1073741824
def wx(i j:Int):Prop:=0<=j/\j<=1000000/\i.natAbs<2 ^ 64
def CMul(i j:Int):Prop:=(-(2 ^ 64)<i/\i<2 ^ 64)\/(-(2 ^ 64)<j/\j<2 ^ 64)
theorem CMul.ok{i j:Int}(h:CMul i j):IntMulOk i j:=by
 rcases h with⟨h1,h2⟩|⟨h1,h2⟩
 ·exact .of_left (intBits_le_64 h1 h2)
 ·exact .of_right (intBits_le_64 h1 h2)
theorem qH:zr X (binaryOp .Add) (fT fun i j=> .int (i+j)):=uD fun _ _ _ _ _ _ _ q=>add_int q
theorem zH:zr X (binaryOp .Sub) (fT fun i j=> .int (i-j)):=uD fun _ _ _ _ _ _ _ q=>sub_int q
theorem QP:zr X (binaryOp .Mult) (rI CMul fun i j=> .int (i*j)):=rp fun _ _ _ _ _ _ _ hc q=>mul_int q hc.ok
theorem ae:zr X (binaryOp .FloorDiv) (rI wz fun i j=> .int (i/j)):=rp fun i j _ _ _ _ _ hc q=>by
 have h1:(0:Int)<j:=hc.1
 have h2:j<1073741824:=hc.2
 exact floordiv_int (by omega) (by rw[Int.fdiv_eq_ediv_of_nonneg i (by omega)];exact q) (.inl (PyProof.noPylong_small (by omega)))
theorem zM:zr X (binaryOp .Mod) (rI (fun _ j=>0<j) fun i j=> .int (i%j)):=rp fun i j _ _ _ _ _ hc q=>by
 have h1:(0:Int)<j:=hc
 exact mod_int' (by omega) (by rw[Int.fmod_eq_emod_of_nonneg i (by omega)];exact q)
theorem tP:zr X (binaryOp .Pow) (rI wx fun i j=> .int (i ^ j.toNat)):=rp fun _ _ _ _ _ _ _ hc q=>pow_int_small hc.1 hc.2.1 hc.2.2 q
theorem wK{f:Value->Sem Value}{g:Int->Int}
  (rule:∀(i:Int) (t:Tok) (s:Shared) (Q:Value->Shared->Prop) (E:Value->Shared->Prop),Q (.int (g i) s.toks) {s with toks:=s.toks+1}->wpAny (model X.prog X.w) X.A (f (.int i t)) Q E s):
  pZ X f (rU fun i=> .int (g i)):=by
 intro pins s σ H x v Q I rx h
 obtain⟨i,rfl,q⟩:=h
 obtain⟨t,rfl⟩:=rx
 exact rule i t s _ _ ⟨.int (g i),H,I.tok _,⟨_,rfl⟩,q⟩
theorem cO:pZ X (unaryOp .USub) (rU fun i=> .int (-i)):=wK fun _ _ _ _ _ q=>neg_int q
end
def uY:V->V->Bool
 | .non,.non=>true| .non,.int _=>true| .int _,.non=>true| .non,.bl _=>true| .bl _,.non=>true| .non,.str _=>true| .str _,.non=>true
 | .int _,.int _=>true| .bl _,.bl _=>true| .str _,.str _=>true| .byt _,.byt _=>true
 | .int _,.str _=>true| .str _,.int _=>true| .bl _,.str _=>true| .str _,.bl _=>true
 |_,_=>false
def wH:R2:=fun x y H Q=>uY x y=true/\Q (.bl (decide (x=y))) H
def wO:R2:=fun x y H Q=>uY x y=true/\Q (.bl (!decide (x=y))) H
theorem jh{i j:Int}:decide (V.int i=V.int j)=(i==j):=by
 rw[Bool.eq_iff_iff]
 simp
theorem lR{i j:Bool}:decide (V.bl i=V.bl j)=(i==j):=by
 rw[Bool.eq_iff_iff]
 simp
theorem jH{i j:Str}:decide (V.str i=V.str j)=(i==j):=by
 rw[Bool.eq_iff_iff]
 simp
theorem jP{i j:Array UInt8}:decide (V.byt i=V.byt j)=(i.toList==j.toList):=by
 rw[Bool.eq_iff_iff]
 cases i
 cases j
 simp
section
variable{X:Cx}{a b c:Expr}{ta tb tc:TE}{pos:Pos}
theorem qM{pins:List (Addr×Obj)}{σ:St}{H:Hp}{s:Shared}{Q:VK}{k k':Bool}(I:Inv X pins σ H s)(q:Q (.bl k) H)(e:k=k'):EP X pins σ Q (.bool k') s:=by
 subst e
 exact⟨.bl k,H,I,rfl,q⟩
theorem zd:zr X (compareOp .Eq) wH:=by
 intro pins s σ H x y v u Q I rx ry h
 obtain⟨hs,q⟩:=h
 cases x with
 |non=>
  cases rx
  cases y with
  |non=>cases ry;exact PySem.EqNone.eq_none_none (qM I q (by simp))
  |bl j=>cases ry;exact PySem.EqNone.eq_none_bool (qM I q (by simp))
  |int j=>obtain⟨t',rfl⟩:=ry;exact PySem.EqNone.eq_none_int (qM I q (by simp))
  |str j=>obtain⟨t',rfl⟩:=ry;exact PySem.EqNone.eq_none_str (qM I q (by simp))
  |_=>exact absurd (show false=true from hs) Bool.false_ne_true
 |bl i=>
  cases rx
  cases y with
  |non=>cases ry;exact PySem.EqNone.eq_bool_none (qM I q (by simp))
  |bl j=>cases ry;exact eq_bool (qM I q lR)
  |str j=>obtain⟨t',rfl⟩:=ry;exact PySem.EqMixed.eq_bool_str (qM I q (by simp))
  |_=>exact absurd (show false=true from hs) Bool.false_ne_true
 |int i=>
  obtain⟨t,rfl⟩:=rx
  cases y with
  |non=>cases ry;exact PySem.EqNone.eq_int_none (qM I q (by simp))
  |int j=>obtain⟨t',rfl⟩:=ry;exact eq_int (qM I q jh)
  |str j=>obtain⟨t',rfl⟩:=ry;exact PySem.EqMixed.eq_int_str (qM I q (by simp))
  |_=>exact absurd (show false=true from hs) Bool.false_ne_true
 |str i=>
  obtain⟨t,rfl⟩:=rx
  cases y with
  |non=>cases ry;exact PySem.EqNone.eq_str_none (qM I q (by simp))
  |bl j=>cases ry;exact PySem.EqMixed.eq_str_bool (qM I q (by simp))
  |int j=>obtain⟨t',rfl⟩:=ry;exact PySem.EqMixed.eq_str_int (qM I q (by simp))
  |str j=>obtain⟨t',rfl⟩:=ry;exact eq_str (qM I q jH)
  |_=>exact absurd (show false=true from hs) Bool.false_ne_true
 |byt i=>
  obtain⟨t,rfl⟩:=rx
  cases y with
  |byt j=>obtain⟨t',rfl⟩:=ry;exact W.eq_bytes (qM I q jP)
  |_=>exact absurd (show false=true from hs) Bool.false_ne_true
 |_=>cases y<;>exact absurd (show false=true from hs) Bool.false_ne_true
theorem Zj:zr X (compareOp .NotEq) wO:=by
 intro pins s σ H x y v u Q I rx ry h
 obtain⟨hs,q⟩:=h
 cases x with
 |non=>
  cases rx
  cases y with
  |non=>cases ry;exact PySem.EqNone.ne_none_none (qM I q (by simp))
  |bl j=>cases ry;exact PySem.EqNone.ne_none_bool (qM I q (by simp))
  |int j=>obtain⟨t',rfl⟩:=ry;exact PySem.EqNone.ne_none_int (qM I q (by simp))
  |str j=>obtain⟨t',rfl⟩:=ry;exact PySem.EqNone.ne_none_str (qM I q (by simp))
  |_=>exact absurd (show false=true from hs) Bool.false_ne_true
 |bl i=>
  cases rx
  cases y with
  |non=>cases ry;exact PySem.EqNone.ne_bool_none (qM I q (by simp))
  |bl j=>cases ry;exact ne_bool (qM I q (congrArg not lR))
  |str j=>obtain⟨t',rfl⟩:=ry;exact PySem.EqMixed.ne_bool_str (qM I q (by simp))
  |_=>exact absurd (show false=true from hs) Bool.false_ne_true
 |int i=>
  obtain⟨t,rfl⟩:=rx
  cases y with
  |non=>cases ry;exact PySem.EqNone.ne_int_none (qM I q (by simp))
  |int j=>obtain⟨t',rfl⟩:=ry;exact ne_int (qM I q (congrArg not jh))
  |str j=>obtain⟨t',rfl⟩:=ry;exact PySem.EqMixed.ne_int_str (qM I q (by simp))
  |_=>exact absurd (show false=true from hs) Bool.false_ne_true
 |str i=>
  obtain⟨t,rfl⟩:=rx
  cases y with
  |non=>cases ry;exact PySem.EqNone.ne_str_none (qM I q (by simp))
  |bl j=>cases ry;exact PySem.EqMixed.ne_str_bool (qM I q (by simp))
  |int j=>obtain⟨t',rfl⟩:=ry;exact PySem.EqMixed.ne_str_int (qM I q (by simp))
  |str j=>obtain⟨t',rfl⟩:=ry;exact ne_str (qM I q (congrArg not jH))
  |_=>exact absurd (show false=true from hs) Bool.false_ne_true
 |byt i=>
  obtain⟨t,rfl⟩:=rx
  cases y with
  |byt j=>obtain⟨t',rfl⟩:=ry;exact W.ne_bytes (qM I q (congrArg not jP))
  |_=>exact absurd (show false=true from hs) Bool.false_ne_true
 |_=>cases y<;>exact absurd (show false=true from hs) Bool.false_ne_true
theorem bQ:zr X (compareOp .Lt) (fT fun i j=> .bl (decide (i<j))):=kC fun _ _ _ _ _ _ _ q=>lt_int q
theorem Qv:zr X (compareOp .LtE) (fT fun i j=> .bl (decide (i<=j))):=kC fun _ _ _ _ _ _ _ q=>le_int q
theorem rG:zr X (compareOp .Gt) (fT fun i j=> .bl (decide (j<i))):=kC fun _ _ _ _ _ _ _ q=>gt_int q
theorem li:zr X (compareOp .GtE) (fT fun i j=> .bl (decide (j<=i))):=kC fun _ _ _ _ _ _ _ q=>ge_int q
theorem zZ:zr X (compareOp .Is) (fun x y H Q=>y= .non/\Q (.bl (decide (x= .non))) H):=by
 intro pins s σ H x y v u Q I rx ry h
 obtain⟨rfl,q⟩:=h
 cases ry
 refine is_none_gen (qM I q ?_)
 cases x<;>first
  |(cases rx;rfl)
  |(obtain⟨t,rfl⟩:=rx;rfl)
theorem jD:zr X (compareOp .IsNot) (fun x y H Q=>y= .non/\Q (.bl (!decide (x= .non))) H):=by
 intro pins s σ H x y v u Q I rx ry h
 obtain⟨rfl,q⟩:=h
 cases ry
 refine isnot_none_gen (qM I q ?_)
 cases x<;>first
  |(cases rx;rfl)
  |(obtain⟨t,rfl⟩:=rx;rfl)
theorem qw(b:Expr){op:CmpOp}(h:op≠ .In:=by decide)(h2:op≠ .NotIn:=by decide):behindInMarks op b=false:=by
 have e1:(op==CmpOp.In)=false:=by cases op<;>first|rfl|exact absurd rfl h
 have e2:(op==CmpOp.NotIn)=false:=by cases op<;>first|rfl|exact absurd rfl h2
 cases b<;>simp [behindInMarks,e1,e2]
theorem tD{op:CmpOp}{r:R2}(ho:zr X (compareOp op) r)(ha:PE X a ta)(hb:PE X b tb)(hm:behindInMarks op b=false):PE X (.Compare a [op] [b] pos) (eZ r ta tb):=by
 intro pins s σ H Q I h
 exact wpAny_Compare1 (ou ha hb I h fun v u s2 x y H2 I2 rx ry q=>ho pins s2 σ H2 x y v u Q I2 rx ry q) hm
def cT(t:TE):TT:=fun σ H Q=>t σ H fun x H'=>∃k,x= .bl k/\Q k H'
theorem sG{op:CmpOp}{r:R2}(ho:zr X (compareOp op) r)(ha:PE X a ta)(hb:PE X b tb)(hm:behindInMarks op b=false):PT X (.Compare a [op] [b] pos) (cT (eZ r ta tb)):=by
 intro pins s σ H Q I h
 refine wpAny_isTrue_Compare1 (qD (ha pins s σ H _ I h) fun v s1 ⟨x,H1,I1,r1,q1⟩=>qD (hb pins s1 σ H1 _ I1 q1) fun u s2 ⟨y,H2,I2,r2,q2⟩=>
  qD (ho pins s2 σ H2 x y v u _ I2 r1 r2 q2) fun c s3 ⟨z,H3,I3,r3,k,e,q3⟩=>?_) hm
 subst e
 cases r3
 exact wpAny_truthy_bool ⟨H3,I3,q3⟩
def cY(r r':R2)(ta tb tc:TE):TE:=fun σ H Q=>ta σ H fun x H1=>tb σ H1 fun y H2=>r x y H2 fun z H3=>∃k,z= .bl k/\
 (if k=true then tc σ H3 fun w' H4=>r' y w' H4 Q else Q (.bl false) H3)
theorem pC{op op':CmpOp}{r r':R2}(ho:zr X (compareOp op) r)(ho':zr X (compareOp op') r')(ha:PE X a ta)(hb:PE X b tb)(hc:PE X c tc)
  (hm:lastMarks [op,op'] [b,c]=false:=by with_unfolding_all rfl):PE X (.Compare a [op,op'] [b,c] pos) (cY r r' ta tb tc):=by
 intro pins s σ H Q I h
 refine Compare_chain (qD (ha pins s σ H _ I h) fun v s1 ⟨x,H1,I1,r1,q1⟩=>chain_link (qD (hb pins s1 σ H1 _ I1 q1) fun u s2 ⟨y,H2,I2,r2,q2⟩=>
  qD (ho pins s2 σ H2 x y v u _ I2 r1 r2 q2) fun d s3 ⟨z,H3,I3,r3,k,e,q3⟩=>?_)) hm
 subst e
 cases r3
 refine wpAny_truthy_bool ?_
 cases k with
 |false=>exact ite_ff ⟨.bl false,H3,I3,rfl,q3⟩
 |true=>exact ite_tt (chain_last (qD (hc pins s3 σ H3 _ I3 q3) fun w' s4 ⟨z',H4,I4,r4,q4⟩=>ho' pins s4 σ H4 y z' u w' Q I4 r2 r4 q4))
theorem nM{op op':CmpOp}{r r':R2}(ho:zr X (compareOp op) r)(ho':zr X (compareOp op') r')(ha:PE X a ta)(hb:PE X b tb)(hc:PE X c tc)
  (hm:lastMarks [op,op'] [b,c]=false:=by with_unfolding_all rfl):PT X (.Compare a [op,op'] [b,c] pos) (cT (cY r r' ta tb tc)):=by
 intro pins s σ H Q I h
 refine isTrue_chain (qD (ha pins s σ H _ I h) fun v s1 ⟨x,H1,I1,r1,q1⟩=>test_link (qD (hb pins s1 σ H1 _ I1 q1) fun u s2 ⟨y,H2,I2,r2,q2⟩=>
  qD (ho pins s2 σ H2 x y v u _ I2 r1 r2 q2) fun d s3 ⟨z,H3,I3,r3,k,e,q3⟩=>?_)) hm
 subst e
 cases r3
 refine wpAny_truthy_bool ?_
 cases k with
 |false=>
  obtain⟨k',e',q'⟩:=q3
  cases e'
  exact ite_ff ⟨H3,I3,q'⟩
 |true=>
  refine ite_tt (test_last (qD (hc pins s3 σ H3 _ I3 q3) fun w' s4 ⟨z',H4,I4,r4,q4⟩=>qD (ho' pins s4 σ H4 y z' u w' _ I4 r2 r4 q4) fun d' s5 ⟨z2,H5,I5,r5,k2,e2,q5⟩=>?_))
  subst e2
  cases r5
  exact wpAny_truthy_bool ⟨H5,I5,q5⟩
theorem Zb:(sizeLine:Nat)<2 ^ 63:=by rw[sizeLine_eq];decide
theorem zO{x:V}{us:List Value}(r:Vals [x] us):∃u,us=[u]/\RelV x u:=by
 cases r with
 |cons r1 r2=>cases r2;exact⟨_,rfl,r1⟩
theorem bJ{x y:V}{us:List Value}(r:Vals [x,y] us):∃u w',us=[u,w']/\RelV x u/\RelV y w':=by
 cases r with
 |cons r1 r2=>
  cases r2 with
  |cons r3 r4=>cases r4;exact⟨_,_,rfl,r1,r3⟩
theorem ii:qY X (.builtin "abs") (fun xs H Q=>∃i,xs=[.int i]/\Q (.int (if i<0 then -i else i)) H):=by
 intro pins s σ H xs us Q I r h
 obtain⟨i,rfl,q⟩:=h
 obtain⟨u,rfl,t,rfl⟩:=zO r
 exact call_abs_int fun u tk=>⟨.int (if i<0 then -i else i),H,I.tok _,⟨_,rfl⟩,q⟩
theorem ZM(hc:X.calm=true):qY X (.builtin "max") (fun xs H Q=>∃i j,xs=[.int i,.int j]/\Q (.int (if j>i then j else i)) H):=by
 intro pins s σ H xs us Q I r h
 obtain⟨i,j,rfl,q⟩:=h
 obtain⟨u,w',rfl,⟨t,rfl⟩,⟨t',rfl⟩⟩:=bJ r
 refine max_two_ints (I.ok.hd hc) fun h' tk k=>⟨_,H,I.kept k,?_,q⟩
 by_cases hj:j>i
 ·rw[if_pos hj,if_pos hj];exact⟨_,rfl⟩
 ·rw[if_neg hj,if_neg hj];exact⟨_,rfl⟩
theorem Qi(hc:X.calm=true):qY X (.builtin "min") (fun xs H Q=>∃i j,xs=[.int i,.int j]/\Q (.int (if j<i then j else i)) H):=by
 intro pins s σ H xs us Q I r h
 obtain⟨i,j,rfl,q⟩:=h
 obtain⟨u,w',rfl,⟨t,rfl⟩,⟨t',rfl⟩⟩:=bJ r
 refine min_two_ints (I.ok.hd hc) fun h' tk k=>⟨_,H,I.kept k,?_,q⟩
 by_cases hj:j<i
 ·rw[if_pos hj,if_pos hj];exact⟨_,rfl⟩
 ·rw[if_neg hj,if_neg hj];exact⟨_,rfl⟩
theorem fX:qY X (.type "int") (fun xs H Q=>(∃i,xs=[.int i]/\Q (.int i) H)\/∃k,xs=[.bl k]/\Q (.int (if k then 1 else 0)) H):=by
 intro pins s σ H xs us Q I r h
 rcases h with⟨i,rfl,q⟩|⟨k,rfl,q⟩
 ·obtain⟨u,rfl,t,rfl⟩:=zO r
  exact call_int_int ⟨.int i,H,I,⟨_,rfl⟩,q⟩
 ·obtain⟨u,rfl,r1⟩:=zO r
  cases r1
  exact call_int_bool ⟨.int (if k then 1 else 0),H,I.tok _,⟨_,rfl⟩,q⟩
theorem gA:qY X (.builtin "ord") (fun xs H Q=>∃x,xs=[.str x]/\x.length=1/\Q (.int (x.cps.getD 0 0:Nat)) H):=by
 intro pins s σ H xs us Q I r h
 obtain⟨x,rfl,hz,q⟩:=h
 obtain⟨u,rfl,t,rfl⟩:=zO r
 exact ord_of_one hz ⟨.int _,H,I.tok _,⟨_,rfl⟩,q⟩
end
structure ObjM(h:Heap)(x dx C:Addr)(mA:Str->Option Value):Prop where
 obj:h.get? x=some (PySem.W.instObj C dx)
 ns:h.Ns1 dx mA
 ne:dx≠x
theorem lZ{h:Heap}{dx:Addr}{mA:Str->Option Value}(n:h.Ns1 dx mA):∃od,h.get? dx=some od/\∀name,W.lookIn name od=some (mA name):=by
 obtain⟨o,es,ep,ho,hd,hk,_,hm⟩:=n
 refine⟨o,ho,fun name=>?_⟩
 have e:=hm name
 unfold nsFind findBy at e
 rw[<- Array.find?_toList]at e
 unfold W.lookIn
 rw[hd]
 dsimp only
 split
 ·rename_i y q
  rw[q]at e
  exact congrArg some e
 ·rename_i q
  rw[q]at e
  have a:es.toList.any (·.refKey)=false:=by
   rw[List.any_eq_false]
   intro y hy
   obtain⟨z,t,hkey⟩:=hk y (Array.mem_toList_iff.mp hy)
   simp [DictEntry.refKey,hkey]
  have a':¬es.toList.any (·.refKey)=true:=by rw[a];exact Bool.false_ne_true
  rw[if_neg a']
  exact congrArg some e
theorem ObjM.look{h:Heap}{x dx C:Addr}{mA:Str->Option Value}(I:ObjM h x dx C mA):∃od,W.InstAt h x (W.instObj C dx) C (some od)/\∀name,W.lookIn name od=some (mA name):=
 let⟨od,ho,hl⟩:=lZ I.ns
 ⟨od,⟨I.obj,rfl,rfl,ho⟩,hl⟩
section
variable{prog:Program}{w:World}{A:Around}{E:Value->Shared->Prop}{s:Shared}{K:Frag}{x dx C f:Addr}{mA:Str->Option Value}{name:Str}{v:Value}
theorem sS{expr:Bool}{Q:Value->Shared->Prop}(X:K.In s.heap)(I:ObjM s.heap x dx C mA)(hg:W.plainGet K C name=true)(hh:W.hasDictIn K C=true)
  (ha:W.findIn K (.ref C) name=some none)(hv:mA name=some v)(hv':W.handedIn v=true)(h:Q v {s with toks:=s.toks+1}):
  wpAny (model prog w) A (getAttr (.ref x) name expr) Q E s:=by
 obtain⟨od,J,hl⟩:=I.look
 exact W.get_value X J (W.plainGet_of hg).1 (W.findObj_own hh ha rfl (by rw[hl,hv])) hv' h
theorem pj{pl:Sem Bool}{Q:Value×List Value->Shared->Prop}(X:K.In s.heap)(I:ObjM s.heap x dx C mA)(hg:W.plainGet K C name=true)
  (hf:W.findIn K (.ref C) name=some (some (.ref f)))(ht:W.isFn K (.ref f)=true)(hv:mA name=none)(h:Q (.ref f,[.ref x]) s):
  wpAny (model prog w) A (getMethod (.ref x) name pl) Q E s:=by
 obtain⟨od,J,hl⟩:=I.look
 exact W.method_fn X J (W.plainGet_of hg).1 (W.plainGet_of hg).2 hf (beq_iff_eq.mp ht) (by show(W.lookIn name od).map (·.isSome)=some false;rw[hl,hv];rfl) h
theorem rX{ns:List Str}{Q:Unit->Shared->Prop}(X:K.In s.heap)(I:ObjM s.heap x dx C mA)
  (hs:W.findIn K (.ref C) "__setattr__"=some (some (.builtin "object.__setattr__")))(hp:W.plainOver K C=true)(ht:W.takerIn K C name=some none)(hh:W.hasDictIn K C=true)
  (hw:PySem.Within mA ns)(hsz:ns.length<=sizeLine)
  (h:∀h',ObjM h' x dx C (fun y=>if y=name then some v else mA y)->Heap.SameBut dx s.heap h'->Q () {s with heap:=h',toks:=s.toks+2}):
  wpAny (model prog w) A (setAttr (.ref x) name v) Q E s:=by
 obtain⟨od,J,hl⟩:=I.look
 refine W.set_plain X J hs (W.osa_open (s:={s with toks:=s.toks+1}) (r:=none) X J hp ht fun b=>?_)
 obtain⟨cd,hc,hd'⟩:=W.any_some hh
 have hx:s.heap.get? x=some ⟨.ref C,some dx,.plain,#[]⟩:=I.obj
 refine wpAny_bind (wpAny_pure (wpAny_bind (wpAny_bind (wpAny_loadPart hx (wpAny_bind (W.Looks.here (s:={s with toks:=s.toks+1}) (W.looks_clsIn X hc) ?_))))))
 rw[hd']
 refine wpAny_pure (a:=some dx) (wpAny_bind (wpAny_pure (wpAny_bind ?_)))
 refine wpAny_nsSet1 (s:={s with toks:=s.toks+1}) I.ns fun h' hn2 hs2=>?_
 obtain⟨oD,esD,epD,hoD,hdD,hcD⟩:=hn2.count (PySem.Within.cons name v hw)
 refine wpAny_bind (wpAny_lookBehind hoD (by rw[hdD];exact pastItsLine_dict (Nat.le_trans hcD (by rw[List.length_cons];omega))) ?_)
 exact wpAny_pure (h _ ⟨(hs2.2 _ (Ne.symm I.ne)).trans I.obj,hn2,I.ne⟩ hs2)
theorem pD{R:Result->Shared->Prop}{vs:List Value}{kw:List (Str×Value)}(X:K.In s.heap)(hm:W.makesIn K C=true)
  (hi:W.findIn K (.ref C) "__init__"=some (some (.ref f)))(hf:W.typeIn K (.ref f)=some (.type "function"))
  (h:codeAny (model prog w) (A.under (.builtin "type.__call__" ⟨.ref C::vs,kw⟩)) (.call (.ref f) ⟨.ref (s.heap.objs.size+1)::vs,kw⟩) (W.InitBack (s.heap.objs.size+1) R)
   {s with heap:=(s.heap.push W.emptyDict).push (W.instObj C s.heap.objs.size)}):
  codeAny (model prog w) A (.call (.ref C) ⟨vs,kw⟩) R s:=by
 obtain⟨hh,g,d,t,os⟩:=s
 exact W.make_core (W.makes_of X hm) (W.looks_findIn X hi) (fun self=>W.bind_fn X self hf) (.inl rfl) h
end
def zS(f:Str)(v:V):List (Str×V)->List (Str×V)
 | []=>[(f,v)]
 |(g,x)::r=>if g=f then(g,v)::r else(g,x)::zS f v r
theorem ci(f g:Str)(v:V):∀fs:List (Str×V),(zS f v fs).lookup g=if g=f then some v else fs.lookup g
 | []=>by
  show List.lookup g [(f,v)]=_
  by_cases h:g=f
  ·have hb:(g==f)=true:=beq_iff_eq.mpr h
   simp only[List.lookup,hb,if_pos h]
  ·have hb:(g==f)=false:=beq_eq_false_iff_ne.mpr h
   simp only[List.lookup,hb,if_neg h]
 |(k,x)::r=>by
  have ih:=ci f g v r
  rw[show zS f v ((k,x)::r)=(if k=f then(k,v)::r else(k,x)::zS f v r)from rfl]
  by_cases hk:k=f
  ·rw[if_pos hk]
   by_cases h:g=k
   ·have hb:(g==k)=true:=beq_iff_eq.mpr h
    simp only[List.lookup,hb,if_pos (h.trans hk)]
   ·have hb:(g==k)=false:=beq_eq_false_iff_ne.mpr h
    simp only[List.lookup,hb,if_neg (fun e:g=f=>h (e.trans hk.symm))]
  ·rw[if_neg hk]
   by_cases h:g=k
   ·have hb:(g==k)=true:=beq_iff_eq.mpr h
    simp only[List.lookup,hb,if_neg (fun e:g=f=>hk (h.symm.trans e))]
   ·have hb:(g==k)=false:=beq_eq_false_iff_ne.mpr h
    simp only[List.lookup,hb]
    exact ih
theorem aZ(f:Str)(v:V):∀fs:List (Str×V),f∈(zS f v fs).map (·.1)/\∀g,g∈fs.map (·.1)->g∈(zS f v fs).map (·.1)
 | []=>⟨by simp [zS],fun g h=>by simp at h⟩
 |(k,x)::r=>by
  obtain⟨i1,i2⟩:=aZ f v r
  rw[show zS f v ((k,x)::r)=(if k=f then(k,v)::r else(k,x)::zS f v r)from rfl]
  by_cases hk:k=f
  ·rw[if_pos hk]
   subst hk
   exact⟨by simp,fun g h=>by simpa using h⟩
  ·rw[if_neg hk]
   refine⟨?_,fun g h=>?_⟩
   ·rw[List.map_cons]
    exact List.mem_cons_of_mem _ i1
   ·rw[List.map_cons]at h⊢
    rcases List.mem_cons.mp h with e|e
    ·exact List.mem_cons.mpr (.inl e)
    ·exact List.mem_cons_of_mem _ (i2 g e)
theorem cn(f:Str)(v:V):∀fs:List (Str×V),(zS f v fs).length<=fs.length+1
 | []=>by simp [zS]
 |(k,x)::r=>by
  have ih:=cn f v r
  rw[show zS f v ((k,x)::r)=(if k=f then(k,v)::r else(k,x)::zS f v r)from rfl]
  by_cases hk:k=f
  ·rw[if_pos hk,List.length_cons,List.length_cons];omega
  ·rw[if_neg hk,List.length_cons,List.length_cons];omega
theorem RelO.some_of{v:V}{o:Option Value}(r:RelO (some v) o):∃u,o=some u/\RelV v u:=by
 cases o with
 |none=>exact(show False from r).elim
 |some u=>exact⟨u,rfl,r⟩
theorem RelO.none_of{o:Option Value}(r:RelO none o):o=none:=by
 cases o with
 |none=>rfl
 |some u=>exact(show False from r).elim
theorem lX{v:V}{u:Value}(r:RelV v u):W.handedIn u=true:=by
 cases v with
 |non=>cases(show u=Value.none from r);rfl
 |bl b=>cases(show u=Value.bool b from r);rfl
 |int i=>obtain⟨t,e⟩:=(show∃t,u=Value.int i t from r);cases e;rfl
 |str x=>obtain⟨t,e⟩:=(show∃t,u=Value.str x t from r);cases e;rfl
 |byt b=>obtain⟨t,e⟩:=(show∃t,u=Value.bytes b t from r);cases e;rfl
 |flt b=>obtain⟨t,e⟩:=(show∃t,u=Value.float b t from r);cases e;rfl
 |ref a=>cases(show u=Value.ref a from r);rfl
 |ty n=>cases(show u=Value.type n from r);rfl
section
variable{P:Program}{w:World}{H H':Hp}{h h':Heap}{a C dx:Addr}{fs fs':List (Str×V)}
theorem bP(hok:HOk P w H h)(e:H a=some (.ins C dx fs)):∃mA,ObjM h a dx C mA/\(∀f,RelO (fs.lookup f) (mA f))/\PySem.Within mA (fs.map (·.1))/\fs.length<=1000/\H dx=some (.own a):=by
 obtain⟨d,z,ne,ob,mA,n,r,q⟩:=(show ObjOk P w H h a (.ins C dx fs)from hok a _ e)
 exact⟨mA,⟨ob,n,ne⟩,r,q,z,d⟩
end
structure Cls(K:Frag)(C:Addr):Prop where
 pg:PySem.W.plainGet K C Str.empty=true
 hd:PySem.W.hasDictIn K C=true
 po:PySem.W.plainOver K C=true
 sa:PySem.W.findIn K (.ref C) "__setattr__"=some (some (.builtin "object.__setattr__"))
theorem Cls.get{K:Frag}{C:Addr}(c:Cls K C)(f:Str):W.plainGet K C f=true:=c.pg
def NoAttr(K:Frag)(C:Addr)(f:Str):Prop:=PySem.W.findIn K (.ref C) f=some none
theorem NoAttr.taker{K:Frag}{C:Addr}{f:Str}(n:NoAttr K C f):W.takerIn K C f=some none:=by
 unfold W.takerIn
 rw[show W.findIn K (.ref C) f=some none from n]
 rfl
structure Meth(K:Frag)(C:Addr)(m:Str)(f:Addr):Prop where
 at_:PySem.W.findIn K (.ref C) m=some (some (.ref f))
 fn:PySem.W.isFn K (.ref f)=true
 kp:PySem.W.keepIn K (.ref f)=true
section
variable{X:Cx}{pins:List (Addr×Obj)}{σ:St}{H:Hp}{s:Shared}{a C dx:Addr}{fs:List (Str×V)}{f:Str}{v:V}{A:Around}{E:Value->Shared->Prop}
theorem lq{b:Bool}{Q:Value->Shared->Prop}(I:Inv X pins σ H s)(e:H a=some (.ins C dx fs))(c:Cls X.K C)(n:NoAttr X.K C f)(l:fs.lookup f=some v)
  (h:∀u s',Inv X pins σ H s'->RelV v u->Q u s'):wpAny (model X.prog X.w) A (getAttr (.ref a) f b) Q E s:=by
 obtain⟨mA,O,r,_,_,_⟩:=bP I.hok e
 obtain⟨u,hu,ru⟩:=RelO.some_of (v:=v) (o:=mA f) (by rw[<- l];exact r f)
 exact sS I.kIn O (c.get f) c.hd n hu (lX ru) (h u _ (I.tok _) ru)
theorem da{m:Str}{g:Addr}{pl:Sem Bool}{Q:Value×List Value->Shared->Prop}(I:Inv X pins σ H s)(e:H a=some (.ins C dx fs))(c:Cls X.K C)(k:Meth X.K C m g)(l:fs.lookup m=none)
  (h:Q (.ref g,[.ref a]) s):wpAny (model X.prog X.w) A (getMethod (.ref a) m pl) Q E s:=by
 obtain⟨mA,O,r,_,_,_⟩:=bP I.hok e
 have hn:mA m=none:=RelO.none_of (by rw[<- l];exact r m)
 exact pj I.kIn O (c.get m) k.at_ k.fn hn h
theorem j0{y:V}{u:Value}{Q:Unit->Shared->Prop}(I:Inv X pins σ H s)(e:H a=some (.ins C dx fs))(c:Cls X.K C)(n:NoAttr X.K C f)(hl:fs.length<1000)(ry:RelV y u)
  (h:∀s',Inv X pins σ (upd H a (.ins C dx (zS f y fs))) s'->Q () s'):wpAny (model X.prog X.w) A (setAttr (.ref a) f u) Q E s:=by
 obtain⟨mA,O,r,wi,_,ho⟩:=bP I.hok e
 have hz:(fs.map (·.1)).length<=sizeLine:=by rw[List.length_map,sizeLine_eq];omega
 refine rX I.kIn O c.sa c.po n.taker c.hd wi hz fun h' O' sb=>h _ ?_
 have hd:∃o,h'.get? dx=some o:=let⟨o,_,_,e',_⟩:=O'.ns;⟨o,e'⟩
 refine I.write (x:=a) (e:=dx) (by rw[e];exact True.intro) (.inr ho) (fun b q hb z=>(sb.2 b hb).trans z) hd ?_
 refine⟨by rw[qh O.ne];exact ho,?_,O.ne,O'.obj,_,O'.ns,fun g=>?_,fun g hg=>?_⟩
 ·have:=cn f y fs;omega
 ·show RelO ((zS f y fs).lookup g) (if g=f then some u else mA g)
  rw[ci]
  by_cases q:g=f
  ·rw[if_pos q,if_pos q];exact ry
  ·rw[if_neg q,if_neg q];exact r g
 ·by_cases q:g=f
  ·rw[q];exact(aZ f y fs).1
  ·refine(aZ f y fs).2 g (wi g fun z=>hg ?_)
   show(if g=f then some u else mA g)=none
   rw[if_neg q];exact z
theorem Inv.made(I:Inv X pins σ H s):Inv X pins σ (upd (upd H s.heap.objs.size (.own (s.heap.objs.size+1))) (s.heap.objs.size+1) (.ins C s.heap.objs.size []))
  {s with heap:=(s.heap.push W.emptyDict).push (W.instObj C s.heap.objs.size)}:=by
 have e1:(s.heap.push W.emptyDict).get? s.heap.objs.size=some W.emptyDict:=Heap.get?_push_size s.heap rfl
 have e2:((s.heap.push W.emptyDict).push (W.instObj C s.heap.objs.size)).get? (s.heap.objs.size+1)=some (W.instObj C s.heap.objs.size):=by
  have:=Heap.get?_push_size (s.heap.push W.emptyDict) (o:=W.instObj C s.heap.objs.size) rfl
  rwa [Heap.size_push]at this
 have e3:(s.heap.push W.emptyDict).Ns s.heap.objs.size (fun _=>none):=⟨W.emptyDict,#[],_,e1,rfl,(fun e he=>absurd he (by simp)),fun _=>rfl⟩
 have I1:=I.laid (a:=s.heap.objs.size) (o:= .own (s.heap.objs.size+1)) (h':=s.heap.push W.emptyDict) (t':=s.toks) (fun b u q=>Heap.get?_push_of_some _ q) (Nat.le_refl _) ⟨_,e1⟩
 refine I1.laid (a:=s.heap.objs.size+1) (o:= .ins C s.heap.objs.size []) (t':=s.toks) (fun b u q=>Heap.get?_push_of_some _ q) (Nat.le_of_eq (Heap.size_push _ _)) ?_
 have ne:s.heap.objs.size≠s.heap.objs.size+1:=Nat.ne_of_lt (Nat.lt_succ_self _)
 refine⟨by rw[qh ne,qc],Nat.zero_le _,ne,e2,fun _=>none,(Heap.Ns1.of_empty e3).at fun o q=>Heap.get?_push_of_some _ q,fun _=>True.intro,fun y hy=>absurd rfl hy⟩
theorem sE{prog:Program}{w:World}{env:Env}{e:Expr}{f:Str}{pos:Pos}{s:Shared}{Q:Value->Shared->Prop}(hb:attributeBase e f env (eval e env)=eval e env)
  (h:wpAny (model prog w) A (eval e env) (fun o s₁=>wpAny (model prog w) A (getAttr o f true) Q E s₁) E s):wpAny (model prog w) A (eval (.Attribute e f pos) env) Q E s:=
 Attribute_any_ h (by rw[arm_eval_Attribute,hb])
end
section
variable{X:Cx}{o e value:Expr}{f:Str}{pos pos' tpos:Pos}{ta tv:TE}
end
section
variable{X:Cx}{pins:List (Addr×Obj)}{σ:St}{H:Hp}{s:Shared}{A:Around}{E:Value->Shared->Prop}{Q:Value->Shared->Prop}{c:Value}{b:Bool}
inductive TyOf (K:Frag) (H:Hp):V->Value->Prop where
 |non:TyOf K H .non (.type "NoneType")
 |bl (x:Bool):TyOf K H (.bl x) (.type "bool")
 |int (i:Int):TyOf K H (.int i) (.type "int")
 |str (x:Str):TyOf K H (.str x) (.type "str")
 |flt (x:UInt64):TyOf K H (.flt x) (.type "float")
 |lst {a:Addr} {xs:List V} (e:H a=some (.lst xs)):TyOf K H (.ref a) (.type "list")
 |frz {a:Addr} {o:Obj} {xs:List V} (e:H a=some (.frz o (.lst xs))):TyOf K H (.ref a) (.type "list")
 |tup {a:Addr} {xs:List V} (e:H a=some (.tup xs)):TyOf K H (.ref a) (.type "tuple")
 |dK {a:Addr} {kvs:List (qJ×V)} (e:H a=some (.dK kvs)):TyOf K H (.ref a) (.type "dict")
 |dT {a:Addr} {kvs:List (List qJ×V)} (e:H a=some (.dT kvs)):TyOf K H (.ref a) (.type "dict")
 | ins {a C dx:Addr} {fs:List (Str×V)} (e:H a=some (.ins C dx fs)) (cl:Cls K C) (ha:PySem.W.findIn K (.ref C) "__class__"=some (some (.builtin "object.__class__")))
   (hn:PySem.W.specialIn K (.builtin "object.__class__") "__get__"=some (some (.builtin "getset_descriptor.__get__"))) (htk:PySem.W.takesIn K (.builtin "object.__class__")=some true)
   (hm:PySem.W.mroIn K C (.type "object")=some true):TyOf K H (.ref a) (.ref C)
theorem mO{x:V}{u t:Value}(I:Inv X pins σ H s)(rx:RelV x u)(ty:TyOf X.K H x t)(e:W.kitOne X.K t c=some b)(h:∀tk,Q (.bool b) {s with toks:=tk}):
  wpAny (model X.prog X.w) A (call (.builtin "isinstance") [u,c]) Q E s:=by
 cases ty with
 |non=>cases(show u=Value.none from rx);exact W.kia_one W.kitx_none I.kIn True.intro e (fun z=>nomatch z) h
 |bl y=>cases(show u=Value.bool y from rx);exact W.kia_one W.kitx_bool I.kIn True.intro e (fun z=>nomatch z) h
 |int i=>obtain⟨t,q⟩:=(show∃t,u=Value.int i t from rx);cases q;exact W.kia_one W.kitx_int I.kIn True.intro e (fun z=>nomatch z) h
 |str y=>obtain⟨t,q⟩:=(show∃t,u=Value.str y t from rx);cases q;exact W.kia_one W.kitx_str I.kIn True.intro e (fun z=>nomatch z) h
 |flt y=>obtain⟨t,q⟩:=(show∃t,u=Value.float y t from rx);cases q;exact W.kia_one W.kitx_float I.kIn True.intro e (fun z=>nomatch z) h
 | @lst a xs ea=>
  cases(show u=Value.ref a from rx)
  obtain⟨_,_,n,_,h1⟩:=(show ObjOk X.prog X.w H s.heap a (.lst xs)from I.hok a _ ea)
  exact W.kia_one W.kitx_list I.kIn ⟨_,h1,rfl⟩ e (fun z=>nomatch z) h
 | @frz a ob xs ea=>
  cases(show u=Value.ref a from rx)
  obtain⟨_,_,_,n,_,h1⟩:=(show ObjOk X.prog X.w H s.heap a (.frz ob (.lst xs))from I.hok a _ ea)
  exact W.kia_one W.kitx_list I.kIn ⟨_,h1,rfl⟩ e (fun z=>nomatch z) h
 | @tup a xs ea=>
  cases(show u=Value.ref a from rx)
  obtain⟨_,_,_,p⟩:=(show ObjOk X.prog X.w H s.heap a (.tup xs)from I.hok a _ ea)
  obtain⟨o,h1,h2,_⟩:=p
  exact W.kia_one W.kitx_tuple I.kIn ⟨o,h1,h2⟩ e (fun z=>nomatch z) h
 | @dK a kvs ea=>
  cases(show u=Value.ref a from rx)
  obtain⟨_,_,vs,_,p⟩:=(show ObjOk X.prog X.w H s.heap a (.dK kvs)from I.hok a _ ea)
  obtain⟨o,es,ep,h1,h2,_⟩:=p
  exact W.kia_one W.kitx_dict I.kIn ⟨o,h1,h2.1⟩ e (fun z=>nomatch z) h
 | @dT a kvs ea=>
  cases(show u=Value.ref a from rx)
  obtain⟨_,_,xs,_,o,es,ep,h1,h2,_⟩:=(show ObjOk X.prog X.w H s.heap a (.dT kvs)from I.hok a _ ea)
  exact W.kia_one W.kitx_dict I.kIn ⟨o,h1,h2.1⟩ e (fun z=>nomatch z) h
 | @ins a C dx fs ea cl ha hn htk hm=>
  cases(show u=Value.ref a from rx)
  obtain⟨mA,O,_⟩:=bP I.hok ea
  obtain⟨od,J,_⟩:=O.look
  exact W.kia_one (W.kitx_own (cl.get _) cl.hd ha hn htk hm) I.kIn J e (fun z=>nomatch z) h
end
structure Room(k:Nat)(A:Around):Prop where
 hd:A.handled=none
 dp:A.depth+3*k+5<recursionLimit
 un:A.units+16*k+200<cLine
theorem Room.mono{j k:Nat}{A:Around}(r:Room k A)(h:j<=k):Room j A:=⟨r.hd,by have:=r.dp;omega,by have:=r.un;omega⟩
theorem Room.mo{j k:Nat}{A:Around}(r:Room k A)(h:j<=k:=by first|decide|omega):Room j A:=r.mono h
theorem Room.deeper{k:Nat}{A:Around}(r:Room (k+1) A)(env:Env):Room k (A.deeper env):=
 ⟨r.hd,by have:=r.dp;show A.depth+1+3*k+5<_;omega,by have:=r.un;show A.units+3+16*k+200<_;omega⟩
theorem kJ{A:Around}{C:Addr}{us:List Value}{kw:List (Str×Value)}:(A.under (.builtin "type.__call__" ⟨.ref C::us,kw⟩)).depth=A.depth+1:=by
 first|rfl|simp [Around.under,Code.weight,Code.isCreation,Code.isGuard,Code.isCaller,Code.frames,Code.isFrame,guardIds]
theorem lm{A:Around}{C:Addr}{us:List Value}{kw:List (Str×Value)}:(A.under (.builtin "type.__call__" ⟨.ref C::us,kw⟩)).units=A.units+1:=by
 first|rfl|simp [Around.under,Code.cUnits,Code.frames,Code.isFrame]
theorem Room.make{k:Nat}{A:Around}(r:Room (k+1) A)(C:Addr)(us:List Value)(kw:List (Str×Value)):Room k (A.under (.builtin "type.__call__" ⟨.ref C::us,kw⟩)):=
 ⟨r.hd,by have:=r.dp;rw[kJ];omega,by have:=r.un;rw[lm];omega⟩
theorem Room.depth{k:Nat}{A:Around}(r:Room k A):A.depth<recursionLimit:=by have:=r.dp;omega
def oG:TA:=fun _ H Q=>Q [] H
def ky(ta:TE)(tr:TA):TA:=fun σ H Q=>ta σ H fun x H1=>tr σ H1 fun xs H2=>Q (x::xs) H2
section
variable{X:Cx}{e:Expr}{es:List Expr}{te:TE}{t:TA}{pos:Pos}
theorem vA:PA X [] oG:=fun _ _ _ _ H Q I h=>Calls.spliced_nil ⟨[],H,I,.nil,h⟩
theorem sj(ha:PE X e te)(hr:PA X es t)(hs:starEach (e::es) X.env=(false,eval e X.env)::starEach es X.env:=by rfl):PA X (e::es) (ky te t):=by
 intro pos pins s σ H Q I h
 rw[hs]
 show wpAny _ _ (spliced ((false,eval e X.env)::backTo pos (starEach es X.env))) _ _ s
 refine Calls.spliced_cons (qD (ha pins s σ H _ I h) fun u s1 ⟨x,H1,I1,r1,q1⟩=>?_)
 exact qD (hr pos pins s1 σ H1 _ I1 q1) fun us s2 ⟨xs,H2,I2,r2,q2⟩=>⟨x::xs,H2,I2,.cons r1 r2,q2⟩
def vC(t:TA):TE:=fun σ H Q=>t σ H fun xs H1=>xs.length<=sizeLine/\∀p,H1 p=none->Q (.ref p) (upd H1 p (.tup xs))
def vc(t:TA):TE:=fun σ H Q=>t σ H fun xs H1=>xs.length<=sizeLine/\∀p,H1 p=none->Q (.ref p) (upd H1 p (.lst xs))
theorem uP{x1}(h:PA X es t):PE X (.Tuple es x1 pos) (vC t):=by
 intro pins s σ H Q I hq
 refine wpAny_Tuple_spliced (qD (h pos pins s σ H _ I hq) fun us s1 ⟨xs,H1,I1,r,z,q⟩=>⟨by rw[<- r.length];exact z,?_⟩)
 have hf:H1 s1.heap.objs.size=none:=I1.hok.fresh (Nat.le_refl _)
 refine⟨.ref s1.heap.objs.size,upd H1 s1.heap.objs.size (.tup xs),I1.laid (t':=s1.toks) (fun b u e=>Heap.get?_push_of_some _ e) (Nat.le_refl _) ?_,rfl,q _ hf⟩
 exact⟨z,us,r,⟨_,Heap.get?_push_size _ rfl,rfl,_,rfl⟩⟩
theorem ux(h:PA X es t):PE X (.List es pos) (vc t):=by
 intro pins s σ H Q I hq
 refine wpAny_List_spliced (qD (h pos pins s σ H _ I hq) fun us s1 ⟨xs,H1,I1,r,z,q⟩=>⟨by rw[<- r.length];exact z,?_⟩)
 have hf:H1 s1.heap.objs.size=none:=I1.hok.fresh (Nat.le_refl _)
 refine⟨.ref s1.heap.objs.size,upd H1 s1.heap.objs.size (.lst xs),I1.laid (t':=s1.toks) (fun b u e=>Heap.get?_push_of_some _ e) (Nat.le_refl _) ?_,rfl,q _ hf⟩
 exact⟨z,us,0,r,Heap.get?_push_size _ rfl⟩
end
abbrev Sp:=List V->Hp->VK->XK->Prop
abbrev bq:=List Env->Hp->Shared->XK->Value->Shared->Prop
structure Env0(P:Program)(w:World)(K:Frag)(mg:Str->Option Value)(base:Heap)(A:Around)(outer:List Env)(s:Shared)(H:Hp):Prop where
 frames:A.frames=some outer
 mod:Mod K mg base
 bs:∀b o,base.get? b=some o->s.heap.get? b=some o/\H b=none
 bsz:base.objs.size<=s.heap.objs.size
 funs:s.heap.FunFrames base outer
 frf:∀b∈aN outer,H b=none
 hok:HOk P w H s.heap
 bare:AllBare s.gens
def CE(outer:List Env)(P:Program)(w:World)(H:Hp)(s:Shared)(Q:VK)(u:Value)(s':Shared):Prop:=
 ∃v H',s'.os=s.os/\AllBare s'.gens/\Un (aN outer) [] H H' s.heap s'.heap/\HOk P w H' s'.heap/\RelV v u/\Q v H'
def CR(CX:bq)(outer:List Env)(P:Program)(w:World)(H:Hp)(s:Shared)(Q:VK)(E:XK)(r:Result)(s':Shared):Prop:=
 match r with
 | .ok (.ret u)=>CE outer P w H s Q u s'
 | .ok _=>False
 | .error e=>CX outer H s E e s'
structure FnOk(P:Program)(w:World)(K:Frag)(mg:Str->Option Value)(base:Heap)(CX:bq)(k:Nat)(f:Addr)(fd:FuncData)(ps:List Str)(sp:Sp):Prop where
 len:∀vs H Q E,sp vs H Q E->vs.length=ps.length
 run:∀(A:Around) (outer:List Env) (s:Shared) (H:Hp) (args:Args) (us:List Value) (vs:List V) (Q:VK) (E:XK),Room k A->Env0 P w K mg base A outer s H->BindsTo s fd args (ps.zip us)->Vals vs us->sp vs H Q E->
  codeAny (model P w) A (.call (.ref f) args) (CR CX outer P w H s Q E) s
theorem Env0.make{P:Program}{w:World}{K:Frag}{mg:Str->Option Value}{base:Heap}{A:Around}{outer:List Env}{s:Shared}{H:Hp}(e:Env0 P w K mg base A outer s H)(C:Addr)(us:List Value)(kw:List (Str×Value)):
  Env0 P w K mg base (A.under (.builtin "type.__call__" ⟨.ref C::us,kw⟩)) outer s H:=⟨by first|exact e.frames|(simpa [Around.under,Code.envs,Code.isFrame,pushEnvs]using e.frames),e.mod,e.bs,e.bsz,e.funs,e.frf,e.hok,e.bare⟩
section
variable{X:Cx}{pins:List (Addr×Obj)}{σ:St}{H:Hp}{s s':Shared}
theorem Inv.env0(I:Inv X pins σ H s):Env0 X.prog X.w X.K X.mg X.base X.A X.stack s H:=
 ⟨I.ok.frames,I.ok.mod,I.bs,Nat.le_trans I.ok.bsz I.sz,I.stack,I.stkFree,I.hok,I.bare⟩
theorem Inv.after{Q:VK}{u:Value}(I:Inv X pins σ H s)(h:CE X.stack X.prog X.w H s Q u s'):EP X pins σ Q u s':=by
 obtain⟨v,H',os,bare,un,hok,r,q⟩:=h
 obtain⟨hh,g,d,t,os'⟩:=s'
 obtain rfl:os'=s.os:=os
 exact⟨v,H',I.call (h':=hh) (g':=g) (d':=d) (t':=t) (ch:=[]) un hok bare (fun b z=>absurd z (by simp)),r,q⟩
end
def kE(sp:Sp)(dvs:List V)(E:XK)(t:TA):TE:=fun σ H Q=>t σ H fun vs H1=>sp (vs++dvs) H1 Q E
def rK(C:Addr)(sp:Sp)(dvs:List V)(E:XK)(t:TA):TE:=fun σ H Q=>t σ H fun vs H1=>∀x dx,H1 x=none->H1 dx=none->dx≠x->
 sp (.ref x::(vs++dvs)) (upd (upd H1 dx (.own x)) x (.ins C dx [])) (fun v H2=>v= .non/\Q (.ref x) H2) E
def Binds(K:Frag)(fd:FuncData)(ps:List Str)(ds:List Value):Prop:=
 ∀(s:Shared) (us:List Value),K.In s.heap->(us++ds).length=ps.length->BindsTo s fd ⟨us,[]⟩ (ps.zip (us++ds))
theorem Binds.all{K:Frag}{fd:FuncData}{ps:List Str}(h:∀us:List Value,us.length=ps.length->bindArgs fd ⟨us,[]⟩=pure (ps.zip us)):Binds K fd ps []:=fun s us _ hl=>by
 rw[List.append_nil]at hl⊢
 exact .of_eq (h us hl)
def bE(CX:bq)(X:Cx)(E:XK):Prop:=∀(pins:List (Addr×Obj)) (σ:St) (H:Hp) (s:Shared) (e:Value) (s':Shared),Inv X pins σ H s->CX X.stack H s E e s'->X.xe e s'
section
variable{X:Cx}{CX:bq}{k:Nat}{f C:Addr}{fd:FuncData}{ps:List Str}{sp:Sp}{dvs:List V}{ds:List Value}{E:XK}{x m:Str}{p pos apos:Pos}{e o:Expr}{es:List Expr}{ta:TE}{t:TA}
theorem h9{pins:List (Addr×Obj)}{σ:St}{H:Hp}{s:Shared}{Q:VK}{us:List Value}{vs:List V}(F:FnOk X.prog X.w X.K X.mg X.base CX k f fd ps sp)(hr:Room k X.A)(hb:Binds X.K fd ps ds)(hd:Vals dvs ds)(hx:bE CX X E)
  (I:Inv X pins σ H s)(r:Vals vs us)(h:sp (vs++dvs) H Q E):wpAny (model X.prog X.w) X.A (call (.ref f) us) (EP X pins σ Q) X.xe s:=by
 have r2:Vals (vs++dvs) (us++ds):=r.append hd
 have hl:(us++ds).length=ps.length:=by rw[<- r2.length];exact F.len _ _ _ _ h
 refine wpAny_call (codeAny_mono (F.run X.A X.stack s H ⟨us,[]⟩ (us++ds) (vs++dvs) Q E hr I.env0 (hb s us I.kIn hl) r2 h) fun r s' hq=>?_)
 cases r with
 |error e=>exact hx pins σ H s e s' I hq
 |ok fl=>
  cases fl with
  |ret u=>exact I.after hq
  |next=>exact False.elim hq
  |brk=>exact False.elim hq
  |cont=>exact False.elim hq
theorem sr(F:FnOk X.prog X.w X.K X.mg X.base CX k f fd ps sp)(hr:Room k X.A)(hg:Gl X x)(hm:X.mg x=some (.ref f))(hk:W.keepIn X.K (.ref f)=true)(hb:Binds X.K fd ps ds)(hd:Vals dvs ds)(hx:bE CX X E)
  (ha:PA X (e::es) t)(hdb:(x==("__debug__":Str))=false:=by decide)(he:starEach (e::es) X.env=(false,eval e X.env)::starEach es X.env:=by rfl)(hpl:(backTo pos (starEach es X.env)).any (·.1)=false:=by rfl):
  PE X (.Call (.Name x p) (e::es) [] pos) (kE sp dvs E t):=by
 intro pins s σ H Q I h
 refine wpAny_Call_Name_kw (eO I hg hm ?_ hdb)
 refine W.callWith_K (h₀:=X.base) I.ok.mod.kin hk (qD (ha pos pins s σ H _ I h) fun us s1 ⟨vs,H1,I1,r,q⟩=>⟨I1.kIn,?_⟩) he hpl
 exact h9 F hr hb hd hx I1 r q
structure Mk(K:Frag)(C f:Addr):Prop where
 makes:PySem.W.makesIn K C=true
 init:PySem.W.findIn K (.ref C) "__init__"=some (some (.ref f))
 fn:PySem.W.isFn K (.ref f)=true
 kp:PySem.W.keepIn K (.ref C)=true
theorem pF{pins:List (Addr×Obj)}{σ:St}{H:Hp}{s:Shared}{Q:VK}{us:List Value}{vs:List V}(M:Mk X.K C f)(F:FnOk X.prog X.w X.K X.mg X.base CX k f fd ps sp)(hr:Room (k+1) X.A)(hb:Binds X.K fd ps ds)(hd:Vals dvs ds)
  (hx:bE CX X E)(I:Inv X pins σ H s)(r:Vals vs us)
  (h:∀x dx,H x=none->H dx=none->dx≠x->sp (.ref x::(vs++dvs)) (upd (upd H dx (.own x)) x (.ins C dx [])) (fun v H2=>v= .non/\Q (.ref x) H2) E):
  wpAny (model X.prog X.w) X.A (call (.ref C) us) (EP X pins σ Q) X.xe s:=by
 have hq:=h (s.heap.objs.size+1) s.heap.objs.size (I.hok.fresh (Nat.le_succ _)) (I.hok.fresh (Nat.le_refl _)) (Nat.ne_of_lt (Nat.lt_succ_self _))
 have I2:=Inv.made (C:=C) I
 have r2:Vals (V.ref (s.heap.objs.size+1)::(vs++dvs)) (Value.ref (s.heap.objs.size+1)::(us++ds)):= .cons rfl (r.append hd)
 have hl:(Value.ref (s.heap.objs.size+1)::us++ds).length=ps.length:=by
  have e:=r2.length
  rw[F.len _ _ _ _ hq]at e
  exact e.symm
 refine wpAny_call (pD (f:=f) I.kIn M.makes M.init (beq_iff_eq.mp M.fn) (codeAny_mono (F.run _ X.stack _ _ ⟨Value.ref (s.heap.objs.size+1)::us,[]⟩ (Value.ref (s.heap.objs.size+1)::(us++ds)) _ _ E (hr.make C us [])
  (I2.env0.make C us []) (hb _ (Value.ref (s.heap.objs.size+1)::us) I2.kIn hl) r2 hq) fun r s' hq'=>?_))
 cases r with
 |error e=>exact hx pins σ _ _ e s' I2 hq'
 |ok fl=>
  cases fl with
  |ret u=>
   obtain⟨v,H',I3,rv,ev,q3⟩:=I2.after hq'
   subst ev
   exact⟨rv,⟨V.ref (s.heap.objs.size+1),H',I3,rfl,q3⟩⟩
  |next=>exact False.elim hq'
  |brk=>exact False.elim hq'
  |cont=>exact False.elim hq'
theorem sv(M:Mk X.K C f)(F:FnOk X.prog X.w X.K X.mg X.base CX k f fd ps sp)(hr:Room (k+1) X.A)(hg:Gl X x)(hm:X.mg x=some (.ref C))(hb:Binds X.K fd ps ds)(hd:Vals dvs ds)(hx:bE CX X E)
  (ha:PA X (e::es) t)(hdb:(x==("__debug__":Str))=false:=by decide)(he:starEach (e::es) X.env=(false,eval e X.env)::starEach es X.env:=by rfl)(hpl:(backTo pos (starEach es X.env)).any (·.1)=false:=by rfl):
  PE X (.Call (.Name x p) (e::es) [] pos) (rK C sp dvs E t):=by
 intro pins s σ H Q I h
 refine wpAny_Call_Name_kw (eO I hg hm ?_ hdb)
 refine W.callWith_K (h₀:=X.base) I.ok.mod.kin M.kp (qD (ha pos pins s σ H _ I h) fun us s1 ⟨vs,H1,I1,r,q⟩=>⟨I1.kIn,?_⟩) he hpl
 exact pF M F hr hb hd hx I1 r q
end
section
variable{X:Cx}{CX:bq}{k:Nat}{f C:Addr}{fd:FuncData}{ps ks:List Str}{sp:Sp}{E:XK}{x m:Str}{p pos apos kpos:Pos}{e o:Expr}{es:List Expr}{kws:List Keyword}{te ta:TE}{t tk:TA}{nm:Option Str}
variable{g:List Value->List Value->List Value}{gV:List V->List V->List V}
end
structure FnScope(N P:List Str)(sc:Scope):Prop where
 kind:sc.kind= .function
 co:sc.isCoroutine=false
 gen:sc.isGenerator=false
 nd:N.Nodup
 pre:N.take P.length=P
 par:∀x∈P,sc.names.lookup x=some .local\/sc.names.lookup x=some .cell
 nofree:∀y∈sc.names,y.2≠ .free
theorem fM{kindOf:Str->Option NameKind}{x:Str}:∀{binds:List (Str×Value)} {m:Str->Option Value},(∀v,(x,v)∉binds)->bindL kindOf binds m x=m x
 | [],_,_=>rfl
 |(n,v)::r,m,h=>by
  unfold bindL
  rw[fM fun w hw=>h w (List.mem_cons_of_mem _ hw)]
  split
  ·have:x≠n:=by rintro rfl;exact h v List.mem_cons_self
   simp [this]
  ·rfl
theorem fN{kindOf:Str->Option NameKind}{x:Str}:∀{binds:List (Str×Value)} {m:Str->Option Value},(∀v,(x,v)∉binds)->bindC kindOf binds m x=m x
 | [],_,_=>rfl
 |(n,v)::r,m,h=>by
  unfold bindC
  rw[fN fun w hw=>h w (List.mem_cons_of_mem _ hw)]
  split
  ·rfl
  ·have:x≠n:=by rintro rfl;exact h v List.mem_cons_self
   simp [this]
theorem fL{kindOf:Str->Option NameKind}{x:Str}{v:Value}:∀{P:List Str} {vs:List Value} {i:Nat} {m:Str->Option Value},P.Nodup->P[i]? =some x->vs[i]? =some v->kindOf x=some .local->
  bindL kindOf (P.zip vs) m x=some v
 | [],_,_,_,_,h,_,_=>by simp at h
 |_::_,[],_,_,_,_,h,_=>by simp at h
 |p::P,w::vs,0,m,nd,h1,h2,hk=>by
  simp at h1 h2;subst h1;subst h2
  show bindL kindOf ((p,w)::P.zip vs) m p=_
  unfold bindL
  rw[fM fun v hv=>(List.nodup_cons.mp nd).1 (List.of_mem_zip hv).1,if_pos hk]
  simp
 |p::P,w::vs,i+1,m,nd,h1,h2,hk=>by
  show bindL kindOf ((p,w)::P.zip vs) m x=_
  unfold bindL
  exact fL (i:=i) (List.nodup_cons.mp nd).2 (by simpa using h1) (by simpa using h2) hk
theorem fo{kindOf:Str->Option NameKind}{x:Str}{v:Value}:∀{P:List Str} {vs:List Value} {i:Nat} {m:Str->Option Value},P.Nodup->P[i]? =some x->vs[i]? =some v->kindOf x≠some .local->
  bindC kindOf (P.zip vs) m x=some v
 | [],_,_,_,_,h,_,_=>by simp at h
 |_::_,[],_,_,_,_,h,_=>by simp at h
 |p::P,w::vs,0,m,nd,h1,h2,hk=>by
  simp at h1 h2;subst h1;subst h2
  show bindC kindOf ((p,w)::P.zip vs) m p=_
  unfold bindC
  rw[fN fun v hv=>(List.nodup_cons.mp nd).1 (List.of_mem_zip hv).1,if_neg hk]
  simp
 |p::P,w::vs,i+1,m,nd,h1,h2,hk=>by
  show bindC kindOf ((p,w)::P.zip vs) m x=_
  unfold bindC
  exact fo (i:=i) (List.nodup_cons.mp nd).2 (by simpa using h1) (by simpa using h2) hk
def Qw(N:List Str)(vs:List V):St:=vs.map some++List.replicate (N.length-vs.length) none
def Z3(CX:bq)(P:Program)(w:World)(K:Frag)(mg:Str->Option Value)(base:Heap)(N:List Str)(qual:Str)(scope:Scope)(f:Addr)(cd:Value)(A:Around)(outer:List Env)(s:Shared)(H:Hp)(E:XK):Cx where
 prog:=P
 w:=w
 K:=K
 mg:=mg
 base:=base
 A:=A.deeper (envOfC qual scope s.heap.objs.size f cd)
 N:=N
 s₀:=s
 H₀:=H
 env:=envOfC qual scope s.heap.objs.size f cd
 outer:=outer
 stack:=envOfC qual scope s.heap.objs.size f cd::outer
 ex:=[]
 calm:=true
 fn:=fun _=>true
 pn:=[]
 xe:=fun e s'=>wpAny (model P w) (A.deeper (envOfC qual scope s.heap.objs.size f cd)) (leaving (envOfC qual scope s.heap.objs.size f cd) e) (fun _ s''=>CX outer H s E e s'') (fun e' s''=>CX outer H s E e' s'') s'
theorem gu{sc:Scope}{n:Nat}{x:Str}(h:sc.names.lookup x=some .cell):∃c,(cellsFrom n sc.names []).lookup x=some c:=by
 have q:=W.cellsFrom_some sc.names n [] (.inl h)
 exact Option.isSome_iff_exists.mp q
theorem nE{CX:bq}{P:Program}{w:World}{K:Frag}{mg:Str->Option Value}{base:Heap}{N ps:List Str}{qual:Str}{scope:Scope}{f:Addr}{cd:Value}{A:Around}{outer:List Env}{s s1:Shared}{H:Hp}{E:XK}{us:List Value}{vs:List V}
  (S:FnScope N ps scope)(hd:A.handled=none)(e0:Env0 P w K mg base A outer s H)(hl:vs.length=ps.length)(r:Vals vs us)
  (x:InCallC s s.heap.objs.size (bindL (envOfC qual scope s.heap.objs.size f cd).kindOf (ps.zip us) fun _=>none) (cellsFrom (s.heap.objs.size+1) scope.names []) (bindC (envOfC qual scope s.heap.objs.size f cd).kindOf (ps.zip us) fun _=>none) s1):
  Inv (Z3 CX P w K mg base N qual scope f cd A outer s H E) [] (Qw N vs) H s1:=by
 have hpl:ps.length<=N.length:=by have:=congrArg List.length S.pre;rw[List.length_take]at this;omega
 obtain⟨h1,tk,rfl,hk⟩:=x.done
 have noA:∀b:Addr,b∉(Z3 CX P w K mg base N qual scope f cd A outer s H E).ex:=fun b z=>absurd (show b∈([]:List Addr)from z) (by simp)
 refine⟨⟨e0.mod,S.kind,rfl,rfl,Nat.le_refl _,fun y z c h1 h2=>?_,fun y hy=>?_,fun y c _ h=>?_,fun _=>hd,Around.frames_deeper e0.frames,.inr ⟨rfl,rfl⟩,fun b z=>absurd z (noA b),e0.bs,e0.bsz,fun b _ _=>noA b,fun b z=>absurd z (noA b),e0.funs,e0.frf⟩,
  rfl,e0.bare,Un.kept hk,⟨_,x.toInCall.ns,fun i y v h1 h2 h3=>?_⟩,fun y c h=>⟨_,x.cell y c h⟩,e0.hok.fresh (Nat.le_refl _),fun y c h=>?_,fun p hp=>absurd (show p∈([]:List (Addr×Obj))from hp) (by simp),e0.hok.kept hk,?_⟩
 ·exact name_of_addr x.apart (PySem.mem_of_lookup h1) (PySem.mem_of_lookup h2)
 ·have hy:scope.names.lookup y=some .cell\/scope.names.lookup y=some .free:=hy
  rcases hy with hy|hy
  ·exact gu hy
  ·exact absurd rfl (S.nofree _ (PySem.mem_of_lookup hy))
 ·exact Nat.le_of_lt (x.above y c (PySem.mem_of_lookup h))
 ·have hi:i<vs.length:=by
   unfold Qw at h2
   by_cases hi:i<vs.length
   ·exact hi
   ·rw[List.getElem?_append_right (by simpa using hi)]at h2
    rw[List.getElem?_replicate]at h2
    split at h2<;>cases h2
  have ha:vs[i]? =some v:=by
   unfold Qw at h2
   rw[List.getElem?_append_left (by simpa using hi),List.getElem?_map]at h2
   cases e:vs[i]? with
   |none=>rw[e]at h2;cases h2
   |some a=>rw[e]at h2;cases h2;rfl
  obtain⟨u,hu,rv⟩:=r.get ha
  have hp:ps[i]? =some y:=by
   rw[<- S.pre,List.getElem?_take_of_lt (by omega)];exact h1
  have ndP:ps.Nodup:=by rw[<- S.pre];exact S.nd.sublist (List.take_sublist _ _)
  refine⟨u,rv,?_⟩
  rcases S.par y (List.mem_of_getElem? hp)with k|k
  ·exact .inl ⟨k,fL ndP hp hu k⟩
  ·obtain⟨c,e⟩:=gu (n:=s.heap.objs.size+1) k
   refine .inr ⟨.inl k,c,e,?_⟩
   have q:=x.cell y c e
   rw[fo ndP hp hu (by show scope.names.lookup y≠_;rw[k];decide)]at q
   exact q
 ·exact e0.hok.fresh (Nat.le_of_lt (x.above y c (PySem.mem_of_lookup h)))
 ·unfold Qw
  show _=N.length
  rw[List.length_append,List.length_map,List.length_replicate]
  omega
theorem vV{CX:bq}{P:Program}{w:World}{K:Frag}{mg:Str->Option Value}{base:Heap}{k:Nat}{f:Addr}{name qual:Str}{params:Arguments}{body:List Stmt}{scope:Scope}{dV kV doc pm cdv ct oc:Value}{an od:Option Addr}
  {osl:Array (Option Value)}{N ps:List Str}{sp:Sp}(lk:K.lookup f=some ⟨oc,od,.func (W.fnOf name qual params body scope dV kV doc pm an cdv ct),osl⟩)(hcd:W.codeIn K cdv qual=true)(S:FnScope N ps scope)
  (len:∀vs H Q E,sp vs H Q E->vs.length=ps.length)
  (hbody:∀(A:Around) (outer:List Env) (s:Shared) (H:Hp) (vs:List V) (Q:VK) (E:XK),Room k (A.deeper (envOfC qual scope s.heap.objs.size f cdv))->sp vs H Q E->
   ∃t,PSs (Z3 CX P w K mg base N qual scope f cdv A outer s H E) body t/\t {nx:=fun _ H'=>Q .non H',rt:=Q} (Qw N vs) H):
  FnOk P w K mg base CX (k+1) f (W.fnOf name qual params body scope dV kV doc pm an cdv ct) ps sp:=by
 refine⟨len,fun A outer s H args us vs Q E hr e0 hb r hsp=>?_⟩
 have hl:=len _ _ _ _ hsp
 have KX:K.In s.heap:=e0.mod.kin.keeps fun b o e=>(e0.bs b o e).1
 have lim:s.heap.NoLimit:=e0.mod.nolimit.keeps fun b o e=>(e0.bs b o e).1
 have hkind:∀y∈ps.zip us,scope.names.lookup y.1=some .local\/(scope.names.lookup y.1=some .cell/\((cellsFrom (s.heap.objs.size+1) scope.names []).lookup y.1).isSome=true):=fun⟨n,v⟩ hy=>by
  rcases S.par n (List.of_mem_zip hy).1 with q|q
  ·exact .inl q
  ·exact .inr ⟨q,W.cellsFrom_some _ _ _ (.inl q)⟩
 refine codeAny_call_function hr.depth (KX _ _ lk) rfl S.co S.gen rfl (W.codeRec_of KX hcd) (hb _ _ _ _ ?_)
 refine wpAny_newFunctionEnv_cells S.kind hkind fun env he s1 x=>?_
 subst he
 refine⟨lim.keeps x.toInCall.keep,codeAny_func ?_⟩
 obtain⟨t,ht,hq⟩:=hbody A outer s H vs Q E (hr.deeper _) hsp
 have I:Inv (Z3 CX P w K mg base N qual scope f cdv A outer s H E) [] (Qw N vs) H s1:=nE S hr.hd e0 hl r x
 refine wpAny_mono (ht [] s1 (Qw N vs) H _ I hq) (fun fl s' hs=>?_) fun e s' hs=>hs
 have fin:∀{σ':St} {H':Hp} {v:V} {u:Value},Inv (Z3 CX P w K mg base N qual scope f cdv A outer s H E) [] σ' H' s'->RelV v u->Q v H'->CE outer P w H s Q u s':=
  fun{σ' H' v u} J rv q=>⟨v,H',J.os,J.bare,J.base,J.hok,rv,q⟩
 cases fl with
 |ret u=>
  obtain⟨v,σ',H',J,rv,q⟩:=hs
  exact fin J rv q
 |next=>
  obtain⟨σ',H',J,q⟩:=hs
  exact fin (v:=V.non) (u:=Value.none) J rfl q
 |brk=>
  obtain⟨_,_,_,q⟩:=hs
  exact False.elim q
 |cont=>
  obtain⟨_,_,_,q⟩:=hs
  exact False.elim q
section
variable{X:Cx}{x:Str}{p pos:Pos}{e:Expr}{es:List Expr}{t:TA}{id T:String}{r:List V->Hp->VK->Prop}
def pO(r:List V->Hp->VK->Prop)(t:TA):TE:=fun σ H Q=>t σ H fun vs H1=>r vs H1 Q
theorem oT(hc:qY X (.builtin id) r)(hg:Gl X x)(hm:X.mg x=none)(hv:bootBuiltins x=some (.builtin id))(ha:PA X (e::es) t)(hn:x≠"__name__":=by decide)(hdb:(x==("__debug__":Str))=false:=by decide)
  (he:starEach (e::es) X.env=(false,eval e X.env)::starEach es X.env:=by rfl)(hpl:(backTo pos (starEach es X.env)).any (·.1)=false:=by rfl):PE X (.Call (.Name x p) (e::es) [] pos) (pO r t):=by
 intro pins s σ H Q I h
 refine wpAny_Call_Name_kw (Qs I hg hm hv ?_ hn hdb)
 exact PyProof.Rows.callWith_builtin1 (qD (ha pos pins s σ H _ I h) fun us s1 ⟨vs,H1,I1,r1,q1⟩=>hc pins s1 σ H1 vs us Q I1 r1 q1) he hpl
theorem lJ(hc:qY X (.type T) r)(hg:Gl X x)(hm:X.mg x=none)(hv:bootBuiltins x=some (.type T))(ha:PA X (e::es) t)(hn:x≠"__name__":=by decide)(hdb:(x==("__debug__":Str))=false:=by decide)
  (he:starEach (e::es) X.env=(false,eval e X.env)::starEach es X.env:=by rfl)(hpl:(backTo pos (starEach es X.env)).any (·.1)=false:=by rfl):PE X (.Call (.Name x p) (e::es) [] pos) (pO r t):=by
 intro pins s σ H Q I h
 refine wpAny_Call_Name_kw (Qs I hg hm hv ?_ hn hdb)
 exact PyProof.Rows.callWith_type1 (qD (ha pos pins s σ H _ I h) fun us s1 ⟨vs,H1,I1,r1,q1⟩=>hc pins s1 σ H1 vs us Q I1 r1 q1) he hpl
end
end L2
namespace HT
open PySem PyProof.Rows
section
open PySem.SeqAt
open PySem.AutoSeq1 (wpAny_loadPart')
open PySem.MeetsSeq PySem.MeetsSeq2 PySem.MeetsSeq3
end
section
variable{prog:Program}{w:World}{A:Around}{E:Value->Shared->Prop}{s:Shared}
theorem cat_tup{t b:Addr}{vs ws:List Value}{Q:Value->Shared->Prop}(ht:IsTup s.heap t vs.toArray)(hb:IsTup s.heap b ws.toArray)(hv:vs≠[])
  (h1:ws=[]->Q (.ref t) s)(h2:ws≠[]->Q (.ref s.heap.objs.size) {s with heap:=s.heap.push {cls:= .type "tuple",data:= .seq (vs++ws).toArray}})
  (hsz:vs.length+ws.length<=sizeLine):wpAny (model prog w) A (binaryOp .Add (.ref t) (.ref b)) Q E s:=by
 obtain⟨⟨cls,dd,data,sl⟩,ho,hc,n,hd⟩:=id ht
 obtain⟨⟨cls2,dd2,data2,sl2⟩,ho2,hc2,n2,hd2⟩:=id hb
 simp only at hc hd hc2 hd2
 subst hc hd hc2 hd2
 have e:vs.toArray++ws.toArray=(vs++ws).toArray:=by simp
 by_cases hw:ws=[]
 ·exact concat_meets ⟨_,ho,rfl⟩ ⟨_,ho2,rfl⟩ noFill_tuple_add seq_tuple_add PySem.F.slot_tuple_add PySem.F.entry_tuple_add (PySem.F.args_tuple_add_2 _ _)
   (tuple_addW1 t b vs.toArray ws.toArray n n2 dd dd2 sl sl2 (by simpa using hv) (by simp [hw])) ⟨ho,ho2,h1 hw⟩
 ·refine concat_meets ⟨_,ho,rfl⟩ ⟨_,ho2,rfl⟩ noFill_tuple_add seq_tuple_add PySem.F.slot_tuple_add PySem.F.entry_tuple_add (PySem.F.args_tuple_add_2 _ _)
   (tuple_addW2 t b vs.toArray ws.toArray n n2 dd dd2 sl sl2 (by simpa using hv) (by simpa using hw) (by rw[List.size_toArray,List.size_toArray];exact hsz)) ⟨ho,ho2,?_⟩
  rw[e]
  exact h2 hw
def sIx(n d:Nat):Option Int->Nat
 |none=>d
 |some v=>if v<0 then(v+(n:Int)).toNat else min v.toNat n
theorem uf(n d:Nat)(hd:d<=n)(o:Option Int):sIx n d o<=n:=by
 cases o with
 |none=>exact hd
 |some v=>
  show(if v<0 then(v+(n:Int)).toNat else min v.toNat n)<=n
  by_cases hv:v<0
  ·rw[if_pos hv];omega
  ·rw[if_neg hv];exact Nat.min_le_right _ _
theorem jY(v:Int)(n d:Nat):(if v<0 then max (v+(n:Int)) 0 else min v (n:Int))=((sIx n d (some v):Nat):Int):=by
 show(if v<0 then max (v+(n:Int)) 0 else min v (n:Int))=(((if v<0 then(v+(n:Int)).toNat else min v.toNat n):Nat):Int)
 by_cases hv:v<0
 ·simp only[if_pos hv];omega
 ·simp only[if_neg hv];omega
theorem lb(lo hi:Option Int)(n:Nat):Builtin.Slice.sliceAdjust lo hi 1 (n:Int)=(((sIx n 0 lo:Nat):Int),((sIx n n hi:Nat):Int)):=by
 have h1:¬((1:Int)<0):=by omega
 unfold Builtin.Slice.sliceAdjust
 simp only[h1,if_false]
 refine Prod.ext ?_ ?_
 ·cases lo with
  |none=>rfl
  |some v=>exact jY v n 0
 ·cases hi with
  |none=>rfl
  |some v=>exact jY v n n
theorem kH(i j:Nat):Builtin.Slice.slicePlaces (i:Int) (j:Int) 1=j-i:=by
 unfold Builtin.Slice.slicePlaces
 have h1:(1:Int)>0:=by omega
 simp only[h1,if_true,Int.ediv_one]
 split<;>omega
theorem cR{v:Value}{o:Option Int}{Q:Option Int->Shared->Prop}(p:IsPart v o)(h:Q o s):wpAny (model prog w) A (Builtin.Slice.slicePartIndex v) Q E s:=by
 cases p with
 |none=>exact slicePart_none h
 |int i t=>exact slicePart_int h
theorem sliceApplied_gen{sl:Addr}{vl vu:Value}{lo hi:Option Int}{n:Nat}{Q:Int×Int×Nat->Shared->Prop}(hs:s.heap.IsSliceOf sl vl vu .none)(pl:IsPart vl lo)(pu:IsPart vu hi)
  (h:Q (((sIx n 0 lo:Nat):Int),1,sIx n n hi-sIx n 0 lo) s):wpAny (model prog w) A (Builtin.Slice.sliceApplied (.ref sl) (pure (n:Int))) Q E s:=by
 obtain⟨os,hos,hcs,hds⟩:=id hs
 unfold Builtin.Slice.sliceApplied Builtin.Slice.sliceFields
 refine wpAny_bind (wpAny_bind (wpAny_field hos hds (x:=vl) rfl (wpAny_bind (wpAny_field hos hds (x:=vu) rfl (wpAny_bind (wpAny_field hos hds (x:= .none) rfl (wpAny_pure ?_)))))))
 refine wpAny_bind (slicePart_none ?_)
 show wpAny _ _ (if((1:Int)==0)=true then _ else _) _ _ s
 rw[if_neg (by decide)]
 refine wpAny_bind (cR pl (wpAny_bind (cR pu (wpAny_bind (wpAny_pure ?_)))))
 show wpAny _ _ (match Builtin.Slice.sliceAdjust lo hi 1 (n:Int)with|(lo,hi)=>pure (lo,(1:Int),Builtin.Slice.slicePlaces lo hi 1)) _ _ s
 rw[lb lo hi n]
 show wpAny _ _ (pure (((sIx n 0 lo:Nat):Int),(1:Int),Builtin.Slice.slicePlaces ((sIx n 0 lo:Nat):Int) ((sIx n n hi:Nat):Int) 1)) _ _ s
 rw[kH]
 exact wpAny_pure h
theorem oE(xs:Array Value)(i k:Nat):((List.range k).filterMap fun(m:Nat)=>xs[((i:Int)+(m:Int)*1).toNat]?).toArray=((xs.toList.drop i).take k).toArray:=by
 have e:(fun(m:Nat)=>xs[((i:Int)+(m:Int)*1).toNat]?)=fun m=>xs[i+m]? :=by
  funext m
  have:((i:Int)+(m:Int)*1).toNat=i+m:=by omega
  rw[this]
 rw[e]
 have:=pick_run xs i k
 rw[List.filterMap_map]at this
 have e2:((fun x=>xs[x]?)∘fun x=>i+x)=fun m=>xs[i+m]? :=rfl
 rw[e2]at this
 rw[this]
theorem getItem_tuple_cut{t sl:Addr}{items:Array Value}{vl vu:Value}{lo hi:Option Int}{Q:Value->Shared->Prop}(ht:IsTup s.heap t items)(hs:s.heap.IsSliceOf sl vl vu .none)(pl:IsPart vl lo)(pu:IsPart vu hi)
  (hw:¬(sIx items.size 0 lo=0/\sIx items.size items.size hi=items.size))
  (h:Q (.ref s.heap.objs.size) {s with heap:=s.heap.push {cls:= .type "tuple",data:= .seq ((items.toList.drop (sIx items.size 0 lo)).take (sIx items.size items.size hi-sIx items.size 0 lo)).toArray}})
  (hsz:items.size<=sizeLine):wpAny (model prog w) A (getItem (.ref t) (.ref sl)) Q E s:=by
 have htake:sizeOk (.seq ((items.toList.drop (sIx items.size 0 lo)).take (sIx items.size items.size hi-sIx items.size 0 lo)).toArray):=by
  show((items.toList.drop (sIx items.size 0 lo)).take (sIx items.size items.size hi-sIx items.size 0 lo)).toArray.size<=sizeLine
  rw[List.size_toArray,List.length_take,List.length_drop,Array.length_toList]
  omega
 have hj:sIx items.size items.size hi<=items.size:=uf _ _ (Nat.le_refl _) hi
 obtain⟨os,hos,hcs,hds⟩:=id hs
 have hTs:s.TypeIs (.ref sl) "slice":=⟨os,hos,hcs⟩
 unfold getItem
 try with_reducible refine wpAny_holding ?_
 first|refine wpAny_bind (wpAny_pure ?_)|skip
 refine wpAny_bind (wpAny_sequenceKey ht.typeIs (by decide) ?_)
 refine wpAny_bind (wpAny_callSpecial?_slot (name:=Str.ofString "__getitem__") ht.typeIs PyProof.Rows.slot_tuple_getitem
  (wpAny_call_entry PyProof.Rows.slot_tuple_getitem ht.typeIs entry_tuple_getitem ?_ (args_tuple_getitem _ _)))
 show wpAny _ _ (Builtin.Tuple.tupleItemsOf (.ref t) >>= _) _ _ s
 refine wpAny_bind (tupleItemsOf_ ht ?_)
 refine wpAny_bind (wpAny_typeOf hTs ?_)
 rw[if_pos (by decide)]
 refine wpAny_bind (sliceApplied_gen hs pl pu ?_)
 have hno:¬((((sIx items.size 0 lo:Nat):Int)==0&&(1:Int)==1&&(sIx items.size items.size hi-sIx items.size 0 lo)==items.size)=true):=by
  intro q
  rw[Bool.and_eq_true,Bool.and_eq_true]at q
  have q1:((sIx items.size 0 lo:Nat):Int)=0:=eq_of_beq q.1.1
  have q2:sIx items.size items.size hi-sIx items.size 0 lo=items.size:=eq_of_beq q.2
  exact hw ⟨by omega,by omega⟩
 show wpAny _ _ (if(((sIx items.size 0 lo:Nat):Int)==0&&(1:Int)==1&&(sIx items.size items.size hi-sIx items.size 0 lo)==items.size)=true then _ else _) _ _ s
 rw[if_neg hno,oE]
 first
  |exact wpAny_bind (m:=Builtin.Tuple.tupleExact _) (wpAny_newObj_type (wpAny_pure ⟨_,rfl,wpAny_pure h⟩) htake)
  |exact wpAny_bind (m:=Builtin.Tuple.tupleExact _) (wpAny_newObj_type (wpAny_bind (wpAny_pure (wpAny_pure ⟨_,rfl,wpAny_pure h⟩))) htake)
  |exact wpAny_bind (wpAny_bind (m:=Builtin.Tuple.tupleExact _) (wpAny_newObj_type (wpAny_pure (wpAny_pure ⟨_,rfl,wpAny_pure h⟩)) htake))
  |exact wpAny_bind (wpAny_bind (m:=Builtin.Tuple.tupleExact _) (wpAny_newObj_type (wpAny_pure ⟨_,rfl,wpAny_pure h⟩) htake))
end
end HT
namespace L2
open PySem PySem.Spec PyProof.Rows
abbrev TO:=St->Hp->(Option Int->Hp->Prop)->Prop
def PO(X:Cx)(e:Option Expr)(t:TO):Prop:=
 ∀(pins:List (Addr×Obj)) (s:Shared) (σ:St) (H:Hp) (Q:Option Int->Hp->Prop),Inv X pins σ H s->t σ H Q->
  wpAny (model X.prog X.w) X.A (evalPart e X.env) (fun u s'=>∃o H',Inv X pins σ H' s'/\IsPart u o/\Q o H') X.xe s
def jm:TO:=fun _ H Q=>Q none H
def rc(t:TE):TO:=fun σ H Q=>t σ H fun x H1=>∃i,x= .int i/\Q (some i) H1
section
variable{X:Cx}{e:Expr}{te:TE}{lo hi:Option Expr}{tl th:TO}{pos p2:Pos}
theorem rN:PO X none jm:=by
 intro pins s σ H Q I h
 rw[evalPart_none]
 exact wpAny_pure ⟨none,H,I,.none,h⟩
theorem sX(h:PE X e te):PO X (some e) (rc te):=by
 intro pins s σ H Q I hw
 rw[evalPart_some]
 refine qD (h pins s σ H _ I hw) fun u s1 ⟨x,H1,I1,r1,q1⟩=>?_
 obtain⟨i,rfl,q⟩:=q1
 obtain⟨t,rfl⟩:=r1
 exact⟨some i,H1,I1,.int i t,q⟩
def lY(X:Cx)(r:V->Option Int->Option Int->Hp->VK->Prop):Prop:=
 ∀(pins:List (Addr×Obj)) (s:Shared) (σ:St) (H:Hp) (x:V) (v vl vu:Value) (lo hi:Option Int) (sl:Addr) (Q:VK),Inv X pins σ H s->RelV x v->s.heap.IsSliceOf sl vl vu .none->IsPart vl lo->IsPart vu hi->r x lo hi H Q->
  ∃T id,typeLookup (.type T) "__getitem__"=pure (some (.builtin id))/\s.TypeIs v T/\wpAny (model X.prog X.w) X.A (getItem v (.ref sl)) (EP X pins σ Q) X.xe s
def wd(r:V->Option Int->Option Int->Hp->VK->Prop)(te:TE)(tl th:TO):TE:=fun σ H Q=>te σ H fun x H1=>tl σ H1 fun l H2=>th σ H2 fun u H3=>r x l u H3 Q
theorem nN{r:V->Option Int->Option Int->Hp->VK->Prop}(hr:lY X r)(he:PE X e te)(hl:PO X lo tl)(hu:PO X hi th):PE X (.Subscript e (.Slice lo hi none p2) pos) (wd r te tl th):=by
 intro pins s σ H Q I h
 refine Subscript_ (qD (he pins s σ H _ I h) fun v s1 ⟨x,H1,I1,r1,q1⟩=>?_)
 refine wpAny_Slice (qD (hl pins s1 σ H1 _ I1 q1) fun vl s2 ⟨l,H2,I2,pl,q2⟩=>qD (hu pins s2 σ H2 _ I2 q2) fun vu s3 ⟨u,H3,I3,pu,q3⟩=>?_)
 rw[evalPart_none]
 refine wpAny_pure ?_
 have I4:Inv X pins σ H3 {s3 with heap:=s3.heap.push {cls:= .type "slice",data:= .fields #[vl,vu,.none]}}:=I3.kept (t':=s3.toks) fun b ob q=>Heap.get?_push_of_some _ q
 obtain⟨T,id,hT,ht,hg⟩:=hr pins {s3 with heap:=s3.heap.push {cls:= .type "slice",data:= .fields #[vl,vu,.none]}} σ H3 x v vl vu l u s3.heap.objs.size Q I4 r1 (Heap.IsSliceOf.new ..) pl pu q3
 show wpAny (model X.prog X.w) X.A (subscriptTail e (.Slice lo hi none p2) v (.ref s3.heap.objs.size)) (EP X pins σ Q) X.xe {s3 with heap:=s3.heap.push {cls:= .type "slice",data:= .fields #[vl,vu,.none]}}
 exact tail_any (ops:=[.ref s3.heap.objs.size,v]) ht hT hg (by with_unfolding_all rfl)
def Q5(xs:List V)(lo hi:Option Int):List V:=(xs.drop (HT.sIx xs.length 0 lo)).take (HT.sIx xs.length xs.length hi-HT.sIx xs.length 0 lo)
theorem cj(xs:List V)(lo hi:Option Int):(Q5 xs lo hi).length<=xs.length:=by
 unfold Q5
 rw[List.length_take,List.length_drop]
 omega
def ww(K:Frag):V->Option Int->Option Int->Hp->VK->Prop:=fun x lo hi H Q=>∃a xs,x= .ref a/\SqT K H a xs/\
 ¬(HT.sIx xs.length 0 lo=0/\HT.sIx xs.length xs.length hi=xs.length)/\∀p,H p=none->Q (.ref p) (upd H p (.tup (Q5 xs lo hi)))
theorem vt:lY X (ww X.K):=by
 intro pins s σ H x v vl vu lo hi sl Q I rx hs pl pu h
 obtain⟨a,xs,rfl,hx,hw,q⟩:=h
 cases rx
 obtain⟨its,r,ht,hz⟩:=I.tuple hx
 have hlen:its.toArray.size=xs.length:=by rw[List.size_toArray];exact r.length.symm
 refine⟨"tuple",_,PyProof.Rows.slot_tuple_getitem.lookup,ht.typeIs,?_⟩
 refine HT.getItem_tuple_cut ht hs pl pu (by rw[hlen];exact hw) ?_ (by rw[hlen];exact hz)
 rw[hlen]
 refine⟨.ref s.heap.objs.size,_,I.laid (t':=s.toks) (o:= .tup (Q5 xs lo hi)) (fun b ob q=>Heap.get?_push_of_some _ q) (Nat.le_refl _) ?_,rfl,q _ (I.hok.fresh (Nat.le_refl _))⟩
 exact⟨Nat.le_trans (cj xs lo hi) hz,_,(r.drop (HT.sIx xs.length 0 lo)).take (HT.sIx xs.length xs.length hi-HT.sIx xs.length 0 lo),IsTup.new _ _⟩
def vR(K:Frag):R2:=fun x y H Q=>∃a b xs ys,x= .ref a/\y= .ref b/\SqT K H a xs/\SqT K H b ys/\xs≠[]/\xs.length+ys.length<=sizeLine/\
 (ys=[]->Q (.ref a) H)/\(ys≠[]->∀p,H p=none->Q (.ref p) (upd H p (.tup (xs++ys))))
theorem Vals.nil_iff{xs:List V}{us:List Value}(r:Vals xs us):us=[]↔xs=[]:=by
 cases r with
 |nil=>simp
 |cons _ _=>simp
theorem tw:zr X (binaryOp .Add) (vR X.K):=by
 intro pins s σ H x y v u Q I rx ry h
 obtain⟨a,b,xs,ys,rfl,rfl,ha,hb,hx,hz,q1,q2⟩:=h
 cases rx
 cases ry
 obtain⟨its,r1,p1,_⟩:=I.tuple ha
 obtain⟨its2,r2,p2,_⟩:=I.tuple hb
 refine HT.cat_tup p1 p2 (fun z=>hx (r1.nil_iff.mp z)) (fun z=>⟨.ref a,H,I,rfl,q1 (r2.nil_iff.mp z)⟩) (fun z=>?_) (by rw[<- r1.length,<- r2.length];exact hz)
 refine⟨.ref s.heap.objs.size,_,I.laid (t':=s.toks) (o:= .tup (xs++ys)) (fun b ob q=>Heap.get?_push_of_some _ q) (Nat.le_refl _) ?_,rfl,q2 (fun w=>z (r2.nil_iff.mpr w)) _ (I.hok.fresh (Nat.le_refl _))⟩
 exact⟨by rw[List.length_append];exact hz,_,r1.append r2,IsTup.new _ _⟩
end
def Zr(n:Nat)(i:Int):Option Nat:=if 0<=i then(if i<n then some i.toNat else none)else if -(n:Int)<=i then some (i+n).toNat else none
def zV{α:Type}(xs:List α)(i:Int):Option α:=(Zr xs.length i).bind fun j=>xs[j]?
theorem jN{n:Nat}{i:Int}{j:Nat}(h:Zr n i=some j):seqIndex? i n=some j/\j<n/\ -(n:Int)<=i/\i<n:=by
 unfold Zr at h
 by_cases h0:0<=i
 ·rw[if_pos h0]at h
  by_cases h1:i<n
  ·rw[if_pos h1]at h
   have e:i.toNat=j:=Option.some.inj h
   exact⟨by rw[seqIndex_of h0 h1,e],by omega,by omega,h1⟩
  ·rw[if_neg h1]at h;cases h
 ·rw[if_neg h0]at h
  by_cases h1: -(n:Int)<=i
  ·rw[if_pos h1]at h
   have e:(i+n).toNat=j:=Option.some.inj h
   exact⟨by rw[seqIndex_neg (by omega) h1,e],by omega,h1,by omega⟩
  ·rw[if_neg h1]at h;cases h
theorem jA{α:Type}{xs:List α}{i:Int}{v:α}(h:zV xs i=some v):∃j,seqIndex? i xs.length=some j/\xs[j]? =some v/\j<xs.length/\ -(xs.length:Int)<=i/\i<xs.length:=by
 unfold zV at h
 cases e:Zr xs.length i with
 |none=>rw[e]at h;cases h
 |some j=>
  rw[e]at h
  obtain⟨h1,h2,h3,h4⟩:=jN e
  exact⟨j,h1,h,h2,h3,h4⟩
theorem Qm{α:Type}{xs:List α}{j:Nat}{v:α}(h:xs[j]? =some v):zV xs (j:Int)=some v:=by
 have hj:j<xs.length:=(List.getElem?_eq_some_iff.mp h).1
 have e:Zr xs.length (j:Int)=some j:=by
  unfold Zr
  rw[if_pos (by omega),if_pos (by omega)];simp
 unfold zV;rw[e];exact h
def jL(b:Expr):Prop:=∀o i,subscripted b false o i=operate [o,i] (getItem o i)
def IxR(X:Cx)(r:R2):Prop:=
 ∀(value slice:Expr) (pins:List (Addr×Obj)) (s:Shared) (σ:St) (H:Hp) (x y:V) (v u:Value) (Q:VK),Inv X pins σ H s->RelV x v->RelV y u->r x y H Q->
  subscripted slice false v u=operate [v,u] (getItem v u)->wpAny (model X.prog X.w) X.A (subscriptTail value slice v u) (EP X pins σ Q) X.xe s
def fx(X:Cx)(id:String)(r:V->List V->Hp->VK->Prop):Prop:=
 ∀(pins:List (Addr×Obj)) (s:Shared) (σ:St) (H:Hp) (x:V) (xs:List V) (v:Value) (us:List Value) (Q:VK),Inv X pins σ H s->RelV x v->Vals xs us->r x xs H Q->
  wpAny (model X.prog X.w) X.A (call (.builtin id) (v::us)) (EP X pins σ Q) X.xe s
section
variable{X:Cx}{a b:Expr}{ta tb:TE}{pos:Pos}
theorem IxR.or{r r':R2}(h:IxR X r)(h':IxR X r'):IxR X (fun x y H Q=>r x y H Q\/r' x y H Q):=by
 intro value slice pins s σ H x y v u Q I rx ry q hs
 rcases q with q|q
 ·exact h value slice pins s σ H x y v u Q I rx ry q hs
 ·exact h' value slice pins s σ H x y v u Q I rx ry q hs
theorem vI{r:R2}(hr:IxR X r)(ha:PE X a ta)(hb:PE X b tb)(hs:jL b):PE X (.Subscript a b pos) (eZ r ta tb):=by
 intro pins s σ H Q I h
 exact Subscript_ (ou ha hb I h fun v u s2 x y H2 I2 rx ry q=>hr a b pins s2 σ H2 x y v u Q I2 rx ry q (hs _ _))
def uL(K:Frag):R2:=fun x y H Q=>∃p xs i v,x= .ref p/\y= .int i/\SqL K H p xs/\zV xs i=some v/\Q v H
def nK(K:Frag):R2:=fun x y H Q=>∃p xs i v,x= .ref p/\y= .int i/\SqT K H p xs/\zV xs i=some v/\Q v H
theorem qI:IxR X (uL X.K):=by
 intro value slice pins s σ H x y v u Q I rx ry h hs
 obtain⟨p,xs,i,z,rfl,rfl,hq,he,q⟩:=h
 cases rx
 obtain⟨t,rfl⟩:=ry
 obtain⟨its,r,pl,hz⟩:=I.list hq
 obtain⟨j,h1,h2,h3,h4,h5⟩:=jA he
 obtain⟨w,ew,rw'⟩:=r.get h2
 have hl:=r.length
 have hn:=Zb
 have fin:EP X pins σ Q w s:=⟨z,H,I,rw',q⟩
 by_cases h0:0<=i
 ·have hj:i.toNat=j:=by
   rw[seqIndex_of h0 h5]at h1
   exact Option.some.inj h1
  exact item_listR pl.isList h0 (by omega) (by rw[hj];simpa using ew) fin hs
 ·have hj:(i+(its.toArray.size:Int)).toNat=j:=by
   rw[seqIndex_neg (by omega) h4]at h1
   rw[List.size_toArray,<- hl]
   exact Option.some.inj h1
  exact subscriptTail_builtinR (x:=w) pl.isList.typeIs slot_list_getitem.lookup
   (wpAny_getItem_list_neg (Q:=fun r s'=>r=w/\EP X pins σ Q r s') pl.isList (by omega) (by rw[List.size_toArray]<;>omega) (by omega) (by rw[hj];simpa using ew) ⟨rfl,fin⟩) hs
theorem qK:IxR X (nK X.K):=by
 intro value slice pins s σ H x y v u Q I rx ry h hs
 obtain⟨p,xs,i,z,rfl,rfl,hq,he,q⟩:=h
 cases rx
 obtain⟨t,rfl⟩:=ry
 obtain⟨its,r,pl,hz⟩:=I.tuple hq
 obtain⟨j,h1,h2,h3,h4,h5⟩:=jA he
 obtain⟨w,ew,rw'⟩:=r.get h2
 have hl:=r.length
 have hn:=Zb
 have fin:EP X pins σ Q w s:=⟨z,H,I,rw',q⟩
 exact subscriptTail_builtinR (x:=w) pl.typeIs slot_tuple_getitem.lookup
  (getItem_tuple (j:=j) (Q:=fun r s'=>r=w/\EP X pins σ Q r s') pl (by omega) (by omega) (by rw[List.size_toArray,<- hl];exact h1) (by simpa using ew) ⟨rfl,fin⟩) hs
theorem kf(its:List Value)(n j:Nat)(u:Value):Obj.mapSeq (·.setIfInBounds j u) {cls:= .type "list",data:= .seq its.toArray n}={cls:= .type "list",data:= .seq (its.set j u).toArray n}:=by
 simp [Obj.mapSeq]
theorem Inv.lst{pins:List (Addr×Obj)}{σ:St}{H:Hp}{s:Shared}{p:Addr}{xs:List V}(I:Inv X pins σ H s)(h:H p=some (.lst xs)):
  ∃(its:List Value) (n:Nat),Vals xs its/\s.heap.get? p=some {cls:= .type "list",data:= .seq its.toArray n}/\xs.length<=sizeLine:=by
 obtain⟨z,its,n,r,e⟩:=I.hok p _ h
 exact⟨its,n,r,e,z⟩
theorem Inv.lstUpd{pins:List (Addr×Obj)}{σ:St}{H:Hp}{s:Shared}{p:Addr}{xs ys:List V}{its its':List Value}{n n':Nat}{f:Obj->Obj}(I:Inv X pins σ H s)(h:H p=some (.lst xs))
  (ho:s.heap.get? p=some {cls:= .type "list",data:= .seq its.toArray n})(hf:f {cls:= .type "list",data:= .seq its.toArray n}={cls:= .type "list",data:= .seq its'.toArray n'})(r:Vals ys its')(hz:ys.length<=sizeLine)(t:Nat):
  Inv X pins σ (upd H p (.lst ys)) {s with heap:=s.heap.update p f,toks:=t}:=by
 have e:(s.heap.update p f).get? p=some {cls:= .type "list",data:= .seq its'.toArray n'}:=by
  rw[Heap.get?_update_self f ho (by rw[hf]<;>rfl),hf]
 refine I.write (x:=p) (e:=p) (by rw[h];trivial) (.inl rfl) (fun b u hb q=>(Heap.get?_update_other _ _ (Ne.symm hb)).trans q) ⟨_,e⟩ ?_
 exact⟨hz,its',n',r,e⟩
def vN:V->V->V->Hp->(Hp->Prop)->Prop:=fun o i v H Q=>∃p xs k j,o= .ref p/\i= .int k/\H p=some (.lst xs)/\Zr xs.length k=some j/\Q (upd H p (.lst (xs.set j v)))
theorem QD:hV X vN:=by
 intro pins s σ H o i v ov iv u Q I ro ri rv h
 obtain⟨p,xs,k,j,rfl,rfl,hp,hj,q⟩:=h
 cases ro
 obtain⟨t,rfl⟩:=ri
 obtain⟨its,n,r,ho,hz⟩:=I.lst hp
 obtain⟨h1,h2,h3,h4⟩:=jN hj
 have hl:=r.length
 have hn:=Zb
 have I':Inv X pins σ (upd H p (.lst (xs.set j v))) {s with heap:=s.heap.update p (Obj.mapSeq (·.setIfInBounds j u))}:=
  I.lstUpd hp ho (kf its n j u) (r.set rv j) (by rw[List.length_set];exact hz) s.toks
 by_cases h0:0<=k
 ·have hk:k.toNat=j:=by
   rw[seqIndex_of h0 h4]at h1
   exact Option.some.inj h1
  exact W.ki_setAt ho h0 (by omega) (by rw[List.size_toArray,<- hl];exact h4) (by rw[hk];exact⟨_,I',q⟩)
 ·have hk:(k+(its.toArray.size:Int)).toNat=j:=by
   rw[seqIndex_neg (by omega) h3]at h1
   rw[List.size_toArray,<- hl]
   exact Option.some.inj h1
  exact W.ki_setBack ho (by omega) (by rw[List.size_toArray,<- hl];exact h3) (by omega) (by rw[hk];exact⟨_,I',q⟩)
theorem gq(lo hi:Option Int)(n:Nat):(sliceBounds lo hi none n).1=((HT.sIx n 0 lo:Nat):Int)/\(sliceBounds lo hi none n).2.1=((HT.sIx n n hi:Nat):Int)/\(sliceBounds lo hi none n).2.2=1:=by
 refine⟨?_,?_,rfl⟩
 ·cases lo with
  |none=>simp [sliceBounds,HT.sIx]
  |some i=>
   simp only[sliceBounds,HT.sIx,Option.getD_none,show(1:Int)>0 by decide,if_true]
   by_cases h:i<0
   ·simp only[h,if_true]<;>omega
   ·simp only[h,if_false]<;>omega
 ·cases hi with
  |none=>simp [sliceBounds,HT.sIx]
  |some i=>
   simp only[sliceBounds,HT.sIx,Option.getD_none,show(1:Int)>0 by decide,if_true]
   by_cases h:i<0
   ·simp only[h,if_true]<;>omega
   ·simp only[h,if_false]<;>omega
theorem f8(its:List Value)(lo hi:Option Int):slicePick its.toArray lo hi none=((its.drop (HT.sIx its.length 0 lo)).take (HT.sIx its.length its.length hi-HT.sIx its.length 0 lo)).toArray:=by
 obtain⟨h1,h2,h3⟩:=gq lo hi its.toArray.size
 unfold slicePick
 rw[h1,h2,h3]
 simp only[sliceRange_one,pick_run,List.size_toArray]<;>rfl
def wj(K:Frag):V->Option Int->Option Int->Hp->VK->Prop:=fun x lo hi H Q=>∃a xs,x= .ref a/\SqL K H a xs/\∀p,H p=none->Q (.ref p) (upd H p (.lst (Q5 xs lo hi)))
theorem jW:lY X (wj X.K):=by
 intro pins s σ H x v vl vu lo hi sl Q I rx hs pl pu h
 obtain⟨a,xs,rfl,hx,q⟩:=h
 cases rx
 obtain⟨its,r,ht,hz⟩:=I.list hx
 have hlen:=r.length
 refine⟨"list",_,slot_list_getitem.lookup,ht.isList.typeIs,?_⟩
 refine wpAny_getItem_list_slice ht.isList hs pl pu .none (by simp) ?_ (by rw[List.size_toArray]<;>omega)
 rw[f8,<- hlen]
 refine⟨.ref s.heap.objs.size,_,I.laid (t':=s.toks) (o:= .lst (Q5 xs lo hi)) (fun b ob q=>Heap.get?_push_of_some _ q) (Nat.le_refl _) ?_,rfl,q _ (I.hok.fresh (Nat.le_refl _))⟩
 exact⟨Nat.le_trans (cj xs lo hi) hz,_,0,(r.drop (HT.sIx xs.length 0 lo)).take (HT.sIx xs.length xs.length hi-HT.sIx xs.length 0 lo),Heap.get?_push_size _ rfl⟩
theorem qT:qY X (.builtin "len") (fun xs H Q=>∃p ys,xs=[.ref p]/\(SqL X.K H p ys\/SqT X.K H p ys)/\Q (.int ys.length) H):=by
 intro pins s σ H xs us Q I r h
 obtain⟨p,ys,rfl,hq,q⟩:=h
 obtain⟨u,rfl,rx⟩:=zO r
 cases rx
 have hn:=Zb
 rcases hq with hq|hq
 ·obtain⟨its,r',pl,hz⟩:=I.list hq
  have hlen:=r'.length
  exact Calls.call_len_list pl.isList (by simp only[List.size_toArray]<;>omega) ⟨.int ys.length,H,I.tok _,⟨s.toks+1,by rw[List.size_toArray,hlen]⟩,q⟩
 ·obtain⟨its,r',pl,hz⟩:=I.tuple hq
  have hlen:=r'.length
  exact len_tuple pl (by simp only[List.size_toArray]<;>omega) ⟨.int ys.length,H,I.tok _,⟨s.toks+1,by rw[List.size_toArray,hlen]⟩,q⟩
theorem ir:qY X (.builtin "len") (fun xs H Q=>∃z,xs=[.str z]/\z.length<=sizeLine/\Q (.int z.length) H):=by
 intro pins s σ H xs us Q I r h
 obtain⟨z,rfl,hz,q⟩:=h
 obtain⟨u,rfl,t,rfl⟩:=zO r
 have hn:=Zb
 exact len_str (by omega) ⟨.int z.length,H,I.tok _,⟨_,rfl⟩,q⟩
theorem ZA:qY X (.type "list") (fun xs H Q=>∃p ys,xs=[.ref p]/\(SqL X.K H p ys\/SqT X.K H p ys)/\∀l,H l=none->Q (.ref l) (upd H l (.lst ys))):=by
 intro pins s σ H xs us Q I r h
 obtain⟨p,ys,rfl,hq,q⟩:=h
 obtain⟨u,rfl,rx⟩:=zO r
 cases rx
 have fin:∀(its:List Value),Vals ys its->ys.length<=sizeLine->∀(h':Heap) (c':Nat),(∀b o',s.heap.get? b=some o'->h'.get? b=some o')->
   h'.get? s.heap.objs.size=some {cls:= .type "list",dict:=none,data:= .seq its.toArray c',slots:= #[]}->EP X pins σ Q (.ref s.heap.objs.size) {s with heap:=h'}:=fun its r' hz h' c' kp e=>
  ⟨.ref s.heap.objs.size,_,I.laid (t':=s.toks) kp (Nat.le_refl _) (show ObjOk X.prog X.w _ h' _ (.lst ys)from⟨hz,its,c',r',e⟩),rfl,q _ (I.hok.fresh (Nat.le_refl _))⟩
 rcases hq with hq|hq
 ·obtain⟨its,r',pl,hz⟩:=I.list hq
  have hlen:=r'.length
  obtain⟨o,ho,hc,n,hd⟩:=pl.isList
  exact call_list_seq p (.inl rfl) ho hc hd (fun h' c' kp e=>fin its r' hz h' c' kp e) (by simp only[List.size_toArray]<;>omega)
 ·obtain⟨its,r',pl,hz⟩:=I.tuple hq
  have hlen:=r'.length
  obtain⟨o,ho,hc,n,hd⟩:=pl
  exact call_list_seq p (.inr rfl) ho hc hd (fun h' c' kp e=>fin its r' hz h' c' kp e) (by simp only[List.size_toArray]<;>omega)
theorem qS:qY X (.type "tuple") (fun xs H Q=>∃p ys,xs=[.ref p]/\((SqL X.K H p ys/\∀l,H l=none->Q (.ref l) (upd H l (.tup ys)))\/(SqT X.K H p ys/\Q (.ref p) H))):=by
 intro pins s σ H xs us Q I r h
 obtain⟨p,ys,rfl,h⟩:=h
 obtain⟨u,rfl,rx⟩:=zO r
 cases rx
 rcases h with⟨hq,q⟩|⟨hq,q⟩
 ·obtain⟨its,r',pl,hz⟩:=I.list hq
  have hlen:=r'.length
  refine call_tuple_list pl.isList (fun h' kp=>?_) (by simp only[List.size_toArray]<;>omega)
  have I1:Inv X pins σ H {s with heap:=h'}:=I.kept (t':=s.toks) kp
  have I2:Inv X pins σ (upd H h'.objs.size (.tup ys)) {s with heap:=h'.push {cls:= .type "tuple",data:= .seq its.toArray}}:=
   I1.laid (t':=s.toks) (fun b o e=>Heap.get?_push_of_some _ e) (Nat.le_refl _) (show ObjOk X.prog X.w _ _ _ (.tup ys)from⟨hz,its,r',IsTup.new _ _⟩)
  exact⟨.ref h'.objs.size,_,I2,rfl,q _ (I1.hok.fresh (Nat.le_refl _))⟩
 ·obtain⟨its,r',pl,hz⟩:=I.tuple hq
  exact call_tuple_same pl ⟨.ref p,H,I,rfl,q⟩
def tQ(K:Frag)(T:String)(x:V)(H:Hp):Prop:=match x with
 | .str _=>T="str"
 | .int _=>T="int"
 | .ref p=>(T="list"/\∃xs,SqL K H p xs)\/(T="tuple"/\∃o,K.lookup p=some o/\o.cls= .type "tuple"/\o.dict=none)\/
   (T="dict"/\((∃kvs,H p=some (.dK kvs))\/∃kvs,H p=some (.dT kvs)))\/(T="set"/\∃S n,H p=some (.set S n))
 |_=>False
theorem lw{pins:List (Addr×Obj)}{σ:St}{H:Hp}{s:Shared}{T:String}{x:V}{v:Value}(I:Inv X pins σ H s)(r:RelV x v)(ty:tQ X.K T x H):
  s.TypeIs v T/\∀a,v= .ref a->∃ob,s.heap.get? a=some ob/\ob.dict=none:=by
 cases x with
 |str z=>
  obtain⟨t,rfl⟩:=r
  cases(show T="str" from ty)
  exact⟨typeIs_str s z t,fun _ e=>nomatch e⟩
 |int i=>
  obtain⟨t,rfl⟩:=r
  cases(show T="int" from ty)
  exact⟨typeIs_int s i t,fun _ e=>nomatch e⟩
 |ref p=>
  cases r
  rcases ty with⟨rfl,xs,hq⟩|⟨rfl,o,hk,hc,hd⟩|⟨rfl,hk⟩|⟨rfl,S,n,hk⟩
  ·obtain⟨its,_,pl,_⟩:=I.list hq
   refine⟨pl.isList.typeIs,fun a e=>?_⟩
   cases e
   obtain⟨o,n,e,c,hd,_⟩:=pl
   exact⟨o,e,hd⟩
  ·refine⟨⟨o,I.kIn p o hk,hc⟩,fun a e=>?_⟩
   cases e
   exact⟨o,I.kIn _ o hk,hd⟩
  ·have z:∃o,s.heap.get? p=some o/\o.ExactDict:=by
    rcases hk with⟨kvs,hk⟩|⟨kvs,hk⟩
    ·obtain⟨_,_,_,_,o,_,_,e,ex,_⟩:=I.hok p _ hk
     exact⟨o,e,ex⟩
    ·obtain⟨_,_,_,_,o,_,_,e,ex,_⟩:=I.hok p _ hk
     exact⟨o,e,ex⟩
   obtain⟨o,e,ex⟩:=z
   refine⟨⟨o,e,ex.1⟩,fun a e2=>?_⟩
   cases e2
   exact⟨o,e,ex.2.1⟩
  ·obtain⟨o,_,_,_,e,ex,_⟩:=I.hok p _ hk
   refine⟨⟨o,e,ex.1⟩,fun a e2=>?_⟩
   cases e2
   exact⟨o,e,ex.2.1⟩
 |_=>exact False.elim ty
def tF(K:Frag)(T:String)(r:V->List V->Hp->VK->Prop)(to:TE):TE:=fun σ H Q=>to σ H fun x H1=>tQ K T x H1/\r x [] H1 Q
def uU(K:Frag)(T:String)(r:V->List V->Hp->VK->Prop)(to:TE)(t:TA):TE:=fun σ H Q=>to σ H fun x H1=>tQ K T x H1/\t σ H1 fun xs H2=>r x xs H2 Q
variable{o e:Expr}{es:List Expr}{to:TE}{t:TA}{name:Str}{apos cpos:Pos}{T id:String}{r:V->List V->Hp->VK->Prop}
theorem vB(pa:PlainAttrs T)(slot:Slot T name id)(hty:typeOf (.builtin id)=pure (.type "method_descriptor"))(hm:fx X id r)(ho:PE X o to)
  (hbase:attributeBase o name X.env (eval o X.env)=eval o X.env:=by rfl)(hline:(apos.endLine==cpos.line)=true:=by rfl):PE X (.Call (.Attribute o name apos) [] [] cpos) (tF X.K T r to):=by
 intro pins s σ H Q I h
 refine wpAny_Call_method0_late hbase hline (qD (ho pins s σ H _ I h) fun v s1 ⟨x,H1,I1,r1,ty,q1⟩=>?_)
 obtain⟨h1,h2⟩:=lw I1 r1 ty
 exact⟨T,id,pa,slot,hty,h1,h2,Calls.callWith_builtin rfl (PySem.evalArgs_none (hm pins s1 σ H1 x [] v [] Q I1 r1 .nil q1))⟩
theorem vJ(pa:PlainAttrs T)(slot:Slot T name id)(hty:typeOf (.builtin id)=pure (.type "method_descriptor"))(hm:fx X id r)(ho:PE X o to)(ha:PA X (e::es) t)
  (hbase:attributeBase o name X.env (eval o X.env)=eval o X.env:=by rfl)
  (hfew:((backTo cpos (starEach (e::es) X.env)).all (fun x=> !x.1)&&(backToKw cpos (keywordEach [] X.env)).all (fun x=>x.1.isSome)
   &&decide ((e::es).length+([]:List Keyword).length+(if([]:List Keyword).isEmpty then 0 else 1)<30))=true:=by rfl)
  (hline:(apos.endLine==cpos.line)=true:=by rfl)(hs:starEach (e::es) X.env=(false,eval e X.env)::starEach es X.env:=by rfl)(hplain:(backTo cpos (starEach es X.env)).any (·.1)=false:=by rfl):
  PE X (.Call (.Attribute o name apos) (e::es) [] cpos) (uU X.K T r to t):=by
 intro pins s σ H Q I h
 refine wpAny_Call_method_late hbase hfew hline rfl (qD (ho pins s σ H _ I h) fun v s1 ⟨x,H1,I1,r1,ty,q1⟩=>?_)
 obtain⟨h1,h2⟩:=lw I1 r1 ty
 refine⟨T,id,pa,slot,hty,h1,h2,?_⟩
 have hA:=ha cpos pins s1 σ H1 _ I1 q1
 rw[hs]at hA⊢
 refine Calls.callWith_builtin (by show(false||(backTo cpos (starEach es X.env)).any (·.1))=false;rw[hplain]<;>rfl) (Calls.evalArgs_plain ?_)
 exact qD hA fun us s2 ⟨vs,H2,I2,r2,q2⟩=>hm pins s2 σ H2 x vs v us Q I2 r1 r2 q2
end
def vD(X:Cx)(id:String)(r:V->List V->Hp->VK->Prop):Prop:=
 ∀(pins:List (Addr×Obj)) (s:Shared) (σ:St) (H:Hp) (x:V) (xs:List V) (v:Value) (us:List Value) (Q:VK),Inv X pins σ H s->RelV x v->Vals xs us->r x xs H Q->
  wpAny (model X.prog X.w) X.A (call (.builtin id) (v::us)) (EP X pins σ Q) X.xe s
theorem Vals.one:∀{x:V} {us:List Value},Vals [x] us->∃u,us=[u]/\RelV x u
 |_,_,.cons r .nil=>⟨_,rfl,r⟩
theorem Vals.two:∀{x y:V} {us:List Value},Vals [x,y] us->∃u v,us=[u,v]/\RelV x u/\RelV y v
 |_,_,_,.cons r (.cons q .nil)=>⟨_,_,rfl,r,q⟩
theorem Vals.zero:∀{us:List Value},Vals [] us->us=[]
 |_,.nil=>rfl
theorem Vals.eraseIdx:∀{xs:List V} {us:List Value} (i:Nat),Vals xs us->Vals (xs.eraseIdx i) (us.eraseIdx i)
 |_,_,_,.nil=> .nil
 |_,_,0,.cons _ t=>t
 |_,_,i+1,.cons r t=> .cons r (Vals.eraseIdx i t)
theorem Vals.reverse{xs:List V}{us:List Value}(h:Vals xs us):Vals xs.reverse us.reverse:=by
 induction h with
 |nil=>exact .nil
 |cons r t ih=>rw[List.reverse_cons,List.reverse_cons];exact Vals.append ih (.cons r .nil)
theorem Vals.rep{xs:List V}{us:List Value}(h:Vals xs us):∀k:Nat,Vals (List.replicate k xs).flatten (List.replicate k us).flatten
 |0=> .nil
 |k+1=>by
  rw[List.replicate_succ,List.replicate_succ,List.flatten_cons,List.flatten_cons]
  exact Vals.append h (Vals.rep h k)
theorem fB{α:Type}:∀(l:List α) (i:Nat),(l.eraseIdx i).length<=l.length
 | [],_=>Nat.le_refl _
 |_::_,0=>Nat.le_succ _
 |_::r,i+1=>Nat.succ_le_succ (fB r i)
theorem fV(its:List Value):∀(k:Nat) (acc:List Value),
  List.foldl (fun x1 x2=>x1++x2) acc.toArray (List.replicate k its.toArray)=(acc++(List.replicate k its).flatten).toArray
 |0,acc=>by simp
 |k+1,acc=>by
  have e:acc.toArray++its.toArray=(acc++its).toArray:=by simp
  have e2:(acc++its)++(List.replicate k its).flatten=acc++(List.replicate (k+1) its).flatten:=by
   rw[List.replicate_succ,List.flatten_cons,List.append_assoc]
  rw[<- e2,<- fV its k (acc++its),<- e,List.replicate_succ,List.foldl_cons]
section
variable{X:Cx}{pins:List (Addr×Obj)}{σ:St}{H:Hp}{s:Shared}{l b:Addr}{xs ys zs:List V}
theorem Inv.lset{its its':List Value}{n:Nat}{f:Array Value->Array Value}{t':Nat}(I:Inv X pins σ H s)(hH:H l=some (.lst xs))
  (e:s.heap.get? l=some {cls:= .type "list",data:= .seq its.toArray n})(hf:f its.toArray=its'.toArray)(hv:Vals ys its')(hz:ys.length<=sizeLine):
  Inv X pins σ (upd H l (.lst ys)) {s with heap:=s.heap.update l (Obj.mapSeq f),toks:=t'}:=by
 have q:=PySem.IsL.update e f
 rw[hf]at q
 refine I.write (x:=l) (e:=l) (by rw[hH];exact trivial) (.inl rfl) (fun b' u hb hu=>(Heap.get?_update_other s.heap (Obj.mapSeq f) (Ne.symm hb)).trans hu) ⟨_,q⟩ ?_
 exact⟨hz,its',_,hv,q⟩
theorem Inv.lnew{its:List Value}{t':Nat}(I:Inv X pins σ H s)(hv:Vals ys its)(hz:ys.length<=sizeLine):
  Inv X pins σ (upd H s.heap.objs.size (.lst ys)) {s with heap:=s.heap.push {cls:= .type "list",data:= .seq its.toArray},toks:=t'}:=
 I.laid (fun _ _ q=>Heap.get?_push_of_some _ q) (Nat.le_refl _) ⟨hz,its,0,hv,Heap.get?_push_size _ rfl⟩
theorem Inv.fresh(I:Inv X pins σ H s):H s.heap.objs.size=none:=I.hok.fresh (Nat.le_refl _)
theorem Inv.lstM(I:Inv X pins σ H s)(hH:H l=some (.lst xs)):xs.length<=sizeLine/\∃(its:List Value) (n:Nat),Vals xs its/\xs.length=its.length/\s.heap.get? l=some {cls:= .type "list",data:= .seq its.toArray n}:=by
 obtain⟨z,its,n,r,e⟩:=I.hok l _ hH
 exact⟨z,its,n,r,r.length,e⟩
theorem oM{n:Nat}(h:n<=sizeLine):Builtin.List.listTooLong n=false:=by
 unfold Builtin.List.listTooLong
 exact decide_eq_false (by omega)
end
section
variable{X:Cx}
def jU:V->List V->Hp->VK->Prop:=fun x vs H Q=>∃l xs y,x= .ref l/\vs=[y]/\H l=some (.lst xs)/\xs.length<sizeLine/\Q .non (upd H l (.lst (xs++[y])))
theorem ma:vD X "list.append" jU:=by
 intro pins s σ H x vs v us Q I rx rv h
 obtain⟨l,xs,y,rfl,rfl,hH,hz,q⟩:=h
 cases rx
 obtain⟨u,rfl,ru⟩:=rv.one
 obtain⟨z,its,n,r,hl,e⟩:=I.lstM hH
 refine call_meets F.slot_list_append ⟨_,e,rfl⟩ F.entry_list_append (F.args_list_append_2 _ _) (PySem.list_append l its.toArray n u (by rw[List.size_toArray];omega)) ⟨e,?_⟩
 refine⟨.non,_,I.lset (its':=its++[u]) hH e (by simp) (r.append (.cons ru .nil)) ?_,rfl,q⟩
 rw[List.length_append,List.length_singleton]
 omega
def lH:V->List V->Hp->VK->Prop:=fun x vs H Q=>∃l xs i k y,x= .ref l/\vs=[.int i]/\H l=some (.lst xs)/\ -(2 ^ 63)<=i/\i<2 ^ 63/\seqIndex? i xs.length=some k/\xs[k]? =some y/\Q y (upd H l (.lst (xs.eraseIdx k)))
theorem nS:vD X "list.pop" lH:=by
 intro pins s σ H x vs v us Q I rx rv h
 obtain⟨l,xs,i,k,y,rfl,rfl,hH,h1,h2,hk,hy,q⟩:=h
 cases rx
 obtain⟨u,rfl,ru⟩:=rv.one
 obtain⟨t,rfl⟩:=ru
 obtain⟨z,its,n,r,hl,e⟩:=I.lstM hH
 obtain⟨w,hw,rw'⟩:=r.get hy
 refine call_meets F.slot_list_pop ⟨_,e,rfl⟩ F.entry_list_pop (F.args_list_pop_2 _ _)
  (MeetsSeq.list_pop_at l its.toArray n i t k w (fitsIndex_both h1 h2) (by rw[List.size_toArray,<- hl];exact hk) (by rw[<- Array.getElem?_toList];exact hw) (by rw[List.size_toArray];omega)) ⟨e,?_⟩
 refine⟨y,_,I.lset (its':=its.eraseIdx k) hH e ?_ (r.eraseIdx k) ?_,rw',q⟩
 ·show its.toArray.eraseIdxIfInBounds k=(its.eraseIdx k).toArray
  rw[List.eraseIdxIfInBounds_toArray]
 ·have:=fB xs k
  omega
def im:V->List V->Hp->VK->Prop:=fun x vs H Q=>∃l xs,x= .ref l/\vs=[]/\H l=some (.lst xs)/\Q .non (upd H l (.lst xs.reverse))
theorem kZ:vD X "list.reverse" im:=by
 intro pins s σ H x vs v us Q I rx rv h
 obtain⟨l,xs,rfl,rfl,hH,q⟩:=h
 cases rx
 have hus:=rv.zero
 subst hus
 obtain⟨z,its,n,r,hl,e⟩:=I.lstM hH
 refine call_meets F.slot_list_reverse ⟨_,e,rfl⟩ F.entry_list_reverse (F.args_list_reverse_1 _) (AutoSeq1.list_reverse_list_0 l its.toArray n (by rw[List.size_toArray];omega)) ⟨e,?_⟩
 refine⟨.non,_,I.lset (its':=its.reverse) hH e (by simp) r.reverse ?_,rfl,q⟩
 rw[List.length_reverse]
 omega
def wu:R2:=fun x y H Q=>∃l b xs zs,x= .ref l/\y= .ref b/\H l=some (.lst xs)/\H b=some (.lst zs)/\xs.length+zs.length<=sizeLine/\∀p,H p=none->Q (.ref p) (upd H p (.lst (xs++zs)))
theorem uc:zr X (binaryOp .Add) wu:=by
 intro pins s σ H x y v u Q I rx ry h
 obtain⟨l,b,xs,zs,rfl,rfl,hH,hB,hz,q⟩:=h
 cases rx
 cases ry
 obtain⟨z,its,n,r,hl,e⟩:=I.lstM hH
 obtain⟨z2,its2,n2,r2,hl2,e2⟩:=I.lstM hB
 refine PySem.P.add_list e e2 ?_ (by rw[List.size_toArray,List.size_toArray];omega)
 have ea:its.toArray++its2.toArray=(its++its2).toArray:=by simp
 rw[ea]
 exact⟨.ref _,_,I.lnew (t':=s.toks) (r.append r2) (by rw[List.length_append];omega),rfl,q _ I.fresh⟩
def wn:R2:=fun x y H Q=>∃l k xs,x= .ref l/\y= .int k/\H l=some (.lst xs)/\ -(2 ^ 63)<=k/\k<2 ^ 63/\xs.length*k.toNat<=sizeLine/\
 ∀p,H p=none->Q (.ref p) (upd H p (.lst (List.replicate k.toNat xs).flatten))
theorem sD{α:Type}(xs:List α)(k:Nat):(List.replicate k xs).flatten.length=k*xs.length:=by
 induction k with
 |zero=>simp
 |succ k ih=>rw[List.replicate_succ,List.flatten_cons,List.length_append,ih,Nat.succ_mul,Nat.add_comm]
theorem mC:zr X (binaryOp .Mult) wn:=by
 intro pins s σ H x y v u Q I rx ry h
 obtain⟨l,k,xs,rfl,rfl,hH,h1,h2,hz,q⟩:=h
 cases rx
 obtain⟨t,rfl⟩:=ry
 obtain⟨z,its,n,r,hl,e⟩:=I.lstM hH
 have hlen:its.toArray.size*k.toNat<=sizeLine:=by rw[List.size_toArray,<- hl];exact hz
 have hcap:¬its.toArray.size*k.toNat>(2 ^ 63-1)/8:=by
  have:(sizeLine:Nat)<=(2 ^ 63-1)/8:=by decide
  omega
 have hfit:¬(!Builtin.List.listFitsIndex k)=true:=by
  rw[fitsIndex_both h1 h2]
  exact Bool.false_ne_true
 have hlong:¬Builtin.List.listTooLong (its.toArray.size*k.toNat)=true:=by
  rw[oM hlen]
  exact Bool.false_ne_true
 have hnew:List.foldl (fun x1 x2=>x1++x2) #[] (List.replicate (if its.toArray.isEmpty=true then 0 else k.toNat) its.toArray)=(List.replicate k.toNat its).flatten.toArray:=by
  have f0:∀m:Nat,List.foldl (fun x1 x2=>x1++x2) #[] (List.replicate m its.toArray)=(List.replicate m its).flatten.toArray:=fun m=>by
   have:=fV its m []
   rw[List.nil_append]at this
   exact this
  rw[f0]
  cases its with
  |nil=>simp
  |cons a r'=>rw[if_neg (by simp)]
 refine wpAny_binaryOp_repeat_ref (T:="list") (U:="int") (by decide) ⟨_,e,rfl⟩ (fun s'=>typeIs_int s' k t) noFill_list_mul F.fills_int_mul F.slot_int_rmul repeat_list F.slot_int_index.lookup
  (call_meets F.slot_int_rmul (typeIs_int s k t) F.entry_int_rmul (F.args_int_rmul_2 _ _) (int___rmul___int_list k t l its.toArray n)
   ⟨e,rfl,⟨_,e,rfl⟩,call_meets F.slot_list_mul ⟨_,e,rfl⟩ F.entry_list_mul (F.args_list_mul_2 _ _) (AutoListH.list___mul___list_int_3 l its.toArray n k t hfit hcap hlong) ⟨e,?_⟩⟩)
 rw[hnew]
 exact⟨.ref _,_,I.lnew (t':=s.toks) (r.rep k.toNat) (by rw[sD,Nat.mul_comm];exact hz),rfl,q _ I.fresh⟩
end
section
variable{prog:Program}{w:World}{A:Around}{E:Value->Shared->Prop}{s:Shared}
end
section
variable{X:Cx}
end
end L2
namespace Att
open PySem PySem.W PySem.Calls PyProof.Rows
theorem c6{P:Params}{h:Heap}:∀(ns:List Int) (vs:List Value),WellAll P h vs (ns.map WData.int)->IntsAre vs ns:=by
 intro ns
 induction ns with
 |nil=>
  intro vs w
  rw[List.map_nil]at w
  cases w
  exact .nil
 |cons n ns ih=>
  intro vs w
  rw[List.map_cons]at w
  cases w with
  |cons a b=>
   cases a
   exact .cons _ _ (ih _ b)
theorem lU{l:OpenLaw}{n:Nat}(hn:l.most=some n){P:Params}{h:Heap}{args:List WData}{vals:List Value}
  (hpre:l.row.toRowW.claim.pre args=true)(hwl:WellAll P h vals args):
  ∃a vs ns,vals=[Value.ref a]/\args=[WData.list (ns.map WData.int)]/\h.get? a=some {cls:= .type "list",data:= .seq vs.toArray}/\IntsAre vs ns/\ns.length<=n:=by
 have hsh:WShape.hasAll [] args [.list .int]=true:=(pre_splitW hpre).1
 have hc:l.pre.holds [] {args:=args}=true:=(pre_splitW hpre).2
 obtain⟨d,r,rfl,h1,h2⟩:=hasAllW_cons hsh
 obtain rfl:=hasAllW_nil h2
 obtain⟨xs,rfl,h3⟩:=hasW_list h1
 obtain⟨ns,rfl⟩:=items_int h3
 have hlen:ns.length<=n:=by
  unfold OpenLaw.pre at hc
  have h4:(WTm.not (.lt (.lit (.int (n:Int))) (.len (.arg 0)))).holds [] {args:=[.list (ns.map .int)]}=true:=by
   have h4:=(holds_andW hc).1
   rw[hn]at h4
   exact h4
  have h5:=condW_of h4 (w_not (w_lt w_lit (w_len_list (w_arg rfl))))
  rw[List.length_map]at h5
  refine Nat.le_of_not_lt fun q=>?_
  have q':(n:Int)<((ns.length:Nat):Int):=by omega
  first
   |(rw[decide_eq_true q']at h5;exact absurd h5 (by decide))
   |(simp at h5;omega)
 cases hwl with
 |cons w1 w2=>
  cases w2
  cases w1 with
  |list ho hall=>exact⟨_,_,ns,rfl,rfl,ho,c6 ns _ hall,hlen⟩
theorem mE(l:OpenLaw)(args:List WData):l.row.toRowW.claim.post args (.bool true) args=true:=
 postW_of (r:=l.row.toRowW) (X:=(true==true))
  (show WShape.has [] (.bool true) .bool=true by first|rfl|decide|simp [WShape.has,WShape.arms,WShape.armsAll])
  (show(WTm.eq .res (.lit (.bool true))).value [] {args:=args,res:=some (.bool true),after:=args}=some (.bool (true==true))from w_eq_bool (w_res rfl) w_lit) rfl
theorem attach_call{l:OpenLaw}{n:Nat}{q:Program}{loose:List Str}{XP:(Str->Option Value)->Heap->Prop}{YP:World->Heap->Prop}{d:DefRec}
  (hn:l.most=some n)(hdf:d.params.defaults=[])
  (call:∀(w:World) (s₀ s₁:Shared) (mg mb:Str->Option Value) (fa:Addr) (o:Obj) (pm cd doc:Value) (a:Addr) (vs:List Value) (ns:List Int),
   Ground q loose [] XP w s₀ mg mb s₁.heap->YP w s₁.heap->
   s₁.heap.get? fa=some o->o.data= .func (docDef d.name d.params d.body d.scope pm cd doc)->s₁.heap.CodeRec cd d.name->mg d.name=some (.ref fa)->
   s₁.heap.get? a=some {cls:= .type "list",data:= .seq vs.toArray}->IntsAre vs ns->ns.length<=n->s₁.gens= #[]->
   codeAny (model l.prog w) callerA (.call (.ref fa) ⟨[.ref a],[]⟩) (fun r s'=>r= .ok (.ret (.bool true))/\OldK s₁.heap s'.heap/\s'.os=s₁.os/\AllBare s'.gens) s₁):
  WalkO q loose XP YP l.row.toRowW d [] (fun f vs=>PySem.call f vs):=by
 intro w s₀ s₁ mg mb G Y fa o pm cd doc dV kV ho hd hcd hD hmg hg args vals as hpre hlay hrd hwl hlo
 obtain rfl:dV= .none:=Dflts.none hD hdf
 obtain rfl:kV= .none:=Dflts.noKw hD
 obtain⟨a,vs,ns,rfl,rfl,hobj,hints,hlen⟩:=lU hn hpre hwl
 refine enter_call (codeAny_mono (call w s₀ s₁ mg mb fa o pm cd doc a vs ns G Y ho (fd_plain hd) hcd hmg hobj hints hlen hg) fun r s' hq=>?_)
 obtain⟨rfl,h2,h3,h4⟩:=hq
 exact⟨.inl ⟨.bool true,.bool true,[],rfl,fun _=>rfl,.bool true,mE l _,fun _=>⟨List.Pairwise.nil,fun _ hm=>(nomatch hm)⟩⟩,h2,h3,h4⟩
section
variable{prog:Program}{w:World}{A:Around}{E:Value->Shared->Prop}{s:Shared}{K:Frag}
end
end Att
namespace L2
open PySem PySem.Spec PyProof.Rows
theorem fy:∀{vs:List Value} {ns:List Int},IntsAre vs ns->Vals (ns.map V.int) vs
 |_,_,.nil=> .nil
 |_,_,.cons n t h=> .cons ⟨t,rfl⟩ (fy h)
def oV(H:Hp):Prop:=∀b,H b=none\/∃o xs,H b=some (.frz o (.lst xs))
theorem oB{P:Program}{w:World}{K:Frag}{mg mb:Str->Option Value}{CX:bq}{k:Nat}{fa a:Addr}{fd:FuncData}{x:Str}{sp:Sp}{s₁:Shared}{vs:List Value}{ns:List Int}
  (KX:K.In s₁.heap)(hns:s₁.heap.Ns mainGlobals mg)(hb:s₁.heap.Ns builtinsNs mb)(hbb:∀x:Str,x≠"__name__"->mb x=bootBuiltins x)(hlim:s₁.heap.NoLimit)(hg:s₁.gens= #[])
  (ha:s₁.heap.get? a=some {cls:= .type "list",data:= .seq vs.toArray})(hi:IntsAre vs ns)(hl:ns.length<=sizeLine)(hr:Room k callerA)
  (F:∀base:Heap,K.In base->base.Ns mainGlobals mg->FnOk P w K mg base CX k fa fd [x] sp)(hbind:∀(s:Shared) (u:Value),BindsTo s fd ⟨[u],[]⟩ [(x,u)])
  (hsp:∀H:Hp,oV H->SqL K H a (ns.map V.int)->sp [.ref a] H (fun v _=>v= .bl true) fun _ _ _=>False)
  (hCX:∀H e s',CX [] H s₁ (fun _ _ _=>False) e s'->False):
  codeAny (model P w) callerA (.call (.ref fa) ⟨[.ref a],[]⟩) (fun r s'=>r= .ok (.ret (.bool true))/\OldK s₁.heap s'.heap/\s'.os=s₁.os/\AllBare s'.gens) s₁:=by
 have rv:=fy hi
 have lenV:=hi.length
 have core:∀H:Hp,oV H->SqL K H a (ns.map V.int)->HOk P w H s₁.heap->(∀b,H b≠none->b=a)->(H a≠none->K.lookup a=none)->
   codeAny (model P w) callerA (.call (.ref fa) ⟨[.ref a],[]⟩) (fun r s'=>r= .ok (.ret (.bool true))/\OldK s₁.heap s'.heap/\s'.os=s₁.os/\AllBare s'.gens) s₁:=by
  intro H hO hS hok hA hK
  have base_of:∀{b:Addr} {o:Obj},s₁.heap.get? b=some o->H b=none->(aJ s₁.heap H).get? b=some o:=fun e n=>ow e n
  have noA:∀{b:Addr} {o:Obj} {es:Array DictEntry} {ep:Nat},s₁.heap.get? b=some o->o.data= .dict es ep->H b=none:=fun{b o es ep} e d=>by
   cases q:H b with
   |none=>rfl
   |some u=>
    have e':b=a:=hA b (by rw[q];simp)
    subst e'
    rw[ha]at e;cases e
    have d':Data.seq vs.toArray _=Data.dict es ep:=d
    cases d'
  have nsK:∀{b:Addr} {m:Str->Option Value},s₁.heap.Ns b m->(aJ s₁.heap H).Ns b m:=fun{b m} ⟨o,es,ep,e,d,r⟩=>⟨o,es,ep,base_of e (noA e d),d,r⟩
  have hKb:K.In (aJ s₁.heap H):=fun b o e=>base_of (KX b o e) (by
   cases q:H b with
   |none=>rfl
   |some u=>
    have e':b=a:=hA b (by rw[q];simp)
    subst e'
    rw[hK (by rw[q];simp)]at e;cases e)
  have hM:Mod K mg (aJ s₁.heap H):=⟨hKb,nsK hns,⟨mb,nsK hb,hbb⟩,let⟨mc,h1,h2⟩:=hlim;⟨mc,nsK h1,h2⟩⟩
  have e0:Env0 P w K mg (aJ s₁.heap H) callerA [] s₁ H:=⟨rfl,hM,fun b o e=>sB e,Nat.le_of_eq (mj _ _),trivial,fun b hb=>absurd (show b∈([]:List Addr)from hb) (by simp),hok,.of_eq hg⟩
  refine codeAny_mono ((F _ hKb (nsK hns)).run callerA [] s₁ H ⟨[.ref a],[]⟩ [.ref a] [.ref a] _ _ hr e0 (hbind s₁ (.ref a)) (.cons rfl .nil) (hsp H hO hS)) fun r s' h=>?_
  cases r with
  |error e=>exact(hCX H e s' h).elim
  |ok fl=>
   cases fl with
   |next=>exact False.elim h
   |brk=>exact False.elim h
   |cont=>exact False.elim h
   |ret u=>
    obtain⟨v,H',os,bare,un,hok',r',q⟩:=h
    have q':v= .bl true:=q
    subst q'
    obtain rfl:u=Value.bool true:=r'
    refine⟨rfl,OldK.of_keep fun b o e=>?_,os,bare⟩
    cases q:H b with
    |none=>exact un.keep b o e q (by intro z;exact absurd (show b∈([]:List Addr)from z) (by simp)) (by simp)
    |some u=>
     rcases hO b with z|⟨ob,xs,z⟩
     ·rw[q]at z;cases z
     ·have z2:=un.frzs b ob _ z
      obtain⟨e1,_⟩:=hok b _ z
      obtain⟨e2,_⟩:=hok' b _ z2
      rw[e]at e1;cases e1
      exact e2
 cases hk:K.lookup a with
 |some o=>
  have e:=KX a o hk
  rw[ha]at e
  cases e
  refine core (fun _=>none) (fun _=> .inl rfl) (.inr ⟨_,vs.toArray,_,hk,rfl,rfl,rfl,by rw[List.size_toArray,lenV];exact hl,by simpa using rv⟩) (fun b u z=>by have z':(none:Option HO)=some u:=z;cases z') (fun b z=>absurd rfl z) fun z=>absurd rfl z
 |none=>
  refine core (fun b=>if b=a then some (.frz {cls:= .type "list",data:= .seq vs.toArray} (.lst (ns.map V.int)))else none) (fun b=>?_) (.inl (.inr ⟨{cls:= .type "list",data:= .seq vs.toArray},if_pos rfl⟩)) (fun b u z=>?_) (fun b z=>?_) fun _=>hk
  ·by_cases hb:b=a
   ·exact .inr ⟨_,_,if_pos hb⟩
   ·exact .inl (if_neg hb)
  ·by_cases hb:b=a
   ·have z':=(if_pos hb).symm.trans z
    cases z'
    subst hb
    exact⟨ha,by rw[List.length_map];exact hl,vs,_,rv,ha⟩
   ·have z':=(if_neg hb).symm.trans z
    cases z'
  ·by_cases hb:b=a
   ·exact hb
   ·exact absurd (if_neg hb) z
theorem sw{l:W.OpenLaw}{n k:Nat}{q:Program}{loose:List Str}{XP:(Str->Option Value)->Heap->Prop}{YP:World->Heap->Prop}{d:DefRec}{K:Params->Frag}{CX:World->bq}{sp:World->Sp}{x:Str}
  (hn:l.most=some n)(hn2:n<=sizeLine)(hdf:d.params.defaults=[])(hr:Room k callerA)
  (hY:∀(w:World) (h:Heap),YP w h->(K w.params).In h)
  (F:∀(w:World) (mg:Str->Option Value) (fa:Addr) (h:Heap),(K w.params).In h->h.Ns mainGlobals mg->mg d.name=some (.ref fa)->
   ∃fd:FuncData,(∀(s:Shared) (u:Value),BindsTo s fd ⟨[u],[]⟩ [(x,u)])/\
    ∀base:Heap,(K w.params).In base->base.Ns mainGlobals mg->FnOk l.prog w (K w.params) mg base (CX w) k fa fd [x] (sp w))
  (hsp:∀(w:World) (H:Hp) (a:Addr) (ns:List Int),ns.length<=n->oV H->SqL (K w.params) H a (ns.map V.int)->sp w [.ref a] H (fun v _=>v= .bl true) fun _ _ _=>False)
  (hCX:∀(w:World) (H:Hp) (s:Shared) (e:Value) (s':Shared),CX w [] H s (fun _ _ _=>False) e s'->False):
  W.WalkO q loose XP YP l.row.toRowW d [] (fun f vs=>PySem.call f vs):=by
 refine Att.attach_call hn hdf fun w s₀ s₁ mg mb fa o pm cd doc a vs ns G Y ho hd hcd hmg hobj hints hlen hg=>?_
 have KX:=hY w _ Y
 obtain⟨fd,hb,hF⟩:=F w mg fa _ KX G.T.g hmg
 exact oB KX G.T.g G.T.b G.T.builtins G.T.nolimit hg hobj hints (Nat.le_trans hlen hn2) hr hF hb (fun H hO hS=>hsp w H a ns hlen hO hS) fun H e s'=>hCX w H s₁ e s'
def zB(s:Stmt)(j:Nat):Stmt:=match s with
 | .ClassDef _ _ _ body _ _ _ _ _ _ _=>body.getD j (.Pass ⟨0,0,0,0⟩)
 |_=> .Pass ⟨0,0,0,0⟩
def Qa(s:Stmt):Arguments:=match s with
 | .FunctionDef _ a _ _ _ _ _ _ _ _=>a
 |_=>{posonlyargs:=[],args:=[],vararg:=none,kwonlyargs:=[],kw_defaults:=[],kwarg:=none,defaults:=[]}
def zA(s:Stmt):List Stmt:=match s with
 | .FunctionDef _ _ b _ _ _ _ _ _ _=>b
 |_=>[]
def ql(s:Stmt):Scope:=match s with
 | .FunctionDef _ _ _ _ _ _ sc _ _ _=>sc
 |_=>{kind:= .function,names:=[],isGenerator:=false,isCoroutine:=false}
abbrev ZF:bq:=fun _ _ _ _ _ _=>False
abbrev E0:XK:=fun _ _ _=>False
theorem gp{X:Cx}:bE ZF X E0:=fun _ _ _ _ _ _ _ h=>h.elim
structure Fun(K:Frag)(x qual:Str)(st:Stmt)(f:Addr)(fd:FuncData):Prop where
 ex:∃(oc:Value) (od:Option Addr) (kV doc pm:Value) (an:Option Addr) (cdv ct:Value) (osl:Array (Option Value)),
  fd=PySem.W.fnOf x qual (Qa st) (zA st) (ql st) .none kV doc pm an cdv ct/\K.lookup f=some ⟨oc,od,.func fd,osl⟩/\PySem.W.codeIn K cdv qual=true
 kp:PySem.W.keepIn K (.ref f)=true
section
variable{P:Program}{w:World}{K:Frag}{mg:Str->Option Value}{base:Heap}
theorem Fun.ok{x qual:Str}{st:Stmt}{f:Addr}{fd:FuncData}{N ps:List Str}{k:Nat}{sp:Sp}(F:Fun K x qual st f fd)(S:FnScope N ps (ql st))(len:∀vs H Q E,sp vs H Q E->vs.length=ps.length)
  (hbody:∀(cdv:Value) (A:Around) (outer:List Env) (s:Shared) (H:Hp) (vs:List V) (Q:VK) (E:XK),Room k (A.deeper (envOfC qual (ql st) s.heap.objs.size f cdv))->sp vs H Q E->
   ∃t,PSs (Z3 ZF P w K mg base N qual (ql st) f cdv A outer s H E).nox (zA st) t/\t {nx:=fun _ H'=>Q .non H',rt:=Q} (Qw N vs) H):FnOk P w K mg base ZF (k+1) f fd ps sp:=by
 obtain⟨oc,od,kV,doc,pm,an,cdv,ct,osl,rfl,lk,hcd⟩:=F.ex
 refine vV lk hcd S len fun A outer s H vs Q E hr hsp=>?_
 obtain⟨t,h,q⟩:=hbody cdv A outer s H vs Q E hr hsp
 exact⟨t,h.nox,q⟩
theorem Fun.binds{x qual:Str}{st:Stmt}{f:Addr}{fd:FuncData}{ps:List Str}(F:Fun K x qual st f fd)
  (h:∀(kV doc pm:Value) (an:Option Addr) (cdv ct:Value) (us:List Value),us.length=ps.length->bindArgs (W.fnOf x qual (Qa st) (zA st) (ql st) .none kV doc pm an cdv ct) ⟨us,[]⟩=pure (ps.zip us)):Binds K fd ps []:=by
 obtain⟨oc,od,kV,doc,pm,an,cdv,ct,osl,rfl,lk,hcd⟩:=F.ex
 exact .all (h kV doc pm an cdv ct)
theorem gz{x qual:Str}{st:Stmt}{f:Addr}{oc:Value}{od an:Option Addr}{osl:Array (Option Value)}{kV doc pm cdv ct:Value}(l:K.lookup f=some ⟨oc,od,.func (W.fnOf x qual (Qa st) (zA st) (ql st) .none kV doc pm an cdv ct),osl⟩)
  (c:W.codeIn K cdv qual=true)(k:W.keepIn K (.ref f)=true):Fun K x qual st f (W.fnOf x qual (Qa st) (zA st) (ql st) .none kV doc pm an cdv ct):=⟨⟨oc,od,kV,doc,pm,an,cdv,ct,osl,rfl,l,c⟩,k⟩
end
section
variable{X:Cx}
end
theorem zi{A B:Prop}(h:B):if false=true then A else B:=by
 rw[if_neg Bool.false_ne_true]
 exact h
theorem zq{A B:Prop}(h:A):if true=true then A else B:=by
 rw[if_pos rfl]
 exact h
theorem qX{c A B:Prop} [Decidable c](h1:c->A)(h2:¬c->B):if c then A else B:=by
 by_cases h:c
 ·rw[if_pos h]
  exact h1 h
 ·rw[if_neg h]
  exact h2 h
theorem Zl{c A B:Prop} [Decidable c](hc:c)(h:B):if(!decide c)=true then A else B:=by
 rw[decide_eq_true hc]
 exact zi h
def Same(H H':Hp):Prop:=∀b o,H b=some o->H' b=some o
theorem Same.refl(H:Hp):Same H H:=fun _ _ h=>h
theorem Same.trans{H H1 H2:Hp}(a:Same H H1)(b:Same H1 H2):Same H H2:=fun c o h=>b c o (a c o h)
theorem Same.seq{K:Frag}{H H':Hp}{a:Addr}{xs:List V}(e:Same H H')(h:SqL K H a xs):SqL K H' a xs:=by
 rcases h with(h|⟨o,h⟩)|h
 ·exact .inl (.inl (e _ _ h))
 ·exact .inl (.inr ⟨o,e _ _ h⟩)
 ·exact .inr h
end L2
namespace L3
open PySem PySem.Spec PyProof.Rows L2
def Zg(X:Cx)(N:List Str)(scope:Scope)(cl:List (Str×Addr))(C:Addr)(s:Shared)(H:Hp)(fp:List Addr):Cx:=
 {X with N:=N,s₀:=s,H₀:=H,env:=compEnvC scope cl C X.env,outer:=X.stack,ex:=fp,fn:=fun _=>false,pn:=[],xe:=fun _ _=>False}
structure BScope(X:Cx)(scope:Scope)(fr:List Str)(js:List Nat):Prop where
 kind:scope.kind= .function
 names:∀x∈scope.names,x.2= .local->scope.names.lookup x.1=some .local
 nocell:∀x∈scope.names,x.2≠ .cell
 free:∀x∈scope.names,x.2= .free->x.1∈fr
 len:js.length=fr.length
 at_:∀(i j:Nat) (y:Str),js[i]? =some j->fr[i]? =some y->X.N[j]? =some y/\X.env.kindOf y=some .cell/\(relabel scope X.env).names.lookup y=some .cell
theorem Qr{α:Type}{y:Str}:∀{l:List (Str×α)},y∈l.map (·.1)->∃c,l.lookup y=some c
 | [],h=>by simp at h
 |(n,a)::r,h=>by
  cases e:y==n with
  |true=>exact⟨a,by simp [List.lookup_cons,e]⟩
  |false=>
   have hr:y∈r.map (·.1):=by
    rcases List.mem_cons.mp h with z|z
    ·exact absurd z (by simpa using e)
    ·exact z
   obtain⟨c,hc⟩:=Qr hr
   exact⟨c,by simp [List.lookup_cons,e,hc]⟩
def σ0(k:Nat)(js:List Nat)(σ:L2.St):L2.St:=List.replicate k none++js.map fun j=>(σ[j]?).join
def cN(k:Nat)(js:List Nat)(g:TG)(te:TE)(σ:L2.St)(Q:VK)(J:It)(H1:Hp):Prop:=∃W:Nat->Nat->List V->L2.St->Hp->Prop,(∃m,W 0 m [] (σ0 k js σ) H1)/\∀i m ys τ H,W i m ys τ H->
 (J.stop i H/\∀p,H p=none->Q (.ref p) (upd H p (.lst ys)))\/(J.go i H/\ys.length<sizeLine/\∀x H',J.yld i H x H'->g x τ H' fun τ2 H2=>∃N:V->Hp->Prop,(∀v H3,N v H3->∃m',m'<m/\W (i+1) m' (ys++[v]) τ2 H3)/\te τ2 H2 N)
def cI(k:Nat)(js:List Nat)(wi:TI)(g:TG)(te:TE):TE:=fun σ H Q=>wi σ H (cN k js g te σ Q)
section
variable{prog:Program}{w:World}{A:Around}{R:Result->Shared->Prop}{s:Shared}
theorem iu{elt target iter:Expr}{scope:Scope}{pos:Pos}{it acc:Value}{env:Env}(I:Nat->Shared->Prop)
  (turn:∀n s,I n s->wpAny (model prog w) A (pyNext it) (fun r s₁=>match r with
   |none=>R (.ok .next) s₁
   | some v=>wpAny (model prog w) A (letOwnedTupleGo target it v) (fun _ s₁'=>wpAny (model prog w) A (assign target env v) (fun _ s₂=>wpAny (model prog w) A (eval elt env) (fun x s₃=>
     wpAny (model prog w) A (call (.builtin "list.append") [acc,x]) (fun _ s₄=>∃m,m<n/\I m s₄) (fun _ _=>False) s₃)
     (fun _ _=>False) s₂) (fun _ _=>False) s₁') (fun _ _=>False) s₁) (fun _ _=>False) s)
  (n:Nat)(h:I n s):
  codeAny (model prog w) A (.compLoop (.ListComp elt [⟨target,iter,[],0⟩] scope pos) 0 it acc env) R s:=by
 refine codeAny_loop rfl I (fun n s hI=>?_) n h
 show wpAny _ _ ((compTurn (.ListComp elt [⟨target,iter,[],0⟩] scope pos) 0 it acc env).onRaise (fun x=>do noteFrame x env;theTreesLotGoes x)) _ _ s
 refine wpAny_noted ?_
 rw[compTurn_list1]
 refine wpAny_bind (wpAny_standAt (wpAny_bind (wpAny_mono (turn n s hI) (fun r s₁ h₁=>?_) fun _ _ h'=>h'.elim)))
 cases r with
 |none=>exact wpAny_pure h₁
 |some v=>
  refine wpAny_bind (wpAny_mono h₁ (fun _ s₁' h₁'=>?_) fun _ _ h'=>h'.elim)
  exact wpAny_bind (wpAny_mono h₁' (fun _ s₂ h₂=>wpAny_bind (wpAny_bind (wpAny_mono h₂ (fun x s₃ h₃=>wpAny_bind (wpAny_mono h₃
   (fun _ s₄ h₄=>wpAny_pure (wpAny_pure ⟨rfl,h₄⟩)) fun _ _ h'=>h'.elim)) fun _ _ h'=>h'.elim))) fun _ _ h'=>h'.elim)
end
variable{X:Cx}
structure Away(X:Cx)(pins:List (Addr×Obj))(H:Hp)(C:Addr):Prop where
 free:H C=none
 loc:C≠X.env.locals
 new:X.s₀.heap.objs.size<=C
 cell:∀x c,X.env.cells.lookup x=some c->c≠C
 pin:∀p∈X.pn++pins,p.1≠C
theorem iK{elt tg iter:Expr}{scope:Scope}{cl:List (Str×Addr)}{pos fpos:Pos}{fr own:List Str}{js:List Nat}{wi:TI}{g:TG}{te:TE}{use:Option (Value->Sem Unit)}{Post:Value->Shared->Prop}
  {pins:List (Addr×Obj)}{s:Shared}{σ:L2.St}{H:Hp}{Q:VK}
  (hc:X.calm=true)(hi:PI X tg iter wi)(hclos:closureFor scope X.env=pure cl)(hcl:∀y c,cl.lookup y=some c->X.env.cells.lookup y=some c)(hfr:cl.map (·.1)=fr)
  (S:BScope X scope fr js)
  (hg:∀C s H fp,PG (Zg X (own++fr) scope cl C s H fp) tg g)(he:∀C s H fp,PE (Zg X (own++fr) scope cl C s H fp) elt te)
  (hs:∀x,foldedSetIterable iter X.env x=pure x)
  (I:L2.Inv X pins σ H s)(h:cI own.length js wi g te σ H Q)
  (hfin:∀(acc C:Addr) (s5:Shared) (H':Hp) (m:Str->Option Value),L2.Inv X pins σ H' s5->s5.heap.Ns C m->Away X pins H' C->Q (.ref acc) H'->compPost (model X.prog X.w) X.A X.xe use Post (.ref acc) C (.ok .next) s5):
  wpAny (model X.prog X.w) X.A (comprehension (.ListComp elt [⟨tg,iter,[],0⟩] scope pos) scope X.env fpos (newList []) false (eval iter X.env) use) Post X.xe s:=by
 refine wpAny_comprehension_free (use:=use) rfl hs hclos S.kind S.names (qD (hi pins s σ H _ I h) fun v s1 h1=>qD h1 fun itv s2 h2=>?_)
 obtain⟨it,fp,tn,J,H2,e,I2,T,st2,f2,W,⟨m0,w0⟩,turn⟩:=h2
 subst e
 refine wpAny_newObj_type (wpAny_newFunctionEnv S.nocell (by intro y hy;simp at hy) (fun h₁ hns₁ hsb₁=>?_) S.kind)
 dsimp only at hns₁ hsb₁⊢
 generalize hH2:s2.heap.push {cls:= .type "list",dict:=none,data:= .seq ([]:List Value).toArray}=G at hns₁ hsb₁⊢
 have hC:G.objs.size=s2.heap.objs.size+1:=by rw[<- hH2,Heap.size_push]
 have hDC:s2.heap.objs.size≠G.objs.size:=by rw[hC];exact Nat.ne_of_lt (Nat.lt_succ_self _)
 have below:∀b,b<s2.heap.objs.size->b≠G.objs.size/\b≠s2.heap.objs.size:=fun b hb=>⟨by rw[hC];exact Nat.ne_of_lt (Nat.lt_succ_of_lt hb),Nat.ne_of_lt hb⟩
 have old:∀b o,s2.heap.get? b=some o->h₁.get? b=some o:=fun b o e=>hsb₁.extBut b o (below b (Heap.lt_size e)).1 (Heap.get?_push_of_some _ (hH2▸Heap.get?_push_of_some _ e))
 have hacc:h₁.get? s2.heap.objs.size=some {cls:= .type "list",data:= .seq ([]:List Value).toArray 0}:=hsb₁.extBut _ _ hDC (Heap.get?_push_of_some _ (hH2▸Heap.get?_push_size _ rfl))
 let Y:Cx:=Zg X (own++fr) scope cl G.objs.size s2 H2 fp
 have fplt:∀b∈fp,b<s2.heap.objs.size:=fun b hb=>by obtain⟨o,e,_⟩:=T.obj _ _ st2 b hb;exact Heap.lt_size e
 have okY:Y.Ok:=by
  refine⟨I2.ok.mod,S.kind,I2.ok.glob,I2.ok.blt,by show s2.heap.objs.size<=G.objs.size;omega,?_,?_,?_,I2.ok.hd,I2.ok.frames,.inl rfl,?_,I2.bs,Nat.le_trans I2.ok.bsz I2.sz,?_,?_,I2.stack,I2.stkFree⟩
  ·exact fun x y c e1 e2=>I2.ok.inj x y c (hcl x c e1) (hcl y c e2)
  ·intro x hx
   have hx':(relabel scope X.env).names.lookup x=some .cell\/(relabel scope X.env).names.lookup x=some .free:=hx
   have hm:∃k,(x,k)∈scope.names/\k= .free:=by
    have aux:∀kk:NameKind,(kk= .cell\/kk= .free)->(relabel scope X.env).names.lookup x=some kk->∃k,(x,k)∈scope.names/\k= .free:=by
     intro kk hk el
     obtain⟨⟨n,k⟩,hmem,e⟩:=List.mem_map.mp (PySem.mem_of_lookup el)
     dsimp only at e
     split at e
     ·rename_i hcond
      cases e
      refine⟨k,hmem,?_⟩
      simp only[Bool.and_eq_true,beq_iff_eq]at hcond
      exact hcond.1.1
     ·cases e
      rcases hk with z|z
      ·subst z;exact absurd rfl (S.nocell _ hmem)
      ·exact⟨_,hmem,z⟩
    rcases hx' with z|z
    ·exact aux _ (.inl rfl) z
    ·exact aux _ (.inr rfl) z
   obtain⟨k,hmem,hk⟩:=hm
   exact Qr (l:=cl) (by rw[hfr];exact S.free _ hmem hk)
  ·exact fun x c e _=>nomatch e
  ·refine fun b hb=>⟨?_,fun x c e=>(f2 b hb).2.2.2.2.1 x c (hcl x c e)⟩
   show b≠G.objs.size
   exact(below b (fplt b hb)).1
  ·intro b o e hb
   rcases(f2 b hb).2.2.2.1 with z|z
   ·exact I2.ok.noex b o e z
   ·exact absurd (Nat.lt_of_lt_of_le (Heap.lt_size e) (Nat.le_trans I2.ok.bsz z)) (Nat.lt_irrefl _)
  ·intro b hb hf
   rcases List.mem_cons.mp (I2.stkSub b hf)with z|z
   ·exact(f2 b hb).2.1 z
   ·exact(f2 b hb).2.2.1 z
 have lenσ:(σ0 own.length js σ).length=(own++fr).length:=by unfold σ0;simp [S.len]
 have IY:Inv Y [] (σ0 own.length js σ) H2 {s2 with heap:=h₁,toks:=s2.toks+([]:List (Str×Value)).length}:=by
  refine⟨okY,rfl,I2.bare,Un.kept old,⟨_,hns₁,?_⟩,?_,?_,?_,fun p hp=>absurd (show p∈([]:List (Addr×Obj))from hp) (by simp),I2.hok.kept old,lenσ⟩
  ·intro i x v hN hv _
   have hN':(own++fr)[i]? =some x:=hN
   unfold σ0 at hv
   by_cases hlt:i<own.length
   ·rw[List.getElem?_append_left (by simpa using hlt),List.getElem?_replicate]at hv
    split at hv<;>cases hv
   ·rw[List.getElem?_append_right (by simpa using Nat.le_of_not_lt hlt),List.length_replicate,List.getElem?_map]at hv
    rw[List.getElem?_append_right (Nat.le_of_not_lt hlt)]at hN'
    cases ej:js[i-own.length]? with
    |none=>rw[ej]at hv;cases hv
    |some j=>
     rw[ej]at hv
     have hσ:σ[j]? =some (some v):=by
      have hv':(σ[j]?).join=some v:=Option.some.inj hv
      cases q:σ[j]? with
      |none=>rw[q]at hv';cases hv'
      |some o=>rw[q]at hv';have:o=some v:=hv';rw[this]
     obtain⟨hNj,hk,hkr⟩:=S.at_ _ j x ej hN'
     obtain⟨m,hn,hl⟩:=I2.loc
     obtain⟨u,ru,lk⟩:=hl j x v hNj hσ (.inr (.inl hk))
     refine⟨u,ru,.inr ?_⟩
     rcases lk with⟨k1,_⟩|⟨_,c,ec,ic⟩
     ·rw[hk]at k1;cases k1
     ·obtain⟨c',hc'⟩:=Qr (y:=x) (l:=cl) (by rw[hfr];exact List.mem_of_getElem? hN')
      have:c'=c:=by have:=hcl x c' hc';rw[ec]at this;exact(Option.some.inj this).symm
      subst this
      refine⟨?_,c',hc',?_⟩
      ·show(relabel scope X.env).names.lookup x=some .cell\/(relabel scope X.env).names.lookup x=some .free
       exact .inl hkr
      ·obtain⟨oc,hoc,hd⟩:=ic
       exact⟨oc,old _ _ hoc,hd⟩
  ·intro x c e
   obtain⟨v,oc,hoc,hd⟩:=I2.cell x c (hcl x c e)
   exact⟨v,oc,old _ _ hoc,hd⟩
  ·exact I2.hok.fresh (by show s2.heap.objs.size<=G.objs.size;omega)
  ·exact fun x c e=>I2.freeC x c (hcl x c e)
 have accfs:s2.heap.objs.size∉aN X.stack:=fun hf=>by
  rcases List.mem_cons.mp (I2.stkSub _ hf)with z|z
  ·exact absurd (by rw[<- z];exact Nat.le_refl _:s2.heap.objs.size<=X.env.locals) (Nat.not_le.mpr I2.lt)
  ·exact I2.nofs (Nat.le_refl _) z
 have acccell:∀x c,cl.lookup x=some c->c≠s2.heap.objs.size:=fun x c e z=>by
  obtain⟨v,oc,hoc,_⟩:=I2.cell x c (hcl x c e)
  exact absurd (Heap.lt_size hoc) (by rw[z];exact Nat.lt_irrefl _)
 have fpY:∀{H':Hp} {pl:List (Addr×Obj)},(∀b∈fp,H' b=none)->(∀p∈pl,p.1=s2.heap.objs.size)->∀b∈fp,Zd Y pl H' b:=fun{H' pl} hn hp b hb=>
  ⟨hn b hb,(below b (fplt b hb)).1,okY.exfs b hb,.inl hb,fun x c e=>(f2 b hb).2.2.2.2.1 x c (hcl x c e),fun p hpp=>by
   have hpp':p∈pl:=by simpa [Y,Zg]using hpp
   rw[hp p hpp'];exact Ne.symm (below b (fplt b hb)).2⟩
 have loop:∀s₃:Shared,Inv Y [] (σ0 own.length js σ) H2 s₃->tn 0 s₃.heap->s₃.heap.get? s2.heap.objs.size=some {cls:= .type "list",data:= .seq ([]:List Value).toArray 0}->
   codeAny (model X.prog X.w) X.A (.compLoop (.ListComp elt [⟨tg,iter,[],0⟩] scope pos) 0 (.ref it) (.ref s2.heap.objs.size) (compEnvC scope cl G.objs.size X.env))
    (compPost (model X.prog X.w) X.A X.xe use Post (.ref s2.heap.objs.size) G.objs.size) s₃:=by
  intro s₃ I3 st3 ha3
  refine iu (fun n s'=>∃i ys τ H' its k,Inv Y [(s2.heap.objs.size,{cls:= .type "list",data:= .seq its.toArray k})] τ H' s'/\tn i s'.heap/\(∀b∈fp,H' b=none)/\Vals ys its/\ys.length<=sizeLine/\W i n ys τ H') ?_ m0 ?_
  ·rintro n s4 ⟨i,ys,τ,H4,its,k,I4,st4,fr4,vl,hz,w4⟩
   have pin4:=I4.pin (s2.heap.objs.size,{cls:= .type "list",data:= .seq its.toArray k}) (by simp [Y,Zg])
   rcases turn i n ys τ H4 w4 with⟨stop,qn⟩|⟨go,hlt,step⟩
   ·refine qD (T.done Y rfl rfl rfl hc i _ s4 τ H4 _ I4 (fpY fr4 (by simp)) st4 stop) fun r s5 ⟨hr,I5⟩=>?_
    subst hr
    show compPost _ _ _ _ _ _ _ _ _
    obtain⟨m5,hn5,_⟩:=I5.loc
    have pin5:=I5.pin (s2.heap.objs.size,{cls:= .type "list",data:= .seq its.toArray k}) (by simp [Y,Zg])
    have nacc:H4 s2.heap.objs.size=none:=pin5.2.1
    have B:=I5.base
    have nC:H4 G.objs.size=none:=I5.free
    refine hfin s2.heap.objs.size G.objs.size s5 (upd H4 s2.heap.objs.size (.lst ys)) m5 ?_ hn5 ?_ (qn _ nacc)
    ·refine I2.call' (s':=s5) (ch:=fp) I5.os ⟨B.keep,B.slot,fun b o e n hx=>?_,B.there,fun b xs e=>?_,fun b o u e=>?_,fun b ps e=>?_⟩ ?_ I5.bare ?_
     ·rw[qh (below b (Heap.lt_size e)).2];exact B.free b o e n hx
     ·have e1:=B.tups b xs e
      rw[qh (qo e1 nacc)];exact e1
     ·have e1:=B.frzs b o u e
      rw[qh (qo e1 nacc)];exact e1
     ·obtain⟨more,e1⟩:=B.tbls b ps e
      exact⟨more,by rw[qh (qo e1 nacc)];exact e1⟩
     ·intro b u e
      by_cases hb:b=s2.heap.objs.size
      ·subst hb
       rw[qc]at e;cases e
       exact⟨hz,its,k,vl,pin5.1⟩
      ·rw[qh hb]at e
       exact(I5.hok b u e).stay (fun c v _ q=>q) (fun c q=>by rw[qh (qo q nacc)];exact q) fun c xs q=>by rw[qh (qo q nacc)];exact q
     ·exact fun b hb=>⟨(f2 b hb).2.2.2.1,(f2 b hb).2.1,(f2 b hb).2.2.2.2.1,(f2 b hb).2.2.2.2.2⟩
    ·have hge:s2.heap.objs.size<=G.objs.size:=by omega
     refine⟨by rw[qh (Ne.symm hDC)];exact nC,?_,Nat.le_trans I2.sz hge,fun x c e z=>?_,fun p hp z=>?_⟩
     ·exact Nat.ne_of_gt (Nat.lt_of_lt_of_le I2.lt hge)
     ·obtain⟨v,oc,hoc,_⟩:=I2.cell x c e
      exact absurd (Nat.lt_of_lt_of_le (Heap.lt_size hoc) hge) (by rw[z];exact Nat.lt_irrefl _)
     ·exact absurd (Nat.lt_of_lt_of_le (Heap.lt_size (I2.pin p hp).1) hge) (by rw[z];exact Nat.lt_irrefl _)
   ·refine qD (T.item Y rfl rfl rfl hc i _ s4 τ H4 _ I4 (fpY fr4 (by simp)) st4 go) fun r s5 ⟨u,hr,h5⟩=>?_
    subst hr
    refine qD h5 fun _ s6 ⟨x,H6,I6,r6,y6,st6,fr6⟩=>?_
    have I6':=I6.pinned (fpY fr6 (by simp)) (T.obj _ _ st6)
    refine qD (hg _ _ _ _ _ s6 τ H6 x u _ I6' r6 (step x H6 y6)) fun _ s7 ⟨τ7,H7,I7,N,hN,q7⟩=>?_
    refine qD (he _ _ _ _ _ s7 τ7 H7 _ I7 q7) fun v' s8 ⟨y,H8,I8,r8,n8⟩=>?_
    obtain⟨m',hm',w8⟩:=hN _ _ n8
    have pin8:=I8.pin (s2.heap.objs.size,{cls:= .type "list",data:= .seq its.toArray k}) (by simp [Zg])
    have pinfp:∀b∈fp,∀o,s6.heap.get? b=some o->s8.heap.get? b=some o/\H8 b=none:=fun b hb o e=>by
     have:=I8.pin (b,o) (List.mem_append_right _ (List.mem_append_right _ (aB hb e)))
     exact⟨this.1,this.2.1⟩
    refine wpAny_list_append_plain (items:=its.toArray) ⟨k,pin8.1⟩ (fun h' ha' hs'=>?_) (by have:=vl.length;simp;omega)
    obtain⟨k',ha'⟩:=ha'
    have I9:Inv Y [] τ7 H8 {s8 with heap:=h'}:=by
     refine(I8.pins_of (pins':=[]) (by simp)).turned (t':=s8.toks) (it:=s2.heap.objs.size) (fun b o hb e=>(hs'.2 b hb).trans e) pin8.2.1 ?_ (.inr (Nat.le_refl _)) (fun x c e=>acccell x c e) (fun p hp=>absurd (show p∈([]:List (Addr×Obj))from by simpa [Y,Zg]using hp) (by simp))
     exact hDC
    have ea:(its.toArray.push v')=(its++[v']).toArray:=by simp
    rw[ea]at ha'
    refine⟨m',hm',i+1,ys++[y],τ7,H8,its++[v'],k',I9.pins_of ?_,T.keep _ _ _ st6 fun b hb o e=>(hs'.2 b (below b (fplt b hb)).2).trans (pinfp b hb o e).1,fun b hb=>?_,vl.append (.cons r8 .nil),?_,w8⟩
    ·intro p hp
     rw[List.mem_singleton.mp hp]
     exact⟨ha',pin8.2.1,hDC,accfs,fun v z=>by cases z⟩
    ·obtain⟨o,e,_⟩:=T.obj _ _ st6 b hb
     exact(pinfp b hb o e).2
    ·rw[List.length_append,List.length_singleton];omega
  ·refine⟨0,[],σ0 own.length js σ,H2,[],0,I3.pins_of ?_,st3,fun b hb=>(f2 b hb).1,.nil,Nat.zero_le _,w0⟩
   intro p hp
   rw[List.mem_singleton.mp hp]
   exact⟨ha3,I2.hok.fresh (Nat.le_refl _),hDC,accfs,fun v z=>by cases z⟩
 have st1:tn 0 h₁:=T.keep _ _ _ st2 fun b _ o e=>old b o e
 exact codeAny_compStart_list (loop _ IY st1 hacc) (T.self _ 0 _ _ _ st1 (loop _ IY st1 hacc))
theorem sC{elt tg iter:Expr}{scope:Scope}{cl:List (Str×Addr)}{pos:Pos}{fr own:List Str}{js:List Nat}{wi:TI}{g:TG}{te:TE}
  (hc:X.calm=true)(hi:PI X tg iter wi)(hclos:closureFor scope X.env=pure cl)(hcl:∀y c,cl.lookup y=some c->X.env.cells.lookup y=some c)(hfr:cl.map (·.1)=fr)
  (S:BScope X scope fr js)
  (hg:∀C s H fp,PG (Zg X (own++fr) scope cl C s H fp) tg g)(he:∀C s H fp,PE (Zg X (own++fr) scope cl C s H fp) elt te)
  (hs:∀x,foldedSetIterable iter X.env x=pure x:=by intro _;rfl):
  PE X (.ListComp elt [⟨tg,iter,[],0⟩] scope pos) (cI own.length js wi g te):=by
 intro pins s σ H Q I h
 rw[eval_ListComp]
 refine iK (use:=none) hc hi hclos hcl hfr S hg he hs I h fun acc C s5 H' m I5 hn aw q=>?_
 exact⟨m,hn,fun h' hs'=>⟨.ref acc,H',I5.turned (t':=s5.toks) (fun b o hb e=>(hs'.2 b hb).trans e) aw.free aw.loc (.inr aw.new) aw.cell aw.pin,rfl,q⟩⟩
theorem sA{elt tg iter:Expr}{scope:Scope}{cl:List (Str×Addr)}{pos spos py:Pos}{fr own:List Str}{js:List Nat}{wi:TI}{g:TG}{te:TE}{i:Nat}{y:Str}
  (hN:X.N.Nodup)(hi':X.N[i]? =some y)(hx:ff X.env.scope y)
  (hc:X.calm=true)(hi:PI X tg iter wi)(hclos:closureFor scope X.env=pure cl)(hcl:∀y c,cl.lookup y=some c->X.env.cells.lookup y=some c)(hfr:cl.map (·.1)=fr)
  (S:BScope X scope fr js)
  (hg:∀C s H fp,PG (Zg X (own++fr) scope cl C s H fp) tg g)(he:∀C s H fp,PE (Zg X (own++fr) scope cl C s H fp) elt te)
  (hs:∀x,foldedSetIterable iter X.env x=pure x:=by intro _;rfl)(hsw:swapsWith (.ListComp elt [⟨tg,iter,[],0⟩] scope pos) (some (.Name y py)) spos.line X.env=pure true:=by rfl)
  (hf:X.fn y=true\/X.env.scope.names.lookup y=some .local:=by first|exact .inl rfl|exact .inr rfl|assumption):
  PS X (.Assign [.Name y py] (.ListComp elt [⟨tg,iter,[],0⟩] scope pos) spos) (eC (cI own.length js wi g te) (Qe i)):=by
 intro pins s σ H D I h
 rw[exec_Assign_Name_used _ _ _ _ hsw]
 refine wpAny_bind (wpAny_standAt (wpAny_bind ?_))
 show wpAny _ X.A (do let _ <- comprehension (.ListComp elt [⟨tg,iter,[],0⟩] scope pos) scope X.env _ (newList []) false (eval iter X.env) (some (assign (.Name y py) X.env))) _ _ s
 refine wpAny_bind (wpAny_mono (iK (use:=some (assign (.Name y py) X.env)) (Post:=fun _ s'=>SP X pins D .next s') hc hi hclos hcl hfr S hg he hs I h ?_) (fun _ s' hq=>wpAny_pure (wpAny_pure hq)) fun _ _ e=>e)
 intro acc C s5 H' m I5 hn aw q
 show wpAny _ X.A (assign (.Name y py) X.env (.ref acc)) _ _ _
 refine wpAny_assign_Name (fq (v:= .ref acc) I5 hN hi' hx rfl (fun s6 I6 ⟨a,hs6,ha⟩=>?_) hf)
 have hCa:C≠a:=by
  rcases ha with z|z
  ·rw[z];exact aw.loc
  ·exact Ne.symm (aw.cell _ _ z)
 refine⟨m,hn.sameBut hs6 hCa,fun h' hs'=>?_⟩
 exact⟨_,H',I6.turned (t':=s6.toks) (fun b o hb e=>(hs'.2 b hb).trans e) aw.free aw.loc (.inr aw.new) aw.cell aw.pin,q⟩
section
variable{js:List Nat}{te:TE}{σ:L2.St}{H:Hp}{Q:VK}{K:Frag}
abbrev Qu(js:List Nat)(σ:L2.St):L2.St:=js.map fun j=>(σ[j]?).join
abbrev db(J:It)(js:List Nat)(te:TE)(σ:L2.St)(H1:Hp)(Q:VK):Prop:=cN 1 js (Qe 0) te σ Q J H1
theorem au{J:It}{n:Nat}(hn:n<=sizeLine)(item:Nat->V->Prop)(Pv:Nat->List V->Hp->Prop)(h0:Pv 0 [] H)(hgo:∀i ys H,i<n->Pv i ys H->J.go i H)(hst:∀ys H,Pv n ys H->J.stop n H)
  (hy:∀i ys H x H',i<n->Pv i ys H->J.yld i H x H'->H'=H/\item i x)
  (hs:∀i ys H x,i<n->ys.length=i->Pv i ys H->item i x->te (some x::Qu js σ) H fun v H3=>Pv (i+1) (ys++[v]) H3)
  (hd:∀ys H,ys.length=n->Pv n ys H->∀p,H p=none->Q (.ref p) (upd H p (.lst ys))):db J js te σ H Q:=by
 refine⟨fun i m ys τ H=>m=n-i/\i<=n/\ys.length=i/\Pv i ys H/\∃o,τ=o::Qu js σ,⟨n,by simp,Nat.zero_le _,rfl,h0,none,rfl⟩,?_⟩
 rintro i m ys τ H ⟨rfl,hi,hl,p,o,rfl⟩
 by_cases hlt:i<n
 ·refine .inr ⟨hgo i ys H hlt p,by omega,fun x H' y=>?_⟩
  obtain⟨e,hx⟩:=hy i ys H x H' hlt p y
  subst e
  exact⟨fun v H3=>Pv (i+1) (ys++[v]) H3,fun v H3 p3=>⟨n-(i+1),by omega,rfl,hlt,by simp [hl],p3,_,rfl⟩,hs i ys _ x hlt hl p hx⟩
 ·have e:i=n:=by omega
  subst e
  exact .inl ⟨hst ys H p,hd ys H hl p⟩
theorem bu{a:Addr}{xs:List V}(hn:xs.length<=sizeLine)(Pv:Nat->List V->Hp->Prop)(h0:Pv 0 [] H)(hl:∀i ys H,Pv i ys H->SqL K H a xs)
  (hs:∀i ys H x,xs[i]? =some x->ys.length=i->Pv i ys H->te (some x::Qu js σ) H fun v H3=>Pv (i+1) (ys++[v]) H3)
  (hd:∀ys H,ys.length=xs.length->Pv xs.length ys H->∀p,H p=none->Q (.ref p) (upd H p (.lst ys))):db (fh K a) js te σ H Q:=
 au hn (fun i x=>xs[i]? =some x) Pv h0 (fun i ys H hi p=>⟨xs,xs[i],hl _ _ _ p,by simp [hi]⟩) (fun ys H p=>⟨xs,hl _ _ _ p,Nat.le_refl _⟩) (fun i ys H x H' _ p y=>⟨y.1,y.2 xs (hl _ _ _ p)⟩) (fun i ys H x _ hl p hx=>hs i ys H x hx hl p) hd
theorem cr{a:Addr}{xs:List V}(hn:xs.length<=sizeLine)(Pv:Nat->List V->Hp->Prop)(h0:Pv 0 [] H)(hl:∀i ys H,Pv i ys H->SqT K H a xs)
  (hs:∀i ys H x,xs[i]? =some x->ys.length=i->Pv i ys H->te (some x::Qu js σ) H fun v H3=>Pv (i+1) (ys++[v]) H3)
  (hd:∀ys H,ys.length=xs.length->Pv xs.length ys H->∀p,H p=none->Q (.ref p) (upd H p (.lst ys))):db (cM K a) js te σ H Q:=
 au hn (fun i x=>xs[i]? =some x) Pv h0 (fun i ys H hi p=>⟨xs,xs[i],hl _ _ _ p,by simp [hi]⟩) (fun ys H p=>⟨xs,hl _ _ _ p,Nat.le_refl _⟩) (fun i ys H x H' _ p y=>⟨y.1,y.2 xs (hl _ _ _ p)⟩) (fun i ys H x _ hl p hx=>hs i ys H x hx hl p) hd
theorem Zi{lo:Int}{n:Nat}(hn:n<=sizeLine)(Pv:Nat->List V->Hp->Prop)(h0:Pv 0 [] H)
  (hs:∀i ys H,i<n->ys.length=i->Pv i ys H->te (some (.int (lo+i))::Qu js σ) H fun v H3=>Pv (i+1) (ys++[v]) H3)
  (hd:∀ys H,ys.length=n->Pv n ys H->∀p,H p=none->Q (.ref p) (upd H p (.lst ys))):db (fQ lo n) js te σ H Q:=
 au hn (fun i x=>x= .int (lo+i)) Pv h0 (fun i ys H hi p=>hi) (fun ys H p=>Nat.le_refl _) (fun i ys H x H' _ p y=>y) (fun i ys H x hi hl p hx=>by subst hx;exact hs i ys H hi hl p) hd
end
end L3
namespace L3
open PySem PySem.Spec PyProof.Rows L2
section
variable{X:Cx}{pins:List (Addr×Obj)}{σ:L2.St}{H:Hp}{s:Shared}
theorem bS{h':Heap}{t':Nat}{ch:List Addr}{a:Addr}{xs:List V}{its:List Value}(I:L2.Inv X pins σ H s)(k:∀b o,b∉ch->s.heap.get? b=some o->h'.get? b=some o)(hch:∀b∈ch,Zd X pins H b)
  (ho:∀b∈ch,∃o,h'.get? b=some o)(ha:s.heap.objs.size<=a)(hz:xs.length<=sizeLine)(hv:Vals xs its)(ht:IsTup h' a its.toArray):L2.Inv X pins σ (upd H a (.tup xs)) {s with heap:=h',toks:=t'}:=by
 have na:H a=none:=I.hok.fresh ha
 have nlt:∀b o,s.heap.get? b=some o->b≠a:=fun b o e=>Nat.ne_of_lt (Nat.lt_of_lt_of_le (Heap.lt_size e) ha)
 have nch:∀b u,H b=some u->b∉ch:=fun b u e z=>by rw[(hch b z).1]at e;cases e
 refine I.step (g':=s.gens) (d':=s.drawn) (ch:=ch) (fun b hb=>⟨(hch b hb).2.2.2.1,(hch b hb).2.1,(hch b hb).2.2.2.2.1,(hch b hb).2.2.2.2.2⟩) (fun b o _ _ hc e _=>k b o hc e) (fun b o _ _ hc e _=>⟨o.slots,k b o hc e⟩)
  (fun b o _ e n=>by rw[qh (nlt b o e)];exact n) (fun b o hc e=>⟨o,k b o hc e⟩) (fun b ys e=>by rw[qh (qo e na)];exact e) (fun b o u e=>by rw[qh (qo e na)];exact e)
  (fun b ps e=>⟨#[],by rw[qh (qo e na),e];simp⟩) (fun m hm=>?_) (fun b u e=>?_) I.bare
 ·obtain⟨o,es,ep,ho,r⟩:=hm
  exact⟨o,es,ep,k _ o (fun z=>(hch _ z).2.1 rfl) ho,r⟩
 ·by_cases hb:b=a
  ·subst hb
   rw[qc]at e;cases e
   exact⟨hz,its,hv,ht⟩
  ·rw[qh hb]at e
   refine(I.hok b u e).stay (fun c v hc q=>k c v ?_ q) (fun c q=>by rw[qh (qo q na)];exact q) fun c ys q=>by rw[qh (qo q na)];exact q
   rcases hc with z|z
   ·rw[z];exact nch b u e
   ·exact nch c _ z
def jq(K:Frag)(a:Addr):It:=
 ⟨fun i H=>∃xs x,SqL K H a xs/\xs[i]? =some x,fun i H x H'=>∃p v,H p=none/\x= .ref p/\(∀xs,SqL K H a xs->xs[i]? =some v)/\H'=upd H p (.tup [.int i,v]),fun i H=>∃xs,SqL K H a xs/\xs.length<=i⟩
theorem e8{P:Program}{w:World}{K:Frag}{elts:List Expr}{x1}{pos:Pos}(a e it:Addr)(hei:e≠it):
  Turn P w K (.Tuple elts x1 pos) (jq K a) [e,it] e (fun i h=>(∃old,IsEnum h e it i old)/\h.IsListIter it a i) where
 mem:=by simp
 obj:=fun i h st b hb=>by
  obtain⟨⟨old,he⟩,⟨o,ho,hc,hd⟩⟩:=st
  rcases List.mem_cons.mp hb with z|z
  ·subst z
   refine⟨_,he,fun v z=>?_⟩
   have z':Data.fields _=Data.cell v:=z
   cases z'
  ·rw[List.mem_singleton.mp z]
   exact⟨o,ho,fun v z=>by rw[hd]at z;cases z⟩
 keep:=fun i h h' st k=>⟨let⟨old,he⟩:=st.1;⟨old,k e (by simp) _ he⟩,st.2.at fun o q=>k it (by simp) o q⟩
 item:=by
  intro X hP hw hK hc i pins s σ H E I hf st hg
  subst hP hw hK
  obtain⟨xs,x,hq,hx⟩:=hg
  obtain⟨its,rv,p,hz⟩:=I.list hq
  obtain⟨u,hu,ru⟩:=rv.get hx
  obtain⟨⟨old,he⟩,hit⟩:=st
  refine wpAny_pyNext_enum_item he hit p.isList (x:=u) (by simpa using hu) hei fun h' ho hit' ht hsz hk=>⟨_,rfl,?_⟩
  refine wpAny_letOwnedTupleGo_enum ho fun h'' he'' hs''=>?_
  have helt:e<s.heap.objs.size:=Heap.lt_size he
  have hilt:it<s.heap.objs.size:=by obtain⟨_,y,_⟩:=hit;exact Heap.lt_size y
  refine⟨.ref s.heap.objs.size,upd H s.heap.objs.size (.tup [.int i,x]),?_,rfl,⟨_,x,I.hok.fresh (Nat.le_refl _),rfl,fun ys hy=>by rw[I.list_inj hy hq];exact hx,rfl⟩,⟨⟨_,by simpa using he''⟩,?_⟩,?_⟩
  ·show L2.Inv X pins σ _ {s with heap:=h'',toks:=s.toks+1}
   refine bS (s:=s) (its:=[.int i s.toks,u]) I (ch:=[e,it]) (fun b o hb q=>?_) hf (fun b hb=>?_) (Nat.le_refl _) (by show 2<=sizeLine;decide) (.cons ⟨_,rfl⟩ (.cons ru .nil)) ?_
   ·have hb1:b≠e:=fun z=>hb (by simp [z])
    have hb2:b≠it:=fun z=>hb (by simp [z])
    exact(hs''.2 b hb1).trans (hk b o hb1 hb2 q)
   ·rcases List.mem_cons.mp hb with z|z
    ·subst z;exact⟨_,he''⟩
    ·rw[List.mem_singleton.mp z]
     obtain⟨o,y,_⟩:=hit'
     exact⟨o,(hs''.2 it (Ne.symm hei)).trans y⟩
   ·exact⟨_,(hs''.2 _ (Nat.ne_of_gt helt)).trans ht,rfl,_,rfl⟩
  ·exact hit'.extBut hs''.extBut (Ne.symm hei)
  ·intro b hb
   rw[qh]
   ·exact(hf b hb).1
   ·rcases List.mem_cons.mp hb with z|z
    ·subst z;exact Nat.ne_of_lt helt
    ·rw[List.mem_singleton.mp z];exact Nat.ne_of_lt hilt
 done:=by
  intro X hP hw hK hc i pins s σ H E I hf st hg
  subst hP hw hK
  obtain⟨xs,hq,hx⟩:=hg
  obtain⟨its,rv,p,hz⟩:=I.list hq
  obtain⟨⟨old,he⟩,hit⟩:=st
  obtain⟨f0,f1,f2,f3,f4,f5⟩:=hf it (by simp)
  have hl:=rv.length
  exact wpAny_pyNext_enum_end (I.ok.hd hc) he hit p.isList (by simp;omega) fun h' eb=>⟨rfl,I.turned (t':=s.toks) (fun b o hb e=>eb b o hb e) f0 f1 f3 f4 f5⟩
 self:=fun _ _ _ _ _ st h=>by
  obtain⟨⟨old,he⟩,_⟩:=st
  exact wpAny_pyIter_enum he h
def pV(K:Frag)(ta:TA):TI:=fun σ H R=>ta σ H fun vs H1=>∃a,vs=[.ref a]/\(∃xs,SqL K H1 a xs)/\R (jq K a) H1
theorem rM{a:Expr}{ta:TA}{p pos:Pos}{elts:List Expr}{x1}{tpos:Pos}(hg:Gl X "enumerate")(hm:X.mg "enumerate"=none)(ha:PA X [a] ta)(hs:starEach [a] X.env=[(false,eval a X.env)]:=by rfl):
  PI X (.Tuple elts x1 tpos) (.Call (.Name "enumerate" p) [a] [] pos) (pV X.K ta):=by
 intro pins s σ H R I h
 refine Call_ (Qs I hg hm boot_enumerate (PyProof.Rows.callWith_type1 (qD (ha pos pins s σ H _ I h) fun us s1 ⟨vs,H1,I1,r1,q1⟩=>?_) hs rfl))
 obtain⟨l,e,⟨xs,hq⟩,q⟩:=q1
 subst e
 obtain⟨u,rfl,ru⟩:=r1.one
 cases ru
 obtain⟨its,rv,pl,hz⟩:=I1.list hq
 refine call_enumerate_list pl.isList fun h' he hit hsz hk=>wpAny_pyIter_enum he ?_
 have I2:L2.Inv X pins σ H1 {s1 with heap:=h'}:=I1.kept (t':=s1.toks) hk
 refine⟨s1.heap.objs.size+1,[s1.heap.objs.size+1,s1.heap.objs.size],_,_,H1,rfl,I2,e8 l _ _ (Nat.ne_of_gt (Nat.lt_succ_self _)),⟨⟨_,he⟩,hit⟩,fun b hb=>?_,q⟩
 have hb':s1.heap.objs.size<=b:=by
  rcases List.mem_cons.mp hb with z|z
  ·rw[z];exact Nat.le_succ _
  ·rw[List.mem_singleton.mp z];exact Nat.le_refl _
 exact I1.fpOk hb' (I1.hok.fresh hb')
theorem gS{K:Frag}{a:Addr}{xs:List V}{g:TG}{tb:TS}{D:Ends}{σ:L2.St}{H:Hp}(Pv:Nat->L2.St->Hp->Prop)(h0:Pv 0 σ H)(hl:∀i σ H,i<=xs.length->Pv i σ H->SqL K H a xs)
  (hs:∀i x σ H p,xs[i]? =some x->Pv i σ H->H p=none->g (.ref p) σ (upd H p (.tup [.int i,x])) fun σ2 H2=>tb {D with nx:=Pv (i+1),ct:=Pv (i+1),bk:=D.nx} σ2 H2)(hd:∀σ H,Pv xs.length σ H->D.nx σ H):
  ∃W:Nat->Nat->L2.St->Hp->Prop,(∃m,W 0 m σ H)/\∀i m σ H,W i m σ H->
   ((jq K a).stop i H/\D.nx σ H)\/((jq K a).go i H/\∃N:L2.St->Hp->Prop,(∀σ' H',N σ' H'->∃m',m'<m/\W (i+1) m' σ' H')/\∀x H',(jq K a).yld i H x H'->g x σ H' fun σ2 H2=>tb {D with nx:=N,ct:=N,bk:=D.nx} σ2 H2):=by
 refine⟨fun i m σ H=>m=xs.length-i/\i<=xs.length/\Pv i σ H,⟨xs.length,by simp,Nat.zero_le _,h0⟩,?_⟩
 rintro i m σ H ⟨rfl,hi,p⟩
 have q:=hl i σ H hi p
 by_cases hlt:i<xs.length
 ·refine .inr ⟨⟨xs,xs[i],q,by simp [hlt]⟩,Pv (i+1),fun σ' H' p'=>⟨xs.length-(i+1),by omega,rfl,hlt,p'⟩,fun x H' y=>?_⟩
  obtain⟨pp,v,hp,rfl,hv,rfl⟩:=y
  exact hs i v σ H pp (hv xs q) p hp
 ·have e:i=xs.length:=by omega
  subst e
  exact .inl ⟨⟨xs,q,Nat.le_refl _⟩,hd σ H p⟩
end
def zk(t c:String):Bool:=t==c||(t=="bool"&&c=="int")
abbrev eI:List String:=["NoneType","bool","int","str","list","tuple"]
abbrev dn:List String:=["bool","int","str","list","tuple"]
theorem eR(K:Frag):∀t∈eI,∀c∈dn,W.kitOne K (.type t) (.type c)=some (zk t c):=by
 intro t ht c hc
 simp only[eI,dn,List.mem_cons,List.not_mem_nil,or_false]at ht hc
 rcases ht with rfl|rfl|rfl|rfl|rfl|rfl<;>rcases hc with rfl|rfl|rfl|rfl|rfl<;>kernel_rfl
section
variable{X:Cx}
theorem gM:qY X (.builtin "isinstance") (fun xs H Q=>∃x c t,xs=[x,.ty c]/\TyOf X.K H x (.type t)/\t∈eI/\c∈dn/\Q (.bl (zk t c)) H):=by
 intro pins s σ H xs us Q I r h
 obtain⟨x,c,t,rfl,ty,ht,hc,q⟩:=h
 obtain⟨u,v,rfl,ru,rv⟩:=bJ r
 cases(show v=Value.type c from rv)
 exact mO I ru ty (eR X.K t ht c hc) fun tk=>⟨.bl _,H,I.tok tk,rfl,q⟩
theorem cw:∀{bs:List Bool} {us:List Value},Vals (bs.map V.bl) us->us=bs.map Value.bool
 | [],_,.nil=>rfl
 |b::bs,_,.cons r t=>by
  cases(show _=Value.bool b from r)
  rw[cw t];rfl
theorem kG(bs:List Bool):((List.range bs.length).all fun i=>(bs[i]?).getD true)=bs.all id:=by
 rw[Bool.eq_iff_iff,List.all_eq_true,List.all_eq_true]
 constructor
 ·intro h b hb
  obtain⟨i,hi,e⟩:=List.mem_iff_getElem.mp hb
  have:=h i (List.mem_range.mpr hi)
  rw[List.getElem?_eq_getElem hi,Option.getD_some,e]at this
  exact this
 ·intro h i hi
  have hi':=List.mem_range.mp hi
  rw[List.getElem?_eq_getElem hi',Option.getD_some]
  exact h _ (List.getElem_mem hi')
theorem ZJ(hc:X.calm=true):qY X (.builtin "all") (fun xs H Q=>∃(p:Addr) (bs:List Bool),xs=[.ref p]/\SqL X.K H p (bs.map V.bl)/\Q (.bl (bs.all id)) H):=by
 intro pins s σ H xs us Q I r h
 obtain⟨p,bs,rfl,hq,q⟩:=h
 obtain⟨u,rfl,ru⟩:=zO r
 cases ru
 obtain⟨its,rv,pl,hz⟩:=I.list hq
 have e:=cw rv
 have hl:=pl.isList
 have hlt:p<s.heap.objs.size:=by obtain⟨_,e,_⟩:=hl;exact Heap.lt_size e
 refine call_all_walk (wpAny_pyIter_list hl ?_)
 refine⟨s.heap.objs.size,[s.heap.objs.size,p],[s.heap.objs.size],its.toArray.size,_,_,fun i=>(bs[i]?).getD true,rfl,Walks.list (A:=X.A.in1) (I.ok.hd hc) _ p (Nat.ne_of_lt hlt) its.toArray,
  ⟨⟨_,Heap.get?_push_size _ rfl,rfl,rfl⟩,hl.push _⟩,fun i v s' Q' E' hP hQ=>?_,fun h' tk hk=>?_⟩
 ·have hP':its[i]? =some v:=by simpa using hP
  rw[e,List.getElem?_map]at hP'
  cases eb:bs[i]? with
  |none=>rw[eb]at hP';cases hP'
  |some b=>
   rw[eb]at hP'
   cases(Option.some.inj hP':Value.bool b=v)
   simp only[eb,Option.getD_some]at hQ
   exact wpAny_truthy_bool hQ
 ·have e2:((List.range its.toArray.size).all fun i=>(bs[i]?).getD true)=bs.all id:=by
   rw[List.size_toArray,e,List.length_map];exact kG bs
  rw[e2]
  refine⟨.bl _,H,I.kept (h':=h') (t':=tk) fun b o q=>hk b o (fun hm=>?_) (Heap.get?_push_of_some _ q),rfl,q⟩
  rw[List.mem_singleton.mp hm]at q
  exact Nat.lt_irrefl _ (Heap.lt_size q)
theorem e9:qY X (.type "range") (fun xs H Q=>∃j:Int,xs=[.int j]/\∀p,H p=none->Q (.ref p) (upd H p (.rng 0 j))):=by
 intro pins s σ H xs us Q I r h
 obtain⟨j,rfl,q⟩:=h
 obtain⟨u,rfl,ru⟩:=zO r
 obtain⟨t,rfl⟩:=ru
 refine call_range_1 ⟨.ref s.heap.objs.size,_,I.laid (o:= .rng 0 j) (fun b o e=>Heap.get?_push_of_some _ e) (Nat.le_refl _) ⟨_,_,_,Heap.get?_push_size _ rfl⟩,rfl,q _ (I.hok.fresh (Nat.le_refl _))⟩
theorem j8(hc:X.calm=true):qY X (.type "list") (fun xs H Q=>∃(p:Addr) (j:Nat),xs=[.ref p]/\H p=some (.rng 0 (j:Int))/\j<=2 ^ 24/\∀l,H l=none->Q (.ref l) (upd H l (.lst ((List.range j).map fun i=>V.int (i:Nat))))):=by
 intro pins s σ H xs us Q I r h
 obtain⟨p,j,rfl,hp,hj,q⟩:=h
 obtain⟨u,rfl,ru⟩:=zO r
 cases ru
 obtain⟨t,u,v,e⟩:=I.hok p _ hp
 refine call_list_range (n:=j) (I.ok.hd hc) (show IsRange s.heap p 0 (j:Int) 1 t u v from e) (small_one (by omega) (by omega) (by omega) (by omega)) (by rw[rangeSize_one];split<;>omega) hj fun h' tk acc' c' hk hS' hacc=>?_
 refine⟨.ref s.heap.objs.size,_,I.laid (h':=h') (t':=tk) hk (Nat.le_refl _) ?_,rfl,q _ (I.hok.fresh (Nat.le_refl _))⟩
 have aux:∀(us:List Value) (n k:Nat),us.length=n->(∀i v,us[i]? =some v->∃t,v=Value.int ((k+i:Nat):Int) t)->Vals ((List.range' k n).map fun i=>V.int (i:Nat)) us:=by
  intro us
  induction us with
  |nil=>intro n k hn _;cases hn;exact .nil
  |cons u us ih=>
   intro n k hn hv
   cases n with
   |zero=>cases hn
   |succ n=>
    rw[List.range'_succ,List.map_cons]
    obtain⟨t,ht⟩:=hv 0 u rfl
    refine .cons ⟨t,by simpa using ht⟩ (ih n (k+1) (by simpa using hn) fun i v hi=>?_)
    obtain⟨t,ht⟩:=hv (i+1) v hi
    exact⟨t,by rw[ht];congr 1;omega⟩
 have vals:Vals ((List.range j).map fun i=>V.int (i:Nat)) acc'.toList:=by
  rw[List.range_eq_range']
  refine aux _ _ 0 (by rw[Array.length_toList];exact hacc.1) fun i v hi=>?_
  obtain⟨t,ht⟩:=hacc.2 i v (by rw[<- Array.getElem?_toList];exact hi)
  exact⟨t,by rw[ht];congr 1;omega⟩
 exact⟨by simp only[List.length_map,List.length_range];exact Nat.le_trans hj (by rw[sizeLine_eq];decide),acc'.toList,c',vals,hS'⟩
def wo:V->Option Int->Option Int->Hp->VK->Prop:=fun x lo hi H Q=>∃a xs,x= .ref a/\H a=some (.tup xs)/\∀p H',Same H H'->H' p=some (.tup (Q5 xs lo hi))->(p=a\/H p=none)->Q (.ref p) H'
theorem aT{prog:Program}{w:World}{A:Around}{E:Value->Shared->Prop}{s:Shared}{t sl:Addr}{items:Array Value}{vl vu:Value}{lo hi:Option Int}{Q:Value->Shared->Prop}(ht:IsTup s.heap t items)(hs:s.heap.IsSliceOf sl vl vu .none)(pl:IsPart vl lo)(pu:IsPart vu hi)
  (hw:HT.sIx items.size 0 lo=0/\HT.sIx items.size items.size hi=items.size)(h:Q (.ref t) s):wpAny (model prog w) A (getItem (.ref t) (.ref sl)) Q E s:=by
 obtain⟨os,hos,hcs,hds⟩:=id hs
 have hTs:s.TypeIs (.ref sl) "slice":=⟨os,hos,hcs⟩
 unfold getItem
 try with_reducible refine wpAny_holding ?_
 first|refine wpAny_bind (wpAny_pure ?_)|skip
 refine wpAny_bind (wpAny_sequenceKey ht.typeIs (by decide) ?_)
 refine wpAny_bind (wpAny_callSpecial?_slot (name:=Str.ofString "__getitem__") ht.typeIs PyProof.Rows.slot_tuple_getitem
  (wpAny_call_entry PyProof.Rows.slot_tuple_getitem ht.typeIs entry_tuple_getitem ?_ (args_tuple_getitem _ _)))
 show wpAny _ _ (Builtin.Tuple.tupleItemsOf (.ref t) >>= _) _ _ s
 refine wpAny_bind (tupleItemsOf_ ht ?_)
 refine wpAny_bind (wpAny_typeOf hTs ?_)
 rw[if_pos (by decide)]
 refine wpAny_bind (HT.sliceApplied_gen hs pl pu ?_)
 show wpAny _ _ (if(((HT.sIx items.size 0 lo:Nat):Int)==0&&(1:Int)==1&&(HT.sIx items.size items.size hi-HT.sIx items.size 0 lo)==items.size)=true then _ else _) _ _ s
 rw[hw.1,hw.2,if_pos (by simp)]
 refine wpAny_bind (m:=Builtin.Tuple.tupleIsExact _) ?_
 unfold Builtin.Tuple.tupleIsExact
 refine wpAny_bind (wpAny_typeOf ht.typeIs (wpAny_pure ?_))
 rw[if_pos (by rfl)]
 exact wpAny_bind (wpAny_rule (wpAny_pure ⟨_,rfl,wpAny_pure h⟩))
theorem bO:lY X wo:=by
 intro pins s σ H x v vl vu lo hi sl Q I rx hs pl pu h
 obtain⟨a,xs,rfl,hx,q⟩:=h
 by_cases hw:HT.sIx xs.length 0 lo=0/\HT.sIx xs.length xs.length hi=xs.length
 ·cases rx
  obtain⟨its,r,ht,hz⟩:=I.tuple (SqT.of hx)
  have hlen:its.toArray.size=xs.length:=by rw[List.size_toArray];exact r.length.symm
  refine⟨"tuple",_,PyProof.Rows.slot_tuple_getitem.lookup,ht.typeIs,?_⟩
  refine aT ht hs pl pu (by rw[hlen];exact hw) ⟨.ref a,H,I,rfl,q a H (Same.refl H) ?_ (.inl rfl)⟩
  have:Q5 xs lo hi=xs:=by unfold Q5;rw[hw.1,hw.2];simp
  rw[this];exact hx
 ·exact vt pins s σ H _ v vl vu lo hi sl Q I rx hs pl pu ⟨a,xs,rfl,SqT.of hx,hw,fun p hp=>q p _ (fun b o e=>by rw[qh (qo e hp)];exact e) qc (.inr hp)⟩
def vU:R2:=fun x y H Q=>∃a b xs ys,x= .ref a/\y= .ref b/\H a=some (.tup xs)/\H b=some (.tup ys)/\xs.length+ys.length<=sizeLine/\∀p H',Same H H'->H' p=some (.tup (xs++ys))->Q (.ref p) H'
theorem bU:zr X (binaryOp .Add) vU:=by
 intro pins s σ H x y v u Q I rx ry h
 obtain⟨a,b,xs,ys,rfl,rfl,ha,hb,hz,q⟩:=h
 by_cases hx:xs=[]
 ·subst hx
  cases rx
  cases ry
  obtain⟨its,r1,p1,_⟩:=I.tuple (SqT.of ha)
  obtain⟨its2,r2,p2,_⟩:=I.tuple (SqT.of hb)
  cases r1
  obtain⟨⟨cls,dd,data,sl⟩,ho,hc,n,hd⟩:=id p1
  obtain⟨⟨cls2,dd2,data2,sl2⟩,ho2,hc2,n2,hd2⟩:=id p2
  simp only at hc hd hc2 hd2
  subst hc hd hc2 hd2
  exact concat_meets ⟨_,ho,rfl⟩ ⟨_,ho2,rfl⟩ noFill_tuple_add seq_tuple_add PySem.F.slot_tuple_add PySem.F.entry_tuple_add (PySem.F.args_tuple_add_2 _ _)
   (tuple_addW0 a b _ its2.toArray n n2 dd dd2 sl sl2 (by simp)) ⟨ho,ho2,⟨.ref b,H,I,rfl,q b H (Same.refl H) hb⟩⟩
 ·refine tw pins s σ H _ _ v u Q I rx ry ⟨a,b,xs,ys,rfl,rfl,SqT.of ha,SqT.of hb,hx,hz,fun e=>q a H (Same.refl H) (by subst e;simpa using ha),fun _ p hp=>q p _ (fun b o e=>by rw[qh (qo e hp)];exact e) qc⟩
theorem jV{ns:List Int}{us:List Value}(r:Vals (ns.map V.int) us)(j:Nat)(h:j<us.length)(h':j<ns.length):∃t,us[j]=Value.int ns[j] t:=by
 obtain⟨u,hu,ru⟩:=r.get (i:=j) (x:=V.int ns[j]) (by rw[List.getElem?_map,List.getElem?_eq_getElem h'];rfl)
 rw[List.getElem?_eq_getElem h]at hu
 cases hu
 exact ru
theorem pq(ns ms:List Int)(h:ns.length=ms.length):((List.range ns.length).all fun j=>(ns.getD j 0==ms.getD j 0))=decide (ns=ms):=by
 rw[Bool.eq_iff_iff,List.all_eq_true,decide_eq_true_iff]
 constructor
 ·intro q
  refine List.ext_getElem h fun i h1 h2=>?_
  have:=q i (List.mem_range.mpr h1)
  simp only[List.getD_eq_getElem?_getD,List.getElem?_eq_getElem h1,List.getElem?_eq_getElem h2,Option.getD_some,beq_iff_eq]at this
  exact this
 ·rintro rfl i _
  simp
end
def zF:Expr->Bool
 | .Starred .. =>false
 |_=>true
theorem QN{e:Expr}{es:List Expr}{env:Env}(h:zF e=true):starEach (e::es) env=(false,eval e env)::starEach es env:=by
 cases e<;>first|rfl|cases h
theorem wL{X:Cx}{e:Expr}{es:List Expr}{te:TE}{t:TA}(ha:PE X e te)(hr:PA X es t)(h:zF e=true:=by rfl):PA X (e::es) (ky te t):=sj ha hr (QN h)
structure Df(P:Program)(w:World)(K:Frag)(mg:Str->Option Value)(base:Heap)(x:Str)(ps:List Str)(k:Nat)(sp:Sp):Prop where
 ex:∃(f:Addr) (fd:FuncData),FnOk P w K mg base ZF k f fd ps sp/\mg x=some (.ref f)/\PySem.W.keepIn K (.ref f)=true/\Binds K fd ps []
structure At(K:Frag)(mg:Str->Option Value)(x:Str)(st:Stmt)(ps:List Str):Prop where
 ex:∃(f:Addr) (fd:FuncData),Fun K x x st f fd/\mg x=some (.ref f)/\PySem.W.keepIn K (.ref f)=true/\Binds K fd ps []
section
variable{P:Program}{w:World}{K:Frag}{mg:Str->Option Value}{base:Heap}
theorem At.df{x:Str}{st:Stmt}{ps N:List Str}{k:Nat}{sp:Sp}(a:At K mg x st ps)(S:FnScope N ps (ql st))(len:∀vs H Q E,sp vs H Q E->vs.length=ps.length)
  (hbody:∀(f:Addr) (cdv:Value) (A:Around) (outer:List Env) (s:Shared) (H:Hp) (vs:List V) (Q:VK) (E:XK),Room k (A.deeper (envOfC x (ql st) s.heap.objs.size f cdv))->sp vs H Q E->
   ∃t,PSs (Z3 ZF P w K mg base N x (ql st) f cdv A outer s H E).nox (zA st) t/\t {nx:=fun _ H'=>Q .non H',rt:=Q} (Qw N vs) H):Df P w K mg base x ps (k+1) sp:=by
 obtain⟨f,fd,F,m,kp,bd⟩:=a.ex
 exact⟨f,fd,F.ok S len (fun cdv A outer s H vs Q E hr h=>hbody f cdv A outer s H vs Q E hr h),m,kp,bd⟩
end
section
variable{X:Cx}{x:Str}{ps:List Str}{k:Nat}{sp:Sp}{e:Expr}{es:List Expr}{p pos:Pos}{t:TA}
theorem uG(D:Df X.prog X.w X.K X.mg X.base x ps k sp)(hr:Room k X.A)(ha:PA X (e::es) t)(hg:Gl X x:=by rfl)(hdb:(x==("__debug__":Str))=false:=by decide)(he:starEach (e::es) X.env=(false,eval e X.env)::starEach es X.env:=by rfl)(hpl:(backTo pos (starEach es X.env)).any (·.1)=false:=by rfl):
  PE X (.Call (.Name x p) (e::es) [] pos) (kE sp [] E0 t):=by
 obtain⟨f,fd,ok,m,kp,bd⟩:=D.ex
 exact sr ok hr hg m kp bd .nil gp ha hdb he hpl
end
theorem cp{X:Cx}{scope:Scope}(kind:scope.kind= .function)(names:∀x∈scope.names,x.2= .local->scope.names.lookup x.1=some .local)(nocell:∀x∈scope.names,x.2≠ .cell)
  (free:∀x∈scope.names,x.2= .free->x.1∈([]:List Str)):BScope X scope [] []:=⟨kind,names,nocell,free,rfl,fun i j y h=>by simp at h⟩
theorem j5{X:Cx}{scope:Scope}{y:Str}{j:Nat}(kind:scope.kind= .function)(names:∀x∈scope.names,x.2= .local->scope.names.lookup x.1=some .local)(nocell:∀x∈scope.names,x.2≠ .cell)
  (free:∀x∈scope.names,x.2= .free->x.1∈([y]:List Str))(h1:X.N[j]? =some y)(h2:X.env.kindOf y=some .cell)(h3:(relabel scope X.env).names.lookup y=some .cell):BScope X scope [y] [j]:=
 ⟨kind,names,nocell,free,rfl,fun i j' y' e1 e2=>by
  cases i with
  |zero=>cases e1;cases e2;exact⟨h1,h2,h3⟩
  |succ i=>simp at e1⟩
theorem kT{X:Cx}{y:Str}{c:Addr}(h:X.env.cells.lookup y=some c):∀z d,([(y,c)]:List (Str×Addr)).lookup z=some d->X.env.cells.lookup z=some d:=fun z d e=>by
 by_cases hz:z=y
 ·subst hz
  simp at e
  rw[<- e];exact h
 ·simp [List.lookup_cons,show(z==y)=false from by simpa using hz]at e
theorem sk{X:Cx}{K:Frag}(h:X.K=K):IxR X (nK K):=by subst h;exact qK
abbrev kS(n m k:Int):HO:= .lst [.int n,.int m,.int k]
theorem _root_.L2.Same.upd{H:Hp}{p:Addr}{o:HO}(h:H p=none):Same H (upd H p o):=fun b u e=>by rw[qh (qo e h)];exact e
theorem nq(c:Bool): -(2 ^ 64:Int)<(if c=true then(1:Int)else 0):=by cases c<;>decide
theorem lB(c:Bool):(if c=true then(1:Int)else 0)<(2 ^ 64:Int):=by cases c<;>decide
theorem jK{n j:Nat}(h:j<n):Zr n (j:Int)=some j:=by unfold Zr;rw[if_pos (by omega),if_pos (by omega)];simp
def Zz(ns:List Int)(lo hi:Option Int):List Int:=(ns.drop (HT.sIx ns.length 0 lo)).take (HT.sIx ns.length ns.length hi-HT.sIx ns.length 0 lo)
theorem am(ns:List Int)(lo hi:Option Int):Q5 (ns.map V.int) lo hi=(Zz ns lo hi).map V.int:=by unfold Q5 Zz;rw[List.length_map,List.map_take,List.map_drop]
theorem zX{ns:List Int}{i:Nat}{x:V}(h:(ns.map V.int)[i]? =some x):∃z,x= .int z/\ns[i]? =some z:=by
 rw[List.getElem?_map]at h
 cases e:ns[i]? with
 |none=>rw[e]at h;cases h
 |some z=>rw[e]at h;exact⟨z,(Option.some.inj h).symm,rfl⟩
theorem eP{ns:List Int}{i:Nat}(h:i<ns.length):(ns.map V.int)[i]? =some (.int ns[i]):=by rw[List.getElem?_map,List.getElem?_eq_getElem h];rfl
theorem aG(ns:List Int)(i:Nat)(z:Int):(ns.map V.int).set i (.int z)=(ns.set i z).map V.int:=by rw[List.map_set]
def pP:Option HO->Option String
 |some (.lst _)=>some "list"
 |some (.tup _)=>some "tuple"
 |_=>none
def kd(H:Hp):V->Option String
 | .non=>some "NoneType"
 | .bl _=>some "bool"
 | .int _=>some "int"
 | .str _=>some "str"
 | .ref a=>pP (H a)
 |_=>none
theorem lO{o:Option HO}{t:String}(h:pP o=some t):(∃xs,o=some (.lst xs)/\t="list")\/(∃xs,o=some (.tup xs)/\t="tuple"):=by
 cases o with
 |none=>cases h
 |some u=>
  cases u with
  |lst xs=>cases h;exact .inl ⟨xs,rfl,rfl⟩
  |tup xs=>cases h;exact .inr ⟨xs,rfl,rfl⟩
  |_=>cases h
theorem cJ{H:Hp}{a:Addr}{t:String}(h:kd H (.ref a)=some t):(∃xs,H a=some (.lst xs)/\t="list")\/(∃xs,H a=some (.tup xs)/\t="tuple"):=lO h
theorem vF{K:Frag}{H:Hp}{x:V}{t:String}(h:kd H x=some t):TyOf K H x (.type t)/\t∈eI:=by
 cases x with
 |non=>cases h;exact⟨.non,by simp⟩
 |bl b=>cases h;exact⟨.bl b,by simp⟩
 |int i=>cases h;exact⟨.int i,by simp⟩
 |str x=>cases h;exact⟨.str x,by simp⟩
 |byt b=>cases h
 |flt b=>cases h
 |ty b=>cases h
 |ref a=>
  rcases cJ h with⟨xs,e,rfl⟩|⟨xs,e,rfl⟩
  ·exact⟨.lst e,by simp⟩
  ·exact⟨.tup e,by simp⟩
theorem bL{H H':Hp}{x:V}{t:String}(s:Same H H')(h:kd H x=some t):kd H' x=some t:=by
 cases x with
 |ref a=>
  rcases cJ h with⟨xs,e,rfl⟩|⟨xs,e,rfl⟩
  ·show pP (H' a)=_;rw[s _ _ e];rfl
  ·show pP (H' a)=_;rw[s _ _ e];rfl
 |_=>exact h
def aq:V->Bool
 | .int i=>decide (0<=i)&&decide (i<16)
 |_=>false
theorem QL{α:Type}{xs:List α}{r:Int}(h0:0<=r)(h1:r<xs.length):∃v,zV xs r=some v/\v∈xs:=by
 have hr:r.toNat<xs.length:=by omega
 refine⟨xs[r.toNat],?_,List.getElem_mem hr⟩
 have e:zV xs ((r.toNat:Nat):Int)=some xs[r.toNat]:=Qm (List.getElem?_eq_getElem hr)
 rwa [show((r.toNat:Nat):Int)=r by omega]at e
def gj(K:Frag):Sp:=fun vs H Q _=>∃(a:Addr) (ns:List Int),vs=[.ref a]/\SqL K H a (ns.map V.int)/\ns.length<=63/\∀H',Q (.bl true) H'
def jz:Sp:=fun vs H Q _=>∃x t,vs=[x]/\kd H x=some t/\Q (.bl (aq x)) H
def gW:Sp:=fun vs H Q _=>∃p xs,vs=[.ref p]/\H p=some (.tup xs)/\xs.length<=sizeLine/\(∀x∈xs,∃t,kd H x=some t)/\∀H',Same H H'->Q (.bl (xs.all aq)) H'
end L3
namespace L3
open PySem PySem.Spec L2
structure QE(X:Cx)(e:Expr)(t:TE):Prop where
 h:PE X e t
structure QT(X:Cx)(e:Expr)(t:TT):Prop where
 h:PT X e t
structure QW(X:Cx)(e:Expr)(t:TT):Prop where
 h:PW X e t
structure QA(X:Cx)(e:List Expr)(t:TA):Prop where
 h:PA X e t
structure QS(X:Cx)(e:Stmt)(t:TS):Prop where
 h:PS X e t
structure QSs(X:Cx)(e:List Stmt)(t:TS):Prop where
 h:PSs X e t
structure QG(X:Cx)(e:Expr)(t:TG):Prop where
 h:PG X e t
structure QGs(X:Cx)(e:List Expr)(t:ZQ):Prop where
 h:jM X e t
structure QO(X:Cx)(e:Option Expr)(t:TO):Prop where
 h:PO X e t
structure QI(X:Cx)(tg e:Expr)(t:TI):Prop where
 h:PI X tg e t
variable{X:Cx}
theorem qf{i j pos}:QE X (.Constant (.int i) j pos) (tC (.int i)):=⟨uM⟩
theorem QR{b j pos}:QE X (.Constant (.bool b) j pos) (tC (.bl b)):=⟨vG⟩
theorem zm{j pos}:QE X (.Constant .none j pos) (tC .non):=⟨va⟩
theorem qz{x j pos}:QE X (.Constant (.str x) j pos) (tC (.str x)):=⟨uB⟩
theorem zc{x:Str}{v:V}{u:Value}{pos:Pos}(hg:Gl X x)(hm:X.mg x=some u)(r:RelV v u)(hd:(x==("__debug__":Str))=false:=by decide):QE X (.Name x pos) (tC v):=⟨tj (hg:=hg) (hm:=hm) (r:=r) (hd:=hd)⟩
theorem qE{x:Str}{v:V}{u:Value}{pos:Pos}(hg:Gl X x)(hm:X.mg x=none)(hv:bootBuiltins x=some u)(r:RelV v u)(hn:x≠"__name__":=by decide)(hd:(x==("__debug__":Str))=false:=by decide):QE X (.Name x pos) (tC v):=⟨sI (hg:=hg) (hm:=hm) (hv:=hv) (r:=r) (hn:=hn) (hd:=hd)⟩
theorem qu{a b:Expr}{ta tb:TE}{pos:Pos}{op:Operator}{r:R2}(ho:zr X (binaryOp op) r)(ha:QE X a ta)(hb:QE X b tb):QE X (.BinOp a op b pos) (eZ r ta tb):=⟨vW (ho:=ho) (ha:=ha.h) (hb:=hb.h)⟩
theorem gm{a:Expr}{ta:TE}{pos:Pos}{op:UnaryOp}{r:V->Hp->VK->Prop}(ho:pZ X (unaryOp op) r)(ha:QE X a ta):QE X (.UnaryOp op a pos) (v7 r ta):=⟨vM (ho:=ho) (ha:=ha.h)⟩
theorem zb{a b:Expr}{ta tb:TE}{pos:Pos}{op:CmpOp}{r:R2}(ho:zr X (compareOp op) r)(ha:QE X a ta)(hb:QE X b tb)(hm:behindInMarks op b=false):QE X (.Compare a [op] [b] pos) (eZ r ta tb):=⟨tD (ho:=ho) (ha:=ha.h) (hb:=hb.h) (hm:=hm)⟩
theorem qB{a b:Expr}{ta tb:TE}{pos:Pos}{op:CmpOp}{r:R2}(ho:zr X (compareOp op) r)(ha:QE X a ta)(hb:QE X b tb)(hm:behindInMarks op b=false):QT X (.Compare a [op] [b] pos) (cT (eZ r ta tb)):=⟨sG (ho:=ho) (ha:=ha.h) (hb:=hb.h) (hm:=hm)⟩
theorem aF{a b c:Expr}{ta tb tc:TE}{pos:Pos}{op op':CmpOp}{r r':R2}(ho:zr X (compareOp op) r)(ho':zr X (compareOp op') r')(ha:QE X a ta)(hb:QE X b tb)(hc:QE X c tc)(hm:lastMarks [op,op'] [b,c]=false:=by with_unfolding_all rfl):QE X (.Compare a [op,op'] [b,c] pos) (cY r r' ta tb tc):=⟨pC (ho:=ho) (ho':=ho') (ha:=ha.h) (hb:=hb.h) (hc:=hc.h) (hm:=hm)⟩
theorem hZ{a b c:Expr}{ta tb tc:TE}{pos:Pos}{op op':CmpOp}{r r':R2}(ho:zr X (compareOp op) r)(ho':zr X (compareOp op') r')(ha:QE X a ta)(hb:QE X b tb)(hc:QE X c tc)(hm:lastMarks [op,op'] [b,c]=false:=by with_unfolding_all rfl):QT X (.Compare a [op,op'] [b,c] pos) (cT (cY r r' ta tb tc)):=⟨nM (ho:=ho) (ho':=ho') (ha:=ha.h) (hb:=hb.h) (hc:=hc.h) (hm:=hm)⟩
theorem zx{a b:Expr}{rest:List Expr}{ta tb:TE}{pos:Pos}(ha:QE X a ta)(hb:QE X (.BoolOp .And (b::rest) pos) tb):QE X (.BoolOp .And (a::b::rest) pos) (rB ta tb):=⟨vz (ha:=ha.h) (hb:=hb.h)⟩
theorem Qk{a:Expr}{pos:Pos}{op}{t:TE}(h:QE X a t):QE X (.BoolOp op [a] pos) t:=⟨vo (h:=h.h)⟩
theorem Zx{a:Expr}{ta:TE}{pos:Pos}(ha:QE X a ta):QE X (.UnaryOp .Not a pos) (rf ta):=⟨tH (ha:=ha.h)⟩
theorem gR{a b:Expr}{rest:List Expr}{tA tB':TT}{pos:Pos}(ha:QT X a tA)(hb:QW X (.BoolOp .And (b::rest) pos) tB'):QW X (.BoolOp .And (a::b::rest) pos) (uA tA tB'):=⟨uW (ha:=ha.h) (hb:=hb.h)⟩
theorem zP{a b:Expr}{rest:List Expr}{tA tB':TT}{pos:Pos}(ha:QT X a tA)(hb:QW X (.BoolOp .Or (b::rest) pos) tB'):QW X (.BoolOp .Or (a::b::rest) pos) (vZ tA tB'):=⟨vK (ha:=ha.h) (hb:=hb.h)⟩
theorem eB{a:Expr}{tA:TT}{pos:Pos}(ha:QT X a tA):QW X (.BoolOp .And [a] pos) tA:=⟨sH (ha:=ha.h)⟩
theorem zD{a:Expr}{tA:TT}{pos:Pos}(ha:QT X a tA):QW X (.BoolOp .Or [a] pos) tA:=⟨tM (ha:=ha.h)⟩
theorem zT{a:Expr}{tA:TT}{pos:Pos}(ha:QT X a tA):QT X (.UnaryOp .Not a pos) (uT tA):=⟨ui (ha:=ha.h)⟩
theorem q9{e:Expr}{t:TE}(h:QE X e t)(he:∀whole,isTrue e X.env whole=(do let v <- whole;standAt e.pos;holding [v] (truthy v)):=by intro _;rfl):QT X e (tB t):=⟨tO (h:=h.h) (he:=he)⟩
theorem oP{a b:Expr}{ta tb:TE}{tA:TT}{pos:Pos}{c:Expr}(hc:QT X c tA)(ha:QE X a ta)(hb:QE X b tb):QE X (.IfExp c a b pos) (wb tA ta tb):=⟨oZ (hc:=hc.h) (ha:=ha.h) (hb:=hb.h)⟩
theorem qd{e:Expr}{es:List Expr}{te:TE}{t:TA}(ha:QE X e te)(hr:QA X es t)(h:zF e=true:=by rfl):QA X (e::es) (ky te t):=⟨wL (ha:=ha.h) (hr:=hr.h) (h:=h)⟩
theorem qb:QA X [] oG:=⟨vA⟩
theorem qx{es:List Expr}{t:TA}{pos:Pos}{x1}(h:QA X es t):QE X (.Tuple es x1 pos) (vC t):=⟨uP (h:=h.h)⟩
theorem q8{es:List Expr}{t:TA}{pos:Pos}(h:QA X es t):QE X (.List es pos) (vc t):=⟨ux (h:=h.h)⟩
theorem qA{a b:Expr}{ta tb:TE}{pos:Pos}{r:R2}(hr:IxR X r)(ha:QE X a ta)(hb:QE X b tb)(hs:jL b):QE X (.Subscript a b pos) (eZ r ta tb):=⟨vI (hr:=hr) (ha:=ha.h) (hb:=hb.h) (hs:=hs)⟩
theorem Q0{e:Expr}{te:TE}{lo hi:Option Expr}{tl th:TO}{pos p2:Pos}{r:V->Option Int->Option Int->Hp->VK->Prop}(hr:lY X r)(he:QE X e te)(hl:QO X lo tl)(hu:QO X hi th):QE X (.Subscript e (.Slice lo hi none p2) pos) (wd r te tl th):=⟨nN (hr:=hr) (he:=he.h) (hl:=hl.h) (hu:=hu.h)⟩
theorem Zq:QO X none jm:=⟨rN⟩
theorem Zo{e:Expr}{te:TE}(h:QE X e te):QO X (some e) (rc te):=⟨sX (h:=h.h)⟩
theorem qm{x:Str}{p pos:Pos}{e:Expr}{es:List Expr}{t:TA}{id:String}{r:List V->Hp->VK->Prop}(hc:qY X (.builtin id) r)(hg:Gl X x)(hm:X.mg x=none)(hv:bootBuiltins x=some (.builtin id))(ha:QA X (e::es) t)(hn:x≠"__name__":=by decide)(hdb:(x==("__debug__":Str))=false:=by decide)(he:starEach (e::es) X.env=(false,eval e X.env)::starEach es X.env:=by rfl)(hpl:(backTo pos (starEach es X.env)).any (·.1)=false:=by rfl):QE X (.Call (.Name x p) (e::es) [] pos) (pO r t):=⟨oT (hc:=hc) (hg:=hg) (hm:=hm) (hv:=hv) (ha:=ha.h) (hn:=hn) (hdb:=hdb) (he:=he) (hpl:=hpl)⟩
theorem qL{x:Str}{p pos:Pos}{e:Expr}{es:List Expr}{t:TA}{T:String}{r:List V->Hp->VK->Prop}(hc:qY X (.type T) r)(hg:Gl X x)(hm:X.mg x=none)(hv:bootBuiltins x=some (.type T))(ha:QA X (e::es) t)(hn:x≠"__name__":=by decide)(hdb:(x==("__debug__":Str))=false:=by decide)(he:starEach (e::es) X.env=(false,eval e X.env)::starEach es X.env:=by rfl)(hpl:(backTo pos (starEach es X.env)).any (·.1)=false:=by rfl):QE X (.Call (.Name x p) (e::es) [] pos) (pO r t):=⟨lJ (hc:=hc) (hg:=hg) (hm:=hm) (hv:=hv) (ha:=ha.h) (hn:=hn) (hdb:=hdb) (he:=he) (hpl:=hpl)⟩
theorem qr{x:Str}{ps:List Str}{k:Nat}{sp:Sp}{e:Expr}{es:List Expr}{p pos:Pos}{t:TA}(D:Df X.prog X.w X.K X.mg X.base x ps k sp)(hr:Room k X.A)(ha:QA X (e::es) t)(hg:Gl X x:=by rfl)(hdb:(x==("__debug__":Str))=false:=by decide)(he:starEach (e::es) X.env=(false,eval e X.env)::starEach es X.env:=by rfl)(hpl:(backTo pos (starEach es X.env)).any (·.1)=false:=by rfl):QE X (.Call (.Name x p) (e::es) [] pos) (kE sp [] E0 t):=⟨uG (D:=D) (hr:=hr) (ha:=ha.h) (hg:=hg) (hdb:=hdb) (he:=he) (hpl:=hpl)⟩
theorem qy:QSs X [] rb:=⟨rT⟩
theorem qe{st:Stmt}{rest:List Stmt}{t u:TS}(h1:QS X st t)(h2:QSs X rest u):QSs X (st::rest) (iz t u):=⟨oR (h1:=h1.h) (h2:=h2.h)⟩
theorem qg{st:Stmt}{t:TS}(h1:QS X st t):QSs X [st] t:=⟨sM (h1:=h1.h)⟩
theorem qC{pos:Pos}{i:Nat}{x:Str}{e:Expr}{te:TE}{pos':Pos}(hN:X.N.Nodup)(hi:X.N[i]? =some x)(hx:ff X.env.scope x)(he:QE X e te)(hs:swapsWith e (some (.Name x pos')) pos.line X.env=pure false:=by rfl)(hf:X.fn x=true\/X.env.scope.names.lookup x=some .local:=by first|exact .inl rfl|exact .inr rfl|assumption):QS X (.Assign [.Name x pos'] e pos) (eC te (Qe i)):=⟨vE (hN:=hN) (hi:=hi) (hx:=hx) (he:=he.h) (hs:=hs) (hf:=hf)⟩
theorem qZ{pos:Pos}{tg e:Expr}{te:TE}{g:TG}(he:QE X e te)(hg:QG X tg g)(hs:swapsWithSole [tg] e pos.line X.env=pure false:=by rfl)(hw:swappedStores [tg] e X.env=pure none:=by rfl)(h1:(assignEach [tg] X.env).map (·.2)=[assign tg X.env]:=by rfl):QS X (.Assign [tg] e pos) (eC te g):=⟨ve (he:=he.h) (hg:=hg.h) (hs:=hs) (hw:=hw) (h1:=h1)⟩
theorem qq{e:Expr}{te:TE}{pos:Pos}(he:QE X e te):QS X (.Return (some e) pos) (uw te):=⟨vq (he:=he.h)⟩
theorem qF{t u:TS}{pos:Pos}{c:Expr}{a b:List Stmt}{tc:TT}(hc:QT X c tc)(ha:QSs X a t)(hb:QSs X b u):QS X (.If c a b pos) (tX tc t u):=⟨vO (hc:=hc.h) (ha:=ha.h) (hb:=hb.h)⟩
theorem zn{tg:Expr}{iter:Expr}{body:List Stmt}{wi:TI}{g:TG}{tb:TS}{pos:Pos}(hp:PassesOwn (model X.prog X.w) X.A X.env X.xe)(hc:X.calm=true)(hi:QI X tg iter wi)(hg:QG X tg g)(hb:QSs X body tb)(hs:∀x,foldedSetIterable iter X.env x=pure x:=by intro _;rfl):QS X (.For tg iter body [] pos) (uI wi g tb):=⟨uN (hp:=hp) (hc:=hc) (hi:=hi.h) (hg:=hg.h) (hb:=hb.h) (hs:=hs)⟩
theorem zw{e:Expr}{te:TE}{pos:Pos}(he:QE X e te)(hs:swapsWith e none pos.line X.env=pure false:=by rfl):QS X (.Expr e pos) (pU te):=⟨se (he:=he.h) (hs:=hs)⟩
theorem sL{pos:Pos}{o i e:Expr}{to ti te:TE}{tget:V->V->Hp->VK->Prop}{tip:ly}{tset:cF}{op:Operator}{tpos:Pos}(ho:QE X o to)(hi:QE X i ti)(hg:nQ X tget)(he:QE X e te)(hp:tR X op tip)(hs:hV X tset)(ha:∀ov iv new,augStore i ov iv new=(do holding [new,ov,iv] (setItem ov iv new);release [new,ov,iv] [];pure .next):=by intros;rfl):QS X (.AugAssign (.Subscript o i tpos) op e pos) (rJ to ti te tget tip tset):=⟨tE (ho:=ho.h) (hi:=hi.h) (hg:=hg) (he:=he.h) (hp:=hp) (hs:=hs) (ha:=ha)⟩
theorem Qb{tg:Expr}{l:Expr}{tl:TE}(hl:QE X l tl):QI X tg l (pT X.K tl):=⟨rV (hl:=hl.h)⟩
theorem bH{tg:Expr}{l:Expr}{tl:TE}(hl:QE X l tl):QI X tg l (uh X.K tl):=⟨vn (hl:=hl.h)⟩
theorem zN{tg:Expr}{a:Expr}{ta:TA}{p pos:Pos}(hg:Gl X "range")(hm:X.mg "range"=none)(ha:QA X [a] ta)(hs:starEach [a] X.env=[(false,eval a X.env)]:=by rfl):QI X tg (.Call (.Name "range" p) [a] [] pos) (pW ta):=⟨lI (hg:=hg) (hm:=hm) (ha:=ha.h) (hs:=hs)⟩
theorem l7{tg:Expr}{a b:Expr}{ta:TA}{p pos:Pos}(hg:Gl X "range")(hm:X.mg "range"=none)(ha:QA X [a,b] ta)(hs:starEach [a,b] X.env=[(false,eval a X.env),(false,eval b X.env)]:=by rfl)(hs2:starEach [b] X.env=[(false,eval b X.env)]:=by rfl):QI X tg (.Call (.Name "range" p) [a,b] [] pos) (pK ta):=⟨mX (hg:=hg) (hm:=hm) (ha:=ha.h) (hs:=hs) (hs2:=hs2)⟩
theorem tf{a:Expr}{ta:TA}{p pos:Pos}{elts:List Expr}{x1}{tpos:Pos}(hg:Gl X "enumerate")(hm:X.mg "enumerate"=none)(ha:QA X [a] ta)(hs:starEach [a] X.env=[(false,eval a X.env)]:=by rfl):QI X (.Tuple elts x1 tpos) (.Call (.Name "enumerate" p) [a] [] pos) (pV X.K ta):=⟨rM (hg:=hg) (hm:=hm) (ha:=ha.h) (hs:=hs)⟩
theorem qi{pos:Pos}{i:Nat}{x:Str}(hN:X.N.Nodup)(hi:X.N[i]? =some x)(hx:ff X.env.scope x)(hf:X.fn x=true\/X.env.scope.names.lookup x=some .local:=by first|exact .inl rfl|exact .inr rfl|assumption):QG X (.Name x pos) (Qe i):=⟨rW (hN:=hN) (hi:=hi) (hx:=hx) (hf:=hf)⟩
theorem cQ{pos:Pos}{es:List Expr}{k:Nat}{t:ZQ}{n:Nat}(hc:X.calm=true)(h:QGs X es t)(hn:(assignEach es X.env).length=n:=by rfl)(hst:(assignEach es X.env).findIdx? (·.1)=none:=by rfl):QG X (.Tuple es k pos) (ee X.K n t):=⟨ia (hc:=hc) (h:=h.h) (hn:=hn) (hst:=hst)⟩
theorem ac{pos:Pos}{o i:Expr}{to ti:TE}{t:cF}(ho:QE X o to)(hi:QE X i ti)(hs:hV X t)(ha:∀v,assign (.Subscript o i pos) X.env v=(do
      let ov <- holding [v] (eval o X.env)
      let iv <- holding [v,ov] (eval i X.env)
      standAt pos
      holding [v,ov,iv] (setItem ov iv v)
      release [v,ov,iv] []):=by intro _;rfl):QG X (.Subscript o i pos) (tS to ti t):=⟨tN (ho:=ho.h) (hi:=hi.h) (hs:=hs) (ha:=ha)⟩
theorem qP:QGs X [] gB:=⟨sZ⟩
theorem qp{e:Expr}{es:List Expr}{t:TG}{u:ZQ}(h1:QG X e t)(h2:QGs X es u)(hs:(assignEach (e::es) X.env).map (·.2)=assign e X.env::(assignEach es X.env).map (·.2):=by rfl):QGs X (e::es) (ZN t u):=⟨oK (h1:=h1.h) (h2:=h2.h) (hs:=hs)⟩
theorem QW.pt{e:Expr}{t:TT}(h:QW X e t):QT X e t:=⟨PW.pt h.h⟩
theorem qv(i:Nat){x:Str}{pos:Pos}(hN:X.N[i]? =some x:=by rfl)(hv:uv X.env.scope x:=by first|exact Or.inl rfl|exact Or.inr (Or.inl rfl)|exact Or.inr (Or.inr rfl))(hd:(x==("__debug__":Str))=false:=by decide)
  (hcd:(x==("__classdict__":Str))=false:=by decide):QE X (.Name x pos) (uj i):=⟨tK hN hv hd hcd⟩
theorem zK{elt tg iter:Expr}{scope:Scope}{cl:List (Str×Addr)}{pos:Pos}{fr own:List Str}{js:List Nat}{wi:TI}{g:TG}{te:TE}
  (hc:X.calm=true)(hi:QI X tg iter wi)(hclos:closureFor scope X.env=pure cl)(hcl:∀y c,cl.lookup y=some c->X.env.cells.lookup y=some c)(hfr:cl.map (·.1)=fr)
  (S:BScope X scope fr js)
  (hg:∀C s H fp,QG (Zg X (own++fr) scope cl C s H fp) tg g)(he:∀C s H fp,QE (Zg X (own++fr) scope cl C s H fp) elt te)
  (hs:∀x,foldedSetIterable iter X.env x=pure x:=by intro _;rfl):
  QE X (.ListComp elt [⟨tg,iter,[],0⟩] scope pos) (cI own.length js wi g te):=⟨sC hc hi.h hclos hcl hfr S (fun C s H fp=>(hg C s H fp).h) (fun C s H fp=>(he C s H fp).h) hs⟩
theorem jo{elt tg iter:Expr}{scope:Scope}{cl:List (Str×Addr)}{pos spos py:Pos}{fr own:List Str}{js:List Nat}{wi:TI}{g:TG}{te:TE}{i:Nat}{y:Str}
  (hN:X.N.Nodup)(hi':X.N[i]? =some y)(hx:ff X.env.scope y)
  (hc:X.calm=true)(hi:QI X tg iter wi)(hclos:closureFor scope X.env=pure cl)(hcl:∀y c,cl.lookup y=some c->X.env.cells.lookup y=some c)(hfr:cl.map (·.1)=fr)
  (S:BScope X scope fr js)
  (hg:∀C s H fp,QG (Zg X (own++fr) scope cl C s H fp) tg g)(he:∀C s H fp,QE (Zg X (own++fr) scope cl C s H fp) elt te)
  (hs:∀x,foldedSetIterable iter X.env x=pure x:=by intro _;rfl)(hsw:swapsWith (.ListComp elt [⟨tg,iter,[],0⟩] scope pos) (some (.Name y py)) spos.line X.env=pure true:=by rfl)
  (hf:X.fn y=true\/X.env.scope.names.lookup y=some .local:=by first|exact .inl rfl|exact .inr rfl|assumption):
  QS X (.Assign [.Name y py] (.ListComp elt [⟨tg,iter,[],0⟩] scope pos) spos) (eC (cI own.length js wi g te) (Qe i)):=⟨sA hN hi' hx hc hi.h hclos hcl hfr S (fun C s H fp=>(hg C s H fp).h) (fun C s H fp=>(he C s H fp).h) hs hsw hf⟩
section
variable{P:Program}{w:World}{K:Frag}{mg:Str->Option Value}{base:Heap}
theorem At.dq{x:Str}{st:Stmt}{ps N:List Str}{k:Nat}{sp:Sp}(a:At K mg x st ps)(S:FnScope N ps (ql st))(len:∀vs H Q E,sp vs H Q E->vs.length=ps.length)
  (hbody:∀(f:Addr) (cdv:Value) (A:Around) (outer:List Env) (s:Shared) (H:Hp) (vs:List V) (Q:VK) (E:XK),Room k (A.deeper (PyProof.Rows.envOfC x (ql st) s.heap.objs.size f cdv))->sp vs H Q E->
   ∃t,QSs (Z3 ZF P w K mg base N x (ql st) f cdv A outer s H E).nox (zA st) t/\t {nx:=fun _ H'=>Q .non H',rt:=Q} (Qw N vs) H):Df P w K mg base x ps (k+1) sp:=
 a.df S len fun f cdv A outer s H vs Q E hr h=>let⟨t,q1,q2⟩:=hbody f cdv A outer s H vs Q E hr h;⟨t,q1.h,q2⟩
theorem _root_.L2.Fun.dq{x qual:Str}{st:Stmt}{f:Addr}{fd:FuncData}{N ps:List Str}{k:Nat}{sp:Sp}(F:Fun K x qual st f fd)(S:FnScope N ps (ql st))(len:∀vs H Q E,sp vs H Q E->vs.length=ps.length)
  (hbody:∀(cdv:Value) (A:Around) (outer:List Env) (s:Shared) (H:Hp) (vs:List V) (Q:VK) (E:XK),Room k (A.deeper (PyProof.Rows.envOfC qual (ql st) s.heap.objs.size f cdv))->sp vs H Q E->
   ∃t,QSs (Z3 ZF P w K mg base N qual (ql st) f cdv A outer s H E).nox (zA st) t/\t {nx:=fun _ H'=>Q .non H',rt:=Q} (Qw N vs) H):FnOk P w K mg base ZF (k+1) f fd ps sp:=
 F.ok S len fun cdv A outer s H vs Q E hr h=>let⟨t,q1,q2⟩:=hbody cdv A outer s H vs Q E hr h;⟨t,q1.h,q2⟩
theorem vP{x:Str}{st:Stmt}{ps:List Str}{f:Addr}{fd:FuncData}(F:Fun K x x st f fd)(m:mg x=some (.ref f))(b:Binds K fd ps []):At K mg x st ps:=⟨f,fd,F,m,F.kp,b⟩
end
end L3
namespace L3
open PySem PySem.Spec PyProof.Rows L2
section
variable{prog:Program}{w:World}{A:Around}{E:Value->Shared->Prop}{s:Shared}
end
section
variable{X:Cx}
end
def digs:List Int:=(List.range 16).map fun i=>((i:Nat):Int)
theorem ig:digs.length=16:=by decide
theorem uZ:((List.range 16).map fun i=>V.int ((i:Nat):Int))=digs.map V.int:=by decide +kernel
theorem sT{α:Type}{xs:List α}{z:Int}{j:Nat}{v:α}(e:z=(j:Int))(h:xs[j]? =some v):zV xs z=some v:=by rw[e];exact Qm h
theorem eG{n j:Nat}{z:Int}(e:z=(j:Int))(h:j<n):Zr n z=some j:=by rw[e];exact jK h
theorem gv{z:Int}(h:z∈digs):0<=z/\z<16:=by
 obtain⟨i,hi,e⟩:=List.mem_map.mp h
 have:=List.mem_range.mp hi
 omega
end L3
namespace L3
open PySem PySem.Spec PyProof.Rows L2
open Sem (wp)
section
variable{prog:Program}{w:World}{A:Around}{E:Value->Shared->Prop}{s:Shared}
theorem kP{it t:Addr}{i:Nat}{its:Array Value}{x:Value}{Q:Value->Shared->Prop}(hit:s.heap.IsTupleIter it t i)(ht:s.heap.IsTuple t its)(hx:its[i]? =some x)
  (hQ:∀h',h'.IsTupleIter it t (i+1)->Heap.SameBut it s.heap h'->Q x {s with heap:=h'}):wpAny (model prog w) A (Builtin.SmallTypes.nextOf (.ref it)) Q E s:=by
 obtain⟨o,ho,hc,hd⟩:=id hit
 obtain⟨ol,hol,_,nl,hdl⟩:=ht
 unfold Builtin.SmallTypes.nextOf
 refine wpAny_bind (wpAny_callSpecial?_slot (name:=Str.ofString "__next__") hit.typeIs F.slot_tuple_iterator_next
  (wpAny_call_entry F.slot_tuple_iterator_next hit.typeIs F.entry_tuple_iterator_next ?_ (F.args_tuple_iterator_next_1 _)))
 show wpAny _ _ (field (.ref it) 0 >>= _) _ _ s
 refine wpAny_bind (wpAny_field ho hd (x:= .ref t) rfl ?_)
 show wpAny _ _ (if(Value.ref t==Value.none)=true then _ else _) _ _ s
 rw[if_neg (show¬((Value.ref t==Value.none)=true)from Bool.false_ne_true)]
 show wpAny _ _ (field (.ref it) 1 >>= _) _ _ s
 refine wpAny_bind (wpAny_field ho hd (x:= .int i 0) rfl ?_)
 show wpAny _ _ (seqItems? (.ref t) >>= _) _ _ s
 refine wpAny_bind (wpAny_seqItems hol hdl ?_)
 simp only[Int.toNat_natCast,hx]
 refine wpAny_bind (wpAny_setField ho hd (by simp) (wpAny_pure ⟨x,rfl,wpAny_pure (hQ _ ?_ (Heap.SameBut.update ..))⟩))
 exact⟨_,Heap.get?_update_self _ ho (Obj.isFreed_of_fields (Obj.data_mapFields hd _)),(Obj.cls_mapFields ..).trans hc,by
  rw[Obj.data_mapFields hd];simp [rawInt]⟩
theorem fU{it t:Addr}{i:Nat}{its:Array Value}{Q:Value->Shared->Prop}(hh:A.handled=none)(hit:s.heap.IsTupleIter it t i)(ht:s.heap.IsTuple t its)(hx:its[i]? =none)
  (hE:∀h' e,Heap.ExtBut it s.heap h'->(∃o,h'.get? e=some o/\o.cls= .type "StopIteration")->E (.ref e) {s with heap:=h'}):
  wpAny (model prog w) A (Builtin.SmallTypes.nextOf (.ref it)) Q E s:=by
 obtain⟨o,ho,hc,hd⟩:=id hit
 obtain⟨ol,hol,_,nl,hdl⟩:=ht
 unfold Builtin.SmallTypes.nextOf
 refine wpAny_bind (wpAny_callSpecial?_slot (name:=Str.ofString "__next__") hit.typeIs F.slot_tuple_iterator_next
  (wpAny_call_entry F.slot_tuple_iterator_next hit.typeIs F.entry_tuple_iterator_next ?_ (F.args_tuple_iterator_next_1 _)))
 show wpAny _ _ (field (.ref it) 0 >>= _) _ _ s
 refine wpAny_bind (wpAny_field ho hd (x:= .ref t) rfl ?_)
 show wpAny _ _ (if(Value.ref t==Value.none)=true then _ else _) _ _ s
 rw[if_neg (show¬((Value.ref t==Value.none)=true)from Bool.false_ne_true)]
 show wpAny _ _ (field (.ref it) 1 >>= _) _ _ s
 refine wpAny_bind (wpAny_field ho hd (x:= .int i 0) rfl ?_)
 show wpAny _ _ (seqItems? (.ref t) >>= _) _ _ s
 refine wpAny_bind (wpAny_seqItems hol hdl ?_)
 simp only[Int.toNat_natCast,hx]
 refine wpAny_bind (wpAny_rule (wpAny_bind (wpAny_setField ho hd (by simp) ?_)))
 show wpAny _ _ (newExc (.type "StopIteration") [] >>= _) _ _ _
 refine wpAny_bind ?_
 simp only[newExc,newTuple]
 refine wpAny_bind (wpAny_newObj_type ?_ (by size_fits))
 refine wpAny_bind (m:=firstArgMember _ _) (wpAny_of_eq (a:=Value.none) (by first|rfl|(simp only[firstArgMember];rfl)) ?_)
 refine wpAny_newObj_type ?_ (by size_fits)
 simp only[raiseNew]
 refine wpAny_bind (wpAny_handled ?_)
 first|rw[show A.in1.handled=none from hh]|rw[hh]
 refine wpAny_bind (wpAny_pure (wpAny_throw ?_))
 exact hE _ _ (((Heap.SameBut.update ..).extBut.push _).push _) ⟨_,Heap.get?_push_size _ rfl,rfl⟩
end
theorem cK{prog:Program}{w:World}{A:Around}(hh:A.handled=none)(it t:Addr)(hne:t≠it)(its:Array Value):
  Draws prog w A it [it,t] its.size (fun i v=>its[i]? =some v) (fun i h=>h.IsTupleIter it t i/\h.IsTuple t its) where
 live:=fun _ _ st=>let⟨o,ho,_⟩:=st.1;⟨o,ho⟩
 frame:=fun _ _ _ st hk=>⟨st.1.at fun o e=>hk it (by simp) o e,let⟨o,e,r⟩:=st.2;⟨o,hk t (by simp) o e,r⟩⟩
 item:=fun i s Q E hi st hQ=>by
  refine kP st.1 st.2 (x:=its[i]) (by simp [hi]) fun h' hit' hs'=>?_
  exact hQ _ h' s.toks (by simp [hi]) ⟨hit',let⟨o,e,r⟩:=st.2;⟨o,hs'.extBut _ _ hne e,r⟩⟩ hs'
 done:=fun s Q E st hE=>fU hh st.1 st.2 (by simp) hE
open AutoSeq1 (wpAny_loadPart')in
theorem iS(l:Addr)(items:Array Value)(n:Nat)(dct:Option Addr)(sl:Array (Option Value)):
  Meets (Builtin.«enumerate.__new__» ⟨[.type "enumerate",.ref l],[]⟩) (fun _ R s=>s.heap.get? l=some {cls:= .type "tuple",dict:=dct,data:= .seq items n,slots:=sl}/\
   R (.ok (.ret (.ref (s.heap.push {cls:= .type "tuple_iterator",data:= .fields #[.ref l,.int 0 0]}).objs.size)))
    {s with heap:=(s.heap.push {cls:= .type "tuple_iterator",data:= .fields #[.ref l,.int 0 0]}).push {cls:= .type "enumerate",data:= .fields #[.none,.bool false,.ref s.heap.objs.size,rawInt 0,.none,.none]}}):=
 .of_wp fun prog w A R s h=>by
  obtain⟨hp,g,d,tk,os⟩:=s;obtain⟨hl,h⟩:=h
  have hsub:=sub_enumerate
  have hL:Heap.IsTuple (Shared.heap ⟨hp,g,d,tk,os⟩) l items:=⟨_,hl,rfl,n,rfl⟩
  wp_walk using wpAny_loadPart' hl
  refine wpAny_stack_any fun st=>wpAny_pure ?_
  split
  ·rename_i c _ _ _ _ _
   cases(c==Value.type "enumerate")
   ·wp_walk using wpAny_loadPart' hl,wpAny_pyIter_tuple hL
    exact⟨_,rfl,h⟩
   ·wp_walk using wpAny_loadPart' hl,wpAny_pyIter_tuple hL
    exact⟨_,rfl,h⟩
  ·wp_walk using wpAny_loadPart' hl,wpAny_pyIter_tuple hL
   exact⟨_,rfl,h⟩
section
variable{prog:Program}{w:World}{A:Around}{E:Value->Shared->Prop}{s:Shared}
theorem lh{l:Addr}{items:Array Value}{Q:Value->Shared->Prop}(hL:s.heap.IsTuple l items)
  (h:∀h',IsEnum h' (s.heap.objs.size+1) s.heap.objs.size 0 .none->h'.IsTupleIter s.heap.objs.size l 0->(∀b o,s.heap.get? b=some o->h'.get? b=some o)->Q (.ref (s.heap.objs.size+1)) {s with heap:=h'}):
  wpAny (model prog w) A (call (.type "enumerate") [.ref l]) Q E s:=by
 obtain⟨⟨c,dct,dt,sl⟩,hl,hc,n,hd⟩:=hL
 replace hc:c= .type "tuple":=hc
 replace hd:dt= .seq items n:=hd
 subst hc hd
 refine callType_new F.called_enumerate (by decide) (F.typeCall_enumerate_1 _) (F.newCall_enumerate_1 _) (fun obj=>F.args_object_init_2 obj _) F.entry_enumerate_new
  (iS l items n dct sl) ⟨hl,?_⟩
 have hz:(s.heap.push {cls:= .type "tuple_iterator",data:= .fields #[.ref l,.int 0 0]}).objs.size=s.heap.objs.size+1:=Heap.size_push ..
 show _/\_
 rw[hz]
 have he:IsEnum ((s.heap.push {cls:= .type "tuple_iterator",data:= .fields #[.ref l,.int 0 0]}).push
   {cls:= .type "enumerate",data:= .fields #[.none,.bool false,.ref s.heap.objs.size,rawInt 0,.none,.none]}) (s.heap.objs.size+1) s.heap.objs.size 0 .none:=by
  have:=Heap.get?_push_size (s.heap.push {cls:= .type "tuple_iterator",data:= .fields #[.ref l,.int 0 0]})
   (o:={cls:= .type "enumerate",data:= .fields #[.none,.bool false,.ref s.heap.objs.size,rawInt 0,.none,.none]}) rfl
  rw[hz]at this;exact this
 exact⟨⟨_,he,rfl⟩,h _ he ⟨_,Heap.get?_push_of_some _ (Heap.get?_push_size _ rfl),rfl,rfl⟩ fun b o x=>Heap.get?_push_of_some _ (Heap.get?_push_of_some _ x)⟩
end
def hR(K:Frag)(a:Addr):It:=
 ⟨fun i H=>∃xs x,SqT K H a xs/\xs[i]? =some x,fun i H x H'=>∃p v,H p=none/\x= .ref p/\(∀xs,SqT K H a xs->xs[i]? =some v)/\H'=upd H p (.tup [.int i,v]),fun i H=>∃xs,SqT K H a xs/\xs.length<=i⟩
theorem j7{P:Program}{w:World}{K:Frag}{elts:List Expr}{x1}{pos:Pos}(a e it:Addr)(hei:e≠it):
  Turn P w K (.Tuple elts x1 pos) (hR K a) [e,it] e (fun i h=>(∃old,IsEnum h e it i old)/\h.IsTupleIter it a i) where
 mem:=by simp
 obj:=fun i h st b hb=>by
  obtain⟨⟨old,he⟩,⟨o,ho,hc,hd⟩⟩:=st
  rcases List.mem_cons.mp hb with z|z
  ·subst z
   refine⟨_,he,fun v z=>?_⟩
   have z':Data.fields _=Data.cell v:=z
   cases z'
  ·rw[List.mem_singleton.mp z]
   exact⟨o,ho,fun v z=>by rw[hd]at z;cases z⟩
 keep:=fun i h h' st k=>⟨let⟨old,he⟩:=st.1;⟨old,k e (by simp) _ he⟩,st.2.at fun o q=>k it (by simp) o q⟩
 item:=by
  intro X hP hw hK hc i pins s σ H E I hf st hg
  subst hP hw hK
  obtain⟨xs,x,hq,hx⟩:=hg
  obtain⟨its,rv,p,hz⟩:=I.tuple hq
  obtain⟨u,hu,ru⟩:=rv.get hx
  obtain⟨⟨old,he⟩,hit⟩:=st
  have nae:a≠e:=fun z=>by
   subst z
   obtain⟨o,ho,hcl,_⟩:=p
   rw[he]at ho;cases ho;exact absurd (show Value.type "enumerate"=Value.type "tuple" from hcl) (by decide)
  have nai:a≠it:=fun z=>by
   subst z
   obtain⟨o,ho,hcl,_⟩:=p
   obtain⟨o',ho',hc',_⟩:=hit
   rw[ho]at ho';cases ho';rw[hcl]at hc';exact absurd hc' (by decide)
  have hil:i<its.toArray.size:=by
   have:=(List.getElem?_eq_some_iff.mp hu).1
   simpa using this
  refine wpAny_pyNext_enum_itemD (cK (A:=X.A.in1) (I.ok.hd hc) it a nai its.toArray) he ⟨hit,p⟩ hil hei (by simp [hei,Ne.symm nae]) fun v h' tk hv ho ⟨hit',_⟩ ht hsz hk=>⟨_,rfl,?_⟩
  have ev:v=u:=by
   have hv':its[i]? =some v:=by simpa using hv
   rw[hu]at hv';exact(Option.some.inj hv').symm
  subst ev
  refine wpAny_letOwnedTupleGo_enum ho fun h'' he'' hs''=>?_
  have helt:e<s.heap.objs.size:=Heap.lt_size he
  have hilt:it<s.heap.objs.size:=by obtain⟨_,y,_⟩:=hit;exact Heap.lt_size y
  refine⟨.ref s.heap.objs.size,upd H s.heap.objs.size (.tup [.int i,x]),?_,rfl,⟨_,x,I.hok.fresh (Nat.le_refl _),rfl,fun ys hy=>by rw[I.tuple_inj hy hq];exact hx,rfl⟩,⟨⟨_,by simpa using he''⟩,?_⟩,?_⟩
  ·show L2.Inv X pins σ _ {s with heap:=h'',toks:=tk+1}
   refine bS (s:=s) (its:=[.int i tk,v]) I (ch:=[e,it]) (fun b o hb q=>?_) hf (fun b hb=>?_) (Nat.le_refl _) (by show 2<=sizeLine;decide) (.cons ⟨_,rfl⟩ (.cons ru .nil)) ?_
   ·have hb1:b≠e:=fun z=>hb (by simp [z])
    have hb2:b≠it:=fun z=>hb (by simp [z])
    exact(hs''.2 b hb1).trans (hk b o hb1 hb2 q)
   ·rcases List.mem_cons.mp hb with z|z
    ·subst z;exact⟨_,he''⟩
    ·rw[List.mem_singleton.mp z]
     obtain⟨o,y,_⟩:=hit'
     exact⟨o,(hs''.2 it (Ne.symm hei)).trans y⟩
   ·exact⟨_,(hs''.2 _ (Nat.ne_of_gt helt)).trans ht,rfl,_,rfl⟩
  ·exact hit'.extBut hs''.extBut (Ne.symm hei)
  ·intro b hb
   rw[qh]
   ·exact(hf b hb).1
   ·rcases List.mem_cons.mp hb with z|z
    ·subst z;exact Nat.ne_of_lt helt
    ·rw[List.mem_singleton.mp z];exact Nat.ne_of_lt hilt
 done:=by
  intro X hP hw hK hc i pins s σ H E I hf st hg
  subst hP hw hK
  obtain⟨xs,hq,hx⟩:=hg
  obtain⟨its,rv,p,hz⟩:=I.tuple hq
  obtain⟨⟨old,he⟩,hit⟩:=st
  obtain⟨f0,f1,f2,f3,f4,f5⟩:=hf it (by simp)
  have hl:=rv.length
  have nai:a≠it:=fun z=>by
   subst z
   obtain⟨o,ho,hcl,_⟩:=p
   obtain⟨o',ho',hc',_⟩:=hit
   rw[ho]at ho';cases ho';rw[hcl]at hc';exact absurd hc' (by decide)
  unfold pyNext
  have hT:s.TypeIs (.ref e) "enumerate":=⟨_,he,rfl⟩
  refine wpAny_bind (wpAny_attempt (wpAny_callSpecial?_slot (name:=Str.ofString "__next__") hT F.slot_enumerate_next
   (wpAny_call_entry F.slot_enumerate_next hT F.entry_enumerate_next ?_ (F.args_enumerate_next_1 _))))
  show wpAny _ _ (field (.ref e) 2 >>= _) _ _ _
  refine wpAny_bind (wpAny_field he rfl (x:= .ref it) rfl ?_)
  refine wpAny_bind (fU (I.ok.hd hc) hit p (by simp;omega) fun h' ex eb hx'=>?_)
  obtain⟨o,ho,hcl⟩:=hx'
  refine wpAny_bind (wpAny_isInstance (T:="StopIteration") (b:=true) ⟨o,ho,hcl⟩ isSubtype_stop ?_)
  exact wpAny_pure ⟨rfl,I.turned (t':=s.toks) (fun b o hb e=>eb b o hb e) f0 f1 f3 f4 f5⟩
 self:=fun _ _ _ _ _ st h=>by
  obtain⟨⟨old,he⟩,_⟩:=st
  exact wpAny_pyIter_enum he h
section
variable{X:Cx}
def lV(K:Frag)(ta:TA):TI:=fun σ H R=>ta σ H fun vs H1=>∃a,vs=[.ref a]/\((∃xs,SqL K H1 a xs)/\R (jq K a) H1\/(∃xs,SqT K H1 a xs)/\R (hR K a) H1)
theorem oA{a:Expr}{ta:TA}{p pos:Pos}{elts:List Expr}{x1}{tpos:Pos}(hg:Gl X "enumerate")(hm:X.mg "enumerate"=none)(ha:PA X [a] ta)(hs:starEach [a] X.env=[(false,eval a X.env)]:=by rfl):
  PI X (.Tuple elts x1 tpos) (.Call (.Name "enumerate" p) [a] [] pos) (lV X.K ta):=by
 intro pins s σ H R I h
 refine Call_ (Qs I hg hm boot_enumerate (PyProof.Rows.callWith_type1 (qD (ha pos pins s σ H _ I h) fun us s1 ⟨vs,H1,I1,r1,q1⟩=>?_) hs rfl))
 obtain⟨l,e,q1⟩:=q1
 subst e
 obtain⟨u,rfl,ru⟩:=r1.one
 cases ru
 have fpk:∀b∈[s1.heap.objs.size+1,s1.heap.objs.size],Zd X pins H1 b:=fun b hb=>by
  have hb':s1.heap.objs.size<=b:=by
   rcases List.mem_cons.mp hb with z|z
   ·rw[z];exact Nat.le_succ _
   ·rw[List.mem_singleton.mp z];exact Nat.le_refl _
  exact I1.fpOk hb' (I1.hok.fresh hb')
 rcases q1 with⟨⟨xs,hq⟩,q⟩|⟨⟨xs,hq⟩,q⟩
 ·obtain⟨its,rv,pl,hz⟩:=I1.list hq
  refine call_enumerate_list pl.isList fun h' he hit hsz hk=>wpAny_pyIter_enum he ?_
  exact⟨s1.heap.objs.size+1,[s1.heap.objs.size+1,s1.heap.objs.size],_,_,H1,rfl,I1.kept (t':=s1.toks) hk,e8 l _ _ (Nat.ne_of_gt (Nat.lt_succ_self _)),⟨⟨_,he⟩,hit⟩,fpk,q⟩
 ·obtain⟨its,rv,pl,hz⟩:=I1.tuple hq
  refine lh (show s1.heap.IsTuple l its.toArray from pl) fun h' he hit hk=>wpAny_pyIter_enum he ?_
  exact⟨s1.heap.objs.size+1,[s1.heap.objs.size+1,s1.heap.objs.size],_,_,H1,rfl,I1.kept (t':=s1.toks) hk,j7 l _ _ (Nat.ne_of_gt (Nat.lt_succ_self _)),⟨⟨_,he⟩,hit⟩,fpk,q⟩
theorem mF{K:Frag}{a:Addr}{xs:List V}{g:TG}{tb:TS}{D:Ends}{σ:L2.St}{H:Hp}(Pv:Nat->L2.St->Hp->Prop)(h0:Pv 0 σ H)(hl:∀i σ H,i<=xs.length->Pv i σ H->SqT K H a xs)
  (hs:∀i x σ H p,xs[i]? =some x->Pv i σ H->H p=none->g (.ref p) σ (upd H p (.tup [.int i,x])) fun σ2 H2=>tb {D with nx:=Pv (i+1),ct:=Pv (i+1),bk:=D.nx} σ2 H2)(hd:∀σ H,Pv xs.length σ H->D.nx σ H):
  ∃W:Nat->Nat->L2.St->Hp->Prop,(∃m,W 0 m σ H)/\∀i m σ H,W i m σ H->
   ((hR K a).stop i H/\D.nx σ H)\/((hR K a).go i H/\∃N:L2.St->Hp->Prop,(∀σ' H',N σ' H'->∃m',m'<m/\W (i+1) m' σ' H')/\∀x H',(hR K a).yld i H x H'->g x σ H' fun σ2 H2=>tb {D with nx:=N,ct:=N,bk:=D.nx} σ2 H2):=by
 refine⟨fun i m σ H=>m=xs.length-i/\i<=xs.length/\Pv i σ H,⟨xs.length,by simp,Nat.zero_le _,h0⟩,?_⟩
 rintro i m σ H ⟨rfl,hi,p⟩
 have q:=hl i σ H hi p
 by_cases hlt:i<xs.length
 ·refine .inr ⟨⟨xs,xs[i],q,by simp [hlt]⟩,Pv (i+1),fun σ' H' p'=>⟨xs.length-(i+1),by omega,rfl,hlt,p'⟩,fun x H' y=>?_⟩
  obtain⟨pp,v,hp,rfl,hv,rfl⟩:=y
  exact hs i v σ H pp (hv xs q) p hp
 ·have e:i=xs.length:=by omega
  subst e
  exact .inl ⟨⟨xs,q,Nat.le_refl _⟩,hd σ H p⟩
end
structure ZApart(z TI TO i1 i2:Addr)(f1 f2:List Addr):Prop where
 TIz:TI≠z
 TOz:TO≠z
 i1z:i1≠z
 i2z:i2≠z
 TITO:TI≠TO
 TIi1:TI≠i1
 TIi2:TI≠i2
 TOi1:TO≠i1
 TOi2:TO≠i2
 i12:i1≠i2
 z1:z∉f1
 z2:z∉f2
 t1:TO∉f1
 t2:TO∉f2
 x1:i2∉f1
 x2:i1∉f2
section
variable{prog:Program}{w:World}{A:Around}{E:Value->Shared->Prop}{s:Shared}{z TI TO i1 i2:Addr}{f1 f2:List Addr}{n1 n2 k:Nat}{P1 P2:Nat->Value->Prop}{S1 S2:Nat->Heap->Prop}{a b:Value}
theorem fI{Q:Value->Shared->Prop}(D1:Draws prog w A i1 f1 n1 P1 S1)(D2:Draws prog w A i2 f2 n2 P2 S2)(Z:ZApart z TI TO i1 i2 f1 f2)
  (hz:IsZip s.heap z TI TO .none)(hTI:IsPair s.heap TI (.ref i1) (.ref i2))(hTO:IsPair s.heap TO a b)(q1:S1 k s.heap)(q2:S2 k s.heap)(k1:k<n1)(k2:k<n2)
  (hQ:∀x y h' tk,P1 k x->P2 k y->IsZip h' z TI TO (rawInt s.heap.objs.size)->IsPair h' TO x y->S1 (k+1) h'->S2 (k+1) h'->IsPair h' s.heap.objs.size x y->
   (∀c o,c≠z->c≠TO->c≠i1->c≠i2->s.heap.get? c=some o->h'.get? c=some o)->Q (.ref s.heap.objs.size) {s with heap:=h',toks:=tk}):
  wpAny (model prog w) A (Builtin.«zip.__next__» ⟨[.ref z],[]⟩) (fun fin s'=>∃v,fin= .done (.ret v)/\Q v s') E s:=by
 obtain⟨hp,g,d,t0,os⟩:=s
 show wpAny _ _ (field (.ref z) 2 >>= _) _ _ _
 refine wpAny_bind (wpAny_field hz rfl (x:= .bool false) rfl ?_)
 show wpAny _ _ (field (.ref z) 3 >>= _) _ _ _
 refine wpAny_bind (wpAny_field hz rfl (x:= .ref TI) rfl ?_)
 refine wpAny_bind (wpAny_seqItems hTI rfl ?_)
 show wpAny _ _ (Builtin.SmallTypes.ownedTupleIsFree (.ref z) >>= _) _ _ _
 refine wpAny_bind ?_
 unfold Builtin.SmallTypes.ownedTupleIsFree
 refine wpAny_bind (wpAny_field hz rfl (x:= .none) rfl (wpAny_pure ?_))
 simp only[if_true]
 refine wpAny_bind (wpAny_rule ?_)
 refine wpAny_bind (wpAny_field hz rfl (x:= .ref TO) rfl ?_)
 refine wpAny_bind (wpAny_setField_rec hz (by simp) fun h₁ hz₁ hs₁=>?_)
 replace hz₁:IsZip h₁ z TI TO .ellipsis:=hz₁
 replace hs₁:Heap.SameBut z hp h₁:=hs₁
 refine wpAny_bind ?_
 simp only[List.zipIdx_cons,List.zipIdx_nil,List.forIn_cons,List.forIn_nil]
 refine wpAny_bind (wpAny_bind (wpAny_onRaise ?_))
 show wpAny _ _ (Builtin.SmallTypes.nextOf (.ref i1) >>= _) _ _ _
 have q1a:S1 k h₁:=D1.frame _ _ _ q1 fun c hc o e=>hs₁.extBut c o (fun y=>Z.z1 (y▸hc)) e
 refine wpAny_bind (D1.item k ⟨h₁,g,d,t0,os⟩ _ _ k1 q1a fun x h₂ tk₂ p1 q1b hs₂=>wpAny_pure ?_)
 replace hs₂:Heap.SameBut i1 h₁ h₂:=hs₂
 have hTO₂:IsPair h₂ TO a b:=hs₂.extBut _ _ Z.TOi1 (hs₁.extBut _ _ Z.TOz hTO)
 refine wpAny_bind (wpAny_seqItems hTO₂ rfl ?_)
 refine wpAny_bind (wpAny_updateSeq_pair hTO₂ fun h₃ hTO₃ hs₃=>?_)
 replace hTO₃:IsPair h₃ TO x b:=hTO₃
 replace hs₃:Heap.SameBut TO h₂ h₃:=hs₃
 refine wpAny_bind (wpAny_letGo (wpAny_pure ?_))
 refine wpAny_bind (wpAny_bind (wpAny_onRaise ?_))
 show wpAny _ _ (Builtin.SmallTypes.nextOf (.ref i2) >>= _) _ _ _
 have q2a:S2 k h₃:=D2.frame _ _ _ q2 fun c hc o e=>hs₃.extBut c o (fun y=>Z.t2 (y▸hc)) (hs₂.extBut c o (fun y=>Z.x2 (y▸hc)) (hs₁.extBut c o (fun y=>Z.z2 (y▸hc)) e))
 refine wpAny_bind (D2.item k ⟨h₃,g,d,tk₂,os⟩ _ _ k2 q2a fun y h₄ tk₄ p2 q2b hs₄=>wpAny_pure ?_)
 replace hs₄:Heap.SameBut i2 h₃ h₄:=hs₄
 have hTO₄:IsPair h₄ TO x b:=hs₄.extBut _ _ Z.TOi2 hTO₃
 refine wpAny_bind (wpAny_seqItems hTO₄ rfl ?_)
 refine wpAny_bind (wpAny_updateSeq_pair hTO₄ fun h₅ hTO₅ hs₅=>?_)
 replace hTO₅:IsPair h₅ TO x y:=hTO₅
 replace hs₅:Heap.SameBut TO h₄ h₅:=hs₅
 refine wpAny_bind (wpAny_letGo (wpAny_pure (wpAny_pure ?_)))
 refine wpAny_bind (wpAny_seqItems hTO₅ rfl ?_)
 refine wpAny_bind (wpAny_newTuple ?_)
 have hsz:h₅.objs.size=hp.objs.size:=by rw[hs₅.1,hs₄.1,hs₃.1,hs₂.1,hs₁.1]
 have hz₅:IsZip h₅ z TI TO .ellipsis:=hs₅.extBut _ _ Z.TOz.symm (hs₄.extBut _ _ Z.i2z.symm (hs₃.extBut _ _ Z.TOz.symm (hs₂.extBut _ _ Z.i1z.symm hz₁)))
 have hk₅:∀c o,c≠z->c≠TO->c≠i1->c≠i2->hp.get? c=some o->h₅.get? c=some o:=fun c o c1 c2 c3 c4 e=>
  hs₅.extBut _ _ c2 (hs₄.extBut _ _ c4 (hs₃.extBut _ _ c2 (hs₂.extBut _ _ c3 (hs₁.extBut _ _ c1 e))))
 have q1c:S1 (k+1) h₅:=D1.frame _ _ _ q1b fun c hc o e=>hs₅.extBut c o (fun y=>Z.t1 (y▸hc)) (hs₄.extBut c o (fun y=>Z.x1 (y▸hc)) (hs₃.extBut c o (fun y=>Z.t1 (y▸hc)) e))
 have q2c:S2 (k+1) h₅:=D2.frame _ _ _ q2b fun c hc o e=>hs₅.extBut c o (fun y=>Z.t2 (y▸hc)) e
 have hzlt:z<h₅.objs.size:=Heap.lt_size hz₅
 show wpAny _ _ (Builtin.SmallTypes.ownedTupleHandOut (.ref z) (.ref h₅.objs.size) >>= _) _ _ _
 refine wpAny_bind ?_
 unfold Builtin.SmallTypes.ownedTupleHandOut
 have hz₆:IsZip (h₅.push {cls:= .type "tuple",data:= .seq #[x,y]}) z TI TO .ellipsis:=Heap.get?_push_of_some _ hz₅
 refine wpAny_bind (wpAny_setField_rec hz₆ (by simp) fun h₇ hz₇ hs₇=>?_)
 replace hz₇:IsZip h₇ z TI TO (rawInt h₅.objs.size):=hz₇
 refine wpAny_setField_rec hz₇ (by simp) fun h₈ hz₈ hs₈=>?_
 replace hz₈:IsZip h₈ z TI TO (rawInt h₅.objs.size):=hz₈
 have up:∀c o,c≠z->h₅.get? c=some o->h₈.get? c=some o:=fun c o c1 e=>hs₈.extBut _ _ c1 (hs₇.extBut _ _ c1 (Heap.get?_push_of_some _ e))
 have hT₈:IsPair h₈ h₅.objs.size x y:=hs₈.extBut _ _ (Nat.ne_of_gt hzlt) (hs₇.extBut _ _ (Nat.ne_of_gt hzlt) (Heap.get?_push_size _ rfl))
 rw[hsz]at hz₈ hT₈
 refine wpAny_pure ⟨_,rfl,?_⟩
 show Q (.ref h₅.objs.size) _
 rw[hsz]
 exact hQ x y h₈ tk₄ p1 p2 hz₈ (up _ _ Z.TOz hTO₅) (D1.frame _ _ _ q1c fun c hc o e=>up c o (fun y=>Z.z1 (y▸hc)) e) (D2.frame _ _ _ q2c fun c hc o e=>up c o (fun y=>Z.z2 (y▸hc)) e) hT₈ fun c o c1 c2 c3 c4 e=>up c o c1 (hk₅ c o c1 c2 c3 c4 e)
theorem gX{Q:Fin->Shared->Prop}(D1:Draws prog w A i1 f1 n1 P1 S1)(Z:ZApart z TI TO i1 i2 f1 f2)
  (hz:IsZip s.heap z TI TO .none)(hTI:IsPair s.heap TI (.ref i1) (.ref i2))(q1:S1 n1 s.heap)
  (hE:∀h' e,(∀c o,c≠z->c≠i1->s.heap.get? c=some o->h'.get? c=some o)->(∃o,h'.get? e=some o/\o.cls= .type "StopIteration")->E (.ref e) {s with heap:=h'}):
  wpAny (model prog w) A (Builtin.«zip.__next__» ⟨[.ref z],[]⟩) Q E s:=by
 obtain⟨hp,g,d,t0,os⟩:=s
 show wpAny _ _ (field (.ref z) 2 >>= _) _ _ _
 refine wpAny_bind (wpAny_field hz rfl (x:= .bool false) rfl ?_)
 show wpAny _ _ (field (.ref z) 3 >>= _) _ _ _
 refine wpAny_bind (wpAny_field hz rfl (x:= .ref TI) rfl ?_)
 refine wpAny_bind (wpAny_seqItems hTI rfl ?_)
 show wpAny _ _ (Builtin.SmallTypes.ownedTupleIsFree (.ref z) >>= _) _ _ _
 refine wpAny_bind ?_
 unfold Builtin.SmallTypes.ownedTupleIsFree
 refine wpAny_bind (wpAny_field hz rfl (x:= .none) rfl (wpAny_pure ?_))
 simp only[if_true]
 refine wpAny_bind (wpAny_rule ?_)
 refine wpAny_bind (wpAny_field hz rfl (x:= .ref TO) rfl ?_)
 refine wpAny_bind (wpAny_setField_rec hz (by simp) fun h₁ hz₁ hs₁=>?_)
 replace hz₁:IsZip h₁ z TI TO .ellipsis:=hz₁
 replace hs₁:Heap.SameBut z hp h₁:=hs₁
 refine wpAny_bind ?_
 simp only[List.zipIdx_cons,List.zipIdx_nil,List.forIn_cons,List.forIn_nil]
 refine wpAny_bind (wpAny_bind (wpAny_onRaise ?_))
 show wpAny _ _ (Builtin.SmallTypes.nextOf (.ref i1) >>= _) _ _ _
 have q1a:S1 n1 h₁:=D1.frame _ _ _ q1 fun c hc o e=>hs₁.extBut c o (fun y=>Z.z1 (y▸hc)) e
 refine wpAny_bind (D1.done ⟨h₁,g,d,t0,os⟩ _ _ q1a fun h₂ e hs₂ he=>?_)
 obtain⟨oe,hoe,hce⟩:=he
 replace hs₂:Heap.ExtBut i1 h₁ h₂:=hs₂
 have hz₂:IsZip h₂ z TI TO .ellipsis:=hs₂ _ _ Z.i1z.symm hz₁
 have hez:e≠z:=fun x=>by subst x;rw[hz₂]at hoe;cases hoe;simp at hce
 refine wpAny_setField_rec hz₂ (by simp) fun h₃ _ hs₃=>hE h₃ e (fun c o c1 c3 x=>hs₃.extBut _ _ c1 (hs₂ _ _ c3 (hs₁.extBut _ _ c1 x))) ⟨oe,hs₃.extBut _ _ hez hoe,hce⟩
end
abbrev rj(h:Heap)(l1:Addr):Heap:=h.push {cls:= .type "tuple_iterator",data:= .fields #[.ref l1,.int 0 0]}
abbrev pS(h:Heap)(l1 l2:Addr):Heap:=(rj h l1).push {cls:= .type "tuple_iterator",data:= .fields #[.ref l2,.int 0 0]}
abbrev rz(h:Heap)(l1 l2:Addr):Heap:=(pS h l1 l2).push {cls:= .type "tuple",data:= .seq #[.ref h.objs.size,.ref (rj h l1).objs.size]}
abbrev pR(h:Heap)(l1 l2:Addr):Heap:=(rz h l1 l2).push {cls:= .type "tuple",data:= .seq #[.none,.none]}
abbrev jO(h:Heap)(l1 l2:Addr):Heap:=(pR h l1 l2).push {cls:= .type "zip",data:= .fields #[.none,.bool false,.bool false,.ref (pS h l1 l2).objs.size,.ref (rz h l1 l2).objs.size]}
theorem kY(l1 l2:Addr)(xs ys:Array Value):
  Meets (Builtin.«zip.__new__» ⟨[.type "zip",.ref l1,.ref l2],[]⟩) (fun _ R s=>s.heap.IsTuple l1 xs/\s.heap.IsTuple l2 ys/\
   R (.ok (.ret (.ref (pR s.heap l1 l2).objs.size))) {s with heap:=jO s.heap l1 l2}):=
 .of_wp fun prog w A R s h=>by
  obtain⟨hp,g,d,tk,os⟩:=s;obtain⟨hl1,hl2,h⟩:=h
  have hsub:=sub_zip
  have hL1:Heap.IsTuple (Shared.heap ⟨hp,g,d,tk,os⟩) l1 xs:=hl1
  have hL2:Heap.IsTuple (Shared.heap ⟨hp.push {cls:= .type "tuple_iterator",data:= .fields #[.ref l1,.int 0 0]},g,d,tk,os⟩) l2 ys:=let⟨o,e,r⟩:=hl2;⟨o,Heap.get?_push_of_some _ e,r⟩
  wp_walk using wpAny_pyIter_tuple hL1,wpAny_pyIter_tuple hL2
  exact⟨_,rfl,h⟩
section
variable{prog:Program}{w:World}{A:Around}{E:Value->Shared->Prop}{s:Shared}
theorem lC{l1 l2:Addr}{xs ys:Array Value}{Q:Value->Shared->Prop}(hl1:s.heap.IsTuple l1 xs)(hl2:s.heap.IsTuple l2 ys)
  (h:∀h',IsZip h' (s.heap.objs.size+4) (s.heap.objs.size+2) (s.heap.objs.size+3) .none->IsPair h' (s.heap.objs.size+2) (.ref s.heap.objs.size) (.ref (s.heap.objs.size+1))->
   IsPair h' (s.heap.objs.size+3) .none .none->h'.IsTupleIter s.heap.objs.size l1 0->h'.IsTupleIter (s.heap.objs.size+1) l2 0->
   (∀c o,s.heap.get? c=some o->h'.get? c=some o)->Q (.ref (s.heap.objs.size+4)) {s with heap:=h'}):
  wpAny (model prog w) A (call (.type "zip") [.ref l1,.ref l2]) Q E s:=by
 refine callType_new F.called_zip (by decide) (F.typeCall_zip_2 _ _) (F.newCall_zip_2 _ _) (fun obj=>F.args_object_init_3 obj _ _) F.entry_zip_new
  (kY l1 l2 xs ys) ⟨hl1,hl2,?_⟩
 have z1:(rj s.heap l1).objs.size=s.heap.objs.size+1:=Heap.size_push ..
 have z2:(pS s.heap l1 l2).objs.size=s.heap.objs.size+2:=by rw[Heap.size_push,z1]
 have z3:(rz s.heap l1 l2).objs.size=s.heap.objs.size+3:=by rw[Heap.size_push,z2]
 have z4:(pR s.heap l1 l2).objs.size=s.heap.objs.size+4:=by rw[Heap.size_push,z3]
 have g5:(jO s.heap l1 l2).get? (pR s.heap l1 l2).objs.size=some _:=Heap.get?_push_size _ rfl
 have g4:(jO s.heap l1 l2).get? (rz s.heap l1 l2).objs.size=some _:=Heap.get?_push_of_some _ (Heap.get?_push_size _ rfl)
 have g3:(jO s.heap l1 l2).get? (pS s.heap l1 l2).objs.size=some _:=Heap.get?_push_of_some _ (Heap.get?_push_of_some _ (Heap.get?_push_size _ rfl))
 have g2:(jO s.heap l1 l2).get? (rj s.heap l1).objs.size=some _:=Heap.get?_push_of_some _ (Heap.get?_push_of_some _ (Heap.get?_push_of_some _ (Heap.get?_push_size _ rfl)))
 have g1:(jO s.heap l1 l2).get? s.heap.objs.size=some _:=Heap.get?_push_of_some _ (Heap.get?_push_of_some _ (Heap.get?_push_of_some _ (Heap.get?_push_of_some _ (Heap.get?_push_size _ rfl))))
 show _/\_
 rw[z2,z3,z4]at g5
 rw[z1,z2]at g3
 rw[z3]at g4
 rw[z1]at g2
 rw[z4]
 exact⟨⟨_,g5,rfl⟩,h _ g5 g3 g4 ⟨_,g1,rfl,rfl⟩ ⟨_,g2,rfl,rfl⟩ fun c o x=>
  Heap.get?_push_of_some _ (Heap.get?_push_of_some _ (Heap.get?_push_of_some _ (Heap.get?_push_of_some _ (Heap.get?_push_of_some _ x))))⟩
end
section
variable{X:Cx}{pins:List (Addr×Obj)}{σ:L2.St}{H:Hp}{s:Shared}
theorem jt{h':Heap}{t':Nat}{ch:List Addr}(I:L2.Inv X pins σ H s)(k:∀b o,b∉ch->s.heap.get? b=some o->h'.get? b=some o)(hch:∀b∈ch,Zd X pins H b):L2.Inv X pins σ H {s with heap:=h',toks:=t'}:=by
 have nch:∀b u,H b=some u->b∉ch:=fun b u e z=>by rw[(hch b z).1]at e;cases e
 refine I.step (g':=s.gens) (d':=s.drawn) (ch:=ch) (fun b hb=>⟨(hch b hb).2.2.2.1,(hch b hb).2.1,(hch b hb).2.2.2.2.1,(hch b hb).2.2.2.2.2⟩) (fun b o _ _ hc e _=>k b o hc e) (fun b o _ _ hc e _=>⟨o.slots,k b o hc e⟩)
  (fun _ _ _ _ n=>n) (fun b o hc e=>⟨o,k b o hc e⟩) (fun _ _ e=>e) (fun _ _ _ e=>e) (fun b ps e=>⟨#[],by rw[e];simp⟩) (fun m hm=>?_) (fun b u e=>?_) I.bare
 ·obtain⟨o,es,ep,ho,r⟩:=hm
  exact⟨o,es,ep,k _ o (fun z=>(hch _ z).2.1 rfl) ho,r⟩
 ·refine(I.hok b u e).stay (fun c v hc q=>k c v ?_ q) (fun _ q=>q) fun _ _ q=>q
  rcases hc with z|z
  ·rw[z];exact nch b u e
  ·exact nch c _ z
theorem bK{H:Hp}{a b:Addr}{u:HO}(h:Rd H a u)(h':H b=none):a≠b:=by
 rcases h with h|⟨o,h⟩
 ·exact qo h h'
 ·exact qo h h'
def tT(a1 a2:Addr):It:=
  ⟨fun i H=>∃xs ys x y,Rd H a1 (.tup xs)/\Rd H a2 (.tup ys)/\xs[i]? =some x/\ys[i]? =some y,
   fun i H v H'=>∃p x y,H p=none/\v= .ref p/\(∀xs,Rd H a1 (.tup xs)->xs[i]? =some x)/\(∀ys,Rd H a2 (.tup ys)->ys[i]? =some y)/\H'=upd H p (.tup [x,y]),
   fun i H=>∃xs,Rd H a1 (.tup xs)/\xs.length=i⟩
theorem nP{P:Program}{w:World}{K:Frag}{elts:List Expr}{x1}{pos:Pos}(a1 a2 z TI TO i1 i2:Addr)(d1:TI≠z)(d2:TO≠z)(d3:i1≠z)(d4:i2≠z)(d5:TI≠TO)(d6:TI≠i1)(d7:TI≠i2)(d8:TO≠i1)(d9:TO≠i2)(d10:i1≠i2):
  Turn P w K (.Tuple elts x1 pos) (tT a1 a2) [z,TI,TO,i1,i2] z (fun i h=>IsZip h z TI TO .none/\IsPair h TI (.ref i1) (.ref i2)/\(∃a b,IsPair h TO a b)/\h.IsTupleIter i1 a1 i/\h.IsTupleIter i2 a2 i) where
 mem:=by simp
 obj:=fun i h st b hb=>by
  obtain⟨hz,hTI,⟨a,b',hTO⟩,⟨o1,ho1,_,hd1⟩,⟨o2,ho2,_,hd2⟩⟩:=st
  simp only[List.mem_cons,List.not_mem_nil,or_false]at hb
  rcases hb with rfl|rfl|rfl|rfl|rfl
  ·exact⟨_,hz,fun v y=>by have y':Data.fields _=Data.cell v:=y;cases y'⟩
  ·exact⟨_,hTI,fun v y=>by have y':Data.seq _ _=Data.cell v:=y;cases y'⟩
  ·exact⟨_,hTO,fun v y=>by have y':Data.seq _ _=Data.cell v:=y;cases y'⟩
  ·exact⟨_,ho1,fun v y=>by rw[hd1]at y;cases y⟩
  ·exact⟨_,ho2,fun v y=>by rw[hd2]at y;cases y⟩
 keep:=fun i h h' st k=>by
  obtain⟨hz,hTI,⟨a,b',hTO⟩,h1,h2⟩:=st
  exact⟨k z (by simp) _ hz,k TI (by simp) _ hTI,⟨a,b',k TO (by simp) _ hTO⟩,h1.at fun o e=>k i1 (by simp) o e,h2.at fun o e=>k i2 (by simp) o e⟩
 item:=by
  intro X hP hw hK hc i pins s σ H E I hf st hg
  subst hP hw hK
  obtain⟨xs,ys,x,y,ha1,ha2,hx,hy⟩:=hg
  obtain⟨its,rv,p,hz0⟩:=I.tuple (.inl ha1)
  obtain⟨its2,rv2,p2,hz2⟩:=I.tuple (.inl ha2)
  obtain⟨u,hu,ru⟩:=rv.get hx
  obtain⟨u2,hu2,ru2⟩:=rv2.get hy
  obtain⟨hz,hTI,⟨a,b',hTO⟩,h1,h2⟩:=st
  have n1:∀c∈[z,TI,TO,i1,i2],a1≠c:=fun c hc=>bK ha1 (hf c hc).1
  have n2:∀c∈[z,TI,TO,i1,i2],a2≠c:=fun c hc=>bK ha2 (hf c hc).1
  have Z:ZApart z TI TO i1 i2 [i1,a1] [i2,a2]:=⟨d1,d2,d3,d4,d5,d6,d7,d8,d9,d10,by simp [Ne.symm d3,Ne.symm (n1 z (by simp))],by simp [Ne.symm d4,Ne.symm (n2 z (by simp))],by simp [d8,Ne.symm (n1 TO (by simp))],by simp [d9,Ne.symm (n2 TO (by simp))],by simp [Ne.symm d10,Ne.symm (n1 i2 (by simp))],by simp [d10,Ne.symm (n2 i1 (by simp))]⟩
  have hil:i<its.toArray.size:=by have:=(List.getElem?_eq_some_iff.mp hu).1;simpa using this
  have hil2:i<its2.toArray.size:=by have:=(List.getElem?_eq_some_iff.mp hu2).1;simpa using this
  have hT:s.TypeIs (.ref z) "zip":=⟨_,hz,rfl⟩
  unfold pyNext
  refine wpAny_bind (wpAny_attempt (wpAny_callSpecial?_slot (name:=Str.ofString "__next__") hT F.slot_zip_next
   (wpAny_call_entry F.slot_zip_next hT F.entry_zip_next
    (fI (cK (A:=X.A.in1) (I.ok.hd hc) i1 a1 (n1 i1 (by simp)) its.toArray) (cK (A:=X.A.in1) (I.ok.hd hc) i2 a2 (n2 i2 (by simp)) its2.toArray) Z hz hTI hTO ⟨h1,p⟩ ⟨h2,p2⟩ hil hil2
     fun v v2 h' tk hv hv2 ho hTO' q1 q2 ht hk=>wpAny_pure ⟨_,rfl,?_⟩) (F.args_zip_next_1 _))))
  have ev:v=u:=by
   have hv':its[i]? =some v:=by simpa using hv
   rw[hu]at hv';exact(Option.some.inj hv').symm
  have ev2:v2=u2:=by
   have hv':its2[i]? =some v2:=by simpa using hv2
   rw[hu2]at hv';exact(Option.some.inj hv').symm
  subst ev ev2
  refine wpAny_letOwnedTupleGo_zip ho fun h'' hz'' hs''=>?_
  have lt:∀c∈[z,TI,TO,i1,i2],c<s.heap.objs.size:=fun c hc=>by
   simp only[List.mem_cons,List.not_mem_nil,or_false]at hc
   rcases hc with rfl|rfl|rfl|rfl|rfl
   ·exact Heap.lt_size hz
   ·exact Heap.lt_size hTI
   ·exact Heap.lt_size hTO
   ·obtain⟨_,e,_⟩:=h1;exact Heap.lt_size e
   ·obtain⟨_,e,_⟩:=h2;exact Heap.lt_size e
  have hTI':IsPair h'' TI (.ref i1) (.ref i2):=hs''.extBut _ _ d1 (hk _ _ d1 d5 d6 d7 hTI)
  have hTO'':IsPair h'' TO v v2:=hs''.extBut _ _ d2 hTO'
  have h1':h''.IsTupleIter i1 a1 (i+1):=q1.1.extBut hs''.extBut d3
  have h2':h''.IsTupleIter i2 a2 (i+1):=q2.1.extBut hs''.extBut d4
  refine⟨.ref s.heap.objs.size,upd H s.heap.objs.size (.tup [x,y]),?_,rfl,⟨_,x,y,I.hok.fresh (Nat.le_refl _),rfl,fun zs hy'=>by rw[I.tuple_inj (.inl hy') (.inl ha1)];exact hx,fun zs hy'=>by rw[I.tuple_inj (.inl hy') (.inl ha2)];exact hy,rfl⟩,⟨hz'',hTI',⟨_,_,hTO''⟩,h1',h2'⟩,?_⟩
  ·show L2.Inv X pins σ _ {s with heap:=h'',toks:=tk}
   refine bS (s:=s) (its:=[v,v2]) I (ch:=[z,TI,TO,i1,i2]) (fun b o hb q=>?_) hf (fun b hb=>?_) (Nat.le_refl _) (by show 2<=sizeLine;decide) (.cons ru (.cons ru2 .nil)) ?_
   ·simp only[List.mem_cons,List.not_mem_nil,or_false,not_or]at hb
    exact hs''.extBut b o hb.1 (hk b o hb.1 hb.2.2.1 hb.2.2.2.1 hb.2.2.2.2 q)
   ·simp only[List.mem_cons,List.not_mem_nil,or_false]at hb
    rcases hb with rfl|rfl|rfl|rfl|rfl
    ·exact⟨_,hz''⟩
    ·exact⟨_,hTI'⟩
    ·exact⟨_,hTO''⟩
    ·obtain⟨o,e,_⟩:=h1';exact⟨o,e⟩
    ·obtain⟨o,e,_⟩:=h2';exact⟨o,e⟩
   ·exact⟨_,hs''.extBut _ _ (Nat.ne_of_gt (lt z (by simp))) ht,rfl,_,rfl⟩
  ·intro b hb
   rw[qh (Nat.ne_of_lt (lt b hb))]
   exact(hf b hb).1
 done:=by
  intro X hP hw hK hc i pins s σ H E I hf st hg
  subst hP hw hK
  obtain⟨xs,ha1,hx⟩:=hg
  obtain⟨its,rv,p,hz0⟩:=I.tuple (.inl ha1)
  obtain⟨hz,hTI,⟨a,b',hTO⟩,h1,h2⟩:=st
  have n1:∀c∈[z,TI,TO,i1,i2],a1≠c:=fun c hc=>bK ha1 (hf c hc).1
  have Z:ZApart z TI TO i1 i2 [i1,a1] [i2]:=⟨d1,d2,d3,d4,d5,d6,d7,d8,d9,d10,by simp [Ne.symm d3,Ne.symm (n1 z (by simp))],by simp [Ne.symm d4],by simp [d8,Ne.symm (n1 TO (by simp))],by simp [d9],by simp [Ne.symm d10,Ne.symm (n1 i2 (by simp))],by simp [d10]⟩
  have hl:its.toArray.size=i:=by rw[List.size_toArray,<- rv.length];exact hx
  have hT:s.TypeIs (.ref z) "zip":=⟨_,hz,rfl⟩
  unfold pyNext
  refine wpAny_bind (wpAny_attempt (wpAny_callSpecial?_slot (name:=Str.ofString "__next__") hT F.slot_zip_next
   (wpAny_call_entry F.slot_zip_next hT F.entry_zip_next
    (gX (cK (A:=X.A.in1) (I.ok.hd hc) i1 a1 (n1 i1 (by simp)) its.toArray) Z hz hTI ⟨by rw[hl];exact h1,p⟩ fun h' e hk he=>?_) (F.args_zip_next_1 _))))
  obtain⟨o,ho,hcl⟩:=he
  refine wpAny_bind (wpAny_isInstance (T:="StopIteration") (b:=true) ⟨o,ho,hcl⟩ isSubtype_stop ?_)
  refine wpAny_pure ⟨rfl,jt (t':=s.toks) I (ch:=[z,i1]) (fun b o hb e=>?_) (fun b hb=>hf b ?_)⟩
  ·simp only[List.mem_cons,List.not_mem_nil,or_false,not_or]at hb
   exact hk b o hb.1 hb.2 e
  ·simp only[List.mem_cons,List.not_mem_nil,or_false]at hb
   rcases hb with rfl|rfl<;>simp
 self:=fun _ _ _ _ _ st h=>wpAny_pyIter_zip st.1 h
def tL(ta:TA):TI:=fun σ H R=>ta σ H fun vs H1=>∃a1 a2 xs ys,vs=[.ref a1,.ref a2]/\Rd H1 a1 (.tup xs)/\Rd H1 a2 (.tup ys)/\R (tT a1 a2) H1
theorem vp{a b:Expr}{ta:TA}{p pos:Pos}{elts:List Expr}{x1}{tpos:Pos}(hg:Gl X "zip")(hm:X.mg "zip"=none)(ha:PA X [a,b] ta)(h1:zF a=true:=by rfl)(h2:zF b=true:=by rfl):
  PI X (.Tuple elts x1 tpos) (.Call (.Name "zip" p) [a,b] [] pos) (tL ta):=by
 intro pins s σ H R I h
 have hs2:starEach [b] X.env=[(false,eval b X.env)]:=QN h2
 refine Call_ (Qs I hg hm boot_zip (PyProof.Rows.callWith_type1 (qD (ha pos pins s σ H _ I h) fun us s1 ⟨vs,H1,I1,r1,q1⟩=>?_) (by rw[QN h1,hs2]) (by rw[hs2];rfl)))
 obtain⟨a1,a2,xs,ys,e,e1,e2,q⟩:=q1
 subst e
 obtain⟨u,v,rfl,ru,rv⟩:=r1.two
 cases ru
 cases rv
 obtain⟨its,r1',p1,hz⟩:=I1.tuple (.inl e1)
 obtain⟨its2,r2',p2,hz2⟩:=I1.tuple (.inl e2)
 have ad:∀(n i j:Nat),i≠j->n+i≠n+j:=fun n i j h=>by omega
 refine lC (show s1.heap.IsTuple a1 its.toArray from p1) (show s1.heap.IsTuple a2 its2.toArray from p2) fun h' hz hTI hTO h1 h2 hk=>wpAny_pyIter_zip hz ?_
 refine⟨s1.heap.objs.size+4,[s1.heap.objs.size+4,s1.heap.objs.size+2,s1.heap.objs.size+3,s1.heap.objs.size,s1.heap.objs.size+1],_,_,H1,rfl,I1.kept (t':=s1.toks) hk,
  nP a1 a2 (s1.heap.objs.size+4) (s1.heap.objs.size+2) (s1.heap.objs.size+3) s1.heap.objs.size (s1.heap.objs.size+1) (ad _ 2 4 (by decide)) (ad _ 3 4 (by decide)) (ad _ 0 4 (by decide)) (ad _ 1 4 (by decide)) (ad _ 2 3 (by decide)) (ad _ 2 0 (by decide)) (ad _ 2 1 (by decide)) (ad _ 3 0 (by decide)) (ad _ 3 1 (by decide)) (ad _ 0 1 (by decide)),⟨hz,hTI,⟨_,_,hTO⟩,h1,h2⟩,fun b hb=>?_,q⟩
 have hb':s1.heap.objs.size<=b:=by
  simp only[List.mem_cons,List.not_mem_nil,or_false]at hb
  rcases hb with rfl|rfl|rfl|rfl|rfl
  ·exact Nat.le_add_right _ 4
  ·exact Nat.le_add_right _ 2
  ·exact Nat.le_add_right _ 3
  ·exact Nat.le_refl _
  ·exact Nat.le_add_right _ 1
 exact I1.fpOk hb' (I1.hok.fresh hb')
end
theorem oq{K:Frag}{js:List Nat}{te:TE}{σ:L2.St}{H:Hp}{Q:VK}{a1 a2:Addr}{xs ys:List V}(hl:xs.length=ys.length)(hn:xs.length<=sizeLine)(Pv:Nat->List V->Hp->Prop)(h0:Pv 0 [] H)
  (hk:∀i zs H,Pv i zs H->Rd H a1 (.tup xs)/\Rd H a2 (.tup ys))
  (hs:∀i zs H p x y,xs[i]? =some x->ys[i]? =some y->zs.length=i->Pv i zs H->H p=none->te (some x::some y::Qu js σ) (upd H p (.tup [x,y])) fun v H3=>Pv (i+1) (zs++[v]) H3)
  (hd:∀zs H,zs.length=xs.length->Pv xs.length zs H->∀p,H p=none->Q (.ref p) (upd H p (.lst zs))):
  cN 2 js (ee K 2 (ZN (Qe 0) (ZN (Qe 1) gB))) te σ Q (tT a1 a2) H:=by
 refine⟨fun i m zs τ H=>m=xs.length-i/\i<=xs.length/\zs.length=i/\Pv i zs H/\∃o o',τ=o::o'::Qu js σ,⟨xs.length,by simp,Nat.zero_le _,rfl,h0,none,none,rfl⟩,?_⟩
 rintro i m zs τ H ⟨rfl,hi,hzl,p,o,o',rfl⟩
 obtain⟨e1,e2⟩:=hk i zs H p
 by_cases hlt:i<xs.length
 ·have hlt2:i<ys.length:=by omega
  refine .inr ⟨⟨xs,ys,xs[i],ys[i],e1,e2,by simp [hlt],by simp [hlt2]⟩,by omega,fun v H' y=>?_⟩
  obtain⟨pp,x,y,hp,rfl,hx,hy,rfl⟩:=y
  refine⟨pp,_,rfl,SqT.of qc,rfl,_,_,rfl,_,_,rfl,rfl,?_⟩
  exact⟨fun v H3=>Pv (i+1) (zs++[v]) H3,fun v H3 p3=>⟨xs.length-(i+1),by omega,rfl,hlt,by simp [hzl],p3,_,_,rfl⟩,hs i zs _ pp x y (hx xs e1) (hy ys e2) hzl p hp⟩
 ·have e:i=xs.length:=by omega
  subst e
  exact .inl ⟨⟨xs,e1,rfl⟩,hd zs H hzl p⟩
end L3
namespace L3
open PySem PySem.Spec PyProof.Rows L2 PySem.SeqAt
open Sem (wp)
open AutoSeq1 (wpAny_loadPart')
section
variable{X:Cx}
theorem Rd.same{H H':Hp}{a:Addr}{u:HO}(s:Same H H')(h:Rd H a u):Rd H' a u:=by
 rcases h with h|⟨o,h⟩
 ·exact .inl (s _ _ h)
 ·exact .inr ⟨o,s _ _ h⟩
inductive Ty2 (H:Hp):V->String->Prop where
 |int (i:Int):Ty2 H (.int i) "int"
 |bl (b:Bool):Ty2 H (.bl b) "bool"
 |tup {a:Addr} {xs:List V} (h:Rd H a (.tup xs)):Ty2 H (.ref a) "tuple"
 |str (x:Str):Ty2 H (.str x) "str"
 |non:Ty2 H .non "NoneType"
 |lst {a:Addr} {xs:List V} (h:H a=some (.lst xs)):Ty2 H (.ref a) "list"
theorem jR{H:Hp}{x:V}{t:String}(h:Ty2 H x t):t∈eI:=by cases h<;>simp
theorem ju(K:Frag){t:String}(ht:t∈eI):∀cs:List String,(∀c∈cs,c∈dn)->W.kitAny K (.type t) (cs.map Value.type)=some (cs.any (zk t))
 | [],_=>rfl
 |c::r,h=>by
  have e:=eR K t ht c (h c List.mem_cons_self)
  have ih:=ju K ht r fun d hd=>h d (List.mem_cons_of_mem _ hd)
  simp only[List.map_cons,W.kitAny,e,List.any_cons]
  cases zk t c with
  |true=>rfl
  |false=>simpa using ih
theorem qG:qY X (.builtin "isinstance") (fun xs H Q=>∃x c t,xs=[x,.ty c]/\Ty2 H x t/\c∈dn/\Q (.bl (zk t c)) H):=by
 intro pins s σ H xs us Q I r h
 obtain⟨x,c,t,rfl,ty,hc,q⟩:=h
 obtain⟨u,v,rfl,ru,rv⟩:=bJ r
 cases(show v=Value.type c from rv)
 have e:=eR X.K t (jR ty) c hc
 have fin:∀tk,EP X pins σ Q (.bool (zk t c)) {s with toks:=tk}:=fun tk=>⟨.bl _,H,I.tok tk,rfl,q⟩
 cases ty with
 |int i=>obtain⟨t,q⟩:=(show∃t,u=Value.int i t from ru);cases q;exact W.kia_one W.kitx_int I.kIn True.intro e (fun z=>nomatch z) fin
 |bl b=>cases(show u=Value.bool b from ru);exact W.kia_one W.kitx_bool I.kIn True.intro e (fun z=>nomatch z) fin
 | @tup a ys hr=>
  cases(show u=Value.ref a from ru)
  obtain⟨its,_,⟨o,h1,h2,_⟩,_⟩:=I.tuple (.inl hr)
  exact W.kia_one W.kitx_tuple I.kIn ⟨o,h1,h2⟩ e (fun z=>nomatch z) fin
 |str x=>obtain⟨t,q⟩:=(show∃t,u=Value.str x t from ru);cases q;exact W.kia_one W.kitx_str I.kIn True.intro e (fun z=>nomatch z) fin
 |non=>cases(show u=Value.none from ru);exact W.kia_one W.kitx_none I.kIn True.intro e (fun z=>nomatch z) fin
 | @lst a ys ea=>
  cases(show u=Value.ref a from ru)
  obtain⟨_,_,n,_,h1⟩:=(show ObjOk X.prog X.w H s.heap a (.lst ys)from I.hok a _ ea)
  exact W.kia_one W.kitx_list I.kIn ⟨_,h1,rfl⟩ e (fun z=>nomatch z) fin
theorem iN:∀{cs:List String} {us:List Value},Vals (cs.map V.ty) us->us=cs.map Value.type
 | [],_,.nil=>rfl
 |c::cs,_,.cons r t=>by
  cases(show _=Value.type c from r)
  rw[iN t];rfl
theorem QK:qY X (.builtin "isinstance") (fun xs H Q=>∃(x:V) (p:Addr) (cs:List String) (t:String),xs=[x,.ref p]/\H p=some (.tup (cs.map V.ty))/\Ty2 H x t/\(∀c∈cs,c∈dn)/\Q (.bl (cs.any (zk t))) H):=by
 intro pins s σ H xs us Q I r h
 obtain⟨x,p,cs,t,rfl,hp,ty,hc,q⟩:=h
 obtain⟨u,v,rfl,ru,rv⟩:=bJ r
 cases(show v=Value.ref p from rv)
 obtain⟨its,rvs,⟨⟨cl,dd,dt,sl⟩,ho,hcl,n,hdt⟩,_⟩:=I.tuple (SqT.of hp)
 replace hcl:cl= .type "tuple":=hcl
 replace hdt:dt= .seq its.toArray n:=hdt
 subst hcl hdt
 have e:=ju X.K (jR ty) cs hc
 rw[<- iN rvs]at e
 have fin:∀tk,EP X pins σ Q (.bool (cs.any (zk t))) {s with toks:=tk}:=fun tk=>⟨.bl _,H,I.tok tk,rfl,q⟩
 cases ty with
 |int i=>obtain⟨t,q⟩:=(show∃t,u=Value.int i t from ru);cases q;exact W.kia_tup W.kitx_int I.kIn True.intro ho e (fun z=>nomatch z) fin
 |bl b=>cases(show u=Value.bool b from ru);exact W.kia_tup W.kitx_bool I.kIn True.intro ho e (fun z=>nomatch z) fin
 | @tup a ys hr=>
  cases(show u=Value.ref a from ru)
  obtain⟨its',_,⟨o,h1,h2,_⟩,_⟩:=I.tuple (.inl hr)
  exact W.kia_tup W.kitx_tuple I.kIn ⟨o,h1,h2⟩ ho e (fun z=>nomatch z) fin
 |str x=>obtain⟨t,q⟩:=(show∃t,u=Value.str x t from ru);cases q;exact W.kia_tup W.kitx_str I.kIn True.intro ho e (fun z=>nomatch z) fin
 |non=>cases(show u=Value.none from ru);exact W.kia_tup W.kitx_none I.kIn True.intro ho e (fun z=>nomatch z) fin
 | @lst a ys ea=>
  cases(show u=Value.ref a from ru)
  obtain⟨_,_,n,_,h1⟩:=(show ObjOk X.prog X.w H s.heap a (.lst ys)from I.hok a _ ea)
  exact W.kia_tup W.kitx_list I.kIn ⟨_,h1,rfl⟩ ho e (fun z=>nomatch z) fin
end
def zv(t:List Int):List Int:=(List.range 16).map fun d=>((t.idxOf ((d:Nat):Int):Nat):Int)
theorem ZK(t:List Int):(zv t).length=16:=by simp [zv]
section
variable{t:List Int}(p:t.Perm digs)
include p
theorem nz:t.Nodup:=p.nodup_iff.mpr (by decide)
theorem jj:t.length=16:=by rw[p.length_eq,ig]
theorem sV{d:Nat}(h:d<16):((d:Nat):Int)∈t:=p.mem_iff.mpr (List.mem_map.mpr ⟨d,List.mem_range.mpr h,rfl⟩)
theorem iH{i:Nat}(h:i<t.length):0<=t[i]/\t[i]<16:=gv (p.mem_iff.mp (List.getElem_mem h))
theorem lM{i:Nat}(h:i<t.length):t.idxOf t[i]=i:=(nz p).idxOf_getElem i h
theorem sg{d:Nat}(h:d<16):(zv t)[d]'(by rw[ZK];exact h)=((t.idxOf ((d:Nat):Int):Nat):Int):=by simp [zv]
end
end L3
namespace L3
open PySem PySem.Spec L2
variable{X:Cx}
theorem zW{sts:List Stmt}:QSs X sts lT:=⟨mP⟩
theorem pz{a:Expr}{ta:TA}{p pos:Pos}{elts:List Expr}{x1}{tpos:Pos}(hg:Gl X "enumerate")(hm:X.mg "enumerate"=none)(ha:QA X [a] ta)(hs:starEach [a] X.env=[(false,eval a X.env)]:=by rfl):QI X (.Tuple elts x1 tpos) (.Call (.Name "enumerate" p) [a] [] pos) (lV X.K ta):=⟨oA (hg:=hg) (hm:=hm) (ha:=ha.h) (hs:=hs)⟩
theorem vw{a b:Expr}{ta:TA}{p pos:Pos}{elts:List Expr}{x1}{tpos:Pos}(hg:Gl X "zip")(hm:X.mg "zip"=none)(ha:QA X [a,b] ta)(h1:zF a=true:=by rfl)(h2:zF b=true:=by rfl):QI X (.Tuple elts x1 tpos) (.Call (.Name "zip" p) [a,b] [] pos) (tL ta):=⟨vp (hg:=hg) (hm:=hm) (ha:=ha.h) (h1:=h1) (h2:=h2)⟩
def BoxC(H:Hp)(b:Addr)(c:Nat):Prop:=∃n m k:Int,H b=some (kS n m k)/\0<=m/\m<4611686018427387904/\0<=k/\k<=c
structure GrC(b:Addr)(c:Nat)(H H':Hp):Prop where
 kp:∀a o,a≠b->H a=some o->H' a=some o
 bx:BoxC H' b c
theorem BoxC.mono{H:Hp}{b:Addr}{c d:Nat}(h:BoxC H b c)(l:c<=d):BoxC H b d:=let⟨n,m,k,e,a1,a2,a3,a4⟩:=h;⟨n,m,k,e,a1,a2,a3,by omega⟩
theorem GrC.mono{b:Addr}{c d:Nat}{H H':Hp}(h:GrC b c H H')(l:c<=d):GrC b d H H':=⟨h.kp,h.bx.mono l⟩
theorem GrC.refl{b:Addr}{c:Nat}{H:Hp}(h:BoxC H b c):GrC b c H H:=⟨fun _ _ _ e=>e,h⟩
theorem GrC.trans{b:Addr}{c d:Nat}{H H1 H2:Hp}(x:GrC b c H H1)(y:GrC b d H1 H2):GrC b d H H2:=⟨fun c o n e=>y.kp c o n (x.kp c o n e),y.bx⟩
theorem _root_.L2.Same.grc{b:Addr}{c:Nat}{H H':Hp}(x:Same H H')(h:BoxC H b c):GrC b c H H':=⟨fun c o _ e=>x c o e,let⟨n,m,k,e,r⟩:=h;⟨n,m,k,x _ _ e,r⟩⟩
theorem GrC.same{b:Addr}{c:Nat}{H H1 H2:Hp}(x:GrC b c H H1)(y:Same H1 H2):GrC b c H H2:=x.trans (y.grc x.bx)
theorem zf{H:Hp}{b l:Addr}{c:Nat}(hb:BoxC H b c)(h:H l=none):l≠b:=fun z=>by
 obtain⟨_,_,_,e,_⟩:=hb
 subst z
 rw[e]at h
 cases h
def mN(K:Frag):Sp:=fun vs H Q _=>∃(a:Addr) (ns:List Int) (k:Nat),vs=[.ref a,.int k]/\SqL K H a (ns.map V.int)/\∀b H',H b=none->Same H H'->BoxC H' b 0->Q (.ref b) H'
def Q7:Sp:=fun vs H Q _=>∃(b:Addr) (many:Int) (c:Nat),vs=[.ref b,.int many]/\BoxC H b c/\c<1000000000/\0<many/\many<1073741824/\∀r H',0<=r->r<many->GrC b (c+1) H H'->Q (.int r) H'
theorem ZC{H H':Hp}{p:Addr}(h:H' p=none)(s:Same H H'):H p=none:=by
 cases e:H p with
 |none=>rfl
 |some o=>rw[s _ _ e]at h;cases h
def cz:V->Bool
 | .int _=>true
 |_=>false
theorem sU{H:Hp}{x:V}{t:String}(h:kd H x=some t):cz x=(zk t "int"&& !zk t "bool"):=by
 cases x with
 |non=>cases h;decide
 |bl b=>cases h;show false=_;decide
 |int i=>cases h;show true=_;decide
 |str x=>cases h;show false=_;decide
 |byt b=>cases h
 |flt b=>cases h
 |ty b=>cases h
 |ref a=>
  rcases cJ h with⟨xs,e,rfl⟩|⟨xs,e,rfl⟩
  ·show false=_;decide
  ·show false=_;decide
theorem oW{x:V}(h:cz x=true):∃i,x= .int i:=by
 cases x<;>first|exact⟨_,rfl⟩|cases h
theorem nA{x:V}(h:cz x=false):aq x=false:=by
 cases x<;>first|rfl|cases h
def cD:Sp:=fun vs H Q _=>∃x t,vs=[x]/\kd H x=some t/\Q (.bl (cz x)) H
inductive Eqv (H:Hp):Nat->V->V->Prop where
 |int (n:Nat) (i:Int):Eqv H n (.int i) (.int i)
 |str (n:Nat) (x:Str):Eqv H n (.str x) (.str x)
 |non (n:Nat):Eqv H n .non .non
 | tup {n:Nat} {a b:Addr} {xs ys:List V} (h1:Rd H a (.tup xs)) (h2:Rd H b (.tup ys)) (hl:xs.length=ys.length) (hz:xs.length<=sizeLine)
   (hi:∀(i:Nat) (x y:V),xs[i]? =some x->ys[i]? =some y->Eqv H n x y):Eqv H (n+1) (.ref a) (.ref b)
theorem Eqv.ints{H:Hp}{n:Nat}{a b:Addr}{ns:List Int}(h1:Rd H a (.tup (ns.map V.int)))(h2:Rd H b (.tup (ns.map V.int)))(hz:ns.length<=sizeLine):Eqv H (n+1) (.ref a) (.ref b):=
 .tup h1 h2 rfl (by rw[List.length_map];exact hz) fun i x y e1 e2=>by
  rw[e1]at e2
  cases e2
  obtain⟨z,rfl,_⟩:=zX e1
  exact .int _ _
theorem Same.sqt{K:Frag}{H H':Hp}{a:Addr}{xs:List V}(e:Same H H')(h:SqT K H a xs):SqT K H' a xs:=by
 rcases h with h|h
 ·exact .inl (Rd.same e h)
 ·exact .inr h
def Qn(t:List Int)(i:Nat):List Int:=(List.range 16).map fun d=>if((d:Nat):Int)∈t.take i then((t.idxOf ((d:Nat):Int):Nat):Int)else 0
theorem Z7(t:List Int)(i:Nat):(Qn t i).length=16:=by simp [Qn]
theorem om(t:List Int):Qn t 0=List.replicate 16 0:=by simp only[Qn,List.take_zero,List.not_mem_nil,if_false];rfl
theorem my{t:List Int}{i d:Nat}(h:d<16):(Qn t i)[d]'(by rw[Z7];exact h)=if((d:Nat):Int)∈t.take i then((t.idxOf ((d:Nat):Int):Nat):Int)else 0:=by simp [Qn]
theorem sQ{t:List Int}(p:t.Perm digs):Qn t t.length=zv t:=by
 unfold Qn zv
 refine List.map_congr_left fun d hd=>?_
 rw[List.take_length,if_pos (sV p (List.mem_range.mp hd))]
theorem px{t:List Int}(p:t.Perm digs){i:Nat}(hi:i<t.length):(Qn t i).set t[i].toNat (i:Int)=Qn t (i+1):=by
 have b:=iH p hi
 refine List.ext_getElem (by rw[List.length_set,Z7,Z7]) fun d h1 h2=>?_
 have hd:d<16:=by rw[Z7]at h2;exact h2
 rw[List.getElem_set,my hd,my hd,List.take_add_one,List.getElem?_eq_getElem hi,Option.toList_some]
 by_cases e:t[i].toNat=d
 ·have e':((d:Nat):Int)=t[i]:=by omega
  rw[if_pos e,if_pos (by rw[e'];exact List.mem_append_right _ (List.mem_singleton.mpr rfl)),e',lM p hi]
 ·have e':((d:Nat):Int)≠t[i]:=by omega
  rw[if_neg e]
  simp only[List.mem_append,List.mem_singleton,e',or_false]
def mM(K:Frag):Sp:=fun vs H Q _=>∃(a:Addr) (t:List Int),vs=[.ref a]/\(SqL K H a (t.map V.int)\/SqT K H a (t.map V.int))/\t.Perm digs/\∀p H',Same H H'->H' p=some (.tup ((zv t).map V.int))->Q (.ref p) H'
theorem eT{X:Cx}{K:Frag}(hK:X.K=K){pos:Pos}{es:List Expr}{k:Nat}{t:ZQ}(n:Nat)(hc:X.calm=true)(h:QGs X es t)(hn:(assignEach es X.env).length=n:=by rfl)(hst:(assignEach es X.env).findIdx? (·.1)=none:=by rfl):QG X (.Tuple es k pos) (ee K n t):=by
 subst hK
 exact⟨ia (hc:=hc) (h:=h.h) (hn:=hn) (hst:=hst)⟩
end L3
namespace L3
open PySem PySem.Spec PyProof.Rows L2
open Sem (wp)
namespace RV
theorem mf:Slot "reversed" "__init__" "object.__init__":=
  .of (owner := "object") (n := "__init__") (by rw[typeLookup_type,builtinLookup_eq_fast]
                                                kernel_rfl) (by decide +kernel) (by decide +kernel) (by decide +kernel)
    (by first | exact .inl (by decide +kernel) | exact .inr (by decide +kernel)) (by rw[isSubtype_type]
                                                                                     kernel_rfl)
theorem called:TypeCalled "reversed" "reversed.__new__" "object.__init__":=
 ⟨by decide +kernel,by decide +kernel,⟨_,_,F.mro_reversed⟩,F.made_reversed,by decide +kernel,F.sub_reversed_self,mf⟩
theorem slot_next:Slot "reversed" "__next__" "reversed.__next__":=
  .of (owner := "reversed") (n := "__next__") (by rw[typeLookup_type,builtinLookup_eq_fast]
                                                  kernel_rfl) (by decide +kernel) (by decide +kernel) (by decide +kernel)
    (by first | exact .inl (by decide +kernel) | exact .inr (by decide +kernel)) (by rw[isSubtype_type]
                                                                                     kernel_rfl)
theorem entry_next:entryFor table "reversed.__next__"=some Builtin.«reversed.__next__»:=entryFor_of_tree (by kernel_rfl)
theorem fw:Manifest.owners.lookup (String.ofList ['d', 'e', 's', 'r', 'e', 'v', 'e', 'r'].reverse)=some Manifest.sig_reversed:=by kernel_rfl
theorem args_next(a:Value):argsOk "reversed.__next__" ⟨[a],[]⟩:=by
 unfold argsOk
 rw[signature?_of (id:="reversed.__next__") (n:=['_', '_', 't', 'x', 'e', 'n', '_', '_']) (o:=['d', 'e', 's', 'r', 'e', 'v', 'e', 'r']) (by kernel_rfl) fw]
 kernel_rfl
theorem slot_iter:Slot "reversed" "__iter__" "reversed.__iter__":=
  .of (owner := "reversed") (n := "__iter__") (by rw[typeLookup_type,builtinLookup_eq_fast]
                                                  kernel_rfl) (by decide +kernel) (by decide +kernel) (by decide +kernel)
    (by first | exact .inl (by decide +kernel) | exact .inr (by decide +kernel)) (by rw[isSubtype_type]
                                                                                     kernel_rfl)
theorem args_iter(a:Value):argsOk "reversed.__iter__" ⟨[a],[]⟩:=by
 unfold argsOk
 rw[signature?_of (id:="reversed.__iter__") (n:=['_', '_', 'r', 'e', 't', 'i', '_', '_']) (o:=['d', 'e', 's', 'r', 'e', 'v', 'e', 'r']) (by kernel_rfl) fw]
 kernel_rfl
theorem entry_iter:entryFor table "reversed.__iter__"=some Builtin.«dict_keyiterator.__iter__»:=
  entryFor_alias (id':="dict_keyiterator.__iter__") (by kernel_rfl)
    (by first | rfl | decide +kernel | (unfold String.splitOn
                                        simp +decide [String.splitOnAux])) (by decide +kernel) (by kernel_rfl)
theorem no_tuple:typeLookup (.type "tuple") "__reversed__"=pure none:=by
 rw[typeLookup_type,builtinLookup_eq_fast]
 kernel_rfl
theorem tup_dict:isSubtype (.type "tuple") (.type "dict")=pure false:=by
 rw[isSubtype_type]
 kernel_rfl
theorem ri_rev:isSubtype (.type "range_iterator") (.type "reversed")=pure false:=by
 rw[isSubtype_type]
 kernel_rfl
theorem tc1(a:Value):checkTypeCall "reversed" ⟨[a],[]⟩=pure ():=by kernel_rfl
end RV
def RevT(h:Heap)(it t:Addr)(i:Int):Prop:=∃o,h.get? it=some o/\o.cls= .type "reversed"/\o.data= .fields #[.ref t,rawInt i]
theorem kz(l:Addr)(items:Array Value)(hz:items.size<=sizeLine):
  Meets (Builtin.«reversed.__new__» ⟨[.type "reversed",.ref l],[]⟩) (fun A R s=>s.heap.IsTuple l items/\
   R (.ok (.ret (.ref s.heap.objs.size))) {s with heap:=s.heap.push {cls:= .type "reversed",data:= .fields #[.ref l,rawInt ((items.size:Int)-1)]},toks:=s.toks+2}):=
 .of_wp fun prog w A R s h=>by
  obtain⟨hp,g,d,tk,os⟩:=s;obtain⟨hl,h⟩:=h
  have hsub:=F.sub_reversed_self
  have hT:Shared.TypeIs ⟨hp,g,d,tk,os⟩ (.ref l) "tuple":=let⟨o,e,c,_⟩:=hl;⟨o,e,c⟩
  have hL:Heap.IsTuple (Shared.heap ⟨hp,g,d,tk,os⟩) l items:=hl
  have hd:=RV.tup_dict
  have hI:IsTup (Shared.heap ⟨hp,g,d,tk,os⟩) l items:=hl
  have hn:=Zb
  wp_walk using wpAny_specialOf hT RV.no_tuple,wpAny_of_eq hd,wpAny_specialOf hT F.slot_tuple_getitem.lookup,len_tuple hI (by omega)
  exact⟨_,rfl,h⟩
end L3
namespace L3
open PySem PySem.Spec PyProof.Rows L2
open Sem (wp)
abbrev rq(a b c:Int):Bool:=Builtin.Range.rangeFitsLong a&&Builtin.Range.rangeFitsLong b&&Builtin.Range.rangeFitsLong c&&Builtin.Range.rangeFitsLong (-c)&&Builtin.Range.rangeFitsLong (a-c)&&Builtin.Range.rangeFitsLong (Builtin.Range.rangeSize a b c)
theorem i3(r:Addr)(a b c:Int)(t u v:Tok)(hc0:¬(!rq a b c)=true):
  Meets (Builtin.«range.__reversed__» ⟨[.ref r],[]⟩) (fun _ R s=>s.heap.get? r=some {cls:= .type "range",dict:=none,data:= .fields #[.int a t,.int b u,.int c v],slots:= #[]}/\
   R (.ok (.ret (.ref s.heap.objs.size))) {s with heap:=s.heap.push {cls:= .type (if rq a b c then "range_iterator" else "longrange_iterator"),data:= .fields #[rawInt (a+(Builtin.Range.rangeSize a b c-1)*c),rawInt (Builtin.Range.rangeSize a b c),rawInt (-c)]}}):=
 .of_wp fun prog w A R s h=>by obtain⟨hp,g,d,tk,os⟩:=s;obtain⟨hl,h⟩:=h;wp_walk;exact⟨_,rfl,h⟩
theorem ml(n:Nat):Builtin.Range.rangeSize 0 n 1=n:=by
 unfold Builtin.Range.rangeSize
 rw[if_pos (by decide)]
 split<;>omega
theorem nH{n:Nat}(hn:(n:Int)<2 ^ 62):rq 0 n 1=true:=by
 unfold rq
 rw[ml]
 simp only[Builtin.Range.rangeFitsLong,Bool.and_eq_true,decide_eq_true_eq]
 omega
theorem kN(r:Addr)(n:Nat)(t u v:Tok)(hn:(n:Int)<2 ^ 62):
  Meets (Builtin.«range.__reversed__» ⟨[.ref r],[]⟩) (fun _ R s=>s.heap.get? r=some {cls:= .type "range",data:= .fields #[.int 0 t,.int n u,.int 1 v]}/\
   R (.ok (.ret (.ref s.heap.objs.size))) {s with heap:=s.heap.push {cls:= .type "range_iterator",data:= .fields #[rawInt ((n:Int)-1),rawInt n,rawInt (-1)]}}):=by
 have g:=i3 r 0 n 1 t u v (by rw[nH hn];decide)
 rw[nH hn,ml,if_pos rfl,Int.mul_one,Int.zero_add]at g
 exact g
section
variable{prog:Program}{w:World}{A:Around}{E:Value->Shared->Prop}{s:Shared}
theorem RevT.typeIs{it t:Addr}{i:Int}(x:RevT s.heap it t i):s.TypeIs (.ref it) "reversed":=let⟨o,ho,hc,_⟩:=x;⟨o,ho,hc⟩
theorem i8{it t:Addr}{i:Nat}{items:Array Value}{x:Value}{Q:Option Value->Shared->Prop}(hit:RevT s.heap it t (i:Int))(hl:IsTup s.heap t items)(hx:items[i]? =some x)(hz:items.size<=sizeLine)
  (hQ:∀h' tk,RevT h' it t ((i:Int)-1)->Heap.SameBut it s.heap h'->Q (some x) {s with heap:=h',toks:=tk}):wpAny (model prog w) A (pyNext (.ref it)) Q E s:=by
 obtain⟨o,ho,hc,hd⟩:=id hit
 have hT:s.TypeIs (.ref t) "tuple":=let⟨o,e,c,_⟩:=hl;⟨o,e,c⟩
 have hn:=Zb
 have hlt:i<items.size:=(Array.getElem?_eq_some_iff.mp hx).1
 unfold pyNext
 refine wpAny_bind (wpAny_attempt (wpAny_callSpecial?_slot (name:=Str.ofString "__next__") (RevT.typeIs hit) RV.slot_next
  (wpAny_call_entry RV.slot_next (RevT.typeIs hit) RV.entry_next ?_ (RV.args_next _))))
 unfold Builtin.«reversed.__next__»
 refine wpAny_bind (wpAny_of_eq (a:=(Value.ref it,[])) rfl ?_)
 try dsimp only
 refine wpAny_bind (wpAny_field ho hd (x:= .ref t) rfl ?_)
 refine wpAny_bind (wpAny_field ho hd (x:=rawInt (i:Int)) rfl ?_)
 show wpAny _ _ (if(i:Int)<0 then _ else _) _ _ s
 rw[if_neg (by omega)]
 try dsimp only
 refine wpAny_bind (wpAny_specialOf hT F.slot_tuple_getitem.lookup ?_)
 rw[if_neg (show¬((some (Value.builtin "tuple.__getitem__")).isNone=true)from Bool.false_ne_true)]
 refine wpAny_bind (wpAny_mkInt ?_)
 have hI:IsTup (Shared.heap {s with toks:=s.toks+1}) t items:=hl
 refine wpAny_bind (wpAny_attempt (getItem_tuple hI (by omega) (by omega) (by unfold seqIndex?;rw[if_neg (show¬((i:Int)<0) by omega)];simp [hlt]) hx ?_))
 try dsimp only
 refine wpAny_bind (wpAny_field (s:={s with toks:=s.toks+1}) ho hd (x:=rawInt (i:Int)) rfl ?_)
 show wpAny _ _ (setField (.ref it) 1 (rawInt ((i:Int)-1)) >>= _) _ _ _
 refine wpAny_bind (wpAny_setField (s:={s with toks:=s.toks+1}) ho hd (by simp) ?_)
 refine wpAny_pure ⟨x,rfl,wpAny_pure (hQ _ _ ?_ (Heap.SameBut.update ..))⟩
 exact⟨_,Heap.get?_update_self _ ho (Obj.isFreed_of_fields (Obj.data_mapFields hd _)),(Obj.cls_mapFields ..).trans hc,by
  rw[Obj.data_mapFields hd]
  simp⟩
theorem kD{it t:Addr}{Q:Option Value->Shared->Prop}(hh:A.handled=none)(hit:RevT s.heap it t (-1))
  (hQ:∀h',Heap.ExtBut it s.heap h'->Q none {s with heap:=h'}):wpAny (model prog w) A (pyNext (.ref it)) Q E s:=by
 obtain⟨o,ho,hc,hd⟩:=id hit
 unfold pyNext
 refine wpAny_bind (wpAny_attempt (wpAny_callSpecial?_slot (name:=Str.ofString "__next__") (RevT.typeIs hit) RV.slot_next
  (wpAny_call_entry RV.slot_next (RevT.typeIs hit) RV.entry_next ?_ (RV.args_next _))))
 unfold Builtin.«reversed.__next__»
 refine wpAny_bind (wpAny_of_eq (a:=(Value.ref it,[])) rfl ?_)
 try dsimp only
 refine wpAny_bind (wpAny_field ho hd (x:= .ref t) rfl ?_)
 refine wpAny_bind (wpAny_field ho hd (x:=rawInt (-1)) rfl ?_)
 show wpAny _ _ (if(-1:Int)<0 then _ else _) _ _ s
 rw[if_pos (by decide)]
 refine wpAny_bind (wpAny_rule ?_)
 refine wpAny_bind ?_
 show wpAny _ _ (setField (.ref it) 1 (rawInt (-1)) >>= _) _ _ _
 refine wpAny_bind (wpAny_setField ho hd (by simp) ?_)
 have hg1:=Heap.get?_update_self (Obj.mapFields (·.setIfInBounds 1 (rawInt (-1)))) ho (Obj.isFreed_of_fields (Obj.data_mapFields hd _))
 refine wpAny_setField hg1 (Obj.data_mapFields hd _) (by simp) ?_
 refine wpAny_bind ?_
 show wpAny _ _ (newExc (.type "StopIteration") [] >>= _) _ _ _
 refine wpAny_bind ?_
 simp only[newExc,newTuple]
 refine wpAny_bind (wpAny_newObj_type ?_ (by size_fits))
 refine wpAny_bind (m:=firstArgMember _ _) (wpAny_of_eq (a:=Value.none) (by first|rfl|(simp only[firstArgMember];rfl)) ?_)
 refine wpAny_newObj_type ?_ (by size_fits)
 simp only[raiseNew]
 refine wpAny_bind (wpAny_handled ?_)
 first|rw[show A.in1.handled=none from hh]|rw[hh]
 refine wpAny_bind (wpAny_pure (wpAny_throw ?_))
 refine wpAny_bind (wpAny_isInstance (T:="StopIteration") (b:=true) ⟨_,Heap.get?_push_size _ rfl,rfl⟩ isSubtype_stop ?_)
 exact wpAny_pure (hQ _ (((((Heap.SameBut.update ..).trans (Heap.SameBut.update ..)).extBut).push _).push _))
theorem mx{it t:Addr}{i:Int}{Q:Value->Shared->Prop}(hit:RevT s.heap it t i)(h:Q (.ref it) s):wpAny (model prog w) A (pyIter (.ref it)) Q E s:=by
 refine wpAny_pyIter_slot (RevT.typeIs hit) RV.slot_iter (wpAny_call_entry RV.slot_iter (RevT.typeIs hit) RV.entry_iter ?_ (RV.args_iter _))
 show wpAny _ _ (ret (.ref it)) _ _ s
 exact wpAny_pure ⟨_,rfl,"reversed",_,RevT.typeIs hit,RV.slot_next.lookup,h⟩
theorem uk{l:Addr}{items:Array Value}{Q:Value->Shared->Prop}(hl:s.heap.IsTuple l items)(hz:items.size<=sizeLine)
  (h:∀h' tk,RevT h' s.heap.objs.size l ((items.size:Int)-1)->(∀b o,s.heap.get? b=some o->h'.get? b=some o)->Q (.ref s.heap.objs.size) {s with heap:=h',toks:=tk}):
  wpAny (model prog w) A (call (.type "reversed") [.ref l]) Q E s:=by
 refine callType_new RV.called (by decide) (RV.tc1 _) (F.newCall_reversed_1 _) (fun obj=>F.args_object_init_2 obj _) F.entry_reversed_new (kz l items hz) ⟨hl,?_⟩
 exact⟨⟨_,Heap.get?_push_size _ rfl,rfl⟩,h _ _ ⟨_,Heap.get?_push_size _ rfl,rfl,rfl⟩ fun b o e=>Heap.get?_push_of_some _ e⟩
theorem vh{r:Addr}{n:Nat}{t u v:Tok}{Q:Value->Shared->Prop}(hr:s.heap.get? r=some {cls:= .type "range",data:= .fields #[.int 0 t,.int n u,.int 1 v]})(hn:(n:Int)<2 ^ 62)
    (h:∀h',IsRangeIter h' s.heap.objs.size ((n:Int)-1) n (-1)->(∀b o,s.heap.get? b=some o->h'.get? b=some o)->Q (.ref s.heap.objs.size) {s with heap:=h'}):
    wpAny (model prog w) A (call (.type "reversed") [.ref r]) Q E s:=by
  have hT:s.TypeIs (.ref r) "range":=⟨_,hr,rfl⟩
  refine callType_other (U:="range_iterator") (Q₁:=fun obj s₁=>obj= .ref s.heap.objs.size/\∃h',s₁={s with heap:=h'}/\IsRangeIter h' s.heap.objs.size ((n:Int)-1) n (-1)/\∀b o,s.heap.get? b=some o->h'.get? b=some o) (by decide +kernel) F.create_reversed ⟨_,_,F.mro_reversed⟩ F.made_reversed RV.ri_rev (RV.tc1 _) ?_ ?_
  · refine codeAny_of_tree ?_
    show wpAny _ A.in1.in1 (do checkBuiltinCall "reversed.__new__" ⟨[.type "reversed",.ref r],[]⟩;again (.builtin "reversed.__new__" ⟨[.type "reversed",.ref r],[]⟩)) _ _ s
    refine wpAny_bind (wpAny_of_eq (F.newCall_reversed_1 _) (wpAny_pure ⟨plainId_quiet F.plain_reversed_new _,codeAny_builtin F.entry_reversed_new ?_⟩))
    rw[Around.under_plainId F.plain_reversed_new _]
    unfold Builtin.«reversed.__new__»
    refine wpAny_bind (wpAny_of_eq (newClass_reversed _) ?_)
    try dsimp only
    refine wpAny_bind (wpAny_of_eq (a:=()) (by first|rfl|kernel_rfl) ?_)
    refine wpAny_bind (wpAny_of_eq (a:=()) (by first|rfl|kernel_rfl) ?_)
    try dsimp only
    refine wpAny_bind (wpAny_specialOf hT F.slot_range_reversed.lookup ?_)
    try dsimp only
    refine wpAny_bind (wpAny_of_eq (F.slot_range_reversed.bind _) ?_)
    try dsimp only
    first
    |rw[if_neg (show¬((Value.builtin "range.__reversed__"==Value.none)=true)from Bool.false_ne_true)]
    | (show wpAny _ _ (if(Value.builtin "range.__reversed__"==Value.none)=true then _ else _) _ _ _
       rw[if_neg (show¬((Value.builtin "range.__reversed__"==Value.none)=true)from Bool.false_ne_true)])
    refine wpAny_bind (wpAny_rule ?_)
    refine wpAny_bind (m:=runValue (.call (.builtin "range.__reversed__") ⟨[.ref r],[]⟩)) (show wpAny _ _ (call (.builtin "range.__reversed__") [.ref r]) _ _ _ from
      call_meets F.slot_range_reversed hT F.entry_range_reversed (F.args_range_reversed_1 _) (kN r n t u v hn) ⟨hr,?_⟩)
    first
    |exact wpAny_pure ⟨rfl,_,rfl,Heap.get?_push_size _ rfl,fun b o e=>Heap.get?_push_of_some _ e⟩
    |exact wpAny_bind (wpAny_pure (wpAny_pure ⟨rfl,_,rfl,Heap.get?_push_size _ rfl,fun b o e=>Heap.get?_push_of_some _ e⟩))
  · rintro obj s₁ ⟨rfl,h',rfl,hi,hk⟩
    exact⟨⟨_,hi,rfl⟩,h h' hi hk⟩
end
def kx(K:Frag)(a:Addr)(n:Nat):It:=
 ⟨fun i H=>i<n/\∃xs,SqL K H a xs/\xs.length=n,fun i H x H'=>H'=H/\∀xs,SqL K H a xs->xs[n-1-i]? =some x,fun i _=>n<=i⟩
def k4(K:Frag)(a:Addr)(n:Nat):It:=
 ⟨fun i H=>i<n/\∃xs,SqT K H a xs/\xs.length=n,fun i H x H'=>H'=H/\∀xs,SqT K H a xs->xs[n-1-i]? =some x,fun i _=>n<=i⟩
def kQ(n:Nat):It:=⟨fun i _=>i<n,fun i H x H'=>H'=H/\x= .int ((n:Int)-1-i),fun i _=>n<=i⟩
theorem kq{P:Program}{w:World}{K:Frag}{tg:Expr}(a it:Addr)(n:Nat):Turn P w K tg (kx K a n) [it] it (fun i h=>i<=n/\h.IsRevIter it a ((n:Int)-1-i)) where
 mem:=by simp
 obj:=fun i h st b hb=>by
  have e:b=it:=by simpa using hb
  subst e
  obtain⟨_,o,e,c,d⟩:=st
  exact⟨o,e,fun v z=>by rw[d]at z;cases z⟩
 keep:=fun i h h' st k=>⟨st.1,st.2.at fun o e=>k it (by simp) o e⟩
 item:=by
  intro X hP hw hK hc i pins s σ H E I hf st hg
  subst hP hw hK
  obtain⟨hi,xs,hq,hn⟩:=hg
  obtain⟨its,rv,p,hz⟩:=I.list hq
  have hlt:n-1-i<xs.length:=by omega
  obtain⟨u,hu,ru⟩:=rv.get (List.getElem?_eq_getElem hlt)
  obtain⟨f0,f1,f2,f3,f4,f5⟩:=hf it (by simp)
  have e1:(n:Int)-1-i=((n-1-i:Nat):Int):=by omega
  have st2:=st.2
  rw[e1]at st2
  refine wpAny_pyNext_rev_item st2 p.isList (x:=u) (by simpa using hu) fun h' st' sb=>?_
  have I1:L2.Inv X pins σ H {s with heap:=h'}:=I.turned (t':=s.toks) (fun b o hb e=>(sb.2 b hb).trans e) f0 f1 f3 f4 f5
  obtain⟨o,e,c,d⟩:=id st'
  refine⟨u,rfl,ax (s:={s with heap:=h'}) e c d (by decide) ⟨_,H,I1,ru,⟨rfl,fun ys hy=>by rw[I.list_inj hy hq];exact List.getElem?_eq_getElem hlt⟩,⟨by omega,?_⟩,fun b hb=>(hf b hb).1⟩⟩
  have e2:((n-1-i:Nat):Int)-1=(n:Int)-1-((i+1:Nat):Int):=by omega
  rw[<- e2]
  exact st'
 done:=by
  intro X hP hw hK hc i pins s σ H E I hf st hg
  subst hP hw hK
  obtain⟨f0,f1,f2,f3,f4,f5⟩:=hf it (by simp)
  have hi:i=n:=Nat.le_antisymm st.1 hg
  have st2:=st.2
  rw[show(n:Int)-1-i= -1 by omega]at st2
  exact wpAny_pyNext_rev_end (I.ok.hd hc) st2 fun h' eb=>⟨rfl,I.turned (t':=s.toks) (fun b o hb e=>eb b o hb e) f0 f1 f3 f4 f5⟩
 self:=fun _ _ _ _ _ st h=>wpAny_pyIter_revIter st.2 h
theorem nI{P:Program}{w:World}{K:Frag}{tg:Expr}(a it:Addr)(n:Nat):Turn P w K tg (k4 K a n) [it] it (fun i h=>i<=n/\RevT h it a ((n:Int)-1-i)) where
 mem:=by simp
 obj:=fun i h st b hb=>by
  have e:b=it:=by simpa using hb
  subst e
  obtain⟨_,o,e,c,d⟩:=st
  exact⟨o,e,fun v z=>by rw[d]at z;cases z⟩
 keep:=fun i h h' st k=>⟨st.1,let⟨o,e,r⟩:=st.2;⟨o,k it (by simp) o e,r⟩⟩
 item:=by
  intro X hP hw hK hc i pins s σ H E I hf st hg
  subst hP hw hK
  obtain⟨hi,xs,hq,hn⟩:=hg
  obtain⟨its,rv,p,hz⟩:=I.tuple hq
  have hlen:=rv.length
  have hlt:n-1-i<xs.length:=by omega
  obtain⟨u,hu,ru⟩:=rv.get (List.getElem?_eq_getElem hlt)
  obtain⟨f0,f1,f2,f3,f4,f5⟩:=hf it (by simp)
  have e1:(n:Int)-1-i=((n-1-i:Nat):Int):=by omega
  have st2:=st.2
  rw[e1]at st2
  refine i8 st2 p (x:=u) (by simpa using hu) (by simp;omega) fun h' tk st' sb=>?_
  have I1:L2.Inv X pins σ H {s with heap:=h',toks:=tk}:=I.turned (t':=tk) (fun b o hb e=>(sb.2 b hb).trans e) f0 f1 f3 f4 f5
  obtain⟨o,e,c,d⟩:=id st'
  refine⟨u,rfl,ax (s:={s with heap:=h',toks:=tk}) e c d (by decide) ⟨_,H,I1,ru,⟨rfl,fun ys hy=>by rw[I.tuple_inj hy hq];exact List.getElem?_eq_getElem hlt⟩,⟨by omega,?_⟩,fun b hb=>(hf b hb).1⟩⟩
  have e2:((n-1-i:Nat):Int)-1=(n:Int)-1-((i+1:Nat):Int):=by omega
  rw[<- e2]
  exact st'
 done:=by
  intro X hP hw hK hc i pins s σ H E I hf st hg
  subst hP hw hK
  obtain⟨f0,f1,f2,f3,f4,f5⟩:=hf it (by simp)
  have hi:i=n:=Nat.le_antisymm st.1 hg
  have st2:=st.2
  rw[show(n:Int)-1-i= -1 by omega]at st2
  exact kD (I.ok.hd hc) st2 fun h' eb=>⟨rfl,I.turned (t':=s.toks) (fun b o hb e=>eb b o hb e) f0 f1 f3 f4 f5⟩
 self:=fun _ _ _ _ _ st h=>mx st.2 h
theorem ni{P:Program}{w:World}{K:Frag}{tg:Expr}(it:Addr)(n:Nat):Turn P w K tg (kQ n) [it] it (fun i h=>IsRangeIter h it ((n:Int)-1+(i:Nat)*(-1)) ((n:Int)-(i:Nat)) (-1)) where
 mem:=by simp
 obj:=fun i h st b hb=>by
  have e:b=it:=by simpa using hb
  subst e
  exact⟨_,st,fun v z=>by
   have z':Data.fields _=Data.cell v:=z
   cases z'⟩
 keep:=fun i h h' st k=>k it (by simp) _ st
 item:=by
  intro X hP hw hK hc i pins s σ H E I hf st hg
  subst hP hw hK
  obtain⟨f0,f1,f2,f3,f4,f5⟩:=hf it (by simp)
  have W:=Walks.range (prog:=X.prog) (w:=X.w) (I.ok.hd hc) it ((n:Int)-1) (-1) n
  refine W.item i s _ _ hg st fun v h' tk hv st' kk=>?_
  obtain⟨t,rfl⟩:=hv
  have I1:L2.Inv X pins σ H {s with heap:=h',toks:=tk}:=I.turned (fun b o hb e=>kk b o (by simpa using hb) e) f0 f1 f3 f4 f5
  refine⟨_,rfl,ax (s:={s with heap:=h',toks:=tk}) (n:="range_iterator") st' rfl rfl (by decide) ⟨.int ((n:Int)-1-i),H,I1,⟨t,?_⟩,⟨rfl,rfl⟩,st',fun b hb=>(hf b hb).1⟩⟩
  rw[show(n:Int)-1+(i:Nat)*(-1)=(n:Int)-1-i by omega]
 done:=by
  intro X hP hw hK hc i pins s σ H E I hf st hg
  subst hP hw hK
  obtain⟨f0,f1,f2,f3,f4,f5⟩:=hf it (by simp)
  exact wpAny_pyNext_range_end (I.ok.hd hc) st (by have:n<=i:=hg;omega) fun h' eb=>⟨rfl,I.turned (t':=s.toks) (fun b o hb e=>eb b o hb e) f0 f1 f3 f4 f5⟩
 self:=fun _ _ _ _ _ st h=>wpAny_pyIter_rangeiter st h
section
variable{X:Cx}{tg:Expr}
theorem nT:bootBuiltins "reversed"=some (.type "reversed"):=by kernel_rfl
def ud(K:Frag)(ta:TA):TI:=fun σ H R=>ta σ H fun vs H1=>∃a,vs=[.ref a]/\((∃xs,SqL K H1 a xs/\R (kx K a xs.length) H1)\/(∃xs,SqT K H1 a xs/\R (k4 K a xs.length) H1)\/∃n:Nat,H1 a=some (.rng 0 n)/\(n:Int)<2 ^ 62/\R (kQ n) H1)
theorem vy{a:Expr}{ta:TA}{p pos:Pos}(hg:Gl X "reversed")(hm:X.mg "reversed"=none)(ha:PA X [a] ta)(hn:zF a=true:=by rfl):
  PI X tg (.Call (.Name "reversed" p) [a] [] pos) (ud X.K ta):=by
 intro pins s σ H R I h
 refine Call_ (Qs I hg hm nT (PyProof.Rows.callWith_type1 (qD (ha pos pins s σ H _ I h) fun us s1 ⟨vs,H1,I1,r1,q1⟩=>?_) (QN hn) rfl))
 obtain⟨l,e,q1⟩:=q1
 subst e
 obtain⟨u,rfl,ru⟩:=r1.one
 cases ru
 have fpk:∀b∈[s1.heap.objs.size],Zd X pins H1 b:=fun b hb=>by
  rw[List.mem_singleton.mp hb]
  exact I1.fpOk (Nat.le_refl _) (I1.hok.fresh (Nat.le_refl _))
 rcases q1 with⟨xs,hq,q⟩|⟨xs,hq,q⟩|⟨n,hq,hn62,q⟩
 ·obtain⟨its,rv,pl,hz⟩:=I1.list hq
  have hlen:=rv.length
  refine call_reversed_list pl.isList ?_
  have hi:(s1.heap.push (revObj l ((its.toArray.size:Int)-1))).IsRevIter s1.heap.objs.size l ((its.toArray.size:Int)-1):=⟨_,Heap.get?_push_size _ rfl,rfl,rfl⟩
  refine wpAny_pyIter_revIter hi ?_
  refine⟨s1.heap.objs.size,[s1.heap.objs.size],_,_,H1,rfl,I1.kept (t':=s1.toks) fun b o e=>Heap.get?_push_of_some _ e,kq l _ xs.length,⟨Nat.zero_le _,?_⟩,fpk,q⟩
  rw[show(xs.length:Int)-1-((0:Nat):Int)=(its.toArray.size:Int)-1 by simp [hlen]]
  exact hi
 ·obtain⟨its,rv,pl,hz⟩:=I1.tuple hq
  have hlen:=rv.length
  refine uk (show s1.heap.IsTuple l its.toArray from pl) (by simp;omega) fun h' tk hi hk=>mx hi ?_
  refine⟨s1.heap.objs.size,[s1.heap.objs.size],_,_,H1,rfl,I1.kept (t':=tk) hk,nI l _ xs.length,⟨Nat.zero_le _,?_⟩,fpk,q⟩
  rw[show(xs.length:Int)-1-((0:Nat):Int)=(its.toArray.size:Int)-1 by simp [hlen]]
  exact hi
 ·obtain⟨t,u,v,hr⟩:=I1.hok l _ hq
  refine vh hr hn62 fun h' hi hk=>wpAny_pyIter_rangeiter hi ?_
  refine⟨s1.heap.objs.size,[s1.heap.objs.size],_,_,H1,rfl,I1.kept (t':=s1.toks) hk,ni _ n,?_,fpk,q⟩
  show IsRangeIter _ _ _ _ _
  rw[show(n:Int)-1+((0:Nat):Int)*(-1)=(n:Int)-1 by omega,show(n:Int)-((0:Nat):Int)=n by omega]
  exact hi
def ub(K:Frag)(tl:TE):TI:=fun σ H R=>tl σ H fun x H1=>∃a,x= .ref a/\((∃xs,SqL K H1 a xs)/\R (fh K a) H1\/(∃xs,SqT K H1 a xs)/\R (cM K a) H1)
theorem vf{l:Expr}{tl:TE}(hl:PE X l tl):PI X tg l (ub X.K tl):=by
 intro pins s σ H R I h
 refine qD (hl pins s σ H _ I h) fun v s1 ⟨x,H1,I1,r1,q1⟩=>?_
 obtain⟨a,e,q1⟩:=q1
 subst e
 cases r1
 have fpk:∀b∈[s1.heap.objs.size],Zd X pins H1 b:=fun b hb=>by
  rw[List.mem_singleton.mp hb]
  exact I1.fpOk (Nat.le_refl _) (I1.hok.fresh (Nat.le_refl _))
 rcases q1 with⟨⟨xs,hq⟩,q⟩|⟨⟨xs,hq⟩,q⟩
 ·obtain⟨its,rv,p,hz⟩:=I1.list hq
  refine wpAny_pyIter_list p.isList ?_
  exact⟨s1.heap.objs.size,[s1.heap.objs.size],_,_,H1,rfl,I1.kept (t':=s1.toks) fun b o e=>Heap.get?_push_of_some _ e,fO a _,⟨_,Heap.get?_push_size _ rfl,rfl,rfl⟩,fpk,q⟩
 ·obtain⟨its,rv,p,hz⟩:=I1.tuple hq
  refine wpAny_pyIter_tuple (show s1.heap.IsTuple a its.toArray from p) ?_
  exact⟨s1.heap.objs.size,[s1.heap.objs.size],_,_,H1,rfl,I1.kept (t':=s1.toks) fun b o e=>Heap.get?_push_of_some _ e,cZ a _,⟨_,Heap.get?_push_size _ rfl,rfl,rfl⟩,fpk,q⟩
end
section
variable{K:Frag}{a:Addr}{xs:List V}{g:TG}{tb:TS}{D:Ends}{σ:L2.St}{H:Hp}
abbrev Q8(J:It)(g:TG)(tb:TS)(D:Ends)(σ:L2.St)(H:Hp):Prop:=∃W:Nat->Nat->L2.St->Hp->Prop,(∃m,W 0 m σ H)/\∀i m σ H,W i m σ H->
      (J.stop i H/\D.nx σ H)\/(J.go i H/\∃N:L2.St->Hp->Prop,(∀σ' H',N σ' H'->∃m',m'<m/\W (i+1) m' σ' H')/\∀x H',J.yld i H x H'->g x σ H' fun σ2 H2=>tb {D with nx:=N,ct:=N,bk:=D.nx} σ2 H2)
theorem bV{J:It}{n:Nat}(Pv:Nat->L2.St->Hp->Prop)(h0:Pv 0 σ H)(hgo:∀i σ H,i<n->Pv i σ H->J.go i H)(hst:∀H,J.stop n H)
  (hs:∀i x σ H H',i<n->Pv i σ H->J.yld i H x H'->g x σ H' fun σ2 H2=>tb {D with nx:=Pv (i+1),ct:=Pv (i+1),bk:=D.nx} σ2 H2)(hd:∀σ H,Pv n σ H->D.nx σ H):Q8 J g tb D σ H:=by
 refine⟨fun i m σ H=>m=n-i/\i<=n/\Pv i σ H,⟨n,by simp,Nat.zero_le _,h0⟩,?_⟩
 rintro i m σ H ⟨rfl,hi,p⟩
 by_cases hlt:i<n
 ·exact .inr ⟨hgo i σ H hlt p,Pv (i+1),fun σ' H' p'=>⟨n-(i+1),by omega,rfl,hlt,p'⟩,fun x H' y=>hs i x σ H H' hlt p y⟩
 ·have e:i=n:=by omega
  subst e
  exact .inl ⟨hst H,hd σ H p⟩
theorem oF(Pv:Nat->L2.St->Hp->Prop)(h0:Pv 0 σ H)(hl:∀i σ H,Pv i σ H->SqL K H a xs)
  (hs:∀i x σ H,i<xs.length->xs[xs.length-1-i]? =some x->Pv i σ H->g x σ H fun σ2 H2=>tb {D with nx:=Pv (i+1),ct:=Pv (i+1),bk:=D.nx} σ2 H2)(hd:∀σ H,Pv xs.length σ H->D.nx σ H):Q8 (kx K a xs.length) g tb D σ H:=
 bV Pv h0 (fun i σ H hi p=>⟨hi,xs,hl i σ H p,rfl⟩) (fun _=>Nat.le_refl _) (fun i x σ H H' hi p y=>by
  obtain⟨rfl,y⟩:=y
  exact hs i x σ H' hi (y xs (hl i σ H' p)) p) hd
theorem ox(Pv:Nat->L2.St->Hp->Prop)(h0:Pv 0 σ H)(hl:∀i σ H,Pv i σ H->SqT K H a xs)
  (hs:∀i x σ H,i<xs.length->xs[xs.length-1-i]? =some x->Pv i σ H->g x σ H fun σ2 H2=>tb {D with nx:=Pv (i+1),ct:=Pv (i+1),bk:=D.nx} σ2 H2)(hd:∀σ H,Pv xs.length σ H->D.nx σ H):Q8 (k4 K a xs.length) g tb D σ H:=
 bV Pv h0 (fun i σ H hi p=>⟨hi,xs,hl i σ H p,rfl⟩) (fun _=>Nat.le_refl _) (fun i x σ H H' hi p y=>by
  obtain⟨rfl,y⟩:=y
  exact hs i x σ H' hi (y xs (hl i σ H' p)) p) hd
theorem oU{n:Nat}(Pv:Nat->L2.St->Hp->Prop)(h0:Pv 0 σ H)
  (hs:∀i σ H,i<n->Pv i σ H->g (.int ((n:Int)-1-i)) σ H fun σ2 H2=>tb {D with nx:=Pv (i+1),ct:=Pv (i+1),bk:=D.nx} σ2 H2)(hd:∀σ H,Pv n σ H->D.nx σ H):Q8 (kQ n) g tb D σ H:=
 bV Pv h0 (fun i σ H hi p=>hi) (fun _=>Nat.le_refl _) (fun i x σ H H' hi p y=>by
  obtain⟨rfl,rfl⟩:=y
  exact hs i σ H' hi p) hd
end
end L3
namespace L3
open PySem PySem.Spec L2
variable{X:Cx}
theorem lQ{tg:Expr}{a:Expr}{ta:TA}{p pos:Pos}(hg:Gl X "reversed")(hm:X.mg "reversed"=none)(ha:QA X [a] ta)(hn:zF a=true:=by rfl):QI X tg (.Call (.Name "reversed" p) [a] [] pos) (ud X.K ta):=⟨vy (hg:=hg) (hm:=hm) (ha:=ha.h) (hn:=hn)⟩
theorem tW{tg:Expr}{l:Expr}{tl:TE}(hl:QE X l tl):QI X tg l (ub X.K tl):=⟨vf (hl:=hl.h)⟩
def ZR(x:Int):Prop:=0<=x/\x<16
def zp(r:List Int):Prop:=∀x∈r,ZR x
def rm(n i:Nat):Nat:=if i=0 then n-1 else i-1
def ah(r:List Int)(i:Nat):Int:=r.getD (rm r.length i) 0
def dz(t:List Int)(s:Int)(r:List Int)(i:Nat):List Int:=r.set i (t.getD ((r.getD i 0+s+i+ah r i)%16).toNat 0)
def cE(b:List Int)(s:Int)(r:List Int)(i:Nat):List Int:=r.set i ((b.getD (r.getD i 0).toNat 0-s-i-ah r i)%16)
def Zf(t:List Int)(s:Int)(r:List Int):Nat->List Int
 |0=>r
 |n+1=>dz t s (Zf t s r n) n
def ZE(b:List Int)(s:Int)(r:List Int):Nat->List Int
 |0=>r
 |n+1=>ZE b s (cE b s r n) n
def Qg(t:List Int):List Int->List Int->List Int
 | [],r=>r
 |s::ks,r=>Qg t ks (Zf t s r r.length)
def QJ(b:List Int):List Int->List Int->List Int
 | [],r=>r
 |s::ks,r=>ZE b s (QJ b ks r) r.length
theorem pH{t:List Int}{s:Int}{r:List Int}{i:Nat}:(dz t s r i).length=r.length:=List.length_set ..
theorem ib{b:List Int}{s:Int}{r:List Int}{i:Nat}:(cE b s r i).length=r.length:=List.length_set ..
theorem Qh{t:List Int}{s:Int}{r:List Int}:∀{n:Nat},(Zf t s r n).length=r.length
 |0=>rfl
 |n+1=>by rw[Zf,pH,Qh]
theorem gt{b:List Int}{s:Int}:∀{n:Nat} {r:List Int},(ZE b s r n).length=r.length
 |0,_=>rfl
 |n+1,r=>by rw[ZE,gt,ib]
theorem ar{t:List Int}:∀{ks r:List Int},(Qg t ks r).length=r.length
 | [],_=>rfl
 |s::ks,r=>by rw[Qg,ar,Qh]
theorem cA{b:List Int}:∀{ks r:List Int},(QJ b ks r).length=r.length
 | [],_=>rfl
 |s::ks,r=>by rw[QJ,gt,cA]
theorem gs{r:List Int}{i:Nat}{x:Int}(h:zp r)(hx:ZR x):zp (r.set i x):=fun y hy=>by
 rcases List.mem_or_eq_of_mem_set hy with z|z
 ·exact h y z
 ·rw[z];exact hx
theorem Zp(x:Int):ZR (x%16):=⟨Int.emod_nonneg _ (by decide),Int.emod_lt_of_pos _ (by decide)⟩
theorem eD{r:List Int}(h:zp r)(i:Nat):ZR (r.getD i 0):=by
 rw[List.getD_eq_getElem?_getD]
 by_cases hi:i<r.length
 ·rw[List.getElem?_eq_getElem hi];exact h _ (List.getElem_mem hi)
 ·rw[List.getElem?_eq_none (by omega)];exact⟨by decide,by decide⟩
theorem nZ{t:List Int}(p:t.Perm digs):zp t:=fun x hx=>gv (p.mem_iff.mp hx)
theorem pI{t:List Int}(p:t.Perm digs){s:Int}{r:List Int}{i:Nat}(h:zp r):zp (dz t s r i):=gs h (eD (nZ p) _)
theorem ij{b:List Int}{s:Int}{r:List Int}{i:Nat}(h:zp r):zp (cE b s r i):=gs h (Zp _)
theorem af{t:List Int}(p:t.Perm digs){s:Int}{r:List Int}(h:zp r):∀{n:Nat},zp (Zf t s r n)
 |0=>h
 |n+1=>pI p (af p h)
theorem gZ{b:List Int}{s:Int}:∀{n:Nat} {r:List Int},zp r->zp (ZE b s r n)
 |0,_,h=>h
 |n+1,_,h=>gZ (n:=n) (ij h)
theorem iE{t:List Int}(p:t.Perm digs):∀{ks r:List Int},zp r->zp (Qg t ks r)
 | [],_,h=>h
 |s::ks,_,h=>iE (ks:=ks) p (af p h)
theorem gK{b:List Int}:∀{ks r:List Int},zp r->zp (QJ b ks r)
 | [],_,h=>h
 |s::ks,_,h=>gZ (gK (ks:=ks) h)
theorem fZ{r:List Int}{i:Nat}{x:Int}(h:i<r.length):(r.set i x).getD i 0=x:=by
 rw[List.getD_eq_getElem?_getD,List.getElem?_set_self h];rfl
theorem iT{r:List Int}{i j:Nat}{x:Int}(h:i≠j):(r.set i x).getD j 0=r.getD j 0:=by
 rw[List.getD_eq_getElem?_getD,List.getElem?_set_ne h,<- List.getD_eq_getElem?_getD]
theorem vS{n i:Nat}(h2:2<=n)(hi:i<n):i≠rm n i:=by unfold rm;split<;>omega
theorem uS{r:List Int}{i:Nat}{x:Int}(h2:2<=r.length)(hi:i<r.length):ah (r.set i x) i=ah r i:=by
 unfold ah
 rw[List.length_set,iT (vS h2 hi)]
theorem pG{r:List Int}{i:Nat}(hi:i<r.length):r.set i (r.getD i 0)=r:=by
 rw[List.getD_eq_getElem?_getD,List.getElem?_eq_getElem hi]
 exact List.set_getElem_self hi
theorem oH{t:List Int}(p:t.Perm digs){z:Int}(h:ZR z):(zv t).getD (t.getD z.toNat 0).toNat 0=z:=by
 have hz:z.toNat<t.length:=by rw[jj p];have:=h.1;have:=h.2;omega
 have e:t.getD z.toNat 0=t[z.toNat]:=by rw[List.getD_eq_getElem?_getD,List.getElem?_eq_getElem hz];rfl
 have bd:=iH p hz
 have hb:t[z.toNat].toNat<(zv t).length:=by rw[ZK];omega
 rw[e,List.getD_eq_getElem?_getD,List.getElem?_eq_getElem hb,Option.getD_some,sg p (by rw[ZK]at hb;exact hb)]
 have e2:((t[z.toNat].toNat:Nat):Int)=t[z.toNat]:=by omega
 rw[e2,lM p hz]
 have:=h.1
 omega
theorem oS{t:List Int}(p:t.Perm digs){s:Int}{r:List Int}{i:Nat}(hr:zp r)(h2:2<=r.length)(hi:i<r.length):cE (zv t) s (dz t s r i) i=r:=by
 unfold cE dz
 rw[fZ hi,uS h2 hi,List.set_set,oH p (Zp _)]
 have hd:=eD hr i
 have e:((r.getD i 0+s+i+ah r i)%16-s-i-ah r i)%16=r.getD i 0:=by
  have:=hd.1
  have:=hd.2
  omega
 rw[e,pG hi]
theorem hU{t:List Int}(p:t.Perm digs){s:Int}{r:List Int}(hr:zp r)(h2:2<=r.length):∀{n:Nat},n<=r.length->ZE (zv t) s (Zf t s r n) n=r
 |0,_=>rfl
 |n+1,hn=>by
  rw[Zf,ZE,oS p (af p hr) (by rw[Qh];exact h2) (by rw[Qh];omega)]
  exact hU p hr h2 (by omega)
theorem gP{t:List Int}(p:t.Perm digs):∀{ks r:List Int},zp r->2<=r.length->QJ (zv t) ks (Qg t ks r)=r
 | [],_,_,_=>rfl
 |s::ks,r,hr,h2=>by
  rw[QJ,Qg,gP p (af p hr) (by rw[Qh];exact h2),ar,Qh,hU p hr h2 (Nat.le_refl _)]
theorem gU(t:List Int):∀(ks:List Int) (s:Int) (r:List Int),Qg t (ks++[s]) r=Zf t s (Qg t ks r) r.length
 | [],_,_=>rfl
 |a::ks,s,r=>by rw[List.cons_append,Qg,gU t ks s,Qg,Qh]
def Sq(K:Frag)(H:Hp)(a:Addr)(xs:List V):Prop:=SqL K H a xs\/SqT K H a xs
theorem Sq.same{K:Frag}{H H':Hp}{a:Addr}{xs:List V}(e:Same H H')(h:Sq K H a xs):Sq K H' a xs:=h.elim (fun h=> .inl (e.seq h)) fun h=> .inr (Same.sqt e h)
theorem Sq.lst{K:Frag}{H:Hp}{a:Addr}{xs:List V}(h:H a=some (.lst xs)):Sq K H a xs:= .inl (SqL.of h)
theorem Sq.tup{K:Frag}{H:Hp}{a:Addr}{xs:List V}(h:H a=some (.tup xs)):Sq K H a xs:= .inr (SqT.of h)
def eU(K:Frag):Sp:=fun vs H Q _=>∃(a b c:Addr) (t ks ds:List Int),vs=[.ref a,.ref b,.ref c]/\Sq K H a (t.map V.int)/\Sq K H b (ks.map V.int)/\Sq K H c (ds.map V.int)/\t.length=16/\1<=ds.length/\ds.length<64/\
 ∀p H',Same H H'->H p=none->H' p=some (.tup ((Qg t ks ds).map V.int))->Q (.ref p) H'
def fE(K:Frag):Sp:=fun vs H Q _=>∃(a b c:Addr) (t ks ds:List Int),vs=[.ref a,.ref b,.ref c]/\Sq K H a (t.map V.int)/\Sq K H b (ks.map V.int)/\Sq K H c (ds.map V.int)/\t.Perm digs/\zp ds/\1<=ds.length/\ds.length<64/\
 ∀p H',Same H H'->H p=none->H' p=some (.tup ((QJ (zv t) ks ds).map V.int))->Q (.ref p) H'
theorem ZI{r:List Int}{i:Nat}{z:Int}(e:z=(i:Int))(h:i<r.length):zV (r.map V.int) z=some (.int (r.getD i 0)):=by
 rw[sT e (eP h),List.getD_eq_getElem?_getD,List.getElem?_eq_getElem h];rfl
theorem lN{r:List Int}{i:Nat}{z:Int}(e:z=(i:Int)-1)(h:i<r.length):zV (r.map V.int) z=some (.int (ah r i)):=by
 subst e
 unfold ah rm
 by_cases h0:i=0
 ·subst h0
  rw[if_pos rfl]
  have hl:r.length-1<r.length:=by omega
  unfold zV Zr
  rw[List.length_map,if_neg (by omega),if_pos (by omega)]
  have e2:((((0:Nat):Int)-1)+(r.length:Int)).toNat=r.length-1:=by omega
  show(r.map V.int)[((((0:Nat):Int)-1)+(r.length:Int)).toNat]? =_
  rw[e2,eP hl,List.getD_eq_getElem?_getD,List.getElem?_eq_getElem hl];rfl
 ·rw[if_neg h0]
  exact ZI (by omega) (by omega)
theorem Sq.ix{K:Frag}{H:Hp}{a:Addr}{xs:List V}{i:Int}{v:V}{Q:VK}(h:Sq K H a xs)(e:zV xs i=some v)(q:Q v H):uL K (.ref a) (.int i) H Q\/nK K (.ref a) (.int i) H Q:=
 h.elim (fun h=> .inl ⟨a,xs,i,v,rfl,rfl,h,e,q⟩) fun h=> .inr ⟨a,xs,i,v,rfl,rfl,h,e,q⟩
section
variable{K:Frag}{a:Addr}{xs:List V}{g:TG}{tb:TS}{D:Ends}{σ:L2.St}{H H0:Hp}
theorem sd(hq:Sq K H0 a xs)(Pv:Nat->L2.St->Hp->Prop)(h0:Pv 0 σ H)(hk:∀i σ' H',Pv i σ' H'->Same H0 H')
  (hs:∀i x σ H,xs[i]? =some x->Pv i σ H->g x σ H fun σ2 H2=>tb {D with nx:=Pv (i+1),ct:=Pv (i+1),bk:=D.nx} σ2 H2)(hd:∀σ H,Pv xs.length σ H->D.nx σ H):
  ((∃xs,SqL K H a xs)/\Q8 (fh K a) g tb D σ H)\/((∃xs,SqT K H a xs)/\Q8 (cM K a) g tb D σ H):=by
 rcases hq with hq|hq
 ·exact .inl ⟨⟨xs,(hk _ _ _ h0).seq hq⟩,zY Pv h0 (fun i σ H _ p=>(hk i σ H p).seq hq) hs hd⟩
 ·exact .inr ⟨⟨xs,Same.sqt (hk _ _ _ h0) hq⟩,jl Pv h0 (fun i σ H _ p=>Same.sqt (hk i σ H p) hq) hs hd⟩
theorem oY(hq:Sq K H0 a xs)(Pv:Nat->L2.St->Hp->Prop)(h0:Pv 0 σ H)(hk:∀i σ' H',Pv i σ' H'->Same H0 H')
  (hs:∀i x σ H,i<xs.length->xs[xs.length-1-i]? =some x->Pv i σ H->g x σ H fun σ2 H2=>tb {D with nx:=Pv (i+1),ct:=Pv (i+1),bk:=D.nx} σ2 H2)(hd:∀σ H,Pv xs.length σ H->D.nx σ H):
  (∃xs,SqL K H a xs/\Q8 (kx K a xs.length) g tb D σ H)\/(∃xs,SqT K H a xs/\Q8 (k4 K a xs.length) g tb D σ H)\/(∃n:Nat,H a=some (.rng 0 n)/\(n:Int)<2 ^ 62/\Q8 (kQ n) g tb D σ H):=by
 rcases hq with hq|hq
 ·exact .inl ⟨xs,(hk _ _ _ h0).seq hq,oF Pv h0 (fun i σ H p=>(hk i σ H p).seq hq) hs hd⟩
 ·exact .inr (.inl ⟨xs,Same.sqt (hk _ _ _ h0) hq,ox Pv h0 (fun i σ H p=>Same.sqt (hk i σ H p) hq) hs hd⟩)
end
theorem QU{H H2:Hp}{l:Addr}{o:HO}(s:Same H H2)(h:H l=none):Same H (upd H2 l o):=fun d u e=>by
 rw[qh (qo e h)];exact s _ _ e
theorem eN{ks:List Int}{j:Nat}{s:Int}(h:ks[j]? =some s):ks.take (j+1)=ks.take j++[s]:=by rw[List.take_add_one,h];rfl
theorem mR{ks:List Int}{j:Nat}{s:Int}(h:ks[j]? =some s):ks.drop j=s::ks.drop (j+1):=by
 obtain⟨hj,e⟩:=List.getElem?_eq_some_iff.mp h
 rw[List.drop_eq_getElem_cons hj,e]
inductive Eqd (H:Hp):Nat->V->V->Prop where
 |int (n:Nat) (i:Int):Eqd H n (.int i) (.int i)
 |str (n:Nat) (x:Str):Eqd H n (.str x) (.str x)
 |non (n:Nat):Eqd H n .non .non
 |bl (n:Nat) (b:Bool):Eqd H n (.bl b) (.bl b)
 | tup {n:Nat} {a b:Addr} {xs ys:List V} (h1:Rd H a (.tup xs)) (h2:Rd H b (.tup ys)) (hl:xs.length=ys.length)
   (hi:∀(i:Nat) (x y:V),xs[i]? =some x->ys[i]? =some y->Eqd H n x y):Eqd H (n+1) (.ref a) (.ref b)
 | lst {n:Nat} {a b:Addr} {xs ys:List V} (h1:H a=some (.lst xs)) (h2:H b=some (.lst ys)) (hl:xs.length=ys.length)
   (hi:∀(i:Nat) (x y:V),xs[i]? =some x->ys[i]? =some y->Eqd H n x y):Eqd H (n+1) (.ref a) (.ref b)
theorem Z8(n:Nat):((List.range n).all fun _=>true)=true:=by simp
section
open SeqAt
variable{pins:List (Addr×Obj)}{σ:L2.St}{H:Hp}{s:Shared}
theorem zG{xs:List V}{us:List Value}(r:Vals xs us){j:Nat}(h:j<us.length):∃x,xs[j]? =some x/\RelV x us[j]:=by
 have hl:=r.length
 have hj:j<xs.length:=by omega
 obtain⟨u,hu,ru⟩:=r.get (List.getElem?_eq_getElem hj)
 rw[List.getElem?_eq_getElem h]at hu
 cases hu
 exact⟨_,List.getElem?_eq_getElem hj,ru⟩
theorem mI(I:L2.Inv X pins σ H s){n:Nat}{x y:V}(h:Eqd H n x y):∀{v u:Value} {A:Around},RelV x v->RelV y u->A.units+n<cLine->EqAt A s v u true:=by
 induction h with
 |int n i=>rintro v u A ⟨t,rfl⟩ ⟨t',rfl⟩ _;have:=EqAt.int_int (A:=A) (s:=s) i t i t';rwa [beq_self_eq_true]at this
 |str n z=>rintro v u A ⟨t,rfl⟩ ⟨t',rfl⟩ _;have:=EqAt.str_str (A:=A) (s:=s) z t z t';rwa [beq_self_eq_true]at this
 |non n=>
  intro v u A r1 r2 _
  cases(show v=Value.none from r1)
  cases(show u=Value.none from r2)
  exact EqAt.same _
 |bl n b=>
  intro v u A r1 r2 _
  cases(show v=Value.bool b from r1)
  cases(show u=Value.bool b from r2)
  exact EqAt.same _
 | @tup n a b xs ys h1 h2 hl _ ih=>
  intro v u A r1 r2 hu
  cases(show v=Value.ref a from r1)
  cases(show u=Value.ref b from r2)
  by_cases hab:a=b
  ·rw[hab];exact EqAt.same _
  ·obtain⟨its,q1,p1,_⟩:=I.tuple (.inl h1)
   obtain⟨its2,q2,p2,_⟩:=I.tuple (.inl h2)
   have l1:=q1.length
   have l2:=q2.length
   have e:=RcAt.tuples (A:=A) (e:=fun _=>true) (show s.heap.IsTuple a its.toArray from p1) (show s.heap.IsTuple b its2.toArray from p2) (by omega) (fun j z1 z2=>by
    obtain⟨x,ex,rx⟩:=zG q1 (j:=j) (by simpa using z1)
    obtain⟨y,ey,ry⟩:=zG q2 (j:=j) (by simpa using z2)
    exact ih j x y ex ey rx ry (by rw[Around.in1_units];omega))
   rw[Z8,show(its.toArray.size==its2.toArray.size)=true by simp;omega]at e
   exact EqAt.of_refs hab e
 | @lst n a b xs ys h1 h2 hl _ ih=>
  intro v u A r1 r2 hu
  cases(show v=Value.ref a from r1)
  cases(show u=Value.ref b from r2)
  by_cases hab:a=b
  ·rw[hab];exact EqAt.same _
  ·obtain⟨its,q1,p1,_⟩:=I.list (SqL.of h1)
   obtain⟨its2,q2,p2,_⟩:=I.list (SqL.of h2)
   have l1:=q1.length
   have l2:=q2.length
   have e:=RcAt.lists (A:=A) (e:=fun _=>true) p1.isList p2.isList (by simp;omega) (by omega) (fun j z1 z2=>by
    obtain⟨x,ex,rx⟩:=zG q1 (j:=j) (by simpa using z1)
    obtain⟨y,ey,ry⟩:=zG q2 (j:=j) (by simpa using z2)
    exact ih j x y ex ey rx ry (by rw[Around.in1_units];omega))
   rw[Z8]at e
   exact EqAt.of_refs hab e
theorem uX(I:L2.Inv X pins σ H s){n:Nat}{x y:V}{v u:Value}{A:Around}(h:Eqd H n x y)(r1:RelV x v)(r2:RelV y u)(hu:A.units+n<cLine):RcAt A s v u true/\RcNeAt A s v u false:=by
 cases h with
 |int n i=>
  obtain⟨t,rfl⟩:=r1
  obtain⟨t',rfl⟩:=r2
  have e1:=RcAt.int_int (A:=A) (s:=s) i t i t'
  have e2:=RcNeAt.int_int (A:=A) (s:=s) i t i t'
  rw[beq_self_eq_true]at e1 e2
  exact⟨e1,e2⟩
 |str n z=>
  obtain⟨t,rfl⟩:=r1
  obtain⟨t',rfl⟩:=r2
  have e1:=RcAt.str_str (A:=A) (s:=s) z t z t'
  have e2:=RcNeAt.str_str (A:=A) (s:=s) z t z t'
  rw[beq_self_eq_true]at e1 e2
  exact⟨e1,e2⟩
 |non n=>
  cases(show v=Value.none from r1)
  cases(show u=Value.none from r2)
  exact⟨RcAt.none_none,RcNeAt.none_none⟩
 |bl n b=>
  cases(show v=Value.bool b from r1)
  cases(show u=Value.bool b from r2)
  have e1:=RcAt.bool_bool (A:=A) (s:=s) b b
  have e2:=RcNeAt.bool_bool (A:=A) (s:=s) b b
  rw[beq_self_eq_true]at e1 e2
  exact⟨e1,e2⟩
 | @tup n a b xs ys h1 h2 hl ih=>
  cases(show v=Value.ref a from r1)
  cases(show u=Value.ref b from r2)
  obtain⟨its,q1,p1,_⟩:=I.tuple (.inl h1)
  obtain⟨its2,q2,p2,_⟩:=I.tuple (.inl h2)
  have l1:=q1.length
  have l2:=q2.length
  have he:∀j (z1:j<its.toArray.size) (z2:j<its2.toArray.size),EqAt A.in1 s its.toArray[j] its2.toArray[j] ((fun _=>true) j):=fun j z1 z2=>by
   obtain⟨x,ex,rx⟩:=zG q1 (j:=j) (by simpa using z1)
   obtain⟨y,ey,ry⟩:=zG q2 (j:=j) (by simpa using z2)
   exact mI I (ih j x y ex ey) rx ry (by rw[Around.in1_units];omega)
  have e1:=RcAt.tuples (A:=A) (e:=fun _=>true) (show s.heap.IsTuple a its.toArray from p1) (show s.heap.IsTuple b its2.toArray from p2) (by omega) he
  have e2:=RcNeAt.tuples (A:=A) (e:=fun _=>true) (show s.heap.IsTuple a its.toArray from p1) (show s.heap.IsTuple b its2.toArray from p2) (by omega) he
  rw[Z8,show(its.toArray.size==its2.toArray.size)=true by simp;omega]at e1 e2
  exact⟨e1,e2⟩
 | @lst n a b xs ys h1 h2 hl ih=>
  cases(show v=Value.ref a from r1)
  cases(show u=Value.ref b from r2)
  obtain⟨its,q1,p1,_⟩:=I.list (SqL.of h1)
  obtain⟨its2,q2,p2,_⟩:=I.list (SqL.of h2)
  have l1:=q1.length
  have l2:=q2.length
  have he:∀j (z1:j<its.toArray.size) (z2:j<its2.toArray.size),EqAt A.in1 s its.toArray[j] its2.toArray[j] ((fun _=>true) j):=fun j z1 z2=>by
   obtain⟨x,ex,rx⟩:=zG q1 (j:=j) (by simpa using z1)
   obtain⟨y,ey,ry⟩:=zG q2 (j:=j) (by simpa using z2)
   exact mI I (ih j x y ex ey) rx ry (by rw[Around.in1_units];omega)
  have e1:=RcAt.lists (A:=A) (e:=fun _=>true) p1.isList p2.isList (by simp;omega) (by omega) he
  have e2:=RcNeAt.lists (A:=A) (e:=fun _=>true) p1.isList p2.isList (by simp;omega) (by omega) he
  rw[Z8]at e1 e2
  exact⟨e1,e2⟩
def wB(b:Bool):R2:=fun x y H Q=>∃n,n<=32/\Eqd H n x y/\Q (.bl b) H
theorem ul{k:Nat}(hr:Room k X.A):zr X (compareOp .NotEq) (wB false):=by
 intro pins s σ H x y v u Q I rx ry h
 obtain⟨n,hn,e,q⟩:=h
 exact(uX I e rx ry (by have:=hr.un;omega)).2 _ _ _ _ ⟨.bl _,H,I,rfl,q⟩
end
end L3
namespace L3
open PySem PySem.Spec PyProof.Rows L2
open Sem (wp)
def rh(x:Str):It:=⟨fun i _=>i<x.cps.size,fun i H v H'=>H'=H/\∃c,x.cps[i]? =some c/\v= .str ⟨#[c]⟩,fun i _=>x.cps.size<=i⟩
theorem nY{P:Program}{w:World}{K:Frag}{tg:Expr}(it:Addr)(x:Str)(t:Tok):Turn P w K tg (rh x) [it] it (fun i h=>h.IsStrIter it "str_ascii_iterator" x t i) where
 mem:=by simp
 obj:=fun i h st b hb=>by
  have e:b=it:=by simpa using hb
  subst e
  obtain⟨o,e,c,d⟩:=st
  exact⟨o,e,fun v z=>by rw[d]at z;cases z⟩
 keep:=fun i h h' st k=>let⟨o,e,r⟩:=st;⟨o,k it (by simp) o e,r⟩
 item:=by
  intro X hP hw hK hc i pins s σ H E I hf st hg
  subst hP hw hK
  obtain⟨f0,f1,f2,f3,f4,f5⟩:=hf it (by simp)
  have W:=Walks.strAscii (prog:=X.prog) (w:=X.w) (I.ok.hd hc) it x t
  refine W.item i s _ _ hg st fun v h' tk hv st' kk=>?_
  obtain⟨c,u,hc',rfl⟩:=hv
  have I1:L2.Inv X pins σ H {s with heap:=h',toks:=tk}:=I.turned (fun b o hb e=>kk b o (by simpa using hb) e) f0 f1 f3 f4 f5
  obtain⟨o,e,cc,d⟩:=id st'
  exact⟨_,rfl,ax (s:={s with heap:=h',toks:=tk}) e cc d (by decide) ⟨.str ⟨#[c]⟩,H,I1,⟨u,rfl⟩,⟨rfl,c,hc',rfl⟩,st',fun b hb=>(hf b hb).1⟩⟩
 done:=by
  intro X hP hw hK hc i pins s σ H E I hf st hg
  subst hP hw hK
  obtain⟨f0,f1,f2,f3,f4,f5⟩:=hf it (by simp)
  have hg':x.cps.size<=i:=hg
  exact wpAny_pyNext_ascii_end (I.ok.hd hc) st (by simp [hg']) fun h' eb=>⟨rfl,I.turned (t':=s.toks) (fun b o hb e=>eb b o hb e) f0 f1 f3 f4 f5⟩
 self:=fun _ _ _ _ _ st h=>wpAny_pyIter_striter_ascii st h
section
variable{X:Cx}{tg:Expr}
def uu(tl:TE):TI:=fun σ H R=>tl σ H fun v H1=>∃x,v= .str x/\x.cps.all (· <128)=true/\R (rh x) H1
theorem vi{l:Expr}{tl:TE}(hl:PE X l tl):PI X tg l (uu tl):=by
 intro pins s σ H R I h
 refine qD (hl pins s σ H _ I h) fun v s1 ⟨x,H1,I1,r1,q1⟩=>?_
 obtain⟨z,rfl,ha,q⟩:=q1
 obtain⟨t,rfl⟩:=r1
 refine wpAny_pyIter_ascii ha ?_
 refine⟨s1.heap.objs.size,[s1.heap.objs.size],_,_,H1,rfl,I1.kept (t':=s1.toks) fun b o e=>Heap.get?_push_of_some _ e,nY _ z t,⟨_,Heap.get?_push_size _ rfl,rfl,rfl⟩,fun b hb=>?_,q⟩
 rw[List.mem_singleton.mp hb]
 exact I1.fpOk (Nat.le_refl _) (I1.hok.fresh (Nat.le_refl _))
theorem nj{l:Expr}{tl:TE}(hl:QE X l tl):QI X tg l (uu tl):=⟨vi hl.h⟩
end
theorem sf{x:Str}{g:TG}{tb:TS}{D:Ends}{σ:L2.St}{H:Hp}(Pv:Nat->L2.St->Hp->Prop)(h0:Pv 0 σ H)
  (hs:∀i c σ H,x.cps[i]? =some c->Pv i σ H->g (.str ⟨#[c]⟩) σ H fun σ2 H2=>tb {D with nx:=Pv (i+1),ct:=Pv (i+1),bk:=D.nx} σ2 H2)(hd:∀σ H,Pv x.cps.size σ H->D.nx σ H):Q8 (rh x) g tb D σ H:=
 bV Pv h0 (fun i σ H hi p=>hi) (fun _=>Nat.le_refl _) (fun i v σ H H' hi p y=>by
  obtain⟨rfl,c,hc,rfl⟩:=y
  exact hs i c σ H' hc p) hd
section
variable{X:Cx}{o e:Expr}{es:List Expr}{to:TE}{t:TA}{name:Str}{apos cpos:Pos}{T id:String}{r:V->List V->Hp->VK->Prop}
theorem Za(pa:PlainAttrs T)(slot:Slot T name id)(hty:typeOf (.builtin id)=pure (.type "method_descriptor"))(hm:fx X id r)(ho:QE X o to)(ha:QA X (e::es) t)
  (hbase:attributeBase o name X.env (eval o X.env)=eval o X.env:=by rfl)
  (hfew:((backTo cpos (starEach (e::es) X.env)).all (fun x=> !x.1)&&(backToKw cpos (keywordEach [] X.env)).all (fun x=>x.1.isSome)
   &&decide ((e::es).length+([]:List Keyword).length+(if([]:List Keyword).isEmpty then 0 else 1)<30))=true:=by rfl)
  (hline:(apos.endLine==cpos.line)=true:=by rfl)(hs:starEach (e::es) X.env=(false,eval e X.env)::starEach es X.env:=by rfl)(hplain:(backTo cpos (starEach es X.env)).any (·.1)=false:=by rfl):
  QE X (.Call (.Attribute o name apos) (e::es) [] cpos) (uU X.K T r to t):=⟨vJ pa slot hty hm ho.h ha.h hbase hfew hline hs hplain⟩
theorem zQ:fx X "list.append" jU:=ma
end
theorem Z5(ns:List Int):∀n,n<=ns.length->preSum (fun i=>ns.getD i 0) n=(ns.take n).sum
 |0,_=>by simp [preSum]
 |n+1,h=>by
  have hn:n<ns.length:=by omega
  rw[preSum,Z5 ns n (by omega),List.take_add_one,List.getElem?_eq_getElem hn,Option.toList_some,List.sum_append,List.getD_eq_getElem?_getD,List.getElem?_eq_getElem hn]
  simp
theorem mD{B:Int}:∀{ns:List Int},(∀z∈ns,0<=z/\z<=B)->0<=ns.sum/\ns.sum<=ns.length*B
 | [],_=>⟨by simp,by simp⟩
 |n::r,h=>by
  have h1:=h n List.mem_cons_self
  have h2:=mD (ns:=r) fun z hz=>h z (List.mem_cons_of_mem _ hz)
  rw[List.sum_cons,List.length_cons]
  refine⟨by omega,?_⟩
  have:(((r.length+1:Nat):Int))*B=r.length*B+B:=by rw[Int.natCast_add,Int.add_mul];simp
  omega
section
variable{X:Cx}
theorem mG(hc:X.calm=true):qY X (.builtin "sum") (fun xs H Q=>∃(p:Addr) (ns:List Int),xs=[.ref p]/\Sq X.K H p (ns.map V.int)/\ns.length<=1000/\(∀z∈ns,0<=z/\z<=1000000)/\Q (.int ns.sum) H):=by
 intro pins s σ H xs us Q I r h
 obtain⟨p,ns,rfl,hq,hl,hb,q⟩:=h
 obtain⟨u,rfl,ru⟩:=zO r
 cases ru
 have bd:∀n,n<=ns.length->0<=preSum (fun i=>ns.getD i 0) n/\preSum (fun i=>ns.getD i 0) n<=1000000000:=fun n hn=>by
  rw[Z5 ns n hn]
  have h1:=mD (B:=1000000) (ns:=ns.take n) fun z hz=>hb z (List.mem_of_mem_take hz)
  have h2:(ns.take n).length<=1000:=by rw[List.length_take];omega
  omega
 have fit:∀j,j<ns.length->InLong ((fun i=>ns.getD i 0) j)/\InLong (preSum (fun i=>ns.getD i 0) (j+1)):=fun j hj=>by
  have b1:=bd (j+1) (by omega)
  have b2:0<=ns.getD j 0/\ns.getD j 0<=1000000:=by
   rw[List.getD_eq_getElem?_getD,List.getElem?_eq_getElem hj];exact hb _ (List.getElem_mem hj)
  unfold InLong
  simp only
  omega
 have eS:preSum (fun i=>ns.getD i 0) ns.length=ns.sum:=by rw[Z5 ns _ (Nat.le_refl _),List.take_length]
 have val:∀{its:List Value},Vals (ns.map V.int) its->∀(i:Nat) (v:Value),its.toArray[i]? =some v->∃t,v= .int ((fun i=>ns.getD i 0) i) t:=fun{its} rv i v hv=>by
  have hv':its[i]? =some v:=by simpa using hv
  have hi:i<its.length:=(List.getElem?_eq_some_iff.mp hv').1
  obtain⟨x,ex,rx⟩:=zG rv hi
  obtain⟨z,rfl,hz⟩:=zX ex
  obtain⟨t,ht⟩:=rx
  refine⟨t,?_⟩
  rw[(List.getElem?_eq_some_iff.mp hv').2]at ht
  rw[ht]
  show Value.int z t=Value.int (ns.getD i 0) t
  rw[List.getD_eq_getElem?_getD,hz];rfl
 rcases hq with hq|hq
 ·obtain⟨its,rv,pl,hz⟩:=I.list hq
  have hlen:ns.length=its.length:=by have:=rv.length;rwa [List.length_map]at this
  have hlt:p<s.heap.objs.size:=by obtain⟨_,e,_⟩:=pl.isList;exact Heap.lt_size e
  refine call_sum_walk (wpAny_pyIter_list pl.isList ?_)
  refine⟨s.heap.objs.size,[s.heap.objs.size,p],[s.heap.objs.size],its.toArray.size,_,_,fun i=>ns.getD i 0,rfl,Walks.list (A:=X.A.in1) (I.ok.hd hc) _ p (Nat.ne_of_lt hlt) its.toArray,
   ⟨⟨_,Heap.get?_push_size _ rfl,rfl,rfl⟩,pl.isList.push _⟩,fun b hb'=>?_,val rv,fun j hj=>fit j (by simp at hj;omega),fun h' tk t' hk=>?_⟩
  ·have sz:(s.heap.push {cls:= .type "list_iterator",data:= .fields #[.ref p,.int 0 0]}).objs.size=s.heap.objs.size+1:=Heap.size_push ..
   simp only[List.mem_cons,List.not_mem_nil,or_false]at hb'
   show b<(Heap.push s.heap _).objs.size
   rw[Heap.size_push]
   rcases hb' with rfl|rfl
   ·exact Nat.lt_succ_self _
   ·exact Nat.lt_succ_of_lt hlt
  ·have e2:preSum (fun i=>ns.getD i 0) its.toArray.size=ns.sum:=by rw[List.size_toArray,<- hlen];exact eS
   rw[e2]
   refine⟨.int _,H,I.kept (h':=h') (t':=tk) fun b o q=>hk b o (fun hm=>?_) (Heap.get?_push_of_some _ q),⟨_,rfl⟩,q⟩
   rw[List.mem_singleton.mp hm]at q
   exact Nat.lt_irrefl _ (Heap.lt_size q)
 ·obtain⟨its,rv,pl,hz⟩:=I.tuple hq
  have hlen:ns.length=its.length:=by have:=rv.length;rwa [List.length_map]at this
  have hT:s.heap.IsTuple p its.toArray:=pl
  have hlt:p<s.heap.objs.size:=by obtain⟨_,e,_⟩:=hT;exact Heap.lt_size e
  refine call_sum_walk (wpAny_pyIter_tuple hT ?_)
  refine⟨s.heap.objs.size,[s.heap.objs.size,p],[s.heap.objs.size],its.toArray.size,_,_,fun i=>ns.getD i 0,rfl,Walks.tuple (A:=X.A.in1) (I.ok.hd hc) _ p (Nat.ne_of_lt hlt) its.toArray,
   ⟨⟨_,Heap.get?_push_size _ rfl,rfl,rfl⟩,let⟨o,e,r⟩:=hT;⟨o,Heap.get?_push_of_some _ e,r⟩⟩,fun b hb'=>?_,val rv,fun j hj=>fit j (by simp at hj;omega),fun h' tk t' hk=>?_⟩
  ·simp only[List.mem_cons,List.not_mem_nil,or_false]at hb'
   show b<(Heap.push s.heap _).objs.size
   rw[Heap.size_push]
   rcases hb' with rfl|rfl
   ·exact Nat.lt_succ_self _
   ·exact Nat.lt_succ_of_lt hlt
  ·have e2:preSum (fun i=>ns.getD i 0) its.toArray.size=ns.sum:=by rw[List.size_toArray,<- hlen];exact eS
   rw[e2]
   refine⟨.int _,H,I.kept (h':=h') (t':=tk) fun b o q=>hk b o (fun hm=>?_) (Heap.get?_push_of_some _ q),⟨_,rfl⟩,q⟩
   rw[List.mem_singleton.mp hm]at q
   exact Nat.lt_irrefl _ (Heap.lt_size q)
end
end L3
namespace L3
open PySem PySem.Spec PyProof.Rows L2
section
variable{X:Cx}
theorem pv:nQ X (fun x y H Q=>∃(p:Addr) (xs:List V) (i:Nat) (v:V),x= .ref p/\y= .int (i:Int)/\H p=some (.lst xs)/\xs[i]? =some v/\Q v H):=by
 intro pins s σ H o i ov iv Q I r1 r2 h
 obtain⟨p,xs,j,v,rfl,rfl,hH,hv,q⟩:=h
 cases r1
 obtain⟨t,rfl⟩:=r2
 obtain⟨its,r,pl,hz⟩:=I.list (SqL.of hH)
 obtain⟨u,hu,ru⟩:=r.get hv
 have hl:=r.length
 have hn:=Zb
 have hj:j<xs.length:=(List.getElem?_eq_some_iff.mp hv).1
 exact wpAny_getItem_list pl.isList (by omega) (by omega) (by simpa using hu) ⟨v,H,I,ru,q⟩
end
def zU(z:Str):Prop:=(∀c∈z.cps.toList,97<=c/\c<=122)/\1<=z.cps.toList.length/\z.cps.toList.length<=8
theorem iB{z:Str}(h:zU z):z.cps.all (· <128)=true:=by
 rw[Array.all_eq_true']
 intro c hc
 have:=h.1 c (by simpa using hc)
 simp;omega
def n9(c:Nat):List Int:=[((c:Int)-97)%16,((c:Int)-97)/16]
def Qt(cs:List Nat):List Int:=cs.flatMap n9
theorem lv(cs:List Nat)(c:Nat):Qt (cs++[c])=Qt cs++n9 c:=by simp [Qt]
theorem fY(cs:List Nat):(Qt cs).length=2*cs.length:=by
 induction cs with
 |nil=>rfl
 |cons c r ih=>simp only[Qt,List.flatMap_cons,List.length_append,List.length_cons]at ih⊢;rw[ih];simp [n9];omega
def eE(ds:List Int)(j:Nat):Nat->Int
 |0=>0
 |n+1=>eE ds j n+if n%4=j then ds.getD n 0 else 0
def Q9(ds:List Int)(n:Nat):List Int:=[eE ds 0 n,eE ds 1 n,eE ds 2 n,eE ds 3 n]
theorem mn(ds:List Int)(n:Nat):(Q9 ds n).set (n%4) ((Q9 ds n).getD (n%4) 0+ds.getD n 0)=Q9 ds (n+1):=by
 have h:n%4=0\/n%4=1\/n%4=2\/n%4=3:=by omega
 rcases h with h|h|h|h<;>simp [Q9,eE,h]
def ZW(ds:List Int):List Int:=(Q9 ds ds.length).map (· %16)
theorem iw(ds:List Int):(ZW ds).length=4:=rfl
def fF:Sp:=fun vs H Q _=>∃z,vs=[.str z]/\zU z/\∀l H',Same H H'->H l=none->H' l=some (.lst ((Qt z.cps.toList).map V.int))->Q (.ref l) H'
def eL(K:Frag):Sp:=fun vs H Q _=>∃(a b:Addr) (z:Str) (t ks:List Int),vs=[.ref a,.ref b,.str z]/\Sq K H a (t.map V.int)/\Sq K H b (ks.map V.int)/\zU z/\t.length=16/\
 ∀p H',Same H H'->H p=none->H' p=some (.tup ((Qg t ks (ZW (Qt z.cps.toList))).map V.int))->Q (.ref p) H'
theorem si{cs:List Nat}{i c:Nat}(h:cs[i]? =some c):cs.take (i+1)=cs.take i++[c]:=by rw[List.take_add_one,h];rfl
theorem jQ{z:Str}{i c:Nat}(h:z.cps[i]? =some c):z.cps.toList[i]? =some c:=by simpa using h
theorem uC{X:Cx}{scope:Scope}{y z:Str}{j k:Nat}(kind:scope.kind= .function)(names:∀x∈scope.names,x.2= .local->scope.names.lookup x.1=some .local)(nocell:∀x∈scope.names,x.2≠ .cell)
  (free:∀x∈scope.names,x.2= .free->x.1∈([y,z]:List Str))(h1:X.N[j]? =some y)(h2:X.env.kindOf y=some .cell)(h3:(relabel scope X.env).names.lookup y=some .cell)
  (g1:X.N[k]? =some z)(g2:X.env.kindOf z=some .cell)(g3:(relabel scope X.env).names.lookup z=some .cell):BScope X scope [y,z] [j,k]:=
 ⟨kind,names,nocell,free,rfl,fun i j' y' e1 e2=>by
  match i with
  |0=>cases e1;cases e2;exact⟨h1,h2,h3⟩
  |1=>cases e1;cases e2;exact⟨g1,g2,g3⟩
  |i+2=>simp at e1⟩
theorem vg{X:Cx}{y z:Str}{c d:Addr}(h:X.env.cells.lookup y=some c)(g:X.env.cells.lookup z=some d):∀u e,([(y,c),(z,d)]:List (Str×Addr)).lookup u=some e->X.env.cells.lookup u=some e:=fun u e he=>by
 by_cases hu:u=y
 ·subst hu
  simp at he
  rw[<- he];exact h
 ·by_cases hv:u=z
  ·subst hv
   simp [List.lookup_cons,show(u==y)=false from by simpa using hu]at he
   rw[<- he];exact g
  ·simp [List.lookup_cons,show(u==y)=false from by simpa using hu,show(u==z)=false from by simpa using hv]at he
end L3
namespace L3
open PySem PySem.Spec PyProof.Rows L2
open Sem (wp)
section
variable{prog:Program}{w:World}{A:Around}{E:Value->Shared->Prop}{s:Shared}
theorem c5{it t:Addr}{items:Array Value}(hne:t≠it):∀(n i:Nat) (s:Shared) (Q:List Value->Shared->Prop),s.heap.IsListIter it t i->s.heap.IsList t items->i+n<=items.size->
  (∀h',h'.IsListIter it t (i+n)->Heap.SameBut it s.heap h'->Q ((items.toList.drop i).take n) {s with heap:=h'})->wpAny (model prog w) A (draw (.ref it) n) Q E s
 |0,i,s,Q,hit,_,_,hQ=>by
  show wpAny _ _ (pure []) Q E s
  refine wpAny_pure ?_
  have:=hQ s.heap hit (Heap.SameBut.refl ..)
  simpa using this
 |n+1,i,s,Q,hit,ht,hle,hQ=>by
  have hlt:i<items.size:=by omega
  show wpAny _ _ (pyNext (.ref it) >>= _) Q E s
  refine wpAny_bind (wpAny_pyNext_list_item hit ht (x:=items[i]) (by simp [hlt]) fun h₁ hit₁ hs₁=>?_)
  have ht1:(Shared.heap {s with heap:=h₁}).IsList t items:=let⟨o,e,r⟩:=ht;⟨o,hs₁.extBut _ _ hne e,r⟩
  refine wpAny_bind (wpAny_holding (c5 hne n (i+1) _ _ hit₁ ht1 (by omega) fun h₂ hit₂ hs₂=>wpAny_pure ?_))
  have hd:items.toList.drop i=items[i]::items.toList.drop (i+1):=by simp [List.drop_eq_getElem_cons,hlt]
  have z:=hQ h₂ (by rw[show i+(n+1)=i+1+n by omega];exact hit₂) (hs₁.trans hs₂)
  rw[hd,List.take_succ_cons]at z
  exact z
theorem hJ{t:Addr}{items:Array Value}{targets:List (Bool×(Value->Sem Unit))}{Q:Unit->Shared->Prop}(hh:A.handled=none)(ht:s.heap.IsList t items)
  (hn:targets.length=items.size)(hstar:targets.findIdx? (·.1)=none)
  (h:∀h',Heap.ExtBut s.heap.objs.size s.heap h'->wpAny (model prog w) A (assignInOrder (targets.map (·.2)) items.toList) Q E {s with heap:=h'}):
  wpAny (model prog w) A (unpack (.ref t) targets) Q E s:=by
 have hlt:t≠s.heap.objs.size:=by obtain⟨o,ho,_⟩:=ht;exact Nat.ne_of_lt (Heap.lt_size ho)
 unfold unpack
 rw[hn,hstar]
 refine wpAny_bind (wpAny_holding ?_)
 unfold unpackItems
 refine wpAny_bind ?_
 unfold notIterableAtAll
 refine wpAny_bind (wpAny_specialOf ht.typeIs F.slot_list_iter.lookup ?_)
 refine wpAny_pure ?_
 simp only[Bool.false_eq_true,if_false]
 refine wpAny_bind (wpAny_holding (wpAny_pyIter_list ht ?_))
 refine wpAny_bind (wpAny_holding (c5 hlt items.size 0 _ _ ⟨_,Heap.get?_push_size _ rfl,rfl,rfl⟩ (ht.push _) (by omega) fun h₁ hit₁ hs₁=>?_))
 have hall:List.take items.size (List.drop 0 items.toList)=items.toList:=by
  rw[List.drop_zero]
  exact List.take_of_length_le (by simp)
 rw[hall]
 rw[if_neg (by simp)]
 have ht₁:h₁.IsList t items:=let⟨o,e,r⟩:=ht.push _;⟨o,hs₁.extBut _ _ hlt e,r⟩
 refine wpAny_bind (wpAny_holding (wpAny_pyNext_list_end hh hit₁ ht₁ (by simp) fun h₂ he₂=>?_))
 simp only[Option.isSome_none,Bool.false_eq_true,if_false]
 exact wpAny_pure (h h₂ fun b o hb e=>he₂ b o hb (hs₁.extBut b o hb (Heap.get?_push_of_some _ e)))
end
section
variable{X:Cx}{pos:Pos}
def uo(K:Frag)(n:Nat)(t:ZQ):TG:=fun v σ H Q=>∃a xs,v= .ref a/\Sq K H a xs/\xs.length=n/\t xs σ H Q
theorem vj{es:List Expr}{k:Nat}{t:ZQ}{n:Nat}(hc:X.calm=true)(h:jM X es t)
  (hn:(assignEach es X.env).length=n:=by rfl)(hst:(assignEach es X.env).findIdx? (·.1)=none:=by rfl):PG X (.Tuple es k pos) (uo X.K n t):=by
 intro pins s σ H v u Q I r hw
 obtain⟨a,xs,e1,hq,hl,hw⟩:=hw
 rcases hq with hq|hq
 ·subst e1
  cases r
  obtain⟨its,rv,ht,hz⟩:=I.list hq
  rw[assign_Tuple]
  refine wpAny_bind (wpAny_standAt (hJ (I.ok.hd hc) ht.isList (by simp [hn,<- hl,rv.length]) hst fun h' hx=>?_))
  have I1:L2.Inv X pins σ H {s with heap:=h'}:=I.kept (t':=s.toks) fun b o e=>hx b o (Nat.ne_of_lt (Heap.lt_size e)) e
  exact h pins _ σ H xs _ Q I1 (by simpa using rv) hw
 ·exact ia hc h hn hst pins s σ H v u Q I r ⟨a,xs,e1,hq,hl,hw⟩
theorem zu{es:List Expr}{k:Nat}{t:ZQ}{n:Nat}(hc:X.calm=true)(h:QGs X es t)
  (hn:(assignEach es X.env).length=n:=by rfl)(hst:(assignEach es X.env).findIdx? (·.1)=none:=by rfl):QG X (.Tuple es k pos) (uo X.K n t):=⟨vj hc h.h hn hst⟩
end
end L3
namespace L3
open PySem PySem.Spec PyProof.Rows L2
open Sem (wp)
namespace RV
end RV
section
variable{prog:Program}{w:World}{A:Around}{E:Value->Shared->Prop}{s:Shared}
end
section
variable{X:Cx}
end
end L3
namespace L3
open PySem PySem.Spec PyProof.Rows L2
def Zm(c d:Int):List Int:=[c%16,c/16%16,c/256,d]
def Zn(c d:Int):List Int:=Zm c d++[(Zm c d).sum%16]
def eQ(t ks:List Int)(z:Str):List Int:=Qg t ks (ZW (Qt z.cps.toList))
def aA(t ks:List Int)(z:Str)(c d:Int):List Int:=Qg t (eQ t ks z) (Zn c d)
def gk(r:List Int):Option (Int×Int):=if r.getD 4 0=(r.getD 0 0+r.getD 1 0+r.getD 2 0+r.getD 3 0)%16 then some (r.getD 0 0+r.getD 1 0*16+r.getD 2 0*256,r.getD 3 0)else none
def QV(t ks:List Int)(z:Str)(ds:List Int):Option (Int×Int):=gk (QJ (zv t) (eQ t ks z) ds)
theorem ao(c d:Int):(Zn c d).length=5:=rfl
theorem pE(c d:Int):(Zm c d).sum=c%16+c/16%16+c/256+d:=by simp [Zm];omega
theorem cB{c d:Int}(h0:0<=c)(h1:c<4096)(hd:ZR d):zp (Zn c d):=fun x hx=>by
 simp only[Zn,Zm,List.cons_append,List.nil_append,List.mem_cons,List.not_mem_nil,or_false]at hx
 rcases hx with rfl|rfl|rfl|rfl|rfl
 ·exact Zp _
 ·exact Zp _
 ·exact⟨by omega,by omega⟩
 ·exact hd
 ·exact Zp _
theorem nv{c d:Int}(h0:0<=c)(h1:c<4096):gk (Zn c d)=some (c,d):=by
 have e:(Zn c d)=[c%16,c/16%16,c/256,d,(c%16+c/16%16+c/256+d)%16]:=by unfold Zn;rw[pE];rfl
 unfold gk
 rw[e]
 show(if(c%16+c/16%16+c/256+d)%16=(c%16+c/16%16+c/256+d)%16 then some (c%16+c/16%16*16+c/256*256,d)else none)=_
 rw[if_pos rfl,show c%16+c/16%16*16+c/256*256=c by omega]
theorem tz{r:List Int}(hl:r.length=5):∃a b c d e:Int,r=[a,b,c,d,e]:=by
 match r,hl with
 | [a,b,c,d,e],_=>exact⟨a,b,c,d,e,rfl⟩
theorem mJ(t ks:List Int)(z:Str)(c d:Int):(aA t ks z c d).length=5:=by unfold aA;rw[ar,ao]
theorem oX{t ks:List Int}(p:t.Perm digs){z:Str}{c d:Int}(h0:0<=c)(h1:c<4096)(hd:ZR d):zp (aA t ks z c d):=iE p (cB h0 h1 hd)
theorem fc{t ks:List Int}(p:t.Perm digs){z:Str}{c d:Int}(h0:0<=c)(h1:c<4096)(hd:ZR d):QV t ks z (aA t ks z c d)=some (c,d):=by
 unfold QV aA
 rw[gP p (cB h0 h1 hd) (by rw[ao];decide),nv h0 h1]
def aV(H:Hp)(x:V):Option (Int×Int)->Prop
 |none=>x= .non
 |some (c,d)=>∃p,x= .ref p/\H p=some (.tup [.int c,.int d])
def vb:Sp:=fun vs H Q _=>∃c:Int,vs=[.int c]/\∀p H',Same H H'->H' p=some (.tup [.int (c%16),.int (c/16%16),.int (c/256)])->Q (.ref p) H'
def jy(K:Frag):Sp:=fun vs H Q _=>∃(a b:Addr) (z:Str) (age c d:Int) (t ks:List Int),vs=[.ref a,.ref b,.str z,.int age,.int c,.int d]/\Sq K H a (t.map V.int)/\Sq K H b (ks.map V.int)/\zU z/\t.length=16/\0<=c/\c<4096/\ZR d/\
 ∀p pc H',Same H H'->H' p=some (.tup [.str z,.int age,.ref pc])->H' pc=some (.tup ((aA t ks z c d).map V.int))->Q (.ref p) H'
def gT(K:Frag):Sp:=fun vs H Q _=>∃(a b pr pc:Addr) (z:Str) (age:Int) (t ks ds:List Int),vs=[.ref a,.ref b,.ref pr]/\Sq K H a (t.map V.int)/\Sq K H b (ks.map V.int)/\Sq K H pr [.str z,.int age,.ref pc]/\Sq K H pc (ds.map V.int)/\zU z/\t.Perm digs/\ds.length=5/\zp ds/\
 ∀x H',Same H H'->aV H' x (QV t ks z ds)->Q x H'
end L3
namespace L2
open PySem PySem.Spec PyProof.Rows
section
variable{κ:Type} [DecidableEq κ]
def QY(kvs:List (κ×V))(k:κ):Option V:=(kvs.find? fun kv=>decide (kv.1=k)).map (·.2)
def putK(kvs:List (κ×V))(k:κ)(v:V):List (κ×V):=
 if(kvs.any fun kv=>decide (kv.1=k))=true then kvs.map (fun kv=>if kv.1=k then(kv.1,v)else kv)else kvs++[(k,v)]
theorem Zt{p:κ×V}{r:List (κ×V)}{k:κ}(e:p.1=k):QY (p::r) k=some p.2:=by simp [QY,List.find?_cons,e]
theorem Zv{p:κ×V}{r:List (κ×V)}{k:κ}(e:¬p.1=k):QY (p::r) k=QY r k:=by simp [QY,List.find?_cons,e]
theorem gI(k:κ):∀kvs:List (κ×V),(kvs.any fun kv=>decide (kv.1=k))=(QY kvs k).isSome
 | []=>rfl
 |p::r=>by
  rw[List.any_cons]
  by_cases e:p.1=k
  ·simp only[Zt e,decide_eq_true e,Bool.true_or,Option.isSome_some]
  ·rw[Zv e,decide_eq_false e,Bool.false_or];exact gI k r
theorem Z6(kvs:List (κ×V))(k:κ)(v:V):(putK kvs k v).length<=kvs.length+1:=by
 unfold putK
 split
 ·rw[List.length_map];omega
 ·rw[List.length_append,List.length_cons,List.length_nil];omega
theorem RelO.isSome_eq{o:Option V}{u:Option Value}(r:RelO o u):o.isSome=u.isSome:=by
 cases o with
 |none=>cases u with
  |none=>rfl
  |some _=>exact(show False from r).elim
 |some _=>cases u with
  |none=>exact(show False from r).elim
  |some _=>rfl
theorem RelO.getD{o:Option V}{u:Option Value}{d:V}{d':Value}(r:RelO o u)(rd:RelV d d'):RelV (o.getD d) (u.getD d'):=by
 cases o with
 |none=>cases u with
  |none=>exact rd
  |some _=>exact(show False from r).elim
 |some _=>cases u with
  |none=>exact(show False from r).elim
  |some _=>exact r
theorem KV.val{kvs:List (κ×V)}{vs:List (κ×Value)}(r:KV kvs vs)(k:κ):RelO (QY kvs k) (valueAt vs k):=by
 unfold KV at r
 induction r with
 |nil=>exact True.intro
 | @cons p q ps qs h t ih=>
  obtain⟨h1,h2⟩:=h
  by_cases e:p.1=k
  ·have e':q.1=k:=h1.symm.trans e
   have b:valueAt (q::qs) k=some q.2:=by simp [valueAt,List.find?_cons,e']
   rw[Zt e,b];exact h2
  ·have e':¬q.1=k:=fun z=>e (h1.trans z)
   have b:valueAt (q::qs) k=valueAt qs k:=by simp [valueAt,List.find?_cons,e']
   rw[Zv e,b];exact ih
theorem KV.any{kvs:List (κ×V)}{vs:List (κ×Value)}(r:KV kvs vs)(k:κ):(kvs.any fun kv=>decide (kv.1=k))=vs.any fun kv=>decide (kv.1=k):=by
 unfold KV at r
 induction r with
 |nil=>rfl
 |cons h t ih=>rw[List.any_cons,List.any_cons,ih,h.1]
theorem KV.repl{kvs:List (κ×V)}{vs:List (κ×Value)}(r:KV kvs vs)(k:κ){y:V}{u:Value}(ry:RelV y u):
  KV (kvs.map fun kv=>if kv.1=k then(kv.1,y)else kv) (vs.map fun kv=>if kv.1=k then(kv.1,u)else kv):=by
 unfold KV at r⊢
 induction r with
 |nil=>exact .nil
 | @cons p q ps qs h t ih=>
  rw[List.map_cons,List.map_cons]
  refine .cons ?_ ih
  obtain⟨h1,h2⟩:=h
  by_cases e:p.1=k
  ·rw[if_pos e,if_pos (h1.symm.trans e)];exact⟨h1,ry⟩
  ·rw[if_neg e,if_neg (fun z=>e (h1.trans z))];exact⟨h1,h2⟩
theorem KV.put{kvs:List (κ×V)}{vs:List (κ×Value)}(r:KV kvs vs)(k:κ){y:V}{u:Value}(ry:RelV y u):KV (putK kvs k y) (stored vs k u):=by
 unfold putK stored
 rw[r.any k]
 by_cases e:(vs.any fun kv=>decide (kv.1=k))=true
 ·rw[if_pos e,if_pos e];exact r.repl k ry
 ·rw[if_neg e,if_neg e];exact Paired.snoc r ⟨rfl,ry⟩
theorem KV.keys{kvs:List (κ×V)}{vs:List (κ×Value)}(r:KV kvs vs):kvs.map (·.1)=vs.map (·.1):=by
 unfold KV at r
 induction r with
 |nil=>rfl
 |cons h t ih=>rw[List.map_cons,List.map_cons,ih,h.1]
theorem KV.length{kvs:List (κ×V)}{vs:List (κ×Value)}(r:KV kvs vs):kvs.length=vs.length:=Paired.length r
end
theorem bR{P:Program}{w:World}{k:qJ}{u:Value}(r:RelV (kV k) u):(qU P w).is k u=true:=by
 cases k with
 |inl i=>obtain⟨t,e⟩:=(show∃t,u=Value.int i t from r);subst e;exact i9 P w i t
 |inr x=>obtain⟨t,e⟩:=(show∃t,u=Value.str x t from r);subst e;exact iV P w x t
theorem fC{P:Program}{w:World}:∀{ks:List qJ} {us:List Value},Vals (ks.map kV) us->ItemsAre (qU P w) ks us
 | [],_,r=>by rw[List.map_nil]at r;cases r;exact .nil
 |k::ks,_,r=>by
  rw[List.map_cons]at r
  cases r with
  |cons h t=>exact .cons (bR h) (fC t)
abbrev KT(H:Hp):List (List qJ×V)->List (List qJ×Addr×Value)->Prop:=Paired fun p q=>p.1=q.1/\H q.2.1=some (.tup (p.1.map kV))/\RelV p.2 q.2.2
theorem KT.val{H:Hp}{kvs:List (List qJ×V)}{xs:List (List qJ×Addr×Value)}(r:KT H kvs xs)(k:List qJ):RelO (QY kvs k) ((atKey xs k).map (·.2)):=by
 induction r with
 |nil=>exact True.intro
 | @cons p q ps qs h t ih=>
  obtain⟨h1,_,h2⟩:=h
  by_cases e:p.1=k
  ·have e':q.1=k:=h1.symm.trans e
   have b:atKey (q::qs) k=some q.2:=by simp [atKey,List.find?_cons,e']
   rw[Zt e,b];exact h2
  ·have e':¬q.1=k:=fun z=>e (h1.trans z)
   have b:atKey (q::qs) k=atKey qs k:=by simp [atKey,List.find?_cons,e']
   rw[Zv e,b];exact ih
theorem KT.repl{H:Hp}{kvs:List (List qJ×V)}{xs:List (List qJ×Addr×Value)}(r:KT H kvs xs)(k:List qJ){y:V}{u:Value}(ry:RelV y u):
  KT H (kvs.map fun kv=>if kv.1=k then(kv.1,y)else kv) (xs.map (putAt k u)):=by
 induction r with
 |nil=>exact .nil
 | @cons p q ps qs h t ih=>
  rw[List.map_cons,List.map_cons]
  refine .cons ?_ ih
  obtain⟨h1,h2,h3⟩:=h
  unfold putAt
  by_cases e:p.1=k
  ·rw[if_pos e,if_pos (h1.symm.trans e)];exact⟨h1,h2,ry⟩
  ·rw[if_neg e,if_neg (fun z=>e (h1.trans z))];exact⟨h1,h2,h3⟩
theorem KT.put{H:Hp}{kvs:List (List qJ×V)}{xs:List (List qJ×Addr×Value)}(r:KT H kvs xs)(k:List qJ){b:Addr}{y:V}{u:Value}(hb:H b=some (.tup (k.map kV)))(ry:RelV y u):
  KT H (putK kvs k y) (storedH xs k b u):=by
 have e:(kvs.any fun kv=>decide (kv.1=k))=(atKey xs k).isSome:=by
  rw[gI,(r.val k).isSome_eq,Option.isSome_map]
 unfold putK storedH
 rw[e]
 by_cases q:(atKey xs k).isSome=true
 ·rw[if_pos q,if_pos q];exact r.repl k ry
 ·rw[if_neg q,if_neg q];exact Paired.snoc r ⟨rfl,hb,ry⟩
theorem KT.keeps{H H':Hp}{kvs:List (List qJ×V)}{xs:List (List qJ×Addr×Value)}(r:KT H kvs xs)(ht:∀b ys,H b=some (.tup ys)->H' b=some (.tup ys)):KT H' kvs xs:=
 Paired.mapP r fun _ _ z=>⟨z.1,ht _ _ z.2.1,z.2.2⟩
section
variable{P:Program}{w:World}{H:Hp}{h:Heap}{a:Addr}
theorem rA{u:HO}(ok:HOk P w H h)(e:Rd H a u):ObjOk P w H h a u:=e.ok ok
theorem ZL{kvs:List (qJ×V)}(ok:HOk P w H h)(e:Rd H a (.dK kvs)):kvs.length<=sizeLine/\(a==sysModules)=false/\∃vs,KV kvs vs/\h.DictOf (qU P w) a vs:=
 show ObjOk P w H h a (.dK kvs)from rA ok e
theorem kR{kvs:List (qJ×V)}(ok:HOk P w H h)(e:H a=some (.dK kvs)):kvs.length<=sizeLine/\(a==sysModules)=false/\∃vs,KV kvs vs/\h.DictOf (qU P w) a vs:=ZL ok (.inl e)
theorem bi{ks:List qJ}(ok:HOk P w H h)(e:H a=some (.tup (ks.map kV))):(tupleKind (qU P w)).is h ks a:=by
 obtain⟨_,its,r,o,h1,h2,n,h3⟩:=(show ObjOk P w H h a (.tup (ks.map kV))from ok a _ e)
 exact⟨o,its.toArray,n,h1,h2,h3,by simpa using fC r⟩
theorem bT{kvs:List (List qJ×V)}(ok:HOk P w H h)(e:Rd H a (.dT kvs)):kvs.length<=sizeLine/\(a==sysModules)=false/\
  ∃xs,KT H kvs xs/\h.DictOfH (tupleKind (qU P w)) a xs:=by
 obtain⟨z,y,xs,r,o,es,ep,h1,h2,h3,h4,h5⟩:=(show ObjOk P w H h a (.dT kvs)from rA ok e)
 refine⟨z,y,xs,r,o,es,ep,h1,h2,h3,h4,fun x hx=>?_,h5⟩
 have all:∀{l:List (List qJ×V)} {m:List (List qJ×Addr×Value)},KT H l m->∀x∈m,(tupleKind (qU P w)).is h x.1 x.2.1:=by
  intro l m q
  induction q with
  |nil=>intro x hx;exact nomatch hx
  | @cons p q ps qs hq t ih=>
   intro x hx
   rcases List.mem_cons.mp hx with e|hx
   ·subst e
    exact bi ok (by rw[<- hq.1];exact hq.2.1)
   ·exact ih x hx
 exact all r x hx
theorem vH{kvs:List (List qJ×V)}(ok:HOk P w H h)(e:H a=some (.dT kvs)):kvs.length<=sizeLine/\(a==sysModules)=false/\
  ∃xs,KT H kvs xs/\h.DictOfH (tupleKind (qU P w)) a xs:=bT ok (.inl e)
end
def DGet(H:Hp)(a:Addr)(y:V)(r:Option V):Prop:=
 (∃kvs k,Rd H a (.dK kvs)/\y=kV k/\r=QY kvs k)\/∃kvs k b,Rd H a (.dT kvs)/\y= .ref b/\H b=some (.tup (k.map kV))/\r=QY kvs k
def DPut(H:Hp)(a:Addr)(y v:V)(H':Hp):Prop:=
 (∃kvs k,H a=some (.dK kvs)/\y=kV k/\kvs.length<sizeLine/\H'=upd H a (.dK (putK kvs k v)))\/
 ∃kvs k b,H a=some (.dT kvs)/\y= .ref b/\H b=some (.tup (k.map kV))/\kvs.length<sizeLine/\H'=upd H a (.dT (putK kvs k v))
theorem DGet.k{H:Hp}{a:Addr}{kvs:List (qJ×V)}{k:qJ}(e:H a=some (.dK kvs)):DGet H a (kV k) (QY kvs k):= .inl ⟨kvs,k,.inl e,rfl,rfl⟩
theorem DPut.k{H:Hp}{a:Addr}{kvs:List (qJ×V)}{k:qJ}{v:V}(e:H a=some (.dK kvs))(hl:kvs.length<sizeLine):DPut H a (kV k) v (upd H a (.dK (putK kvs k v))):= .inl ⟨kvs,k,e,rfl,hl,rfl⟩
section
variable{X:Cx}{pins:List (Addr×Obj)}{σ:St}{H:Hp}{s:Shared}{a:Addr}{y v:V}{u r:Value}{o:Option V}{A:Around}{E:Value->Shared->Prop}
theorem Inv.big(I:Inv X pins σ H s):sysModules<s.heap.objs.size:=by
 have h:mainGlobals<s.heap.objs.size:=(I.mod.glob.keeps I.bk).lt
 exact Nat.lt_trans (by decide) h
theorem nu{Q:Value->Shared->Prop}(hu:A.units+1<cLine)(I:Inv X pins σ H s)(g:DGet H a y (some v))(ry:RelV y u)(h:∀w' s',Inv X pins σ H s'->RelV v w'->Q w' s'):
  wpAny (model X.prog X.w) A (getItem (.ref a) u) Q E s:=by
 rcases g with⟨kvs,k,e,ey,l⟩|⟨kvs,k,b,e,ey,eb,l⟩
 ·subst ey
  obtain⟨z,hd,vs,rel,dd⟩:=ZL I.hok e
  obtain⟨w',hw,rw'⟩:=RelO.some_of (v:=v) (o:=valueAt vs k) (by rw[l];exact rel.val k)
  exact wpAny_getItem_of (bR ry) dd.mapOf hw (h w' _ (I.tok _) rw')
 ·subst ey
  cases(show u=Value.ref b from ry)
  obtain⟨z,hd,xs,rel,dd⟩:=bT I.hok e
  obtain⟨w',hw,rw'⟩:=RelO.some_of (v:=v) (o:=(atKey xs k).map (·.2)) (by rw[l];exact rel.val k)
  obtain⟨p,hp,hp2⟩:=Option.map_eq_some_iff.mp hw
  refine wpAny_getItem_heap (tupleKind_room_in1 hu) (bi I.hok eb) dd hp ?_
  rw[hp2]
  exact h w' _ (I.tok _) rw'
theorem wm{Q:Value->Shared->Prop}(hu:A.units+1<cLine)(I:Inv X pins σ H s)(g:DGet H a y o)(ry:RelV y u)(h:∀s',Inv X pins σ H s'->Q (.bool o.isSome) s'):
  wpAny (model X.prog X.w) A (compareOp .In u (.ref a)) Q E s:=by
 rcases g with⟨kvs,k,e,ey,l⟩|⟨kvs,k,b,e,ey,eb,l⟩
 ·subst ey
  obtain⟨z,hd,vs,rel,dd⟩:=ZL I.hok e
  refine wpAny_in_of (bR ry) hd dd.mapOf ?_
  rw[<- (rel.val k).isSome_eq,<- l]
  exact h _ (I.tok _)
 ·subst ey
  cases(show u=Value.ref b from ry)
  obtain⟨z,hd,xs,rel,dd⟩:=bT I.hok e
  refine wpAny_in_heap (tupleKind_room_in1 hu) (bi I.hok eb) hd dd ?_
  have q:=(rel.val k).isSome_eq
  rw[Option.isSome_map]at q
  rw[<- q,<- l]
  exact h _ (I.tok _)
theorem dv{h':Heap}{t':Nat}{ob:HO}(I:Inv X pins σ H s)(mu:ny (H a))(hs:Heap.SameBut a s.heap h')(he:∃q,h'.get? a=some q)(new:ObjOk X.prog X.w (upd H a ob) h' a ob):
  Inv X pins σ (upd H a ob) {s with heap:=h',toks:=t'}:=
 I.write (x:=a) (e:=a) mu (.inl rfl) (fun b q hb z=>(hs.2 b hb).trans z) he new
theorem gY{P:Program}{w:World}{H':Hp}{h':Heap}{kvs:List (qJ×V)}{vs:List (qJ×Value)}(z:kvs.length<=sizeLine)(hd:(a==sysModules)=false)(rel:KV kvs vs)(dd:h'.DictOf (qU P w) a vs):
  ObjOk P w H' h' a (.dK kvs):=⟨z,hd,vs,rel,dd⟩
theorem lL{H':Hp}{Q:Unit->Shared->Prop}(hu:A.units+1<cLine)(I:Inv X pins σ H s)(g:DPut H a y v H')(ry:RelV y u)(rv:RelV v r)(h:∀s',Inv X pins σ H' s'->Q () s'):
  wpAny (model X.prog X.w) A (setItem (.ref a) u r) Q E s:=by
 rcases g with⟨kvs,k,e,ey,l,eH⟩|⟨kvs,k,b,e,ey,eb,l,eH⟩
 ·subst ey eH
  obtain⟨z,hd,vs,rel,dd⟩:=kR I.hok e
  have hz:vs.length<=sizeLine:=by rw[<- rel.length];exact z
  have hl:(putK kvs k v).length<=sizeLine:=by have:=Z6 kvs k v;omega
  refine wpAny_setItem_pairs (hsz:=hz) (bR ry) dd fun h' dd' hs=>h _ ?_
  have he:∃q,h'.get? a=some q:=let⟨q,_,_,hq,_⟩:=dd';⟨q,hq⟩
  exact dv I (by rw[e];exact True.intro) hs he (gY hl hd (rel.put k rv) dd')
 ·subst ey eH
  cases(show u=Value.ref b from ry)
  obtain⟨z,hd,xs,rel,dd⟩:=vH I.hok e
  have hz:xs.length<=sizeLine:=by rw[<- Paired.length rel];exact z
  have hl:(putK kvs k v).length<=sizeLine:=by have:=Z6 kvs k v;omega
  refine wpAny_setItem_heap (hsz:=hz) (tupleKind_room_in1 hu) (bi I.hok eb) dd fun h' dd' hs=>h _ ?_
  obtain⟨q,es,ep,hq,h2,h3,h4,_,h5⟩:=dd'
  refine dv I (by rw[e];exact True.intro) hs ⟨q,hq⟩ ⟨hl,hd,_,(rel.put k eb rv).keeps fun c ys ec=>?_,q,es,ep,hq,h2,h3,h4,h5⟩
  rw[qh (zI ec e (fun z=>nomatch z))]
  exact ec
end
section
variable{X:Cx}{pins:List (Addr×Obj)}{σ:St}{H:Hp}{s:Shared}{a:Addr}{kvs:List (qJ×V)}{k:qJ}{u:Value}{A:Around}{E:Value->Shared->Prop}
theorem vT{Q:Value->Shared->Prop}(I:Inv X pins σ H s)(e:Rd H a (.dK kvs))(h:∀t s',Inv X pins σ H s'->Q (.int kvs.length t) s'):wpAny (model X.prog X.w) A (call (.builtin "len") [.ref a]) Q E s:=by
 obtain⟨z,hd,vs,rel,dd⟩:=ZL I.hok e
 refine call_len_dict hd dd (by rw[<- rel.length];rw[sizeLine_eq]at z;omega) ?_
 rw[<- rel.length]
 exact h _ _ (I.tok _)
end
def nR(i:Expr):Prop:=∀ov iv,subscripted i false ov iv=operate [ov,iv] (getItem ov iv)
theorem sW{prog:Program}{w:World}{A:Around}{E:Value->Shared->Prop}{s:Shared}{env:Env}{value slice:Expr}{pos:Pos}{T id:String}{Q:Value->Shared->Prop}
  (hl:typeLookup (.type T) "__getitem__"=pure (some (.builtin id)))(hs:nR slice)
  (h:wpAny (model prog w) A (eval value env) (fun o s₁=>wpAny (model prog w) A (eval slice env) (fun i s₂=>s₂.TypeIs o T/\wpAny (model prog w) A (getItem o i) Q E s₂) E s₁) E s):
  wpAny (model prog w) A (eval (.Subscript value slice pos) env) Q E s:=by
 refine Subscript_ (wpAny_mono h (fun o s₁ h₁=>wpAny_mono h₁ (fun i s₂ h₂=>?_) fun _ _ x=>x) fun _ _ x=>x)
 obtain⟨hT,h₂⟩:=h₂
 unfold subscriptTail
 refine wpAny_bind ?_
 rw[getitemInPython_of_ne hT.not_modules]
 refine wpAny_bind (wpAny_specialOf hT hl ?_)
 have fin:wpAny (model prog w) A (subscripted slice false o i) (fun r s₃=>wpAny (model prog w) A (letTemporaryGo value o r >>= fun _=>pure r) Q E s₃) E s₂:=by
  rw[hs o i]
  exact wpAny_operating (wpAny_mono h₂ (fun r s₃ h₃=>wpAny_bind (wpAny_letTemporaryGo (wpAny_pure h₃))) fun _ _ x=>x)
 first
  |exact wpAny_pure (wpAny_bind fin)
  |exact wpAny_bind (wpAny_pure (wpAny_bind fin))
  |exact wpAny_bind fin
theorem jc{X:Cx}{pins:List (Addr×Obj)}{σ:St}{H:Hp}{s:Shared}{a:Addr}{y:V}{o:Option V}(I:Inv X pins σ H s)(g:DGet H a y o):s.TypeIs (.ref a) "dict":=by
 rcases g with⟨kvs,k,e,_,_⟩|⟨kvs,k,b,e,_,_,_⟩
 ·obtain⟨_,_,vs,_,dd⟩:=ZL I.hok e
  exact dd.typeIs
 ·obtain⟨_,_,xs,_,dd⟩:=bT I.hok e
  exact dd.typeIs
def rH(td ty:TE):TE:=fun σ H Q=>td σ H fun x H1=>ty σ H1 fun y H2=>∃a v,x= .ref a/\DGet H2 a y (some v)/\Q v H2
def uV(ty td:TE):TE:=fun σ H Q=>ty σ H fun y H1=>td σ H1 fun x H2=>∃a o,x= .ref a/\DGet H2 a y o/\Q (.bl o.isSome) H2
def rF(td ty tv:TE):TS:=fun D σ H=>tv σ H fun v H1=>td σ H1 fun x H2=>ty σ H2 fun y H3=>∃a H4,x= .ref a/\DPut H3 a y v H4/\D.nx σ H4
section
variable{X:Cx}{o i e value:Expr}{pos pos' tpos:Pos}{td ty tv:TE}
theorem sP(hu:X.A.units+1<cLine)(ho:PE X o td)(hi:PE X i ty)(hs:nR i):PE X (.Subscript o i pos) (rH td ty):=by
 intro pins s σ H Q I h
 refine sW PySem.F.slot_dict_getitem.lookup hs (qD (ho pins s σ H _ I h) fun u s1 ⟨x,H1,I1,rx,q1⟩=>qD (hi pins s1 σ H1 _ I1 q1) fun iv s2 ⟨y,H2,I2,ry,a,v,ex,g,q2⟩=>?_)
 subst ex
 obtain rfl:u=Value.ref a:=rx
 exact⟨jc I2 g,nu hu I2 g ry fun w' s3 I3 rw'=>⟨v,H2,I3,rw',q2⟩⟩
theorem tZ(hu:X.A.units+1<cLine)(hi:PE X i ty)(ho:PE X o td):PC X .In i o (uV ty td):=by
 intro pins s σ H Q I h
 refine qD (hi pins s σ H _ I h) fun iv s1 ⟨y,H1,I1,ry,q1⟩=>qD (ho pins s1 σ H1 _ I1 q1) fun u s2 ⟨x,H2,I2,rx,a,ov,ex,g,q2⟩=>?_
 subst ex
 obtain rfl:u=Value.ref a:=rx
 exact wm hu I2 g ry fun s3 I3=>⟨.bl ov.isSome,H2,I3,rfl,q2⟩
theorem sR(hu:X.A.units+1<cLine)(ho:PE X o td)(hi:PE X i ty)(hv:PE X value tv)(hs:swapsWith value (some (.Subscript o i pos')) pos.line X.env=pure false):
  PS X (.Assign [.Subscript o i pos'] value pos) (rF td ty tv):=by
 intro pins s σ H D I h
 refine wpAny_Assign_Subscript (qD (hv pins s σ H _ I h) fun r s1 ⟨v,H1,I1,rv,q1⟩=>qD (ho pins s1 σ H1 _ I1 q1) fun u s2 ⟨x,H2,I2,rx,q2⟩=>qD (hi pins s2 σ H2 _ I2 q2) fun iv s3 ⟨y,H3,I3,ry,a,H4,ex,g,q3⟩=>?_) hs
 subst ex
 obtain rfl:u=Value.ref a:=rx
 exact lL hu I3 g ry rv fun s4 I4=>⟨σ,H4,I4,q3⟩
end
theorem gQ{P:Program}{w:World}{H:Hp}(h:Heap)(hb:sysModules<h.objs.size):ObjOk P w H (h.push {cls:= .type "dict",data:= .dict #[]}) h.objs.size (.dK []):=
 ⟨Nat.zero_le _,beq_eq_false_iff_ne.mpr (Ne.symm (Nat.ne_of_lt hb)),[],.nil,Heap.DictOf.new h⟩
def nc:TE:=fun _ H Q=>∀p,H p=none->Q (.ref p) (upd H p (.dK []))
section
variable{X:Cx}{pos:Pos}
theorem oN:PE X (.Dict [] [] pos) nc:=fun pins s σ H Q I h=>
 wpAny_Dict_empty ⟨.ref s.heap.objs.size,_,I.laid (a:=s.heap.objs.size) (o:= .dK []) (t':=s.toks) (fun _ _ q=>Heap.get?_push_of_some _ q) (Nat.le_refl _) (gQ s.heap I.big),rfl,h _ (I.hok.fresh (Nat.le_refl _))⟩
end
def gD:List (TE×TE)->St->Hp->(List (V×V)->Hp->Prop)->Prop
 | [],_,H,Q=>Q [] H
 |(tk,tv)::r,σ,H,Q=>tk σ H fun x H1=>tv σ H1 fun y H2=>gD r σ H2 fun ps H3=>Q ((x,y)::ps) H3
abbrev VV:List (V×V)->List (Value×Value)->Prop:=Paired fun p q=>RelV p.1 q.1/\RelV p.2 q.2
def mU(X:Cx)(pos:Pos)(keys:List (Option Expr))(values:List Expr)(trs:List (TE×TE)):Prop:=
 ∀(pins:List (Addr×Obj)) (s:Shared) (σ:St) (H:Hp) (Q:List (V×V)->Hp->Prop),Inv X pins σ H s->gD trs σ H Q->
  wpAny (model X.prog X.w) X.A (evalPairs (pairTrees keys values X.env pos)) (fun vs s'=>∃ps H',Inv X pins σ H' s'/\VV ps vs/\Q ps H') X.xe s
theorem sq{X:Cx}{pos:Pos}:mU X pos [] [] []:=fun pins s σ H Q I h=>pairTrees_nil_walk ⟨[],H,I,.nil,h⟩
theorem oC{X:Cx}{pos:Pos}{k v:Expr}{ks:List (Option Expr)}{vs:List Expr}{tk tv:TE}{trs:List (TE×TE)}(hk:PE X k tk)(hv:PE X v tv)(hr:mU X pos ks vs trs):
  mU X pos (some k::ks) (v::vs) ((tk,tv)::trs):=fun pins s σ H Q I h=>
 pairTrees_cons_walk (qD (hk pins s σ H _ I h) fun u s1 ⟨x,H1,I1,rx,q1⟩=>qD (hv pins s1 σ H1 _ I1 q1) fun w2 s2 ⟨y,H2,I2,ry,q2⟩=>
  qD (hr pins s2 σ H2 _ I2 q2) fun ws s3 ⟨ps,H3,I3,rel,q3⟩=>⟨(x,y)::ps,H3,I3,.cons ⟨rx,ry⟩ rel,q3⟩)
def QX(kvs more:List (qJ×V)):List (qJ×V):=more.foldl (fun acc kv=>putK acc kv.1 kv.2) kvs
theorem KV.merge:∀{more:List (qJ×V)} {rs:List (qJ×Value)} {kvs:List (qJ×V)} {vs:List (qJ×Value)},KV more rs->KV kvs vs->KV (QX kvs more) (merged vs rs):=by
 intro more rs kvs vs r
 unfold KV at r
 induction r generalizing kvs vs with
 |nil=>intro q;exact q
 | @cons p q ps qs h t ih=>
  intro r0
  have e:KV (putK kvs p.1 p.2) (stored vs q.1 q.2):=by
   have:=r0.put p.1 h.2
   rw[<- h.1];exact this
  exact ih e
theorem aK:∀(more kvs:List (qJ×V)),(QX kvs more).length<=kvs.length+more.length
 | [],kvs=>by show kvs.length<=kvs.length+0;omega
 |p::r,kvs=>by
  have h1:=aK r (putK kvs p.1 p.2)
  have h2:=Z6 kvs p.1 p.2
  show(QX (putK kvs p.1 p.2) r).length<=_
  rw[List.length_cons];omega
theorem cH{P:Program}{w:World}:∀{kvs:List (qJ×V)} {ws:List (Value×Value)},VV (kvs.map fun kv=>(kV kv.1,kv.2)) ws->∃rs,Carries (qU P w) ws rs/\KV kvs rs
 | [],_,r=>by rw[List.map_nil]at r;cases r;exact⟨[],True.intro,.nil⟩
 |p::kvs,_,r=>by
  rw[List.map_cons]at r
  cases r with
  | @cons a b as bs h t=>
   obtain⟨rs,c,q⟩:=cH (P:=P) (w:=w) t
   obtain⟨b1,b2⟩:=b
   exact⟨(p.1,b2)::rs,⟨bR h.1,rfl,c⟩,.cons ⟨rfl,h.2⟩ q⟩
def re(trs:List (TE×TE)):TE:=fun σ H Q=>∀p,H p=none->gD trs σ (upd H p (.dK [])) fun ps H2=>H2 p=some (.dK [])/\∃kvs:List (qJ×V),ps=kvs.map (fun kv=>(kV kv.1,kv.2))/\kvs.length<=15/\Q (.ref p) (upd H2 p (.dK (QX [] kvs)))
theorem s9{X:Cx}{pos:Pos}{keys:List (Option Expr)}{values:List Expr}{trs:List (TE×TE)}(h:mU X pos keys values trs)(hall:keys.all (·.isSome)=true)(hl:keys.length=values.length)(h0:keys≠[])
  (h15:keys.length<=15):PE X (.Dict keys values pos) (re trs):=by
 intro pins s σ H Q I q
 have hn:=I.hok.fresh (Nat.le_refl s.heap.objs.size)
 have I1:=I.laid (a:=s.heap.objs.size) (o:= .dK []) (h':=s.heap.push {cls:= .type "dict",data:= .dict #[]}) (t':=s.toks) (fun _ _ q=>Heap.get?_push_of_some _ q) (Nat.le_refl _) (gQ s.heap I.big)
 refine wpAny_Dict_walk (knd:=qU X.prog X.w) hall hl h0 h15 (qD (h pins _ σ _ _ I1 (q _ hn)) fun ws s2 ⟨ps,H2,I2,rel,e,kvs,ep,lk,q2⟩=>?_)
 subst ep
 obtain⟨rs,c,rk⟩:=cH (P:=X.prog) (w:=X.w) rel
 obtain⟨z,hd,vs0,r0,dd⟩:=kR I2.hok e
 cases r0
 refine⟨rs,c,dd,fun h' dd' hs=>⟨.ref s.heap.objs.size,_,?_,rfl,q2⟩⟩
 have hz:(QX [] kvs).length<=sizeLine:=by
  have h1:=aK kvs []
  rw[List.length_nil]at h1
  rw[sizeLine_eq];omega
 have he:∃q,h'.get? s.heap.objs.size=some q:=let⟨q,_,_,hq,_⟩:=dd';⟨q,hq⟩
 exact dv I2 (by rw[e];exact True.intro) hs he (gY hz hd (rk.merge .nil) dd')
structure M1(X:Cx)(o:Expr)(m:Str)(apos:Pos)(e:Expr)(cpos:Pos):Prop where
 base:attributeBase o m X.env (eval o X.env)=eval o X.env
 few:((backTo cpos (starEach [e] X.env)).all (fun x=> !x.1)&&(backToKw cpos (keywordEach [] X.env)).all (fun x=>x.1.isSome)
  &&decide (([e]:List Expr).length+([]:List Keyword).length+(if([]:List Keyword).isEmpty then 0 else 1)<30))=true
 line:(apos.endLine==cpos.line)=true
 trees:backTo cpos (starEach [e] X.env)=[(false,eval e X.env)]
def we(H:Hp)(a:Addr):Prop:=(∃kvs,Rd H a (.dK kvs))\/∃kvs,Rd H a (.dT kvs)
theorem uR{X:Cx}{pins:List (Addr×Obj)}{σ:St}{H:Hp}{s:Shared}{a:Addr}(I:Inv X pins σ H s)(d:we H a):
  s.TypeIs (.ref a) "dict"/\(∀b,Value.ref a= .ref b->∃ob,s.heap.get? b=some ob/\ob.dict=none)/\(a==sysModules)=false:=by
 rcases d with⟨kvs,e⟩|⟨kvs,e⟩
 ·obtain⟨_,hd,vs,_,dd⟩:=ZL I.hok e
  refine⟨dd.typeIs,fun b q=>?_,hd⟩
  cases q
  obtain⟨ob,_,_,h1,h2,_⟩:=dd
  exact⟨ob,h1,h2.2.1⟩
 ·obtain⟨_,hd,xs,_,dd⟩:=bT I.hok e
  refine⟨dd.typeIs,fun b q=>?_,hd⟩
  cases q
  obtain⟨ob,_,_,h1,h2,_⟩:=dd
  exact⟨ob,h1,h2.2.1⟩
section
variable{X:Cx}{pins:List (Addr×Obj)}{σ:St}{H:Hp}{s:Shared}{a:Addr}{y d:V}{u r:Value}{o:Option V}{A:Around}{E:Value->Shared->Prop}
theorem vv{Q:Value->Shared->Prop}(hu:A.units+1<cLine)(I:Inv X pins σ H s)(g:DGet H a y o)(ry:RelV y u)(h:∀w' s',Inv X pins σ H s'->RelV (o.getD .non) w'->Q w' s'):
  wpAny (model X.prog X.w) A (call (.builtin "dict.get") [.ref a,u]) Q E s:=by
 rcases g with⟨kvs,k,e,ey,l⟩|⟨kvs,k,b,e,ey,eb,l⟩
 ·subst ey
  obtain⟨z,hd,vs,rel,dd⟩:=ZL I.hok e
  refine call_meetsIn PySem.F.slot_dict_get dd.typeIs PySem.F.entry_dict_get (PySem.F.args_dict_get_2 _ _) (meets_dict_get (qU X.prog X.w) a (bR ry) hd) ⟨_,dd.mapOf,h _ _ (I.tok _) ?_⟩
  rw[l]
  exact(rel.val k).getD rfl
 ·subst ey
  cases(show u=Value.ref b from ry)
  obtain⟨z,hd,xs,rel,dd⟩:=bT I.hok e
  refine call_meetsIn PySem.F.slot_dict_get dd.typeIs PySem.F.entry_dict_get (PySem.F.args_dict_get_2 _ _) (meetsH_dict_get (tupleKind (qU X.prog X.w)) a b hd) ⟨tupleKind_room_in1 hu,k,xs,bi I.hok eb,dd,h _ _ (I.tok _) ?_⟩
  rw[l]
  exact(rel.val k).getD rfl
end
def mV(td ty:TE):TE:=fun σ H Q=>td σ H fun x H1=>∃a,x= .ref a/\we H1 a/\ty σ H1 fun y H2=>∃o,DGet H2 a y o/\Q (o.getD .non) H2
section
variable{X:Cx}{o e f:Expr}{apos cpos:Pos}{td ty tx:TE}
theorem oO(hu:X.A.units+1<cLine)(ho:PE X o td)(he:PE X e ty)(m:M1 X o "get" apos e cpos):PE X (.Call (.Attribute o "get" apos) [e] [] cpos) (mV td ty):=by
 intro pins s σ H Q I h
 refine wpAny_Call_method m.base m.few m.line PySem.F.plainAttrs_dict PySem.F.slot_dict_get PySem.F.type_dict_get (qD (ho pins s σ H _ I h) fun u s1 ⟨x,H1,I1,rx,a,ex,d,q1⟩=>?_)
 subst ex
 obtain rfl:u=Value.ref a:=rx
 obtain⟨t1,t2,_⟩:=uR I1 d
 refine⟨t1,t2,?_⟩
 rw[m.trees]
 refine Calls.callWith_builtin rfl (Calls.evalArgs_plain (Calls.spliced_cons (qD (he pins s1 σ H1 _ I1 q1) fun iv s2 ⟨y,H2,I2,ry,ov,g,q2⟩=>Calls.spliced_nil ?_)))
 exact vv hu I2 g ry fun w' s3 I3 rw'=>⟨_,H2,I3,rw',q2⟩
end
section
variable{X:Cx}
theorem mz:qY X (.builtin "len") (fun xs H Q=>∃a kvs,xs=[V.ref a]/\H a=some (.dK kvs)/\Q (.int kvs.length) H):=by
 intro pins s σ H xs us Q I r h
 obtain⟨a,kvs,rfl,ha,q⟩:=h
 obtain⟨u,rfl,ru⟩:=zO r
 cases ru
 exact vT I (.inl ha) fun t s' I'=>⟨.int kvs.length,H,I',⟨t,rfl⟩,q⟩
end
section
variable{X:Cx}{pins:List (Addr×Obj)}{σ:St}{H:Hp}{s:Shared}{a:Addr}{kvs:List (qJ×V)}{A:Around}{E:Value->Shared->Prop}
theorem nV{Q:Value->Shared->Prop}(I:Inv X pins σ H s)(e:Rd H a (.dK kvs))(h:∀p s',H p=none->Inv X pins σ (upd H p (.dK kvs)) s'->Q (.ref p) s'):wpAny (model X.prog X.w) A (call (.type "dict") [.ref a]) Q E s:=by
 obtain⟨z,hd,vs,rel,dd⟩:=ZL I.hok e
 refine kt_call_dict hd dd (by rw[<- rel.length];exact z) fun h' dd' hs=>?_
 refine h _ _ (I.hok.fresh (Nat.le_refl _)) (I.laid (a:=s.heap.objs.size) (o:= .dK kvs) (t':=s.toks) (fun b q hq=>?_) (Nat.le_refl _) (gY z (beq_eq_false_iff_ne.mpr (Ne.symm (Nat.ne_of_lt I.big))) rel dd'))
 exact(hs.2 b (Nat.ne_of_lt (Heap.lt_size hq))).trans (Heap.get?_push_of_some _ hq)
end
section
variable{X:Cx}{o e f:Expr}{apos cpos:Pos}{td ty tx:TE}
end
end L2
namespace L3
open PySem PySem.Spec PyProof.Rows L2
def ZY(K:Frag)(H:Hp)(a:Addr)(f:Str)(v:V):Prop:=∃C dx fs,H a=some (.ins C dx fs)/\Cls K C/\NoAttr K C f/\fs.lookup f=some v
def cv(K:Frag)(H:Hp)(a:Addr)(f:Str)(v:V)(H':Hp):Prop:=∃C dx fs,H a=some (.ins C dx fs)/\Cls K C/\NoAttr K C f/\fs.length<1000/\H'=upd H a (.ins C dx (zS f v fs))
def vY(C:Addr)(H:Hp)(a:Addr)(m:Str):Prop:=∃dx fs,H a=some (.ins C dx fs)/\fs.lookup m=none
def pL(K:Frag)(ta:TE)(f:Str):TE:=fun σ H Q=>ta σ H fun x H1=>∃a v,x= .ref a/\ZY K H1 a f v/\Q v H1
def vL(K:Frag)(ta tv:TE)(f:Str):TS:=fun D σ H=>tv σ H fun y H1=>ta σ H1 fun x H2=>∃a H3,x= .ref a/\cv K H2 a f y H3/\D.nx σ H3
def lz(C:Addr)(m:Str)(sp:Sp)(ta:TE)(t:TA):TE:=fun σ H Q=>ta σ H fun x H1=>∃a,x= .ref a/\vY C H1 a m/\t σ H1 fun vs H2=>sp (x::(vs++[])) H2 Q E0
section
variable{X:Cx}{o e value:Expr}{f:Str}{pos pos' tpos:Pos}{ta tv:TE}
theorem qO(he:QE X e ta)(hb:attributeBase e f X.env (eval e X.env)=eval e X.env:=by rfl):QE X (.Attribute e f pos) (pL X.K ta f):=⟨by
 intro pins s σ H Q I h
 refine sE hb (qD (he.h pins s σ H _ I h) fun u s1 ⟨x,H1,I1,rx,a,v,ex,⟨C,dx,fs,ea,c,n,l⟩,q⟩=>?_)
 subst ex
 obtain rfl:u=Value.ref a:=rx
 exact lq I1 ea c n l fun u' s2 I2 ru=>⟨v,H1,I2,ru,q⟩⟩
theorem zo(ha:QE X o ta)(hv:QE X value tv)(hs:swapsWith value (some (.Attribute o f pos')) pos.line X.env=pure false:=by rfl):QS X (.Assign [.Attribute o f pos'] value pos) (vL X.K ta tv f):=⟨by
 intro pins s σ H D I h
 refine plainObj_wpAny_Assign_Attribute (qD (hv.h pins s σ H _ I h) fun u s1 ⟨y,H1,I1,ry,q⟩=>qD (ha.h pins s1 σ H1 _ I1 q) fun ov s2 ⟨x,H2,I2,rx,a,H3,ex,⟨C,dx,fs,ea,c,n,l,e3⟩,q2⟩=>?_) hs
 subst ex e3
 obtain rfl:ov=Value.ref a:=rx
 exact j0 I2 ea c n l ry fun s3 I3=>⟨σ,_,I3,q2⟩⟩
end
structure Mf(P:Program)(w:World)(K:Frag)(mg:Str->Option Value)(base:Heap)(C:Addr)(m:Str)(ps:List Str)(k:Nat)(sp:Sp):Prop where
 ex:∃(f:Addr) (fd:FuncData),FnOk P w K mg base ZF k f fd ps sp/\Meth K C m f/\Binds K fd ps []
structure AtM(K:Frag)(C:Addr)(m qual:Str)(st:Stmt)(ps:List Str):Prop where
 ex:∃(f:Addr) (fd:FuncData),Fun K m qual st f fd/\Meth K C m f/\Binds K fd ps []
structure Mi(P:Program)(w:World)(K:Frag)(mg:Str->Option Value)(base:Heap)(C:Addr)(x:Str)(ps:List Str)(k:Nat)(sp:Sp):Prop where
 ex:∃(f:Addr) (fd:FuncData),FnOk P w K mg base ZF k f fd ps sp/\Mk K C f/\mg x=some (.ref C)/\Binds K fd ps []
section
variable{P:Program}{w:World}{K:Frag}{mg:Str->Option Value}{base:Heap}{C:Addr}
theorem AtM.mq{m qual:Str}{st:Stmt}{ps N:List Str}{k:Nat}{sp:Sp}(a:AtM K C m qual st ps)(S:FnScope N ps (ql st))(len:∀vs H Q E,sp vs H Q E->vs.length=ps.length)
  (hbody:∀(f:Addr) (cdv:Value) (A:Around) (outer:List Env) (s:Shared) (H:Hp) (vs:List V) (Q:VK) (E:XK),Room k (A.deeper (envOfC qual (ql st) s.heap.objs.size f cdv))->sp vs H Q E->
   ∃t,QSs (Z3 ZF P w K mg base N qual (ql st) f cdv A outer s H E).nox (zA st) t/\t {nx:=fun _ H'=>Q .non H',rt:=Q} (Qw N vs) H):Mf P w K mg base C m ps (k+1) sp:=by
 obtain⟨f,fd,F,m,bd⟩:=a.ex
 exact⟨f,fd,F.ok S len (fun cdv A outer s H vs Q E hr h=>let⟨t,q1,q2⟩:=hbody f cdv A outer s H vs Q E hr h;⟨t,q1.h,q2⟩),m,bd⟩
theorem Mf.mi{x:Str}{ps:List Str}{k:Nat}{sp:Sp}(a:Mf P w K mg base C "__init__" ps k sp)(mk:W.makesIn K C=true)(kc:W.keepIn K (.ref C)=true)(hx:mg x=some (.ref C)):Mi P w K mg base C x ps k sp:=
 let⟨f,fd,F,m,bd⟩:=a.ex;⟨f,fd,F,⟨mk,m.at_,m.fn,kc⟩,hx,bd⟩
end
section
variable{X:Cx}{C:Addr}{x m:Str}{ps:List Str}{k:Nat}{sp:Sp}{o e:Expr}{es:List Expr}{p pos apos:Pos}{ta:TE}{t:TA}
theorem zy{pl:Sem Bool}(M:Mf X.prog X.w X.K X.mg X.base C m ps k sp)(c:Cls X.K C)(hr:Room k X.A)(he:QE X o ta)(ha:QA X (e::es) t)
  (hst:starEach (e::es) X.env=(false,eval e X.env)::starEach es X.env:=by rfl)(hpl:(backTo pos (starEach es X.env)).any (·.1)=false:=by rfl)
  (ht:eval (.Call (.Attribute o m apos) (e::es) [] pos) X.env=(do
   let ov <- eval o X.env
   standAt apos.atName
   let(f,first) <- holding [ov] (getMethod ov m pl)
   callWith pos f first (backTo pos (starEach (e::es) X.env)) (backToKw pos (keywordEach [] X.env))):=by rfl):
  QE X (.Call (.Attribute o m apos) (e::es) [] pos) (lz C m sp ta t):=⟨by
 obtain⟨f,fd,F,hm,hb⟩:=M.ex
 intro pins s σ H Q I h
 refine W.methodCall_KW (pl:=pl) (qD (he.h pins s σ H _ I h) fun u s1 ⟨x,H1,I1,rx,a,ex,⟨dx,fs,ea,l⟩,q⟩=>?_) ht
 subst ex
 obtain rfl:u=Value.ref a:=rx
 refine da I1 ea c hm l ?_
 refine W.callWith_K (first:=[.ref a]) (h₀:=X.base) I.ok.mod.kin hm.kp (qD (ha.h pos pins s1 σ H1 _ I1 q) fun us s2 ⟨vs,H2,I2,r,q2⟩=>⟨I2.kIn,?_⟩) hst hpl
 exact h9 (us:= .ref a::us) (vs:= .ref a::vs) F hr hb .nil gp I2 (.cons rfl r) q2⟩
theorem Qz{pl:Sem Bool}(M:Mf X.prog X.w X.K X.mg X.base C m ps k sp)(c:Cls X.K C)(hr:Room k X.A)(he:QE X o ta)
  (ht:eval (.Call (.Attribute o m apos) [] [] pos) X.env=(do
   let ov <- eval o X.env
   standAt apos.atName
   let(f,first) <- holding [ov] (getMethod ov m pl)
   callWith pos f first (backTo pos (starEach [] X.env)) (backToKw pos (keywordEach [] X.env))):=by rfl):
  QE X (.Call (.Attribute o m apos) [] [] pos) (lz C m sp ta oG):=⟨by
 obtain⟨f,fd,F,hm,hb⟩:=M.ex
 intro pins s σ H Q I h
 refine W.methodCall_KW (pl:=pl) (qD (he.h pins s σ H _ I h) fun u s1 ⟨x,H1,I1,rx,a,ex,⟨dx,fs,ea,l⟩,q⟩=>?_) ht
 subst ex
 obtain rfl:u=Value.ref a:=rx
 refine da I1 ea c hm l ?_
 exact W.callWith_K0 (first:=[.ref a]) I1.kIn hm.kp (h9 (us:=[.ref a]) (vs:=[.ref a]) F hr hb .nil gp I1 (.cons rfl .nil) q)⟩
theorem jS(M:Mi X.prog X.w X.K X.mg X.base C x ps k sp)(hr:Room (k+1) X.A)(ha:QA X (e::es) t)(hg:Gl X x:=by rfl)(hdb:(x==("__debug__":Str))=false:=by decide)
  (he:starEach (e::es) X.env=(false,eval e X.env)::starEach es X.env:=by rfl)(hpl:(backTo pos (starEach es X.env)).any (·.1)=false:=by rfl):
  QE X (.Call (.Name x p) (e::es) [] pos) (rK C sp [] E0 t):=⟨by
 obtain⟨f,fd,F,mk,hx,hb⟩:=M.ex
 exact sv mk F hr hg hx hb .nil gp ha.h hdb he hpl⟩
end
section
variable{X:Cx}{o e:Expr}{es:List Expr}{to:TE}{t:TA}{name:Str}{apos cpos:Pos}{T id:String}{r:V->List V->Hp->VK->Prop}{K:Frag}
theorem lD(hK:X.K=K)(pa:PlainAttrs T)(slot:Slot T name id)(hty:typeOf (.builtin id)=pure (.type "method_descriptor"))(hm:fx X id r)(ho:QE X o to)(ha:QA X (e::es) t)
  (hbase:attributeBase o name X.env (eval o X.env)=eval o X.env:=by rfl)
  (hfew:((backTo cpos (starEach (e::es) X.env)).all (fun x=> !x.1)&&(backToKw cpos (keywordEach [] X.env)).all (fun x=>x.1.isSome)
   &&decide ((e::es).length+([]:List Keyword).length+(if([]:List Keyword).isEmpty then 0 else 1)<30))=true:=by rfl)
  (hline:(apos.endLine==cpos.line)=true:=by rfl)(hs:starEach (e::es) X.env=(false,eval e X.env)::starEach es X.env:=by rfl)(hplain:(backTo cpos (starEach es X.env)).any (·.1)=false:=by rfl):
  QE X (.Call (.Attribute o name apos) (e::es) [] cpos) (uU K T r to t):=by
 subst hK
 exact Za pa slot hty hm ho ha hbase hfew hline hs hplain
theorem t8(pa:PlainAttrs T)(slot:Slot T name id)(hty:typeOf (.builtin id)=pure (.type "method_descriptor"))(hm:fx X id r)(ho:QE X o to)
  (hbase:attributeBase o name X.env (eval o X.env)=eval o X.env:=by rfl)(hline:(apos.endLine==cpos.line)=true:=by rfl):QE X (.Call (.Attribute o name apos) [] [] cpos) (tF X.K T r to):=⟨vB pa slot hty hm ho.h hbase hline⟩
theorem iA:fx X "list.pop" lH:=nS
theorem k6:fx X "list.reverse" im:=kZ
end
theorem fS{f:Str}{v:V}:∀{fs:List (Str×V)} (i:Nat),fs[i]? =some (f,v)->(fs.map (·.1)).Nodup->fs.lookup f=some v
 | [],i,h,_=>by cases h
 |(g,x)::r,0,h,_=>by
  cases Option.some.inj h
  exact List.lookup_cons_self
 |(g,x)::r,i+1,h,nd=>by
  have h':r[i]? =some (f,v):=h
  have nd':g∉r.map (·.1)/\(r.map (·.1)).Nodup:=List.nodup_cons.mp nd
  have hm:f∈r.map (·.1):=List.mem_map.mpr ⟨(f,v),List.mem_of_getElem? h',rfl⟩
  have ne:f≠g:=fun z=>nd'.1 (z▸hm)
  rw[List.lookup_cons,beq_false_of_ne ne]
  exact fS i h' nd'.2
theorem fA{f:Str}:∀{fs:List (Str×V)},f∉fs.map (·.1)->fs.lookup f=none
 | [],_=>rfl
 |(g,x)::r,h=>by
  have ne:f≠g:=fun z=>h (z▸List.mem_cons_self ..)
  rw[List.lookup_cons,beq_false_of_ne ne]
  exact fA fun z=>h (List.mem_cons_of_mem _ z)
theorem jw{f:Str}{v u:V}:∀{fs:List (Str×V)} (i:Nat),fs[i]? =some (f,u)->(fs.map (·.1)).Nodup->zS f v fs=fs.set i (f,v)
 | [],i,h,_=>by cases h
 |(g,x)::r,0,h,_=>by
  cases Option.some.inj h
  show(if f=f then _ else _)=_
  rw[if_pos rfl];rfl
 |(g,x)::r,i+1,h,nd=>by
  have h':r[i]? =some (f,u):=h
  have nd':g∉r.map (·.1)/\(r.map (·.1)).Nodup:=List.nodup_cons.mp nd
  have hm:f∈r.map (·.1):=List.mem_map.mpr ⟨(f,u),List.mem_of_getElem? h',rfl⟩
  have ne:¬g=f:=fun z=>nd'.1 (z▸hm)
  show(if g=f then _ else(g,x)::zS f v r)=_
  rw[if_neg ne,jw i h' nd'.2];rfl
theorem gG{f:Str}{v:V}:∀{fs:List (Str×V)},f∉fs.map (·.1)->zS f v fs=fs++[(f,v)]
 | [],_=>rfl
 |(g,x)::r,h=>by
  have ne:¬g=f:=fun z=>h (z▸List.mem_cons_self ..)
  show(if g=f then _ else(g,x)::zS f v r)=_
  rw[if_neg ne,gG fun z=>h (List.mem_cons_of_mem _ z)];rfl
def Mv(S:List Addr)(H H':Hp):Prop:=∀c o,c∉S->H c=some o->H' c=some o
theorem Mv.trans{S:List Addr}{H H1 H2:Hp}(a:Mv S H H1)(b:Mv S H1 H2):Mv S H H2:=fun c o n e=>b c o n (a c o n e)
theorem Mv.mono{S S':List Addr}{H H':Hp}(a:Mv S H H')(h:∀c,c∉S'->c∉S):Mv S' H H':=fun c o n e=>a c o (h c n) e
theorem _root_.L2.Same.mv{S:List Addr}{H H':Hp}(a:Same H H'):Mv S H H':=fun c o _ e=>a c o e
theorem Mv.upd1{a:Addr}{H:Hp}{o:HO}:Mv [a] H (upd H a o):=fun c u n e=>by
 rw[qh (fun z=>n (List.mem_singleton.mpr z))];exact e
def pX:HO->Prop
 | .tup _=>False
 | .frz _ _=>False
 |_=>True
def NT(S:List Addr)(H:Hp):Prop:=∀c,c∈S->∃o,H c=some o/\pX o
theorem Mv.rd{S:List Addr}{H H':Hp}{a:Addr}{xs:List V}(m:Mv S H H')(n:NT S H)(h:Rd H a (.tup xs)):Rd H' a (.tup xs):=by
 have hn:a∉S:=fun z=>by
  obtain⟨o,e,no⟩:=n a z
  rcases h with h|⟨o',h⟩
  ·rw[e]at h;cases h;exact no
  ·rw[e]at h;cases h;exact no
 rcases h with h|⟨o',h⟩
 ·exact .inl (m _ _ hn h)
 ·exact .inr ⟨o',m _ _ hn h⟩
theorem Mv.sqt{K:Frag}{S:List Addr}{H H':Hp}{a:Addr}{xs:List V}(m:Mv S H H')(n:NT S H)(h:SqT K H a xs):SqT K H' a xs:=by
 rcases h with h|h
 ·exact .inl (m.rd n h)
 ·exact .inr h
structure Ac(K:Frag)(mg:Str->Option Value)(x:Str)(st:Stmt):Prop where
 ex:∃(f:Addr) (fd:FuncData),Fun K x x st f fd/\mg x=some (.ref f)
structure Acm(K:Frag)(C:Addr)(m qual:Str)(st:Stmt):Prop where
 ex:∃(f:Addr) (fd:FuncData),Fun K m qual st f fd/\Meth K C m f
section
variable{K:Frag}{mg:Str->Option Value}{h:Heap}{x m qual:Str}{st:Stmt}{C f:Addr}{oc:Value}{od an:Option Addr}{osl:Array (Option Value)}{kV doc pm cdv ct:Value}{ps:List Str}
theorem rC(X:K.In h)(G:h.Ns mainGlobals mg)(a:W.nsIn K mainGlobals x=some (some (.ref f)))(l:K.lookup f=some ⟨oc,od,.func (W.fnOf x x (Qa st) (zA st) (ql st) .none kV doc pm an cdv ct),osl⟩)(c:W.codeIn K cdv x=true)(k:W.keepIn K (.ref f)=true):Ac K mg x st:=⟨f,_,gz l c k,W.mg_of X G a⟩
theorem uH(a:W.findIn K (.ref C) m=some (some (.ref f)))(i:W.isFn K (.ref f)=true)(l:K.lookup f=some ⟨oc,od,.func (W.fnOf m qual (Qa st) (zA st) (ql st) .none kV doc pm an cdv ct),osl⟩)(c:W.codeIn K cdv qual=true)(k:W.keepIn K (.ref f)=true):Acm K C m qual st:=⟨f,_,gz l c k,a,i,k⟩
theorem QQ{p:List Value->Prop}(h:∀a0,p [a0]):∀us:List Value,us.length=1->p us
 | [a0],_=>h a0
theorem aO{p:List Value->Prop}(h:∀a0 a1,p [a0,a1]):∀us:List Value,us.length=2->p us
 | [a0,a1],_=>h a0 a1
theorem cg{p:List Value->Prop}(h:∀a0 a1 a2,p [a0,a1,a2]):∀us:List Value,us.length=3->p us
 | [a0,a1,a2],_=>h a0 a1 a2
theorem mK{p:List Value->Prop}(h:∀a0 a1 a2 a3,p [a0,a1,a2,a3]):∀us:List Value,us.length=4->p us
 | [a0,a1,a2,a3],_=>h a0 a1 a2 a3
theorem v9{p:List Value->Prop}(h:∀a0 a1 a2 a3 a4,p [a0,a1,a2,a3,a4]):∀us:List Value,us.length=5->p us
 | [a0,a1,a2,a3,a4],_=>h a0 a1 a2 a3 a4
theorem wc{p:List Value->Prop}(h:∀a0 a1 a2 a3 a4 a5,p [a0,a1,a2,a3,a4,a5]):∀us:List Value,us.length=6->p us
 | [a0,a1,a2,a3,a4,a5],_=>h a0 a1 a2 a3 a4 a5
theorem Ac.at(a:Ac K mg x st)(b:∀(kV doc pm:Value) (an:Option Addr) (cdv ct:Value) (us:List Value),us.length=ps.length->bindArgs (W.fnOf x x (Qa st) (zA st) (ql st) .none kV doc pm an cdv ct) ⟨us,[]⟩=pure (ps.zip us)):At K mg x st ps:=let⟨_,_,F,m⟩:=a.ex;vP F m (F.binds b)
theorem Acm.at(a:Acm K C m qual st)(b:∀(kV doc pm:Value) (an:Option Addr) (cdv ct:Value) (us:List Value),us.length=ps.length->bindArgs (W.fnOf m qual (Qa st) (zA st) (ql st) .none kV doc pm an cdv ct) ⟨us,[]⟩=pure (ps.zip us)):AtM K C m qual st ps:=let⟨_,_,F,m⟩:=a.ex;⟨_,_,F,m,F.binds b⟩
end
section
variable{K:Frag}{C:Addr}{H H':Hp}{p ta ka ce dx:Addr}{B:Bt}
end
section
variable(K:Frag)(C:Addr)
end
def iO:Sp:=fun vs H Q _=>∃(b:Addr) (c:Nat),vs=[.ref b]/\BoxC H b c/\c<100000000/\∀p (t:List Int) H',GrC b (c+16) H H'->H p=none->H' p=some (.tup (t.map V.int))->t.Perm digs->Q (.ref p) H'
def ji:Sp:=fun vs H Q _=>∃(b:Addr) (c:Nat),vs=[.ref b]/\BoxC H b c/\c<100000000/\∀p (ks:List Int) H',GrC b (c+9) H H'->H p=none->H' p=some (.tup (ks.map V.int))->zp ks->1<=ks.length->ks.length<=8->Q (.ref p) H'
theorem GrC.fresh{b c:Addr}{n:Nat}{H H':Hp}(g:GrC b n H H')(hb:BoxC H b n)(h:H' c=Option.none):H c=Option.none:=by
 cases e:H c with
 |none=>rfl
 |some o=>
  by_cases z:c=b
  ·subst z
   obtain⟨_,_,_,e',_⟩:=g.bx
   rw[e']at h;cases h
  ·rw[g.kp c o z e]at h;cases h
theorem oQ{K:Frag}{H:Hp}{a:Addr}{xs:List V}{Q:VK}(h:Sq K H a xs)(q:∀l H',Same H H'->SqT K H' l xs->Q (.ref l) H'):(SqL K H a xs/\∀l,H l=none->Q (.ref l) (upd H l (.tup xs)))\/(SqT K H a xs/\Q (.ref a) H):=
 h.elim (fun h=> .inl ⟨h,fun l hl=>q l _ (Same.upd hl) (SqT.of qc)⟩) fun h=> .inr ⟨h,q a H (Same.refl _) h⟩
theorem bM{K:Frag}{C p dx a:Addr}{H:Hp}{fs:List (Str×V)}{xs:List V}{o:HO}(e:H p=some (.ins C dx fs))(h:SqT K H a xs):SqT K (upd H p o) a xs:=by
 rcases h with(h|⟨u,h⟩)|h
 ·exact .inl (.inl (by rw[qh (zI h e (by intro z;cases z))];exact h))
 ·exact .inl (.inr ⟨u,by rw[qh (zI h e (by intro z;cases z))];exact h⟩)
 ·exact .inr h
theorem aL{X:Cx}{K:Frag}(hK:X.K=K):qY X (.builtin "len") (fun xs H Q=>∃p ys,xs=[.ref p]/\(SqL K H p ys\/SqT K H p ys)/\Q (.int (ys.length:Nat)) H):=by
 subst hK
 exact qT
theorem bt{k n:Nat}(h:k<n):seqIndex? (k:Int) n=some k:=by
 unfold seqIndex?
 simp
 omega
theorem pA{ms zs:List Int}{k:Nat}(h:k<ms.length):(zs++[ms[k]]++ms.eraseIdx k).Perm (zs++ms):=by
 rw[List.append_assoc]
 refine List.Perm.append_left zs ?_
 rw[List.eraseIdx_eq_take_drop_succ]
 have e:ms=ms.take k++ms[k]::ms.drop (k+1):=by rw[<- List.drop_eq_getElem_cons h,List.take_append_drop]
 refine List.Perm.trans (List.perm_middle (a:=ms[k]) (l₁:=ms.take k) (l₂:=ms.drop (k+1))).symm ?_
 rw[<- e]
theorem km(ms:List Int)(k:Nat):(ms.map V.int).eraseIdx k=(ms.eraseIdx k).map V.int:=by
 rw[List.eraseIdx_eq_take_drop_succ,List.eraseIdx_eq_take_drop_succ,List.map_append,List.map_take,List.map_drop]
theorem cm{X:Cx}:qY X (.type "tuple") (fun xs H Q=>∃p ys,xs=[.ref p]/\Sq X.K H p ys/\∀l H',Same H H'->SqT X.K H' l ys->Q (.ref l) H'):=by
 intro pins s σ H xs us Q I r h
 obtain⟨p,ys,e,hs,q⟩:=h
 exact qS pins s σ H xs us Q I r ⟨p,ys,e,oQ hs q⟩
section
variable{K:Frag}{C:Addr}{H H':Hp}{b L:Addr}{n n':Nat}{os:List O}
theorem qR{a x:Addr}(h:a≠x):a∉[x]:=fun z=>h (List.mem_singleton.mp z)
theorem zz(hb:BoxC H b n):NT [b] H:=fun c hc=>by
 obtain⟨_,_,_,e,_⟩:=hb
 rw[List.mem_singleton.mp hc]
 exact⟨_,e,trivial⟩
end
theorem BoxC.mv{H H':Hp}{S:List Addr}{b:Addr}{n:Nat}(h:BoxC H b n)(m:Mv S H H')(ne:b∉S):BoxC H' b n:=let⟨a1,a2,a3,e,r⟩:=h;⟨a1,a2,a3,m _ _ ne e,r⟩
theorem pM(n:Nat)(h:n<=100:=by omega):n<sizeLine:=Nat.lt_of_le_of_lt h (by decide)
theorem NT.one{H:Hp}{a:Addr}{o:HO}(e:H a=some o)(n:pX o):NT [a] H:=fun c hc=>⟨o,by rw[List.mem_singleton.mp hc];exact e,n⟩
end L3
namespace L3
open PySem PySem.Spec PyProof.Rows L2
open Sem (wp)
section
variable{prog:Program}{w:World}{A:Around}{R:Result->Shared->Prop}{s:Shared}
end
variable{X:Cx}
section
variable{js:List Nat}{tc:TT}{te:TE}{σ:L2.St}{H:Hp}{Q:VK}{K:Frag}
end
section
variable{o i e value:Expr}{pos pos' tpos:Pos}{td ty tv:TE}
theorem zL{k:Nat}(hr:Room k X.A)(ho:QE X o td)(hi:QE X i ty)(hs:nR i:=by exact fun _ _=>rfl):QE X (.Subscript o i pos) (rH td ty):=⟨sP (by have:=hr.un;omega) ho.h hi.h hs⟩
theorem Q1{k:Nat}(hr:Room k X.A)(ho:QE X o td)(hi:QE X i ty)(hv:QE X value tv)(hs:swapsWith value (some (.Subscript o i pos')) pos.line X.env=pure false:=by rfl):
  QS X (.Assign [.Subscript o i pos'] value pos) (rF td ty tv):=⟨sR (by have:=hr.un;omega) ho.h hi.h hv.h hs⟩
structure QPs(X:Cx)(pos:Pos)(keys:List (Option Expr))(values:List Expr)(trs:List (TE×TE)):Prop where
 h:mU X pos keys values trs
theorem sF:QPs X pos [] [] []:=⟨sq⟩
theorem ZB{k v:Expr}{ks:List (Option Expr)}{vs:List Expr}{tk tv:TE}{trs:List (TE×TE)}(hk:QE X k tk)(hv:QE X v tv)(hr:QPs X pos ks vs trs):QPs X pos (some k::ks) (v::vs) ((tk,tv)::trs):=⟨oC hk.h hv.h hr.h⟩
theorem rY{keys:List (Option Expr)}{values:List Expr}{trs:List (TE×TE)}(h:QPs X pos keys values trs)(hall:keys.all (·.isSome)=true:=by rfl)(hl:keys.length=values.length:=by rfl)(h0:keys≠[]:=by(intro z;cases z))
  (h15:keys.length<=15:=by decide):QE X (.Dict keys values pos) (re trs):=⟨s9 h.h hall hl h0 h15⟩
end
theorem jX{k:qJ}{v:V}:∀{kvs:List (qJ×V)} (i:Nat),kvs[i]? =some (k,v)->(kvs.map (·.1)).Nodup->QY kvs k=some v
 | [],i,h,_=>by cases h
 |p::r,0,h,_=>by
  cases Option.some.inj h
  exact Zt rfl
 |p::r,i+1,h,nd=>by
  have h':r[i]? =some (k,v):=h
  have nd':p.1∉r.map (·.1)/\(r.map (·.1)).Nodup:=List.nodup_cons.mp nd
  have hm:k∈r.map (·.1):=List.mem_map.mpr ⟨(k,v),List.mem_of_getElem? h',rfl⟩
  have ne:p.1≠k:=fun z=>nd'.1 (z▸hm)
  rw[Zv ne]
  exact jX i h' nd'.2
theorem s0{k:qJ}{v:V}{kvs:List (qJ×V)}(h:k∉kvs.map (·.1)):putK kvs k v=kvs++[(k,v)]:=by
 unfold putK
 rw[if_neg]
 intro z
 obtain⟨p,hp,e⟩:=List.any_eq_true.mp z
 exact h (List.mem_map.mpr ⟨p,hp,of_decide_eq_true e⟩)
end L3
namespace L3
open PySem PySem.Spec PyProof.Rows L2
open PySem.W (kdl_dict kdl_extend)
section
variable{prog:Program}{w:World}{A:Around}{E:Value->Shared->Prop}{s:Shared}
theorem il{d:Addr}{kvs:List (qJ×Value)}{ep:Nat}{Q:List Value->Shared->Prop}(hh:A.handled=none)(hm:s.heap.DictAt (qU prog w) d kvs ep)(lo:(d==sysModules)=false)(hn:kvs.length<=sizeLine)
  (h:∀(vs:List Value) (h':Heap) (tk:Nat),s.heap.objs.size<h'.objs.size->(∀b o,s.heap.get? b=some o->h'.get? b=some o)->vs.length=kvs.length->(∀(j:Nat) (v:Value),vs[j]? =some v->∃k x,kvs[j]? =some (k,x)/\(qU prog w).is k v=true)->Q vs {s with heap:=h',toks:=tk}):
  wpAny (model prog w) A (collect (.ref d)) Q E s:=by
 unfold collect
 refine wpAny_bind (wpAny_runValue (codeAny_builtin entry_proto_collect' ?_))
 show wpAny _ _ (do again (.builtin "list.__iadd__" ⟨[<- newList [],.ref d],[]⟩)) _ _ s
 refine wpAny_bind (wpAny_newList (wpAny_pure ⟨Code.quiet_builtin _ (by decide +kernel),codeAny_builtin entry_list_iadd' ?_⟩))
 rw[Around.under_plainId PySem.F.plain_list_iadd _]
 have hlt:d<s.heap.objs.size:=hm.lt_size
 refine kdl_extend (s:={s with heap:=s.heap.push (seqObj "list" #[] 0)}) (R:=fun r s'=>match r with
   | .ok (.ret v)=>wpAny (model prog w) A (match v with
    | .ref a=>(do
     let o <- load a
     match o.data with
     | .seq xs _=>pure xs.toList
     |_=>unsupported "internal:collect")
    |_=>unsupported "internal:collect") Q E s'
   | .ok _=>False
   | .error e=>E e s') (kdl_dict (knd:=qU prog w) (ep:=ep) (kvs:=kvs) lo) hh (hm.push _) s.heap.objs.size (Nat.ne_of_gt hlt) (Nat.ne_of_gt hlt) _ 0 (Heap.get?_push_size _ rfl) (fun h' tk acc' c' hk hS hI=>?_) hn
 show wpAny (model prog w) A (do
   let o <- load s.heap.objs.size
   match o.data with
   | .seq xs _=>pure xs.toList
   |_=>unsupported "internal:collect") Q E {s with heap:=h',toks:=tk}
 refine wpAny_bind (wpAny_load hS ?_)
 refine wpAny_pure (h acc'.toList h' tk (Heap.lt_size hS) (fun b o e=>hk b o (Nat.ne_of_lt (Heap.lt_size e)) (Heap.get?_push_of_some _ e)) (by rw[Array.length_toList];exact hI.1) fun j v e=>hI.2 j v (by rw[<- Array.getElem?_toList];exact e))
theorem jB:∀{us:List Value} {ss:List Str},us.length=ss.length->(∀(j:Nat) (v:Value),us[j]? =some v->∃x t,ss[j]? =some x/\v= .str x t)->StrsAre us ss
 | [],[],_,_=> .nil
 |u::us,x::ss,hl,h=>by
  obtain⟨y,t,e1,e2⟩:=h 0 u rfl
  cases e1
  subst e2
  exact .cons _ _ (jB (Nat.succ.inj hl) fun j v e=>h (j+1) v e)
 | [],_::_,hl,_=>by cases hl
 |_::_,[],hl,_=>by cases hl
theorem i0{d:Addr}{kvs:List (qJ×Value)}{ep:Nat}{ss:List Str}{Q:Value->Shared->Prop}(hh:A.handled=none)(hm:s.heap.DictAt (qU prog w) d kvs ep)(lo:(d==sysModules)=false)(hks:kvs.map (·.1)=ss.map Sum.inr)(h64:ss.length<64)
  (h:∀(h':Heap) (tk:Nat) (l:Addr) (its:List Value) (n:Nat) (ss':List Str),s.heap.objs.size<=l->(∀b o,s.heap.get? b=some o->h'.get? b=some o)->h'.get? l=some (seqObj "list" its.toArray n)->StrsAre its ss'->ss'.Perm ss->sortedS ss'=true->Q (.ref l) {s with heap:=h',toks:=tk}):
  wpAny (model prog w) A (call (.builtin "sorted") [.ref d]) Q E s:=by
 have hlen:kvs.length=ss.length:=by have:=congrArg List.length hks;rwa [List.length_map,List.length_map]at this
 refine Calls.call_function_entry kind_sorted plain_sorted entry_sorted (args_sorted1 _) ?_
 unfold Builtin.«sorted»
 refine wpAny_bind (m:=checkCount "sorted" 1 1 _) (wpAny_pure ?_)
 refine wpAny_bind (il (ep:=ep) (kvs:=kvs) hh hm lo (by rw[sizeLine_eq];omega) fun us h' tk hlt hk hl hv=>?_)
 have hS:StrsAre us ss:=jB (hl.trans hlen) fun j v e=>by
  obtain⟨k,x,e1,e2⟩:=hv j v e
  have e3:(kvs.map (·.1))[j]? =some k:=by rw[List.getElem?_map,e1];rfl
  rw[hks,List.getElem?_map]at e3
  cases e4:ss[j]? with
  |none=>rw[e4]at e3;cases e3
  |some y=>
   rw[e4]at e3
   have e5:Sum.inr y=k:=Option.some.inj e3
   subst e5
   have e6:Value.isStrOf y v=true:=e2
   cases v<;>simp [Value.isStrOf]at e6
   subst e6
   exact⟨_,_,rfl,rfl⟩
 refine wpAny_bind (wpAny_newList ?_)
 have hoL:(h'.push (seqObj "list" us.toArray 0)).get? h'.objs.size=some (seqObj "list" us.toArray 0):=Heap.get?_push_size _ rfl
 show wpAny _ _ _ _ _ {s with heap:=h'.push (seqObj "list" us.toArray 0),toks:=tk}
 refine wpAny_bind (wpAny_holding (wpAny_call_entry slot_list_sort ⟨_,hoL,rfl⟩ entry_list_sort (list_sort_treeK (κ:=PyProof.Rows.strKind) strKind_oneLt hoL hS.keysOf (fun v₁ v₂ rest e=>keyKind_strs (by rw[<- e];exact hS)) (by rw[hl,hlen];exact h64) fun st' a1 a2=>⟨_,rfl,?_⟩) (args_list_sort _)))
 obtain⟨ss',b1,b2,b3⟩:=sorted_out_str hS a1 a2
 obtain⟨n',hn'⟩:∃n',(sortedHeap (h'.push (seqObj "list" us.toArray 0)) h'.objs.size us ((arrOf st').map (·.2))).get? h'.objs.size=some (seqObj "list" ((arrOf st').map (·.2)) n'):=sortedHeap_at hoL
 refine wpAny_pure ⟨_,rfl,h _ tk h'.objs.size ((arrOf st').map (·.2)).toList n' ss' (Nat.le_of_lt hlt) (fun b o e=>?_) (by rw[hn']) b1 b2 b3⟩
 have e':=hk b o e
 have hb:b<h'.objs.size:=Heap.lt_size e'
 rw[sortedHeap_old (Nat.ne_of_lt hb) (by rw[Heap.size_push];exact Nat.lt_succ_of_lt hb)]
 exact Heap.get?_push_of_some _ e'
end
theorem fu:∀{us:List Value} {ss:List Str},StrsAre us ss->Vals (ss.map V.str) us
 | [],[],.nil=> .nil
 |_,_::_,.cons _ _ t=> .cons ⟨_,rfl⟩ (fu t)
theorem gH{X:Cx}(hc:X.calm=true):qY X (.builtin "sorted") (fun xs H Q=>∃(d:Addr) (kvs:List (qJ×V)) (ss:List Str),xs=[.ref d]/\H d=some (.dK kvs)/\kvs.map (·.1)=ss.map Sum.inr/\ss.length<64/\
  ∀l ss',H l=none->ss'.Perm ss->sortedS ss'=true->Q (.ref l) (upd H l (.lst (ss'.map V.str)))):=by
 intro pins s σ H xs us Q I r h
 obtain⟨d,kvs,ss,rfl,hH,hks,h64,q⟩:=h
 obtain⟨u,rfl,ru⟩:=zO r
 cases ru
 obtain⟨z,lo,vs,rel,o,es,ep,d1,d2,d3,d4,d5,d6⟩:=kR I.hok hH
 have hks':vs.map (·.1)=ss.map Sum.inr:=by rw[<- hks,rel.keys]
 refine i0 (I.ok.hd hc) (⟨o,es,d1,d2,d3,d4,d5,d6⟩:s.heap.DictAt (qU X.prog X.w) d vs ep) lo hks' h64 fun h' tk l its n ss' hl hk hL b1 b2 b3=>?_
 refine⟨.ref l,_,I.laid (a:=l) (o:= .lst (ss'.map V.str)) (t':=tk) hk hl ?_,rfl,q l ss' (I.hok.fresh hl) b2 b3⟩
 have vl:=fu b1
 refine⟨?_,its,n,vl,hL⟩
 have:=b2.length_eq
 rw[List.length_map,sizeLine_eq]
 omega
end L3
namespace L3
open PySem PySem.Spec PyProof.Rows L2
section
variable{X:Cx}{o e f:Expr}{apos cpos pos:Pos}{td ty tx:TE}
theorem gr{k:Nat}(hr:Room k X.A)(ho:QE X o td)(ha:QE X e ty)(m:M1 X o "get" apos e cpos:=by exact⟨rfl,rfl,rfl,rfl⟩):QE X (.Call (.Attribute o "get" apos) [e] [] cpos) (mV td ty):=⟨oO (by have:=hr.un;omega) ho.h ha.h m⟩
theorem cC:QE X (.Dict [] [] pos) nc:=⟨oN⟩
theorem uQ{k:Nat}(hr:Room k X.A)(hi:QE X e ty)(ho:QE X o td)(h1:behindInMarks CmpOp.In o=false:=by rfl):QT X (.Compare e [.In] [o] pos) (cT (uV ty td)):=⟨ug (tZ (by have:=hr.un;omega) hi.h ho.h) (h1:=h1)⟩
end
structure Kb where
 age:Int
 last:Int
 wt:Option (Int×Int)
abbrev Kw:=List (Str×Kb)
def Wt(H:Hp)(v:V):Option (Int×Int)->Prop
 |none=>v= .non
 |some (x,c)=>∃w,v= .ref w/\H w=some (.tup [.int x,.int c])
def BuAt(H:Hp)(a:Addr)(e:Kb):Prop:=∃v,H a=some (.tup [.int e.age,.int e.last,v])/\Wt H v e.wt
def aa(kn:Kw)(f:Str->Addr):List (qJ×V):=kn.map fun e=>(Sum.inr e.1,V.ref (f e.1))
def KnAt(H:Hp)(d:Addr)(kn:Kw):Prop:=∃f:Kw×(Str->Addr),H d=some (.dK (aa f.1 f.2))/\(∀e∈kn,BuAt H (f.2 e.1) e.2)/\f.1.Perm kn/\(kn.map (·.1)).Nodup
def za(kn:Kw)(nm:Str)(e:Kb):Kw:=if nm∈kn.map (·.1)then kn.map (fun p=>if p.1=nm then(nm,e)else p)else kn++[(nm,e)]
theorem Mv.tup{S:List Addr}{H H':Hp}{a:Addr}{xs:List V}(m:Mv S H H')(n:NT S H)(h:H a=some (.tup xs)):H' a=some (.tup xs):=m _ _ (fun z=>by
 obtain⟨o,e,no⟩:=n a z
 rw[e]at h;cases h;exact no) h
theorem Wt.mv{S:List Addr}{H H':Hp}{v:V}{o:Option (Int×Int)}(m:Mv S H H')(n:NT S H)(h:Wt H v o):Wt H' v o:=by
 cases o with
 |none=>exact h
 |some p=>obtain⟨w,e,r⟩:=h;exact⟨w,e,m.tup n r⟩
theorem BuAt.mv{S:List Addr}{H H':Hp}{a:Addr}{e:Kb}(m:Mv S H H')(n:NT S H)(h:BuAt H a e):BuAt H' a e:=let⟨v,r,w⟩:=h;⟨v,m.tup n r,w.mv m n⟩
theorem BuAt.same{H H':Hp}{a:Addr}{e:Kb}(s:Same H H')(h:BuAt H a e):BuAt H' a e:=h.mv (S:=[]) s.mv (fun c h=>nomatch h)
theorem KnAt.mv{S:List Addr}{H H':Hp}{d:Addr}{kn:Kw}(m:Mv S H H')(n:NT S H)(hd:d∉S)(h:KnAt H d kn):KnAt H' d kn:=let⟨f,r,w,p⟩:=h;⟨f,m _ _ hd r,fun e he=>(w e he).mv m n,p⟩
theorem jp(f:Str->Addr)(nm:Str):∀kn:Kw,QY (aa kn f) (Sum.inr nm:qJ)=(kn.lookup nm).map fun _=>V.ref (f nm)
 | []=>rfl
 |(m,e)::r=>by
  show QY ((Sum.inr m,V.ref (f m))::aa r f) (Sum.inr nm)=_
  by_cases q:m=nm
  ·subst q
   rw[Zt rfl,List.lookup_cons_self];rfl
  ·rw[Zv (by intro z;injection z with z;exact q z),List.lookup_cons,beq_false_of_ne (fun z=>q z.symm)]
   exact jp f nm r
theorem zt{nm:Str}{e:Kb}:∀{kn:Kw},kn.lookup nm=some e->(nm,e)∈kn
 |(m,x)::r,h=>by
  rw[List.lookup_cons]at h
  by_cases q:nm=m
  ·subst q
   rw[beq_self_eq_true]at h
   cases h
   exact List.mem_cons_self ..
  ·rw[beq_false_of_ne q]at h
   exact List.mem_cons_of_mem _ (zt h)
theorem lookup_mem_iff{nm:Str}:∀{kn:Kw},(kn.lookup nm).isSome=true↔nm∈kn.map (·.1)
 | []=>by simp
 |(m,x)::r=>by
  rw[List.lookup_cons,List.map_cons,List.mem_cons]
  by_cases q:nm=m
  ·subst q;simp
  ·rw[beq_false_of_ne q]
   simp only[q,false_or]
   exact lookup_mem_iff
theorem ZO(kn:Kw)(nm:Str)(e:Kb):(za kn nm e).map (·.1)=if nm∈kn.map (·.1)then kn.map (·.1)else kn.map (·.1)++[nm]:=by
 unfold za
 split
 ·rw[List.map_map]
  refine List.map_congr_left fun p hp=>?_
  simp only[Function.comp]
  by_cases y:p.1=nm
  ·rw[if_pos y,y]
  ·rw[if_neg y]
 ·rw[List.map_append];rfl
theorem iC(kn:Kw)(nm:Str)(e:Kb):(za kn nm e).length<=kn.length+1:=by
 have:=congrArg List.length (ZO kn nm e)
 rw[List.length_map]at this
 rw[this]
 split
 ·rw[List.length_map];omega
 ·rw[List.length_append,List.length_map];exact Nat.le_refl _
theorem dh{kn:Kw}(nd:(kn.map (·.1)).Nodup)(nm:Str)(e:Kb):((za kn nm e).map (·.1)).Nodup:=by
 rw[ZO]
 split
 ·exact nd
 ·rename_i z
  exact List.nodup_append.mpr ⟨nd,by simp,fun a ha b hb=>by rw[List.mem_singleton.mp hb];exact fun w=>z (w▸ha)⟩
theorem Z4{nm:Str}{e:Kb}:∀{kn:Kw},(kn.map (·.1)).Nodup->kn.lookup nm=some e->∀p∈kn,p.1=nm->p=(nm,e)
 | [],_,h,_,hp,_=>by cases hp
 |(m,x)::r,nd,h,p,hp,hn=>by
  have nd':m∉r.map (·.1)/\(r.map (·.1)).Nodup:=List.nodup_cons.mp nd
  rw[List.lookup_cons]at h
  by_cases q:nm=m
  ·subst q
   rw[beq_self_eq_true]at h
   cases h
   rcases List.mem_cons.mp hp with rfl|hp
   ·rfl
   ·exact absurd (List.mem_map.mpr ⟨p,hp,hn⟩) nd'.1
  ·rw[beq_false_of_ne q]at h
   rcases List.mem_cons.mp hp with rfl|hp
   ·exact absurd hn.symm q
   ·exact Z4 nd'.2 h p hp hn
theorem jg{k0 kn:Kw}(pm:k0.Perm kn)(nd:(kn.map (·.1)).Nodup)(nm:Str):k0.lookup nm=kn.lookup nm:=by
 cases e:k0.lookup nm with
 |none=>
  cases e':kn.lookup nm with
  |none=>rfl
  |some x=>
   have:(k0.lookup nm).isSome=true:=lookup_mem_iff.mpr ((pm.map (·.1)).mem_iff.mpr (lookup_mem_iff.mp (by rw[e'];rfl)))
   rw[e]at this;cases this
 |some x=>
  obtain⟨y,hy⟩:∃y,kn.lookup nm=some y:=Option.isSome_iff_exists.mp (lookup_mem_iff.mpr (List.mem_map.mpr ⟨_,pm.mem_iff.mp (zt e),rfl⟩))
  rw[hy]
  have:=Z4 nd hy _ (pm.mem_iff.mp (zt e)) rfl
  cases this
  rfl
theorem KnAt.get{H:Hp}{d:Addr}{kn:Kw}(h:KnAt H d kn)(nm:Str):(kn.lookup nm=none/\DGet H d (.str nm) none)\/∃e a,kn.lookup nm=some e/\DGet H d (.str nm) (some (.ref a))/\BuAt H a e:=by
 obtain⟨⟨k0,f⟩,hd,hb,pm,nd⟩:=h
 have g:=DGet.k (k:=Sum.inr nm) hd
 rw[jp,jg pm nd]at g
 cases q:kn.lookup nm with
 |none=>rw[q]at g;exact .inl ⟨rfl,g⟩
 |some e=>rw[q]at g;exact .inr ⟨e,f nm,rfl,g,hb _ (zt q)⟩
theorem fv{k0 kn:Kw}(pm:k0.Perm kn)(nm:Str)(e:Kb):(za k0 nm e).Perm (za kn nm e):=by
 unfold za
 by_cases z:nm∈kn.map (·.1)
 ·rw[if_pos ((pm.map (·.1)).mem_iff.mpr z),if_pos z];exact pm.map _
 ·rw[if_neg (fun w=>z ((pm.map (·.1)).mem_iff.mp w)),if_neg z];exact pm.append_right _
theorem KnAt.put{H:Hp}{d a:Addr}{kn:Kw}{e:Kb}(h:KnAt H d kn)(nm:Str)(hl:kn.length<=100)(hb:BuAt H a e):∃H',DPut H d (.str nm) (.ref a) H'/\Mv [d] H H'/\KnAt H' d (za kn nm e):=by
 obtain⟨⟨k0,f⟩,hd,hk0,pm,nd⟩:=h
 have hlen:(aa k0 f).length=kn.length:=(List.length_map _).trans pm.length_eq
 have hk:∀e∈k0,BuAt H (f e.1) e.2:=fun e he=>hk0 e (pm.mem_iff.mp he)
 refine⟨_,DPut.k (k:=Sum.inr nm) hd (by rw[hlen];exact pM _),Mv.upd1,(za k0 nm e,fun n=>if n=nm then a else f n),?_,?_,fv pm nm e,dh nd nm e⟩
 ·rw[qc]
  congr 2
  unfold putK za aa
  have ea:((k0.map fun e=>((Sum.inr e.1:qJ),V.ref (f e.1))).any fun kv=>decide (kv.1=(Sum.inr nm:qJ)))=true↔nm∈k0.map (·.1):=by
   rw[List.any_eq_true]
   constructor
   ·rintro⟨p,hp,z⟩
    obtain⟨q,hq,rfl⟩:=List.mem_map.mp hp
    have z':(Sum.inr q.1:qJ)=Sum.inr nm:=of_decide_eq_true z
    injection z' with z'
    exact List.mem_map.mpr ⟨q,hq,z'⟩
   ·intro z
    obtain⟨q,hq,e⟩:=List.mem_map.mp z
    exact⟨_,List.mem_map.mpr ⟨q,hq,rfl⟩,decide_eq_true (by rw[e])⟩
  by_cases z:nm∈k0.map (·.1)
  ·rw[if_pos (ea.mpr z),if_pos z,List.map_map,List.map_map]
   refine List.map_congr_left fun p hp=>?_
   simp only[Function.comp]
   by_cases y:p.1=nm
   ·rw[if_pos (by rw[y]),if_pos y]
    simp [y]
   ·rw[if_neg (by intro w;injection w with w;exact y w),if_neg y]
    simp [y]
  ·rw[if_neg (fun w=>z (ea.mp w)),if_neg z,List.map_append]
   congr 1
   ·refine List.map_congr_left fun p hp=>?_
    have y:¬p.1=nm:=fun w=>z (List.mem_map.mpr ⟨p,hp,w⟩)
    simp [y]
   ·simp
 ·have nt:NT [d] H:=NT.one hd trivial
  intro p hp
  have hp:=(fv pm nm e).mem_iff.mpr hp
  have hb':=hb.mv (Mv.upd1 (o:= .dK (putK (aa k0 f) (Sum.inr nm) (.ref a)))) nt
  unfold za at hp
  split at hp
  ·obtain⟨q,hq,rfl⟩:=List.mem_map.mp hp
   by_cases y:q.1=nm
   ·rw[if_pos y];simp only[if_true];exact hb'
   ·rw[if_neg y]
    show BuAt _ (if q.1=nm then a else f q.1) q.2
    rw[if_neg y]
    exact(hk q hq).mv Mv.upd1 nt
  ·rename_i z
   rcases List.mem_append.mp hp with hq|hq
   ·have y:¬p.1=nm:=fun w=>z (List.mem_map.mpr ⟨p,hq,w⟩)
    show BuAt _ (if p.1=nm then a else f p.1) p.2
    rw[if_neg y]
    exact(hk p hq).mv Mv.upd1 nt
   ·rw[List.mem_singleton.mp hq];simp only[if_true];exact hb'
def KsAt(K:Frag)(H:Hp)(hk:Addr)(kss:List (List Int)):Prop:=∃as:List Addr,H hk=some (.lst (as.map V.ref))/\as.length=kss.length/\∀(i:Nat) (a:Addr) (ks:List Int),as[i]? =some a->kss[i]? =some ks->SqT K H a (ks.map V.int)
theorem KsAt.mv{K:Frag}{S:List Addr}{H H':Hp}{hk:Addr}{kss:List (List Int)}(m:Mv S H H')(n:NT S H)(hd:hk∉S)(h:KsAt K H hk kss):KsAt K H' hk kss:=let⟨as,e,l,r⟩:=h;⟨as,m _ _ hd e,l,fun i a ks e1 e2=>m.sqt n (r i a ks e1 e2)⟩
structure Dr where
 t:List Int
 kss:List (List Int)
 near:Int
 far:Int
 most:Int
 least:Int
 kn:Kw
def dF(D:Dr)(ta hk bd lg:Addr):List (Str×V):=
 [("table",.ref ta),("house_keys",.ref hk),("near",.int D.near),("far",.int D.far),("most",.int D.most),("least_age",.int D.least),("buttons",.ref bd),("log",.ref lg)]
def dN:List Str:=["table","house_keys","near","far","most","least_age","buttons","log"]
theorem vQ:dN.Nodup:=by decide +kernel
theorem gi(D:Dr)(ta hk bd lg:Addr):((dF D ta hk bd lg).map (·.1)).Nodup:=vQ
structure DCx(K:Frag)(C:Addr):Prop where
 cl:Cls K C
 n_table:NoAttr K C "table"
 n_house_keys:NoAttr K C "house_keys"
 n_near:NoAttr K C "near"
 n_far:NoAttr K C "far"
 n_most:NoAttr K C "most"
 n_least_age:NoAttr K C "least_age"
 n_buttons:NoAttr K C "buttons"
 n_log:NoAttr K C "log"
structure DoorAt(K:Frag)(C:Addr)(H:Hp)(p ta hk bd lg:Addr)(n:Nat)(D:Dr):Prop where
 ob:∃dx,H p=some (.ins C dx (dF D ta hk bd lg))
 tb:SqT K H ta (D.t.map V.int)
 ks:KsAt K H hk D.kss
 kb:KnAt H bd D.kn
 lo:∃rs:List Addr,H lg=some (.lst (rs.map V.ref))/\rs.length<=n
 ne:lg≠hk
section
variable{K:Frag}{C:Addr}{H H':Hp}{p ta hk bd lg dx:Addr}{n:Nat}{D:Dr}
theorem DoorAt.has(b:DoorAt K C H p ta hk bd lg n D)(U:DCx K C)(i:Nat){f:Str}{v:V}(h:(dF D ta hk bd lg)[i]? =some (f,v))(na:NoAttr K C f):ZY K H p f v:=by
 obtain⟨dx,e⟩:=b.ob
 exact⟨C,dx,_,e,U.cl,na,fS i h (gi ..)⟩
theorem DoorAt.h_table(b:DoorAt K C H p ta hk bd lg n D)(U:DCx K C):ZY K H p "table" (.ref ta):=b.has U 0 rfl U.n_table
theorem DoorAt.h_house_keys(b:DoorAt K C H p ta hk bd lg n D)(U:DCx K C):ZY K H p "house_keys" (.ref hk):=b.has U 1 rfl U.n_house_keys
theorem DoorAt.h_near(b:DoorAt K C H p ta hk bd lg n D)(U:DCx K C):ZY K H p "near" (.int D.near):=b.has U 2 rfl U.n_near
theorem DoorAt.h_far(b:DoorAt K C H p ta hk bd lg n D)(U:DCx K C):ZY K H p "far" (.int D.far):=b.has U 3 rfl U.n_far
theorem DoorAt.h_most(b:DoorAt K C H p ta hk bd lg n D)(U:DCx K C):ZY K H p "most" (.int D.most):=b.has U 4 rfl U.n_most
theorem DoorAt.h_least_age(b:DoorAt K C H p ta hk bd lg n D)(U:DCx K C):ZY K H p "least_age" (.int D.least):=b.has U 5 rfl U.n_least_age
theorem DoorAt.h_buttons(b:DoorAt K C H p ta hk bd lg n D)(U:DCx K C):ZY K H p "buttons" (.ref bd):=b.has U 6 rfl U.n_buttons
theorem DoorAt.h_log(b:DoorAt K C H p ta hk bd lg n D)(U:DCx K C):ZY K H p "log" (.ref lg):=b.has U 7 rfl U.n_log
theorem DoorAt.no(b:DoorAt K C H p ta hk bd lg n D){m:Str}(h:m∉dN:=by decide +kernel):vY C H p m:=by
 obtain⟨dx,e⟩:=b.ob
 exact⟨dx,_,e,fA h⟩
theorem DoorAt.mv{S:List Addr}(b:DoorAt K C H p ta hk bd lg n D)(m:Mv S H H')(nt:NT S H)(hp:p∉S)(hh:hk∉S)(hb:bd∉S)(hl:lg∉S):DoorAt K C H' p ta hk bd lg n D:=by
 obtain⟨dx,e⟩:=b.ob
 obtain⟨rs,el,l⟩:=b.lo
 exact⟨⟨dx,m _ _ hp e⟩,m.sqt nt b.tb,b.ks.mv m nt hh,b.kb.mv m nt hb,⟨rs,m _ _ hl el,l⟩,b.ne⟩
theorem DoorAt.same(b:DoorAt K C H p ta hk bd lg n D)(s:Same H H'):DoorAt K C H' p ta hk bd lg n D:=b.mv (S:=[]) s.mv (fun c h=>nomatch h) (fun h=>nomatch h) (fun h=>nomatch h) (fun h=>nomatch h) (fun h=>nomatch h)
end
def wD:R2:=fun x y H Q=>∃(o:Option (Int×Int)) (b:Addr) (a c:Int),Wt H x o/\y= .ref b/\Rd H b (.tup [.int a,.int c])/\Q (.bl (decide (o=some (a,c)))) H
theorem mS{X:Cx}{k:Nat}(hr:Room k X.A):zr X (compareOp .Eq) wD:=by
 intro pins s σ H x y v u Q I rx ry h
 obtain⟨o,b,a,c,hw,rfl,hb,q⟩:=h
 cases ry
 obtain⟨its2,r2,p2,_⟩:=I.tuple (.inl hb)
 have hu:X.A.units<cLine:=by have:=hr.un;omega
 cases o with
 |none=>
  have hw':x= .non:=hw
  subst hw'
  cases rx
  rw[decide_eq_false (by intro z;cases z)]at q
  exact SeqAt.RcAt.none_tuple p2 hu _ _ _ _ ⟨.bl false,H,I,rfl,q⟩
 |some pr=>
  obtain⟨x1,x2⟩:=pr
  obtain⟨w,rfl,hw'⟩:=hw
  cases rx
  obtain⟨its,r1,p1,_⟩:=I.tuple (.inl (.inl hw'))
  have l1:=r1.length
  have l2:=r2.length
  have e1:=SeqAt.RcAt.tuples (A:=X.A) (e:=fun j=>[x1,x2].getD j 0==[a,c].getD j 0) (show s.heap.IsTuple w its.toArray from p1) (show s.heap.IsTuple b its2.toArray from p2) hu (fun j h1 h2=>by
   have h1':j<its.length:=by simpa using h1
   have h2':j<its2.length:=by simpa using h2
   obtain⟨t,e⟩:=jV (ns:=[x1,x2]) r1 j h1' (by rw[<- l1]at h1';exact h1')
   obtain⟨t',e'⟩:=jV (ns:=[a,c]) r2 j h2' (by rw[<- l2]at h2';exact h2')
   simp only[List.getElem_toArray,e,e',List.getD_eq_getElem?_getD,List.getElem?_eq_getElem (show j<[x1,x2].length by rw[<- l1]at h1';exact h1'),List.getElem?_eq_getElem (show j<[a,c].length by rw[<- l2]at h2';exact h2'),Option.getD_some]
   exact SeqAt.EqAt.int_int _ _ _ _)
  have z1:its.toArray.size=2:=by rw[List.size_toArray,<- l1];rfl
  have z2:its2.toArray.size=2:=by rw[List.size_toArray,<- l2];rfl
  refine e1 _ _ _ _ ⟨.bl _,H,I,?_,q⟩
  show Value.bool _=Value.bool _
  congr 1
  rw[z1,z2,show min 2 2=([x1,x2]:List Int).length from rfl,pq [x1,x2] [a,c] rfl]
  simp
def ku(c l n f:Int):Str:=if c<=l then "old" else if c<=l+n then "near" else if c<=l+f then "far" else "beyond"
def jx:Sp:=fun vs H Q _=>∃c l n f:Int,vs=[.int c,.int l,.int n,.int f]/\Q (.str (ku c l n f)) H
def zh(near far:Int)(e:Kb)(age c:Int):Str×Kb:=
 if c<=e.last then("old",e)else if c<=e.last+near then("near",⟨age,c,none⟩)
 else if c<=e.last+far then(if e.wt=some (age,c-1)then("near",⟨age,c,none⟩)else("far",⟨e.age,e.last,some (age,c)⟩))else("beyond",e)
def jG:Sp:=fun vs H Q _=>∃(a:Addr) (e:Kb) (age c near far:Int),vs=[.ref a,.int age,.int c,.int near,.int far]/\BuAt H a e/\
 ∀q a' H',Same H H'->H' q=some (.tup [.str (zh near far e age c).1,.ref a'])->BuAt H' a' (zh near far e age c).2->Q (.ref q) H'
def Zc(D:Dr)(age:Int):Bool:=decide (D.least<=age)&&decide (age<D.kss.length)
def ze(D:Dr)(e:Kb)(age:Int):Bool:=Zc D age&&decide (e.age<=age)
def qQ(D:Dr)(nm:Str)(age:Int)(r:Option (Int×Int)):List V×Kw:=
 match D.kn.lookup nm with
 |none=>([.str "held",.str "unknown"],D.kn)
 |some e=>if ze D e age=true then(match r with
   |none=>([.str "held",.str "false"],D.kn)
   |some (c,d)=>if(zh D.near D.far e age c).1="near" then([.str "open",.str nm,.int d],za D.kn nm (zh D.near D.far e age c).2)else([.str "held",.str (zh D.near D.far e age c).1],za D.kn nm (zh D.near D.far e age c).2))
  else([.str "held",.str "age"],D.kn)
structure DrOk(D:Dr):Prop where
 tp:D.t.Perm digs
 l0:0<=D.least
 kl:D.kss.length<=8
 nl:D.kn.length<=60
 nd:(D.kn.map (·.1)).Nodup
section
variable(K:Frag)(C:Addr)
def jn:Sp:=fun vs H Q _=>∃(p ta hk bd lg:Addr) (n:Nat) (D:Dr),vs=[.ref p]/\DoorAt K C H p ta hk bd lg n D/\Q (.bl (decide (D.most<=(D.kn.length:Int)))) H
def cx:Sp:=fun vs H Q _=>∃(p ta hk bd lg:Addr) (n:Nat) (D:Dr) (age:Int),vs=[.ref p,.int age]/\DoorAt K C H p ta hk bd lg n D/\Q (.bl (Zc D age)) H
def bI:Sp:=fun vs H Q _=>∃(p ta hk bd lg a:Addr) (n:Nat) (D:Dr) (e:Kb) (age:Int),vs=[.ref p,.ref a,.int age]/\DoorAt K C H p ta hk bd lg n D/\BuAt H a e/\Q (.bl (ze D e age)) H
def kL:Sp:=fun vs H Q _=>∃(p ta hk bd lg:Addr) (n:Nat) (D:Dr) (nm:Str),vs=[.ref p,.str nm]/\DoorAt K C H p ta hk bd lg n D/\
 (D.kn.lookup nm=none->Q .non H)/\(∀e a,D.kn.lookup nm=some e->BuAt H a e->Q (.ref a) H)
def jv:Sp:=fun vs H Q _=>∃(p ta hk bd lg a:Addr) (n:Nat) (D:Dr) (e:Kb) (age c:Int),vs=[.ref p,.ref a,.int age,.int c]/\DoorAt K C H p ta hk bd lg n D/\BuAt H a e/\ze D e age=true/\
 ∀q a' H',Same H H'->H' q=some (.tup [.str (zh D.near D.far e age c).1,.ref a'])->BuAt H' a' (zh D.near D.far e age c).2->Q (.ref q) H'
def PrAt(H:Hp)(pr:Addr)(nm:Str)(age:Int)(ds:List Int):Prop:=∃pc,H pr=some (.tup [.str nm,.int age,.ref pc])/\H pc=some (.tup (ds.map V.int))
def Qc(D:Dr)(age:Int):List Int:=D.kss.getD age.toNat []
def fk:Sp:=fun vs H Q _=>∃(p ta hk bd lg pr:Addr) (n:Nat) (D:Dr) (nm:Str) (age:Int) (ds:List Int),vs=[.ref p,.ref pr]/\DoorAt K C H p ta hk bd lg n D/\DrOk D/\PrAt H pr nm age ds/\zU nm/\ds.length=5/\zp ds/\
 ∀q H',Mv [bd] H H'->H' q=some (.tup (qQ D nm age (QV D.t (Qc D age) nm ds)).1)->DoorAt K C H' p ta hk bd lg n {D with kn:=(qQ D nm age (QV D.t (Qc D age) nm ds)).2}->Q (.ref q) H'
end
theorem PrAt.mv{S:List Addr}{H H':Hp}{pr:Addr}{nm:Str}{age:Int}{ds:List Int}(m:Mv S H H')(n:NT S H)(h:PrAt H pr nm age ds):PrAt H' pr nm age ds:=let⟨pc,e1,e2⟩:=h;⟨pc,m.tup n e1,m.tup n e2⟩
theorem PrAt.same{H H':Hp}{pr:Addr}{nm:Str}{age:Int}{ds:List Int}(s:Same H H')(h:PrAt H pr nm age ds):PrAt H' pr nm age ds:=let⟨pc,e1,e2⟩:=h;⟨pc,s _ _ e1,s _ _ e2⟩
theorem fW{X:Cx}:zr X (compareOp .LtE) (fun x y H Q=>∃i j,x= .str i/\y= .str j/\Q (.bl (!decide (j.cps.toList<i.cps.toList))) H):=by
 intro pins s σ H x y v u Q I rx ry h
 obtain⟨i,j,rfl,rfl,q⟩:=h
 obtain⟨t,rfl⟩:=rx
 obtain⟨t',rfl⟩:=ry
 exact PySem.P.le_str (qM I q rfl)
theorem oy{js:List Nat}{te:TE}{σ:L2.St}{H:Hp}{Q:VK}{x:Str}(hn:x.cps.size<=sizeLine)(Pv:Nat->List V->Hp->Prop)(h0:Pv 0 [] H)
  (hs:∀i ys H c,x.cps[i]? =some c->ys.length=i->Pv i ys H->te (some (.str ⟨#[c]⟩)::Qu js σ) H fun v H3=>Pv (i+1) (ys++[v]) H3)
  (hd:∀ys H,ys.length=x.cps.size->Pv x.cps.size ys H->∀p,H p=none->Q (.ref p) (upd H p (.lst ys))):db (rh x) js te σ H Q:=
 au hn (fun i v=>∃c,x.cps[i]? =some c/\v= .str ⟨#[c]⟩) Pv h0 (fun i ys H hi p=>hi) (fun ys H p=>Nat.le_refl _) (fun i ys H v H' _ p y=>y) (fun i ys H v hi hl p hx=>by
  obtain⟨c,hc,rfl⟩:=hx
  exact hs i ys H c hc hl p) hd
theorem nW{ds:List Int}(h:zp ds):(ds.map V.int).all aq=true:=by
 rw[List.all_eq_true]
 intro x hx
 obtain⟨i,hi,rfl⟩:=List.mem_map.mp hx
 have:=h i hi
 show(decide (0<=i)&&decide (i<16))=true
 rw[decide_eq_true this.1,decide_eq_true this.2];rfl
theorem zE{c:Bool}{a b:Prop}(h:c=true)(x:a):if c=true then a else b:=by rw[if_pos h];exact x
theorem zJ{c:Bool}{a b:Prop}(h:c=false)(x:b):if c=true then a else b:=by rw[if_neg (by rw[h];intro z;cases z)];exact x
theorem zg{K:Frag}{C p dx:Addr}{H:Hp}{fs:List (Str×V)}{f:Str}{v:V}(c:Cls K C)(e:H p=some (.ins C dx fs))(n:NoAttr K C f)(i:Nat)(hns:fs.map (·.1)=dN.take i:=by rfl)(hn:f∉dN.take i:=by decide +kernel):
  cv K H p f v (upd H p (.ins C dx (fs++[(f,v)]))):=⟨C,dx,fs,e,c,n,by
  have h1:fs.length=(dN.take i).length:=by rw[<- hns,List.length_map]
  have h2:(dN.take i).length<=8:=by rw[List.length_take];exact Nat.min_le_right _ _
  omega,by rw[gG (by rw[hns];exact hn)]⟩
theorem KsAt.upd{K:Frag}{C p dx b:Addr}{H:Hp}{fs:List (Str×V)}{kss:List (List Int)}{o:HO}(e:H p=some (.ins C dx fs))(h:KsAt K H b kss):KsAt K (upd H p o) b kss:=by
 obtain⟨as,e1,l,r⟩:=id h
 exact h.mv Mv.upd1 (NT.one e trivial) (qR (zI e1 e (by intro z;cases z)))
theorem KsAt.same{K:Frag}{H H':Hp}{b:Addr}{kss:List (List Int)}(s:Same H H')(h:KsAt K H b kss):KsAt K H' b kss:=h.mv (S:=[]) s.mv (fun c h=>nomatch h) (fun h=>nomatch h)
theorem Mv.nfree{S:List Addr}{H H':Hp}{x:Addr}(m:Mv S H H')(hn:x∉S)(h:H' x=none):H x=none:=by
 cases e:H x with
 |none=>rfl
 |some o=>rw[m x o hn e]at h;cases h
theorem KsAt.at{K:Frag}{H:Hp}{hk:Addr}{D:Dr}{age:Int}(h:KsAt K H hk D.kss)(h0:0<=age)(h1:age<D.kss.length):∃(xs:List V) (ak:Addr),H hk=some (.lst xs)/\zV xs age=some (.ref ak)/\SqT K H ak ((Qc D age).map V.int):=by
 obtain⟨as,e,l,r⟩:=h
 obtain⟨i,rfl⟩:∃i:Nat,age=(i:Int):=⟨age.toNat,by omega⟩
 have hi:i<D.kss.length:=by omega
 have hi':i<as.length:=by omega
 refine⟨_,as[i],e,Qm (by rw[List.getElem?_map,List.getElem?_eq_getElem hi'];rfl),?_⟩
 have:=r i as[i] D.kss[i] (List.getElem?_eq_getElem hi') (List.getElem?_eq_getElem hi)
 unfold Qc
 rw[Int.toNat_natCast,List.getD_eq_getElem?_getD,List.getElem?_eq_getElem hi]
 exact this
theorem bB{D:Dr}{e:Kb}{age:Int}(h:ze D e age=true)(h0:0<=D.least):0<=age/\age<D.kss.length:=by
 unfold ze Zc at h
 rw[Bool.and_eq_true,Bool.and_eq_true]at h
 have h1:=of_decide_eq_true h.1.1
 have h2:=of_decide_eq_true h.1.2
 omega
theorem DoorAt.putK{K:Frag}{C:Addr}{H H':Hp}{p ta hk bd lg:Addr}{n:Nat}{D:Dr}{kn':Kw}(b:DoorAt K C H p ta hk bd lg n D)(m:Mv [bd] H H')(kb:KnAt H' bd kn'):DoorAt K C H' p ta hk bd lg n {D with kn:=kn'}:=by
 obtain⟨dx,e⟩:=b.ob
 obtain⟨f,hd,_⟩:=b.kb
 obtain⟨rs,el,l⟩:=b.lo
 obtain⟨as,eh,_⟩:=id b.ks
 have nt:NT [bd] H:=NT.one hd trivial
 exact⟨⟨dx,m _ _ (qR (zI e hd (by intro z;cases z))) e⟩,m.sqt nt b.tb,b.ks.mv m nt (qR (zI eh hd (by intro z;cases z))),kb,⟨rs,m _ _ (qR (zI el hd (by intro z;cases z))) el,l⟩,b.ne⟩
theorem DoorAt.putL{K:Frag}{C:Addr}{H:Hp}{p ta hk bd lg r:Addr}{n:Nat}{D:Dr}{rs:List Addr}(b:DoorAt K C H p ta hk bd lg n D)(el:H lg=some (.lst (rs.map V.ref)))(hl:rs.length<=n):DoorAt K C (upd H lg (.lst (rs.map V.ref++[.ref r]))) p ta hk bd lg (n+1) D:=by
 obtain⟨dx,e⟩:=b.ob
 obtain⟨f,hd,_⟩:=id b.kb
 have nt:NT [lg] H:=NT.one el trivial
 have m:Mv [lg] H (upd H lg (.lst (rs.map V.ref++[.ref r]))):=Mv.upd1
 exact⟨⟨dx,m _ _ (qR (zI e el (by intro z;cases z))) e⟩,m.sqt nt b.tb,b.ks.mv m nt (qR b.ne.symm),b.kb.mv m nt (qR (zI hd el (by intro z;cases z))),⟨rs++[r],by rw[qc,List.map_append];rfl,by rw[List.length_append];exact Nat.succ_le_succ hl⟩,b.ne⟩
section
variable(K:Frag)(C:Addr)
end
theorem Eqd.pair{H:Hp}{a b:Addr}{z:Str}{i:Int}(h1:H a=some (.tup [.str z,.int i]))(h2:H b=some (.tup [.str z,.int i])):Eqd H 1 (.ref a) (.ref b):=
 .tup (n:=0) (.inl h1) (.inl h2) rfl fun j x y ex ey=>by
  match j,ex,ey with
  |0,ex,ey=>cases ex;cases ey;exact .str _ _
  |1,ex,ey=>cases ex;cases ey;exact .int _ _
  |j+2,ex,ey=>cases ex
abbrev pQ(a b:Str):Prop:=a.cps.toList<=b.cps.toList
theorem vk{a b:Str}(h:ltCps b.cps.toList a.cps.toList=false):pQ a b:=by
 rw[ltCps_eq]at h
 exact List.not_lt.mp (of_decide_eq_false h)
theorem fD:∀{l:List Str} {p:Str},risingS p l=true->(p::l).Pairwise pQ
 | [],p,_=>by simp
 |x::r,p,h=>by
  have h':(!ltCps x.cps.toList p.cps.toList&&risingS x r)=true:=h
  rw[Bool.and_eq_true,Bool.not_eq_true']at h'
  have ih:=fD h'.2
  have hpx:=vk h'.1
  refine List.pairwise_cons.mpr ⟨fun y hy=>?_,ih⟩
  rcases List.mem_cons.mp hy with rfl|hy
  ·exact hpx
  ·exact List.le_trans hpx ((List.pairwise_cons.mp ih).1 y hy)
theorem cG{l:List Str}(h:sortedS l=true):l.Pairwise pQ:=by
 cases l with
 |nil=>exact .nil
 |cons x r=>exact fD h
theorem iY{l a b:List Str}(pa:a.Perm l)(sa:sortedS a=true)(pb:b.Perm l)(sb:sortedS b=true):a=b:=by
 refine List.Perm.eq_of_pairwise (le:=pQ) (fun x y _ _ h1 h2=>?_) (cG sa) (cG sb) (pa.trans pb.symm)
 have e:x.cps.toList=y.cps.toList:=List.le_antisymm h1 h2
 cases x with
 |mk u=>cases y with
  |mk v=>
   have:u=v:=Array.toList_inj.mp e
   rw[this]
def ShAt(H:Hp)(q:Addr)(ss:List Str)(kn:Kw):Prop:=∃as:List Addr,H q=some (.tup (as.map V.ref))/\as.length=ss.length/\∀(i:Nat) (a:Addr) (nm:Str) (e:Kb),as[i]? =some a->ss[i]? =some nm->kn.lookup nm=some e->∃v,H a=some (.tup [.str nm,.int e.age,.int e.last,v])/\Wt H v e.wt
def iR(K:Frag)(C:Addr):Sp:=fun vs H Q _=>∃(p ta hk bd lg:Addr) (n:Nat) (D:Dr),vs=[.ref p]/\DoorAt K C H p ta hk bd lg n D/\DrOk D/\
 ∀q ss H',Same H H'->ss.Perm (D.kn.map (·.1))->sortedS ss=true->ShAt H' q ss D.kn->Q (.ref q) H'
theorem sY{X:Cx}{K:Frag}{e:Expr}{f:Str}{pos:Pos}{ta:TE}(hK:X.K=K)(he:QE X e ta)(hb:attributeBase e f X.env (eval e X.env)=eval e X.env:=by rfl):QE X (.Attribute e f pos) (pL K ta f):=by
 subst hK
 exact qO he hb
theorem rS(kn:Kw)(f:Str->Addr):(aa kn f).map (·.1)=(kn.map (·.1)).map Sum.inr:=by
 unfold aa
 rw[List.map_map,List.map_map];rfl
theorem aP{kn:Kw}{nm:Str}(h:nm∈kn.map (·.1)):∃e,kn.lookup nm=some e:=Option.isSome_iff_exists.mp (lookup_mem_iff.mpr h)
section
variable{K:Frag}{H H':Hp}{m mt mk kd:Addr}{D:Dr}
end
theorem iq:∀(more kvs:List (qJ×V)),((kvs++more).map (·.1)).Nodup->QX kvs more=kvs++more
 | [],kvs,_=>by simp [QX]
 |p::r,kvs,nd=>by
  have hn:p.1∉kvs.map (·.1):=fun z=>by
   rw[List.map_append,List.map_cons]at nd
   exact(List.nodup_append.mp nd).2.2 _ z _ (List.mem_cons_self ..) rfl
  show QX (putK kvs p.1 p.2) r=_
  rw[s0 hn,iq r (kvs++[(p.1,p.2)]) (by rw[List.append_assoc];exact nd),List.append_assoc]
  rfl
theorem lj(ms:List Str)(k:Nat):(ms.map V.str).eraseIdx k=(ms.eraseIdx k).map V.str:=by
 rw[List.eraseIdx_eq_take_drop_succ,List.eraseIdx_eq_take_drop_succ,List.map_append,List.map_take,List.map_drop]
theorem mW{ms zs:List Str}{k:Nat}(h:k<ms.length):(zs++[ms[k]]++ms.eraseIdx k).Perm (zs++ms):=by
 rw[List.append_assoc]
 refine List.Perm.append_left zs ?_
 rw[List.eraseIdx_eq_take_drop_succ]
 have e:ms=ms.take k++ms[k]::ms.drop (k+1):=by rw[<- List.drop_eq_getElem_cons h,List.take_append_drop]
 refine List.Perm.trans (List.perm_middle (a:=ms[k]) (l₁:=ms.take k) (l₂:=ms.drop (k+1))).symm ?_
 rw[<- e]
section
variable{K:Frag}{C:Addr}{H H':Hp}{a:Ad}{n:Nat}{D:Dr}
end
section
variable{K:Frag}{C:Addr}{H H':Hp}{a:Ad}{n:Nat}{D:Dr}{kl:Kw}
end
theorem ap{kn:Kw}{nm:Str}{x:Kb}{e:Str×Kb}(h:e∈za kn nm x):e∈kn\/e=(nm,x):=by
 unfold za at h
 split at h
 ·obtain⟨p,hp,rfl⟩:=List.mem_map.mp h
  by_cases y:p.1=nm
  ·rw[if_pos y];exact .inr rfl
  ·rw[if_neg y];exact .inl hp
 ·rcases List.mem_append.mp h with h|h
  ·exact .inl h
  ·exact .inr (List.mem_singleton.mp h)
section
variable{K:Frag}{C:Addr}{H0 H H':Hp}{b nl:Addr}{ns:List Str}{a:Ad}{D:Dr}{nb nb' i:Nat}{kn:Kw}
end
theorem iI{kn:Kw}{nm:Str}{e:Kb}:∀{l:Kw},(∀p∈l,p.1=nm->p=(nm,e))->l.map (fun p=>if p.1=nm then(nm,e)else p)=l
 | [],_=>rfl
 |p::r,h=>by
  rw[List.map_cons,iI (kn:=kn) fun q hq=>h q (List.mem_cons_of_mem _ hq)]
  by_cases y:p.1=nm
  ·rw[if_pos y,h p (List.mem_cons_self ..) y]
  ·rw[if_neg y]
theorem mw{kn:Kw}{nm:Str}{e:Kb}(nd:(kn.map (·.1)).Nodup)(h:kn.lookup nm=some e):za kn nm e=kn:=by
 unfold za
 rw[if_pos (lookup_mem_iff.mp (by rw[h];rfl))]
 exact iI (kn:=kn) (Z4 nd h)
theorem k9{kn:Kw}{nm:Str}{e x:Kb}(h:kn.lookup nm=some e):(za kn nm x).map (·.1)=kn.map (·.1):=by
 rw[ZO,if_pos (lookup_mem_iff.mp (by rw[h];rfl))]
theorem rO{X:Cx}:∀u e,([]:List (Str×Addr)).lookup u=some e->X.env.cells.lookup u=some e:=fun u e h=>by cases h
theorem cu{X:Cx}{y:Str}{c:Addr}{l:List (Str×Addr)}(h:X.env.cells.lookup y=some c)(r:∀u e,l.lookup u=some e->X.env.cells.lookup u=some e):∀u e,((y,c)::l).lookup u=some e->X.env.cells.lookup u=some e:=fun u e he=>by
 by_cases hu:u=y
 ·subst hu
  simp at he
  rw[<- he];exact h
 ·rw[List.lookup_cons,show(u==y)=false from by simpa using hu]at he
  exact r u e he
section
variable{K:Frag}{H H':Hp}{m mt mk kd:Addr}{D:Dr}
end
section
variable{js:List Nat}{tc:TT}{te:TE}{σ:L2.St}{H:Hp}{Q:VK}{K:Frag}
end
theorem kO{X:Cx}:qY X (.type "dict") (fun xs H Q=>∃(d:Addr) (kvs:List (qJ×V)),xs=[.ref d]/\H d=some (.dK kvs)/\∀p,H p=none->Q (.ref p) (upd H p (.dK kvs))):=by
 intro pins s σ H xs us Q I r h
 obtain⟨d,kvs,rfl,hd,q⟩:=h
 obtain⟨u,rfl,ru⟩:=zO r
 cases ru
 exact nV I (.inl hd) fun p s' hp I'=>⟨.ref p,_,I',rfl,q p hp⟩
theorem DoorAt.setF{K:Frag}{C:Addr}{H:Hp}{p dx:Addr}{fs:List (Str×V)}{f:Str}{u v:V}(i:Nat)(c:Cls K C)(na:NoAttr K C f)(e:H p=some (.ins C dx fs))(hf:fs[i]? =some (f,u))(nd:(fs.map (·.1)).Nodup)(hl:fs.length<1000):
  cv K H p f v (upd H p (.ins C dx (fs.set i (f,v)))):=⟨C,dx,fs,e,c,na,hl,by rw[jw i hf nd]⟩
theorem _root_.L2.Same.put{H H1:Hp}{x:Addr}{o:HO}(s:Same H H1)(h:H x=none):Same H (upd H1 x o):=fun c u e=>by
 rw[qh (qo e h)];exact s c u e
section
variable{K:Frag}{C:Addr}{H:Hp}{p ta hk bd lg dx:Addr}{D:Dr}
theorem fP(U:DCx K C)(e:H p=some (.ins C dx (dF D ta hk bd lg)))(z:Int):cv K H p "least_age" (.int z) (upd H p (.ins C dx (dF {D with least:=z} ta hk bd lg))):=DoorAt.setF 5 U.cl U.n_least_age e rfl (gi ..) (by show 8<1000;decide)
theorem ja(U:DCx K C)(e:H p=some (.ins C dx (dF D ta hk bd lg)))(x:Addr):cv K H p "buttons" (.ref x) (upd H p (.ins C dx (dF D ta hk x lg))):=DoorAt.setF 6 U.cl U.n_buttons e rfl (gi ..) (by show 8<1000;decide)
theorem rR(U:DCx K C)(e:H p=some (.ins C dx (dF D ta hk bd lg)))(x:Addr):cv K H p "log" (.ref x) (upd H p (.ins C dx (dF D ta hk bd x))):=DoorAt.setF 7 U.cl U.n_log e rfl (gi ..) (by show 8<1000;decide)
end
section
variable{K:Frag}{C:Addr}{H H':Hp}{a:Ad}{n:Nat}{D:Dr}{kl:Kw}
end
section
variable{K:Frag}{C:Addr}{H0 H H':Hp}{b nl nd:Addr}{nms:List Str}{a:Ad}{nb n L:Nat}{D:Dr}{kl:Kw}{g:Str->Option (Int×Int)}
end
section
variable{X:Cx}{o e:Expr}{apos cpos pos:Pos}{td ty:TE}
def wC(K:Frag):R2:=fun x y H Q=>∃(a b:Addr) (xs:List V),x= .ref a/\y= .ref b/\SqL K H a xs/\SqL K H b []/\Q (.bl (!xs.isEmpty)) H
theorem tV{k:Nat}(hr:Room k X.A):zr X (compareOp .NotEq) (wC X.K):=by
 intro pins s σ H x y v u Q I rx ry h
 obtain⟨a,b,xs,rfl,rfl,ha,hb,q⟩:=h
 cases rx
 cases ry
 have hu:X.A.units+1<cLine:=by have:=hr.un;omega
 obtain⟨its,r1,p1,_⟩:=I.list ha
 obtain⟨its2,r2,p2,_⟩:=I.list hb
 have l1:=r1.length
 have l2:=r2.length
 cases xs with
 |nil=>
  have e:=SeqAt.RcNeAt.lists (A:=X.A) (e:=fun _=>true) p1.isList p2.isList (by simp;omega) (Nat.lt_of_succ_lt hu) (fun j h1 h2=>by
   have h2':j<its2.length:=by simpa using h2
   have:its2.length=0:=by rw[<- l2];rfl
   omega)
  refine e _ _ _ _ ⟨.bl _,H,I,?_,q⟩
  show Value.bool _=Value.bool _
  congr 1
  have z:its.toArray.size=0:=by rw[List.size_toArray,<- l1];rfl
  rw[z];rfl
 |cons x r=>
  refine SeqAt.RcNeAt.lists_lengths p1.isList p2.isList (by
   have z1:its.length=r.length+1:=by rw[<- l1];rfl
   have z2:its2.length=0:=by rw[<- l2];rfl
   simp;omega) (Nat.lt_of_succ_lt hu) _ _ _ _ ⟨.bl _,H,I,rfl,q⟩
end
theorem ShAt.same{H H':Hp}{q:Addr}{ss:List Str}{kn:Kw}(h:ShAt H q ss kn)(s:Same H H'):ShAt H' q ss kn:=let⟨as,e,l,r⟩:=h;⟨as,s _ _ e,l,fun i a nm x e1 e2 e3=>let⟨v,a1,a2⟩:=r i a nm x e1 e2 e3;⟨v,s _ _ a1,a2.mv (S:=[]) s.mv (fun c h=>nomatch h)⟩⟩
section
variable{K:Frag}{C:Addr}{H H':Hp}{b lf gn lr pl:Addr}{a:Ad}{nb n:Nat}{D:Dr}{kn kl kn1:Kw}{ps:List Pp}{left gone:List Str}
end
section
variable{K:Frag}{C:Addr}{H0 H H':Hp}{nl lr pl b:Addr}{nms:List Str}{a:Ad}{n nb nb':Nat}{D:Dr}{kn kn1:Kw}{ps:List Pp}
end
theorem DoorAt.putLeast{K:Frag}{C:Addr}{H:Hp}{p ta hk bd lg:Addr}{n:Nat}{D:Dr}(b:DoorAt K C H p ta hk bd lg n D)(U:DCx K C)(z:Int):∃dx,cv K H p "least_age" (.int z) (upd H p (.ins C dx (dF {D with least:=z} ta hk bd lg)))/\Mv [p] H (upd H p (.ins C dx (dF {D with least:=z} ta hk bd lg)))/\DoorAt K C (upd H p (.ins C dx (dF {D with least:=z} ta hk bd lg))) p ta hk bd lg n {D with least:=z}:=by
 obtain⟨dx,e⟩:=b.ob
 obtain⟨f,hd,_⟩:=id b.kb
 obtain⟨rs,el,l⟩:=b.lo
 obtain⟨as,eh,_⟩:=id b.ks
 have nt:NT [p] H:=NT.one e trivial
 have m:Mv [p] H (upd H p (.ins C dx (dF {D with least:=z} ta hk bd lg))):=Mv.upd1
 exact⟨dx,fP U e z,m,⟨dx,qc⟩,m.sqt nt b.tb,b.ks.mv m nt (qR (zI eh e (by intro z;cases z))),b.kb.mv m nt (qR (zI hd e (by intro z;cases z))),⟨rs,m _ _ (qR (zI el e (by intro z;cases z))) el,l⟩,b.ne⟩
section
variable{K:Frag}{C:Addr}{H H':Hp}{a:Ad}{n:Nat}{D:Dr}{bx nl:Addr}{nb:Nat}{nms:List Str}
end
section
variable{K:Frag}{C:Addr}{H0 H H':Hp}{b nl:Addr}{nms:List Str}{a:Ad}{nb nb' n n':Nat}{D D':Dr}
end
end L3
namespace PySem
open Sem (wp)
end PySem
namespace PyProof.Rows
open PySem PySem.Spec
section
variable{prog:Program}{w:World}{A:Around}{R:Result->Shared->Prop}{I:Addr}{fp wr:List Addr}{G:Array GenState->Array GenState->Prop}{n:Nat}{P:Nat->Value->Prop}{St:Nat->Shared->Prop}
end
end PyProof.Rows
namespace PySem
open PyProof.Rows
section
variable{prog:Program}{w:World}{K:Type} [DecidableEq K]{knd:PySem.KeyKind prog w K}{A:Around}{E:Value->Shared->Prop}{s:Shared}
end
end PySem
namespace L3
open PySem PySem.Spec PyProof.Rows L2
section
variable{js:List Nat}{te:TE}{σ:L2.St}{H:Hp}{Q:VK}
end
section
variable{K:Frag}{C:Addr}{H0 H H':Hp}{a:Ad}{n n':Nat}{D D':Dr}{kl:Kw}{hd kp b:Addr}{as:List Addr}{ps:List Pp}{nb nb':Nat}
end
section
variable{K:Frag}{C:Addr}{H0 H H':Hp}{a:Ad}{n n':Nat}{D D':Dr}{kl:Kw}{hd kp b nl:Addr}{as:List Addr}{ps:List Pp}{nb nb':Nat}{nn:List Str}
end
end L3
namespace L3
open PySem PySem.Spec PySem.Calls PySem.W PyProof.Rows Builtin Builtin.ObjectAttr Builtin.Getset_descriptor
section
variable{prog:Program}{w:World}{A:Around}{E:Value->Shared->Prop}{K:Frag}{h:Heap}{g:Array GenState}{d:Drawn}{t:Nat}{os:OsState}{a C:Addr}{o:Obj}
end
end L3
namespace L3
open PySem PySem.Spec PyProof.Rows L2
end L3
namespace L3
open PySem PySem.Spec PyProof.Rows L2 SeqAt
end L3
namespace L3
open PySem PySem.Spec PyProof.Rows L2
section
variable(K:Frag)(C:Addr)(x:Xa)
end
inductive Eqk (K:Frag) (H:Hp):Nat->V->V->Prop where
 |int (n:Nat) (i:Int):Eqk K H n (.int i) (.int i)
 |str (n:Nat) (x:Str):Eqk K H n (.str x) (.str x)
 |non (n:Nat):Eqk K H n .non .non
 | tup {n:Nat} {a b:Addr} {xs ys:List V} (h1:SqT K H a xs) (h2:SqT K H b ys) (hl:xs.length=ys.length)
   (hi:∀(i:Nat) (x y:V),xs[i]? =some x->ys[i]? =some y->Eqk K H n x y):Eqk K H (n+1) (.ref a) (.ref b)
section
open SeqAt
variable{X:Cx}{pins:List (Addr×Obj)}{σ:L2.St}{H:Hp}{s:Shared}
theorem tY(I:L2.Inv X pins σ H s){n:Nat}{x y:V}(h:Eqk X.K H n x y):∀{v u:Value} {A:Around},RelV x v->RelV y u->A.units+n<cLine->EqAt A s v u true:=by
 induction h with
 |int n i=>rintro v u A ⟨t,rfl⟩ ⟨t',rfl⟩ _;have:=EqAt.int_int (A:=A) (s:=s) i t i t';rwa [beq_self_eq_true]at this
 |str n z=>rintro v u A ⟨t,rfl⟩ ⟨t',rfl⟩ _;have:=EqAt.str_str (A:=A) (s:=s) z t z t';rwa [beq_self_eq_true]at this
 |non n=>
  intro v u A r1 r2 _
  cases(show v=Value.none from r1)
  cases(show u=Value.none from r2)
  exact EqAt.same _
 | @tup n a b xs ys h1 h2 hl _ ih=>
  intro v u A r1 r2 hu
  cases(show v=Value.ref a from r1)
  cases(show u=Value.ref b from r2)
  by_cases hab:a=b
  ·rw[hab];exact EqAt.same _
  ·obtain⟨its,q1,p1,_⟩:=I.tuple h1
   obtain⟨its2,q2,p2,_⟩:=I.tuple h2
   have l1:=q1.length
   have l2:=q2.length
   have e:=RcAt.tuples (A:=A) (e:=fun _=>true) (show s.heap.IsTuple a its.toArray from p1) (show s.heap.IsTuple b its2.toArray from p2) (by omega) (fun j z1 z2=>by
    obtain⟨x,ex,rx⟩:=zG q1 (j:=j) (by simpa using z1)
    obtain⟨y,ey,ry⟩:=zG q2 (j:=j) (by simpa using z2)
    exact ih j x y ex ey rx ry (by rw[Around.in1_units];omega))
   rw[Z8,show(its.toArray.size==its2.toArray.size)=true by simp;omega]at e
   exact EqAt.of_refs hab e
theorem uJ(I:L2.Inv X pins σ H s){n:Nat}{x y:V}{v u:Value}{A:Around}(h:Eqk X.K H n x y)(r1:RelV x v)(r2:RelV y u)(hu:A.units+n<cLine):RcAt A s v u true/\RcNeAt A s v u false:=by
 cases h with
 |int n i=>
  obtain⟨t,rfl⟩:=r1
  obtain⟨t',rfl⟩:=r2
  have e1:=RcAt.int_int (A:=A) (s:=s) i t i t'
  have e2:=RcNeAt.int_int (A:=A) (s:=s) i t i t'
  rw[beq_self_eq_true]at e1 e2
  exact⟨e1,e2⟩
 |str n z=>
  obtain⟨t,rfl⟩:=r1
  obtain⟨t',rfl⟩:=r2
  have e1:=RcAt.str_str (A:=A) (s:=s) z t z t'
  have e2:=RcNeAt.str_str (A:=A) (s:=s) z t z t'
  rw[beq_self_eq_true]at e1 e2
  exact⟨e1,e2⟩
 |non n=>
  cases(show v=Value.none from r1)
  cases(show u=Value.none from r2)
  exact⟨RcAt.none_none,RcNeAt.none_none⟩
 | @tup n a b xs ys h1 h2 hl ih=>
  cases(show v=Value.ref a from r1)
  cases(show u=Value.ref b from r2)
  obtain⟨its,q1,p1,_⟩:=I.tuple h1
  obtain⟨its2,q2,p2,_⟩:=I.tuple h2
  have l1:=q1.length
  have l2:=q2.length
  have he:∀j (z1:j<its.toArray.size) (z2:j<its2.toArray.size),EqAt A.in1 s its.toArray[j] its2.toArray[j] ((fun _=>true) j):=fun j z1 z2=>by
   obtain⟨x,ex,rx⟩:=zG q1 (j:=j) (by simpa using z1)
   obtain⟨y,ey,ry⟩:=zG q2 (j:=j) (by simpa using z2)
   exact tY I (ih j x y ex ey) rx ry (by rw[Around.in1_units];omega)
  have e1:=RcAt.tuples (A:=A) (e:=fun _=>true) (show s.heap.IsTuple a its.toArray from p1) (show s.heap.IsTuple b its2.toArray from p2) (by omega) he
  have e2:=RcNeAt.tuples (A:=A) (e:=fun _=>true) (show s.heap.IsTuple a its.toArray from p1) (show s.heap.IsTuple b its2.toArray from p2) (by omega) he
  rw[Z8,show(its.toArray.size==its2.toArray.size)=true by simp;omega]at e1 e2
  exact⟨e1,e2⟩
def wf(K:Frag)(b:Bool):R2:=fun x y H Q=>∃n,n<=32/\Eqk K H n x y/\Q (.bl b) H
theorem tG{k:Nat}(hr:Room k X.A):zr X (compareOp .NotEq) (wf X.K false):=by
 intro pins s σ H x y v u Q I rx ry h
 obtain⟨n,hn,e,q⟩:=h
 exact(uJ I e rx ry (by have:=hr.un;omega)).2 _ _ _ _ ⟨.bl _,H,I,rfl,q⟩
end
section
variable(K:Frag)(C:Addr)(x:Xa)
def fi:Sp:=fun vs H Q _=>∃(p ta hk bd lg:Addr) (n:Nat) (D:Dr),vs=[.ref p]/\DoorAt K C H p ta hk bd lg n D/\∀t H',Same H H'->H' t=some (.tup [.int D.near,.int D.far,.int D.most])->Q (.ref t) H'
end
section
variable{H H':Hp}{d lc:Addr}{B:Bt}
end
section
variable{E:Hp->O2->Prop}{K:Frag}{C:Addr}{H H':Hp}{b L:Addr}{n n':Nat}{os:List O2}
end
end L3
namespace L3
open PySem PySem.Spec PyProof.Rows L2
open Sem (wp)
section
variable{X:Cx}{pins:List (Addr×Obj)}{σ:L2.St}{H:Hp}{s:Shared}
def oJ(a1 a2:Addr):It:=
  ⟨fun i H=>∃xs ys x y,Rd H a1 (.lst xs)/\Rd H a2 (.lst ys)/\xs[i]? =some x/\ys[i]? =some y,
   fun i H v H'=>∃p x y,H p=none/\v= .ref p/\(∀xs,Rd H a1 (.lst xs)->xs[i]? =some x)/\(∀ys,Rd H a2 (.lst ys)->ys[i]? =some y)/\H'=upd H p (.tup [x,y]),
   fun i H=>∃xs,Rd H a1 (.lst xs)/\xs.length=i⟩
theorem lP{P:Program}{w:World}{K:Frag}{elts:List Expr}{x1}{pos:Pos}(a1 a2 z TI TO i1 i2:Addr)(d1:TI≠z)(d2:TO≠z)(d3:i1≠z)(d4:i2≠z)(d5:TI≠TO)(d6:TI≠i1)(d7:TI≠i2)(d8:TO≠i1)(d9:TO≠i2)(d10:i1≠i2):
  Turn P w K (.Tuple elts x1 pos) (oJ a1 a2) [z,TI,TO,i1,i2] z (fun i h=>IsZip h z TI TO .none/\IsPair h TI (.ref i1) (.ref i2)/\(∃a b,IsPair h TO a b)/\h.IsListIter i1 a1 i/\h.IsListIter i2 a2 i) where
 mem:=by simp
 obj:=fun i h st b hb=>by
  obtain⟨hz,hTI,⟨a,b',hTO⟩,⟨o1,ho1,_,hd1⟩,⟨o2,ho2,_,hd2⟩⟩:=st
  simp only[List.mem_cons,List.not_mem_nil,or_false]at hb
  rcases hb with rfl|rfl|rfl|rfl|rfl
  ·exact⟨_,hz,fun v y=>by have y':Data.fields _=Data.cell v:=y;cases y'⟩
  ·exact⟨_,hTI,fun v y=>by have y':Data.seq _ _=Data.cell v:=y;cases y'⟩
  ·exact⟨_,hTO,fun v y=>by have y':Data.seq _ _=Data.cell v:=y;cases y'⟩
  ·exact⟨_,ho1,fun v y=>by rw[hd1]at y;cases y⟩
  ·exact⟨_,ho2,fun v y=>by rw[hd2]at y;cases y⟩
 keep:=fun i h h' st k=>by
  obtain⟨hz,hTI,⟨a,b',hTO⟩,h1,h2⟩:=st
  exact⟨k z (by simp) _ hz,k TI (by simp) _ hTI,⟨a,b',k TO (by simp) _ hTO⟩,h1.at fun o e=>k i1 (by simp) o e,h2.at fun o e=>k i2 (by simp) o e⟩
 item:=by
  intro X hP hw hK hc i pins s σ H E I hf st hg
  subst hP hw hK
  obtain⟨xs,ys,x,y,ha1,ha2,hx,hy⟩:=hg
  obtain⟨its,rv,p,hz0⟩:=I.list (.inl ha1)
  obtain⟨its2,rv2,p2,hz2⟩:=I.list (.inl ha2)
  obtain⟨u,hu,ru⟩:=rv.get hx
  obtain⟨u2,hu2,ru2⟩:=rv2.get hy
  obtain⟨hz,hTI,⟨a,b',hTO⟩,h1,h2⟩:=st
  have n1:∀c∈[z,TI,TO,i1,i2],a1≠c:=fun c hc=>bK ha1 (hf c hc).1
  have n2:∀c∈[z,TI,TO,i1,i2],a2≠c:=fun c hc=>bK ha2 (hf c hc).1
  have Z:ZApart z TI TO i1 i2 [i1,a1] [i2,a2]:=⟨d1,d2,d3,d4,d5,d6,d7,d8,d9,d10,by simp [Ne.symm d3,Ne.symm (n1 z (by simp))],by simp [Ne.symm d4,Ne.symm (n2 z (by simp))],by simp [d8,Ne.symm (n1 TO (by simp))],by simp [d9,Ne.symm (n2 TO (by simp))],by simp [Ne.symm d10,Ne.symm (n1 i2 (by simp))],by simp [d10,Ne.symm (n2 i1 (by simp))]⟩
  have hil:i<its.toArray.size:=by have:=(List.getElem?_eq_some_iff.mp hu).1;simpa using this
  have hil2:i<its2.toArray.size:=by have:=(List.getElem?_eq_some_iff.mp hu2).1;simpa using this
  have hT:s.TypeIs (.ref z) "zip":=⟨_,hz,rfl⟩
  unfold pyNext
  refine wpAny_bind (wpAny_attempt (wpAny_callSpecial?_slot (name:=Str.ofString "__next__") hT F.slot_zip_next
   (wpAny_call_entry F.slot_zip_next hT F.entry_zip_next
    (fI (Draws.list (A:=X.A.in1) (I.ok.hd hc) i1 a1 (n1 i1 (by simp)) its.toArray) (Draws.list (A:=X.A.in1) (I.ok.hd hc) i2 a2 (n2 i2 (by simp)) its2.toArray) Z hz hTI hTO ⟨h1,p.isList⟩ ⟨h2,p2.isList⟩ hil hil2
     fun v v2 h' tk hv hv2 ho hTO' q1 q2 ht hk=>wpAny_pure ⟨_,rfl,?_⟩) (F.args_zip_next_1 _))))
  have ev:v=u:=by
   have hv':its[i]? =some v:=by simpa using hv
   rw[hu]at hv';exact(Option.some.inj hv').symm
  have ev2:v2=u2:=by
   have hv':its2[i]? =some v2:=by simpa using hv2
   rw[hu2]at hv';exact(Option.some.inj hv').symm
  subst ev ev2
  refine wpAny_letOwnedTupleGo_zip ho fun h'' hz'' hs''=>?_
  have lt:∀c∈[z,TI,TO,i1,i2],c<s.heap.objs.size:=fun c hc=>by
   simp only[List.mem_cons,List.not_mem_nil,or_false]at hc
   rcases hc with rfl|rfl|rfl|rfl|rfl
   ·exact Heap.lt_size hz
   ·exact Heap.lt_size hTI
   ·exact Heap.lt_size hTO
   ·obtain⟨_,e,_⟩:=h1;exact Heap.lt_size e
   ·obtain⟨_,e,_⟩:=h2;exact Heap.lt_size e
  have hTI':IsPair h'' TI (.ref i1) (.ref i2):=hs''.extBut _ _ d1 (hk _ _ d1 d5 d6 d7 hTI)
  have hTO'':IsPair h'' TO v v2:=hs''.extBut _ _ d2 hTO'
  have h1':h''.IsListIter i1 a1 (i+1):=q1.1.extBut hs''.extBut d3
  have h2':h''.IsListIter i2 a2 (i+1):=q2.1.extBut hs''.extBut d4
  refine⟨.ref s.heap.objs.size,upd H s.heap.objs.size (.tup [x,y]),?_,rfl,⟨_,x,y,I.hok.fresh (Nat.le_refl _),rfl,fun zs hy'=>by rw[I.list_inj (.inl hy') (.inl ha1)];exact hx,fun zs hy'=>by rw[I.list_inj (.inl hy') (.inl ha2)];exact hy,rfl⟩,⟨hz'',hTI',⟨_,_,hTO''⟩,h1',h2'⟩,?_⟩
  ·show L2.Inv X pins σ _ {s with heap:=h'',toks:=tk}
   refine bS (s:=s) (its:=[v,v2]) I (ch:=[z,TI,TO,i1,i2]) (fun b o hb q=>?_) hf (fun b hb=>?_) (Nat.le_refl _) (by show 2<=sizeLine;decide) (.cons ru (.cons ru2 .nil)) ?_
   ·simp only[List.mem_cons,List.not_mem_nil,or_false,not_or]at hb
    exact hs''.extBut b o hb.1 (hk b o hb.1 hb.2.2.1 hb.2.2.2.1 hb.2.2.2.2 q)
   ·simp only[List.mem_cons,List.not_mem_nil,or_false]at hb
    rcases hb with rfl|rfl|rfl|rfl|rfl
    ·exact⟨_,hz''⟩
    ·exact⟨_,hTI'⟩
    ·exact⟨_,hTO''⟩
    ·obtain⟨o,e,_⟩:=h1';exact⟨o,e⟩
    ·obtain⟨o,e,_⟩:=h2';exact⟨o,e⟩
   ·exact⟨_,hs''.extBut _ _ (Nat.ne_of_gt (lt z (by simp))) ht,rfl,_,rfl⟩
  ·intro b hb
   rw[qh (Nat.ne_of_lt (lt b hb))]
   exact(hf b hb).1
 done:=by
  intro X hP hw hK hc i pins s σ H E I hf st hg
  subst hP hw hK
  obtain⟨xs,ha1,hx⟩:=hg
  obtain⟨its,rv,p,hz0⟩:=I.list (.inl ha1)
  obtain⟨hz,hTI,⟨a,b',hTO⟩,h1,h2⟩:=st
  have n1:∀c∈[z,TI,TO,i1,i2],a1≠c:=fun c hc=>bK ha1 (hf c hc).1
  have Z:ZApart z TI TO i1 i2 [i1,a1] [i2]:=⟨d1,d2,d3,d4,d5,d6,d7,d8,d9,d10,by simp [Ne.symm d3,Ne.symm (n1 z (by simp))],by simp [Ne.symm d4],by simp [d8,Ne.symm (n1 TO (by simp))],by simp [d9],by simp [Ne.symm d10,Ne.symm (n1 i2 (by simp))],by simp [d10]⟩
  have hl:its.toArray.size=i:=by rw[List.size_toArray,<- rv.length];exact hx
  have hT:s.TypeIs (.ref z) "zip":=⟨_,hz,rfl⟩
  unfold pyNext
  refine wpAny_bind (wpAny_attempt (wpAny_callSpecial?_slot (name:=Str.ofString "__next__") hT F.slot_zip_next
   (wpAny_call_entry F.slot_zip_next hT F.entry_zip_next
    (gX (Draws.list (A:=X.A.in1) (I.ok.hd hc) i1 a1 (n1 i1 (by simp)) its.toArray) Z hz hTI ⟨by rw[hl];exact h1,p.isList⟩ fun h' e hk he=>?_) (F.args_zip_next_1 _))))
  obtain⟨o,ho,hcl⟩:=he
  refine wpAny_bind (wpAny_isInstance (T:="StopIteration") (b:=true) ⟨o,ho,hcl⟩ isSubtype_stop ?_)
  refine wpAny_pure ⟨rfl,jt (t':=s.toks) I (ch:=[z,i1]) (fun b o hb e=>?_) (fun b hb=>hf b ?_)⟩
  ·simp only[List.mem_cons,List.not_mem_nil,or_false,not_or]at hb
   exact hk b o hb.1 hb.2 e
  ·simp only[List.mem_cons,List.not_mem_nil,or_false]at hb
   rcases hb with rfl|rfl<;>simp
 self:=fun _ _ _ _ _ st h=>wpAny_pyIter_zip st.1 h
def rL(ta:TA):TI:=fun σ H R=>ta σ H fun vs H1=>∃a1 a2 xs ys,vs=[.ref a1,.ref a2]/\Rd H1 a1 (.lst xs)/\Rd H1 a2 (.lst ys)/\R (oJ a1 a2) H1
theorem tm{a b:Expr}{ta:TA}{p pos:Pos}{elts:List Expr}{x1}{tpos:Pos}(hg:Gl X "zip")(hm:X.mg "zip"=none)(ha:PA X [a,b] ta)(h1:zF a=true:=by rfl)(h2:zF b=true:=by rfl):
  PI X (.Tuple elts x1 tpos) (.Call (.Name "zip" p) [a,b] [] pos) (rL ta):=by
 intro pins s σ H R I h
 have hs2:starEach [b] X.env=[(false,eval b X.env)]:=QN h2
 refine Call_ (Qs I hg hm PyProof.Rows.boot_zip (PyProof.Rows.callWith_type1 (qD (ha pos pins s σ H _ I h) fun us s1 ⟨vs,H1,I1,r1,q1⟩=>?_) (by rw[QN h1,hs2]) (by rw[hs2];rfl)))
 obtain⟨a1,a2,xs,ys,e,e1,e2,q⟩:=q1
 subst e
 obtain⟨u,v,rfl,ru,rv⟩:=r1.two
 cases ru
 cases rv
 obtain⟨its,r1',p1,hz⟩:=I1.list (.inl e1)
 obtain⟨its2,r2',p2,hz2⟩:=I1.list (.inl e2)
 have ad:∀(n i j:Nat),i≠j->n+i≠n+j:=fun n i j h=>by omega
 refine call_zip_2 p1.isList p2.isList fun h' hz hTI hTO h1 h2 _ hk=>wpAny_pyIter_zip hz ?_
 refine⟨s1.heap.objs.size+4,[s1.heap.objs.size+4,s1.heap.objs.size+2,s1.heap.objs.size+3,s1.heap.objs.size,s1.heap.objs.size+1],_,_,H1,rfl,I1.kept (t':=s1.toks) hk,
  lP a1 a2 (s1.heap.objs.size+4) (s1.heap.objs.size+2) (s1.heap.objs.size+3) s1.heap.objs.size (s1.heap.objs.size+1) (ad _ 2 4 (by decide)) (ad _ 3 4 (by decide)) (ad _ 0 4 (by decide)) (ad _ 1 4 (by decide)) (ad _ 2 3 (by decide)) (ad _ 2 0 (by decide)) (ad _ 2 1 (by decide)) (ad _ 3 0 (by decide)) (ad _ 3 1 (by decide)) (ad _ 0 1 (by decide)),⟨hz,hTI,⟨_,_,hTO⟩,h1,h2⟩,fun b hb=>?_,q⟩
 have hb':s1.heap.objs.size<=b:=by
  simp only[List.mem_cons,List.not_mem_nil,or_false]at hb
  rcases hb with rfl|rfl|rfl|rfl|rfl
  ·exact Nat.le_add_right _ 4
  ·exact Nat.le_add_right _ 2
  ·exact Nat.le_add_right _ 3
  ·exact Nat.le_refl _
  ·exact Nat.le_add_right _ 1
 exact I1.fpOk hb' (I1.hok.fresh hb')
end
theorem mL{K:Frag}{js:List Nat}{te:TE}{σ:L2.St}{H:Hp}{Q:VK}{a1 a2:Addr}{xs ys:List V}(hl:xs.length=ys.length)(hn:xs.length<=sizeLine)(Pv:Nat->List V->Hp->Prop)(h0:Pv 0 [] H)
  (hk:∀i zs H,Pv i zs H->Rd H a1 (.lst xs)/\Rd H a2 (.lst ys))
  (hs:∀i zs H p x y,xs[i]? =some x->ys[i]? =some y->zs.length=i->Pv i zs H->H p=none->te (some x::some y::Qu js σ) (upd H p (.tup [x,y])) fun v H3=>Pv (i+1) (zs++[v]) H3)
  (hd:∀zs H,zs.length=xs.length->Pv xs.length zs H->∀p,H p=none->Q (.ref p) (upd H p (.lst zs))):
  cN 2 js (ee K 2 (ZN (Qe 0) (ZN (Qe 1) gB))) te σ Q (oJ a1 a2) H:=by
 refine⟨fun i m zs τ H=>m=xs.length-i/\i<=xs.length/\zs.length=i/\Pv i zs H/\∃o o',τ=o::o'::Qu js σ,⟨xs.length,by simp,Nat.zero_le _,rfl,h0,none,none,rfl⟩,?_⟩
 rintro i m zs τ H ⟨rfl,hi,hzl,p,o,o',rfl⟩
 obtain⟨e1,e2⟩:=hk i zs H p
 by_cases hlt:i<xs.length
 ·have hlt2:i<ys.length:=by omega
  refine .inr ⟨⟨xs,ys,xs[i],ys[i],e1,e2,by simp [hlt],by simp [hlt2]⟩,by omega,fun v H' y=>?_⟩
  obtain⟨pp,x,y,hp,rfl,hx,hy,rfl⟩:=y
  refine⟨pp,_,rfl,SqT.of qc,rfl,_,_,rfl,_,_,rfl,rfl,?_⟩
  exact⟨fun v H3=>Pv (i+1) (zs++[v]) H3,fun v H3 p3=>⟨xs.length-(i+1),by omega,rfl,hlt,by simp [hzl],p3,_,_,rfl⟩,hs i zs _ pp x y (hx xs e1) (hy ys e2) hzl p hp⟩
 ·have e:i=xs.length:=by omega
  subst e
  exact .inl ⟨⟨xs,e1,rfl⟩,hd zs H hzl p⟩
theorem rQ{X:Cx}{a b:Expr}{ta:TA}{p pos:Pos}{elts:List Expr}{x1}{tpos:Pos}(hg:Gl X "zip")(hm:X.mg "zip"=none)(ha:QA X [a,b] ta)(h1:zF a=true:=by rfl)(h2:zF b=true:=by rfl):
  QI X (.Tuple elts x1 tpos) (.Call (.Name "zip" p) [a,b] [] pos) (rL ta):=⟨tm hg hm ha.h h1 h2⟩
inductive Eqw (H:Hp):Nat->V->V->Prop where
 |int (n:Nat) (i:Int):Eqw H n (.int i) (.int i)
 |str (n:Nat) (x:Str):Eqw H n (.str x) (.str x)
 |non (n:Nat):Eqw H n .non .non
 | tup {n:Nat} {a b:Addr} {xs ys:List V} (h1:Rd H a (.tup xs)) (h2:Rd H b (.tup ys)) (hl:xs.length=ys.length) (hz:xs.length<=sizeLine)
   (hi:∀(i:Nat) (x y:V),xs[i]? =some x->ys[i]? =some y->Eqw H n x y):Eqw H (n+1) (.ref a) (.ref b)
 | lst {n:Nat} {a b:Addr} {xs ys:List V} (h1:H a=some (.lst xs)) (h2:H b=some (.lst ys)) (hl:xs.length=ys.length) (hz:xs.length<=sizeLine)
   (hi:∀(i:Nat) (x y:V),xs[i]? =some x->ys[i]? =some y->Eqw H n x y):Eqw H (n+1) (.ref a) (.ref b)
theorem Eqw.same{H H':Hp}(s:Same H H'):∀{n:Nat} {x y:V},Eqw H n x y->Eqw H' n x y:=fun h=>by
 induction h with
 |int n i=>exact .int n i
 |str n x=>exact .str n x
 |non n=>exact .non n
 |tup h1 h2 hl hz _ ih=>exact .tup (Rd.same s h1) (Rd.same s h2) hl hz ih
 |lst h1 h2 hl hz _ ih=>exact .lst (s _ _ h1) (s _ _ h2) hl hz ih
def vm(n:Nat):Sp:=fun vs H Q _=>∃x y,vs=[x,y]/\Eqw H n x y/\∀H',Same H H'->Q (.bl true) H'
end L3
namespace L3
open PySem PySem.Spec PyProof.Rows L2
section
variable(K:Frag)(C:Addr)(x:Xa)
end
section
variable{K:Frag}{C:Addr}{H H':Hp}{o:O3}{B:Bt}{bx:Addr}{n:Nat}
end
section
variable(K:Frag)(C:Addr)
end
section
variable{K:Frag}{CB CD:Addr}{H0 H H':Hp}{A:Sl->Addr}{I:Im}{S:St4}
end
section
variable{K:Frag}{CB CD:Addr}{H0 H H':Hp}{A:Sl->Addr}{I:Im}{S:St4}{cad:Addr}{cqs:List Cq}
end
section
variable{I:Im}{S:St4}
end
def KsT(K:Frag)(H:Hp)(b:Addr)(kss:List (List Int)):Prop:=∃as:List Addr,SqT K H b (as.map V.ref)/\as.length=kss.length/\∀(i:Nat) (a:Addr) (ks:List Int),as[i]? =some a->kss[i]? =some ks->SqT K H a (ks.map V.int)
theorem KsT.same{K:Frag}{H H':Hp}{b:Addr}{kss:List (List Int)}(h:KsT K H b kss)(s:Same H H'):KsT K H' b kss:=let⟨as,e,l,r⟩:=h;⟨as,Same.sqt s e,l,fun i a ks e1 e2=>Same.sqt s (r i a ks e1 e2)⟩
theorem KsT.upd{K:Frag}{C p dx:Addr}{H:Hp}{b:Addr}{kss:List (List Int)}{fs:List (Str×V)}{o:HO}(h:KsT K H b kss)(e:H p=some (.ins C dx fs)):KsT K (upd H p o) b kss:=let⟨as,eb,l,r⟩:=h;⟨as,bM e eb,l,fun i a ks e1 e2=>bM e (r i a ks e1 e2)⟩
theorem wF{X:Cx}{y1 y2 y3:Str}{c1 c2 c3:Addr}(h1:X.env.cells.lookup y1=some c1)(h2:X.env.cells.lookup y2=some c2)(h3:X.env.cells.lookup y3=some c3):
  ∀u e,([(y1,c1),(y2,c2),(y3,c3)]:List (Str×Addr)).lookup u=some e->X.env.cells.lookup u=some e:=cu h1 (cu h2 (cu h3 rO))
theorem wG{X:Cx}{scope:Scope}{y1 y2 y3:Str}{j1 j2 j3:Nat}(kind:scope.kind= .function)(names:∀x∈scope.names,x.2= .local->scope.names.lookup x.1=some .local)(nocell:∀x∈scope.names,x.2≠ .cell)
  (free:∀x∈scope.names,x.2= .free->x.1∈([y1,y2,y3]:List Str))(a1:X.N[j1]? =some y1)(a2:X.env.kindOf y1=some .cell)(a3:(relabel scope X.env).names.lookup y1=some .cell)
  (b1:X.N[j2]? =some y2)(b2:X.env.kindOf y2=some .cell)(b3:(relabel scope X.env).names.lookup y2=some .cell)(c1:X.N[j3]? =some y3)(c2:X.env.kindOf y3=some .cell)(c3:(relabel scope X.env).names.lookup y3=some .cell):BScope X scope [y1,y2,y3] [j1,j2,j3]:=
 ⟨kind,names,nocell,free,rfl,fun i j' y' e1 e2=>by
  match i with
  |0=>cases e1;cases e2;exact⟨a1,a2,a3⟩
  |1=>cases e1;cases e2;exact⟨b1,b2,b3⟩
  |2=>cases e1;cases e2;exact⟨c1,c2,c3⟩
  |i+3=>simp at e1⟩
section
variable{M:Model}{A:Around}{E:Value->Shared->Prop}{s:Shared}{base:Heap}{env:Env}{outer:List Env}{L e:Addr}{cls fl:Value}{dd:Option Addr}
end
end L3
namespace L3
open PySem PySem.Spec PySem.Calls PySem.W PyProof.Rows Builtin Builtin.ObjectAttr
section
variable{prog:Program}{w:World}{A:Around}{E:Value->Shared->Prop}{K:Frag}{h:Heap}{g:Array GenState}{d:Drawn}{t:Nat}{os:OsState}
variable{nm q:Str}{C N:Addr}{bs bm bmB:List Value}{hdct:Bool}{sn:List Str}{sub:List Value}{ab:Bool}{col:Option Bool}{dd:Option Addr}{k0 k1 k2 k3 k5:Option Value}{B newId initId:String}{e:Addr}
end
section
variable{prog:Program}{w:World}{A:Around}{E:Value->Shared->Prop}{K:Frag}{h:Heap}{g:Array GenState}{d:Drawn}{t:Nat}{os:OsState}
variable{nm q:Str}{C N:Addr}{bs bm bmB:List Value}{hdct:Bool}{sn:List Str}{sub:List Value}{ab:Bool}{col:Option Bool}{dd:Option Addr}{k0 k1 k2 k3 k5:Option Value}{B newId initId:String}{e:Addr}
end
section
variable{prog:Program}{w:World}{A:Around}{E:Value->Shared->Prop}{h:Heap}{g:Array GenState}{d:Drawn}{t:Nat}{os:OsState}
variable{nm q:Str}{C N:Addr}{bs bm bmB:List Value}{hdct:Bool}{sn:List Str}{sub:List Value}{ab:Bool}{col:Option Bool}{dd:Option Addr}{k0 k1 k2 k3 k5:Option Value}{B newId initId:String}{e:Addr}
end
end L3
namespace L3
open PySem PySem.Spec PyProof.Rows L2
end L3
namespace L3
open PySem PySem.Spec PySem.Calls PyProof.Rows L2
end L3
namespace L3
open PySem PySem.Spec PyProof.Rows L2
structure Ps where
 nm:Str
 age:Int
 ds:List Int
def PsAt(H:Hp)(p:Addr)(P:Ps):Prop:=PrAt H p P.nm P.age P.ds
structure PsOk(P:Ps):Prop where
 nm:zU P.nm
 l:P.ds.length=5
 dg:zp P.ds
def bD(D:Dr)(P:Ps):Option (Int×Int):=if Zc D P.age=true then QV D.t (Qc D P.age) P.nm P.ds else none
def lW(D:Dr)(P R:Ps):Str×Int×Kw:=match bD D P with
 |none=>("press",0,D.kn)
 |some (c,_)=>match bD D R with
  |none=>("press",1,D.kn)
  |some (c',_)=>if R.nm=P.nm/\R.age=P.age/\c'=c+1 then(match D.kn.lookup P.nm with
    |some _=>("known",0,D.kn)
    |none=>if(D.kn.length:Int)<D.most then("",0,za D.kn P.nm ⟨P.age,c',none⟩)else("full",0,D.kn))
   else("press",1,D.kn)
section
variable(K:Frag)(C:Addr)(x:Xa)
end
section
variable{D:Dr}{P R:Ps}{c c' d d':Int}
end
section
variable{K:Frag}{C:Addr}{H Hd Hc:Hp}{a:Ad}{n n':Nat}{D:Dr}{kn':Kw}{P R:Ps}
end
section
variable{X:Cx}
end
def iF(c:Nat):Bool:=decide (97<=c)&&decide (c<=122)
def um(z:Str):Bool:=z.cps.toList.all iF
def rD(z:Str):Bool:=decide (1<=z.length)&&decide (z.length<=8)&&um z
theorem nmB_iff{z:Str}:rD z=true↔zU z:=by
 unfold rD um zU
 rw[Bool.and_eq_true,Bool.and_eq_true,decide_eq_true_iff,decide_eq_true_iff,List.all_eq_true]
 have zl:z.length=z.cps.toList.length:=rfl
 rw[zl]
 constructor
 ·rintro⟨⟨h1,h2⟩,h3⟩
  refine⟨fun c hc=>?_,h1,h2⟩
  have:=h3 c hc
  unfold iF at this
  rw[Bool.and_eq_true,decide_eq_true_iff,decide_eq_true_iff]at this
  exact this
 ·rintro⟨h3,h1,h2⟩
  refine⟨⟨h1,h2⟩,fun c hc=>?_⟩
  unfold iF
  rw[decide_eq_true (h3 c hc).1,decide_eq_true (h3 c hc).2];rfl
theorem cS{a b:Nat}:([a]:List Nat)<[b]↔a<b:=by
 rw[List.cons_lt_cons_iff]
 constructor
 ·rintro(h|⟨_,h⟩)
  ·exact h
  ·exact absurd h (List.not_lt_nil _)
 ·exact .inl
theorem ki(c:Nat):(!decide ((⟨#[c]⟩:Str).cps.toList<("a":Str).cps.toList))=decide (97<=c)/\(!decide (("z":Str).cps.toList<(⟨#[c]⟩:Str).cps.toList))=decide (c<=122):=by
 have e1:("a":Str).cps.toList=[97]:=by decide +kernel
 have e2:("z":Str).cps.toList=[122]:=by decide +kernel
 rw[e1,e2]
 show(!decide ([c]<[97]))=_/\(!decide ([122]<[c]))=_
 constructor
 ·by_cases h:97<=c
  ·rw[decide_eq_true h,decide_eq_false (by rw[cS];omega)];rfl
  ·rw[decide_eq_false h,decide_eq_true (by rw[cS];omega)];rfl
 ·by_cases h:c<=122
  ·rw[decide_eq_true h,decide_eq_false (by rw[cS];omega)];rfl
  ·rw[decide_eq_false h,decide_eq_true (by rw[cS];omega)];rfl
theorem io{H:Hp}{x:V}{t:String}(h:kd H x=some t):Ty2 H x t:=by
 cases x with
 |non=>cases h;exact .non
 |bl b=>cases h;exact .bl b
 |int i=>cases h;exact .int i
 |str x=>cases h;exact .str x
 |byt b=>cases h
 |flt b=>cases h
 |ty b=>cases h
 |ref a=>
  rcases cJ h with⟨xs,e,rfl⟩|⟨xs,e,rfl⟩
  ·exact .lst e
  ·exact .tup (.inl e)
def vX(H:Hp)(x:V)(b:Bool):Prop:=(∃z,x= .str z/\z.cps.all (· <128)=true/\z.length<=100/\b=rD z)\/(∃t,kd H x=some t/\zk t "str"=false/\b=false)
def CdK(H:Hp)(x:V)(b:Bool):Prop:=(∃(p:Addr) (ds:List V),x= .ref p/\H p=some (.tup ds)/\ds.length<=100/\(∀v∈ds,∃t,kd H v=some t)/\b=(decide (ds.length=5)&&ds.all aq))\/(∃t,kd H x=some t/\zk t "tuple"=false/\b=false)
inductive TgB (H:Hp) (x:V):Bool->Prop where
 |kd {t:String} (h:kd H x=some t) (n:zk t "tuple"=false):TgB H x false
 |len {a:Addr} {xs:List V} (e:x= .ref a) (h:H a=some (.tup xs)) (l:xs.length<=100) (n:xs.length≠3):TgB H x false
 |tup {a:Addr} {n y c:V} {bn bc:Bool} {ty:String} (e:x= .ref a) (h:H a=some (.tup [n,y,c])) (hn:vX H n bn) (hy:L3.kd H y=some ty) (hc:CdK H c bc):TgB H x (bn&&cz y&&bc)
theorem CdK.same{H H':Hp}{x:V}{b:Bool}(s:Same H H')(h:CdK H x b):CdK H' x b:=h.elim (fun⟨p,ds,e,h1,h2,h3,h4⟩=> .inl ⟨p,ds,e,s _ _ h1,h2,(fun v hv=>let⟨t,ht⟩:=h3 v hv;⟨t,bL s ht⟩),h4⟩) (fun⟨t,h1,h2⟩=> .inr ⟨t,bL s h1,h2⟩)
def Tg(H:Hp)(x:V)(o:Option Ps):Prop:=match o with
 |none=>TgB H x false
 |some P=>∃pr,x= .ref pr/\PsAt H pr P/\PsOk P
theorem Tg.b{H:Hp}{x:V}{o:Option Ps}(h:Tg H x o):TgB H x o.isSome:=by
 cases o with
 |none=>exact h
 |some P=>
  obtain⟨pr,e,⟨pc,h1,h2⟩,ok⟩:=h
  have t:=TgB.tup (bn:=true) (bc:=true) e h1 (.inl ⟨P.nm,rfl,iB ok.nm,by have:=ok.nm.2.2;show P.nm.cps.toList.length<=100;omega,(nmB_iff.mpr ok.nm).symm⟩) (ty:="int") rfl (.inl ⟨pc,_,rfl,h2,by rw[List.length_map,ok.l];decide,(fun v hv=>by obtain⟨i,_,rfl⟩:=List.mem_map.mp hv;exact⟨_,rfl⟩),by rw[List.length_map,ok.l,nW ok.dg];rfl⟩)
  exact t
def fH:Sp:=fun vs H Q _=>∃x b,vs=[x]/\vX H x b/\∀H',Same H H'->Q (.bl b) H'
def ft:Sp:=fun vs H Q _=>∃x b,vs=[x]/\CdK H x b/\∀H',Same H H'->Q (.bl b) H'
def aI:Sp:=fun vs H Q _=>∃x b,vs=[x]/\TgB H x b/\∀H',Same H H'->Q (.bl b) H'
section
variable(K:Frag)(C:Addr)
def fg:Sp:=fun vs H Q _=>∃(p ta hk bd lg:Addr) (n:Nat) (D:Dr) (x:V) (o:Option Ps),vs=[.ref p,x]/\DoorAt K C H p ta hk bd lg n D/\DrOk D/\Tg H x o/\∀y H',Same H H'->aV H' y (o.bind (bD D))->Q y H'
end
section
variable(K:Frag)(C:Addr)(x:Xa)
end
section
variable{H H':Hp}{b:Addr}{n n':Nat}
end
section
variable{H:Hp}{a p:Addr}{z:Str}{i:Int}
end
section
variable{S:List Addr}{H H':Hp}
end
inductive Rw where
 |learn (P R:Ps)
 |forget (nm:Str)
 |turn (ks:List Int)
 |close (age:Int)
 |hear (P:Ps) (ans:List V)
def jT:V->Prop
 | .int _=>True
 | .str _=>True
 |_=>False
def RwAt(H:Hp)(a:Addr):Rw->Prop
 | .learn P R=>∃p1 p2,Rd H a (.tup [.str "learn",.ref p1,.ref p2])/\PsAt H p1 P/\PsAt H p2 R/\PsOk P/\PsOk R
 | .forget nm=>Rd H a (.tup [.str "forget",.str nm])
 | .turn ks=>∃k,Rd H a (.tup [.str "turn",.ref k])/\Rd H k (.tup (ks.map V.int))/\ks.length<=8
 | .close age=>Rd H a (.tup [.str "close",.int age])
 | .hear P ans=>∃p q,Rd H a (.tup [.str "hear",.ref p,.ref q])/\PsAt H p P/\PsOk P/\H q=some (.tup ans)/\ans.length<=3/\∀v∈ans,jT v
def RowsAt(H:Hp)(rs:List Addr)(L:List Rw):Prop:=rs.length=L.length/\∀(i:Nat) (a:Addr) (r:Rw),rs[i]? =some a->L[i]? =some r->RwAt H a r
def LogAt(H:Hp)(lg:Addr)(L:List Rw):Prop:=∃rs:List Addr,H lg=some (.lst (rs.map V.ref))/\RowsAt H rs L
def LogT(H:Hp)(t:Addr)(L:List Rw):Prop:=∃rs:List Addr,Rd H t (.tup (rs.map V.ref))/\RowsAt H rs L
section
variable{S:List Addr}{H H':Hp}{a lg t:Addr}{r:Rw}{rs:List Addr}{L:List Rw}
theorem RwAt.mv(m:Mv S H H')(n:NT S H)(h:RwAt H a r):RwAt H' a r:=by
 cases r with
 |learn P R=>obtain⟨p1,p2,h1,h2,h3,h4⟩:=h;exact⟨p1,p2,m.rd n h1,PrAt.mv m n h2,PrAt.mv m n h3,h4⟩
 |forget nm=>exact m.rd n h
 |turn ks=>obtain⟨k,h1,h2,h3⟩:=h;exact⟨k,m.rd n h1,m.rd n h2,h3⟩
 |close age=>exact m.rd n h
 |hear P ans=>obtain⟨p,q,h1,h2,h3,h4,h5⟩:=h;exact⟨p,q,m.rd n h1,PrAt.mv m n h2,h3,m.tup n h4,h5⟩
theorem RowsAt.mv(m:Mv S H H')(n:NT S H)(h:RowsAt H rs L):RowsAt H' rs L:=⟨h.1,fun i a r e1 e2=>(h.2 i a r e1 e2).mv m n⟩
theorem LogAt.mv(m:Mv S H H')(n:NT S H)(hl:lg∉S)(h:LogAt H lg L):LogAt H' lg L:=let⟨rs,e,r⟩:=h;⟨rs,m _ _ hl e,r.mv m n⟩
theorem LogT.mv(m:Mv S H H')(n:NT S H)(h:LogT H t L):LogT H' t L:=let⟨rs,e,r⟩:=h;⟨rs,m.rd n e,r.mv m n⟩
theorem aM:NT [] H:=fun c h=>nomatch h
theorem RowsAt.same(s:Same H H')(h:RowsAt H rs L):RowsAt H' rs L:=h.mv (S:=[]) s.mv aM
theorem LogAt.same(s:Same H H')(h:LogAt H lg L):LogAt H' lg L:=h.mv (S:=[]) s.mv aM (fun z=>nomatch z)
theorem LogT.same(s:Same H H')(h:LogT H t L):LogT H' t L:=h.mv (S:=[]) s.mv aM
theorem RowsAt.add(h:RowsAt H rs L)(hr:RwAt H a r):RowsAt H (rs++[a]) (L++[r]):=by
 refine⟨by simp [h.1],fun i b q e1 e2=>?_⟩
 by_cases hi:i<rs.length
 ·rw[List.getElem?_append_left hi]at e1
  rw[List.getElem?_append_left (by rw[<- h.1];exact hi)]at e2
  exact h.2 i b q e1 e2
 ·rw[List.getElem?_append_right (by omega)]at e1
  rw[List.getElem?_append_right (by rw[<- h.1];omega),<- h.1]at e2
  cases e:i-rs.length with
  |zero=>rw[e]at e1 e2;cases e1;cases e2;exact hr
  |succ k=>rw[e]at e1;cases e1
theorem nO{n:Nat}{v:V}(h:jT v):Eqv H n v v:=by
 cases v with
 |int i=>exact .int _ _
 |str i=>exact .str _ _
 |_=>exact h.elim
theorem PsAt.eqv{p q:Addr}{P:Ps}(h1:PsAt H p P)(h2:PsAt H q P)(o:PsOk P):Eqv H 2 (.ref p) (.ref q):=by
 obtain⟨c1,a1,b1⟩:=h1
 obtain⟨c2,a2,b2⟩:=h2
 refine .tup (.inl a1) (.inl a2) rfl (by show 3<=sizeLine;decide) fun i x y ex ey=>?_
 match i,ex,ey with
 |0,ex,ey=>cases ex;cases ey;exact .str _ _
 |1,ex,ey=>cases ex;cases ey;exact .int _ _
 |2,ex,ey=>cases ex;cases ey;exact .ints (.inl b1) (.inl b2) (by rw[o.l];decide)
 |i+3,ex,ey=>cases ex
theorem RwAt.eqv{b:Addr}(h1:RwAt H a r)(h2:RwAt H b r):Eqv H 3 (.ref a) (.ref b):=by
 cases r with
 |learn P R=>
  obtain⟨p1,p2,e1,e2,e3,o1,o2⟩:=h1
  obtain⟨q1,q2,f1,f2,f3,_⟩:=h2
  refine .tup e1 f1 rfl (by show 3<=sizeLine;decide) fun i x y ex ey=>?_
  match i,ex,ey with
  |0,ex,ey=>cases ex;cases ey;exact .str _ _
  |1,ex,ey=>cases ex;cases ey;exact PsAt.eqv e2 f2 o1
  |2,ex,ey=>cases ex;cases ey;exact PsAt.eqv e3 f3 o2
  |i+3,ex,ey=>cases ex
 |forget nm=>
  refine .tup (n:=2) h1 h2 rfl (by show 2<=sizeLine;decide) fun i x y ex ey=>?_
  match i,ex,ey with
  |0,ex,ey=>cases ex;cases ey;exact .str _ _
  |1,ex,ey=>cases ex;cases ey;exact .str _ _
  |i+2,ex,ey=>cases ex
 |turn ks=>
  obtain⟨k1,e1,e2,e3⟩:=h1
  obtain⟨k2,f1,f2,_⟩:=h2
  refine .tup (n:=2) e1 f1 rfl (by show 2<=sizeLine;decide) fun i x y ex ey=>?_
  match i,ex,ey with
  |0,ex,ey=>cases ex;cases ey;exact .str _ _
  |1,ex,ey=>cases ex;cases ey;exact .ints e2 f2 (by rw[sizeLine_eq];omega)
  |i+2,ex,ey=>cases ex
 |close age=>
  refine .tup (n:=2) h1 h2 rfl (by show 2<=sizeLine;decide) fun i x y ex ey=>?_
  match i,ex,ey with
  |0,ex,ey=>cases ex;cases ey;exact .str _ _
  |1,ex,ey=>cases ex;cases ey;exact .int _ _
  |i+2,ex,ey=>cases ex
 |hear P ans=>
  obtain⟨p1,p2,e1,e2,o1,e3,e4,e5⟩:=h1
  obtain⟨q1,q2,f1,f2,_,f3,_⟩:=h2
  refine .tup e1 f1 rfl (by show 3<=sizeLine;decide) fun i x y ex ey=>?_
  match i,ex,ey with
  |0,ex,ey=>cases ex;cases ey;exact .str _ _
  |1,ex,ey=>cases ex;cases ey;exact PsAt.eqv e2 f2 o1
  |2,ex,ey=>
   cases ex;cases ey
   refine .tup (n:=1) (.inl e3) (.inl f3) rfl (by rw[sizeLine_eq];omega) fun i x y ex ey=>?_
   rw[ex]at ey;cases ey
   exact nO (e5 _ (List.mem_of_getElem? ex))
  |i+3,ex,ey=>cases ex
theorem LogT.eqv{t':Addr}(h1:LogT H t L)(h2:LogT H t' L)(hl:L.length<=2000):Eqv H 4 (.ref t) (.ref t'):=by
 obtain⟨rs,e1,l1,r1⟩:=h1
 obtain⟨qs,e2,l2,r2⟩:=h2
 refine .tup e1 e2 (by simp [l1,l2]) (by rw[List.length_map,l1,sizeLine_eq];omega) fun i x y ex ey=>?_
 rw[List.getElem?_map]at ex ey
 cases q1:rs[i]? with
 |none=>rw[q1]at ex;cases ex
 |some a=>
  cases q2:qs[i]? with
  |none=>rw[q2]at ey;cases ey
  |some b=>
   rw[q1]at ex;rw[q2]at ey;cases ex;cases ey
   have hi:i<L.length:=by rw[<- l1];exact(List.getElem?_eq_some_iff.mp q1).1
   exact(r1 i a _ q1 (List.getElem?_eq_getElem hi)).eqv (r2 i b _ q2 (List.getElem?_eq_getElem hi))
end
theorem _root_.L2.SqT.up{K:Frag}{H:Hp}{a:Addr}{xs:List V}(h:SqT [] H a xs):SqT K H a xs:=h.elim .inl fun⟨_,_,_,z,_⟩=>nomatch z
theorem _root_.L2.SqT.rd{H:Hp}{a:Addr}{xs:List V}(h:SqT [] H a xs):Rd H a (.tup xs):=h.elim id fun⟨_,_,_,z,_⟩=>nomatch z
theorem KsAt.up{K:Frag}{H:Hp}{a:Addr}{kss:List (List Int)}(h:KsAt [] H a kss):KsAt K H a kss:=let⟨as,e,l,r⟩:=h;⟨as,e,l,fun i a ks e1 e2=>(r i a ks e1 e2).up⟩
def jF(K:Frag)(C:Addr):Sp:=fun vs H Q _=>∃(p a b dx:Addr) (near far most:Int) (t:List Int) (kss:List (List Int)),vs=[.ref p,.ref a,.ref b,.int near,.int far,.int most]/\H p=some (.ins C dx [])/\Sq K H a (t.map V.int)/\KsAt [] H b kss/\kss.length<=8/\
 ∀ta hk bd lg H',H hk=none->H bd=none->H lg=none->Mv [p] H H'->DoorAt K C H' p ta hk bd lg 0 ⟨t,kss,near,far,most,0,[]⟩->KsAt [] H' hk kss->Q .non H'
def iP(K:Frag)(C:Addr):Sp:=fun vs H Q _=>∃(p a b dx:Addr) (near far most:Int) (t:List Int) (kss:List (List Int)),vs=[.ref p,.ref a,.ref b,.int near,.int far,.int most]/\H p=some (.ins C dx [])/\Sq K H a (t.map V.int)/\KsT [] H b kss/\kss.length<=8/\
 ∀ta hk bd lg H',H hk=none->H bd=none->H lg=none->Mv [p] H H'->DoorAt K C H' p ta hk bd lg 0 ⟨t,kss,near,far,most,0,[]⟩->KsAt [] H' hk kss->Q .non H'
structure Da where
 p:Addr
 ta:Addr
 hk:Addr
 bd:Addr
 lg:Addr
structure DlAt(K:Frag)(C:Addr)(H:Hp)(a:Da)(D:Dr)(L:List Rw):Prop where
 dr:DoorAt K C H a.p a.ta a.hk a.bd a.lg L.length D
 lo:LogAt H a.lg L
 kr:KsAt [] H a.hk D.kss
section
variable{K:Frag}{C:Addr}{S:List Addr}{H H':Hp}{a:Da}{D:Dr}{L:List Rw}{r:Addr}{rw:Rw}{rs:List Addr}
theorem DlAt.mv(b:DlAt K C H a D L)(m:Mv S H H')(nt:NT S H)(hp:a.p∉S)(hh:a.hk∉S)(hb:a.bd∉S)(hl:a.lg∉S):DlAt K C H' a D L:=⟨b.dr.mv m nt hp hh hb hl,b.lo.mv m nt hl,KsAt.mv m nt hh b.kr⟩
theorem DlAt.same(b:DlAt K C H a D L)(s:Same H H'):DlAt K C H' a D L:=⟨b.dr.same s,b.lo.same s,KsAt.same s b.kr⟩
theorem DlAt.push(b:DoorAt K C H a.p a.ta a.hk a.bd a.lg L.length D)(el:H a.lg=some (.lst (rs.map V.ref)))(ro:RowsAt H rs L)(kr:KsAt [] H a.hk D.kss)(hr:RwAt H r rw):DlAt K C (upd H a.lg (.lst (rs.map V.ref++[.ref r]))) a D (L++[rw]):=by
 have nt:NT [a.lg] H:=NT.one el trivial
 have e:=b.putL (r:=r) el (Nat.le_of_eq ro.1)
 rw[show L.length+1=(L++[rw]).length by simp]at e
 exact⟨e,⟨rs++[r],by rw[qc,List.map_append];rfl,(ro.add hr).mv Mv.upd1 nt⟩,KsAt.mv Mv.upd1 nt (qR b.ne.symm) kr⟩
theorem pN{p ta hk bd lg:Addr}{n:Nat}{f0:List (qJ×V)}(e:H bd=some (.dK f0))(b:DoorAt K C H p ta hk bd lg n D):hk≠bd:=by
 obtain⟨as,eh,_⟩:=b.ks
 exact zI eh e (by intro z;cases z)
theorem uO{p ta hk bd lg dx:Addr}{n:Nat}{f0:List (Str×V)}(e:H p=some (.ins C dx f0))(b:DoorAt K C H p ta hk bd lg n D):hk≠p:=by
 obtain⟨as,eh,_⟩:=b.ks
 exact zI eh e (by intro z;cases z)
theorem DoorAt.dl{p ta hk bd lg:Addr}(b:DoorAt K C H p ta hk bd lg 0 D)(kr:KsAt [] H hk D.kss):DlAt K C H ⟨p,ta,hk,bd,lg⟩ D []:=by
 obtain⟨rs,e,l⟩:=id b.lo
 obtain rfl:rs=[]:=List.length_eq_zero_iff.mp (Nat.le_zero.mp l)
 exact⟨b,⟨[],e,rfl,fun i a r h=>by cases h⟩,kr⟩
end
inductive Dd where
 |learn (o1 o2:Option Ps)
 |forget (nm:Str)
 |turn (ks:List Int)
 |close (age:Int)
 |hear (o:Option Ps)
def Zh(D:Dr)(P:Ps):List V×Kw:=qQ D P.nm P.age (QV D.t (Qc D P.age) P.nm P.ds)
def wI(D:Dr):Dd->Option (Dr×Rw)
 | .learn (some P) (some R)=>if(lW D P R).1="" then some ({D with kn:=(lW D P R).2.2},.learn P R)else none
 | .learn _ _=>none
 | .forget nm=>if D.kn.lookup nm=none then none else some ({D with kn:=D.kn.filter fun p=>decide (p.1≠nm)},.forget nm)
 | .turn ks=>if D.kss.length<8 then some ({D with kss:=D.kss++[ks]},.turn ks)else none
 | .close age=>some ({D with least:=if age>D.least then age else D.least},.close age)
 | .hear (some P)=>some ({D with kn:=(Zh D P).2},.hear P (Zh D P).1)
 | .hear none=>none
section
variable(K:Frag)(C:Addr)(x:Xa)
def eM:Sp:=fun vs H Q _=>∃(a:Da) (D:Dr) (L:List Rw) (x:V) (o:Option Ps),vs=[.ref a.p,x]/\DlAt K C H a D L/\L.length<=1000/\DrOk D/\Tg H x o/\
 (o=none->∀q H',Same H H'->H' q=some (.tup [.str "held",.str "bad"])->Q (.ref q) H')/\
 ∀P,o=some P->∀pr q H',x= .ref pr->Mv [a.bd,a.lg] H H'->PsAt H' pr P->H' q=some (.tup (Zh D P).1)->DlAt K C H' a {D with kn:=(Zh D P).2} (L++[.hear P (Zh D P).1])->Q (.ref q) H'
def wM(H:Hp)(k:Addr)(ks:List Int):Prop:=H k=some (.lst (ks.map V.int))\/Rd H k (.tup (ks.map V.int))
def ie:Sp:=fun vs H Q _=>∃(a:Da) (D:Dr) (L:List Rw) (age:Int),vs=[.ref a.p,.int age]/\DlAt K C H a D L/\L.length<=1000/\
 ∀D' r,wI D (.close age)=some (D',r)->∀H',Mv [a.p,a.lg] H H'->DlAt K C H' a D' (L++[r])->Q .non H'
def l6:Sp:=fun vs H Q _=>∃(a:Da) (D:Dr) (L:List Rw),vs=[.ref a.p]/\DlAt K C H a D L/\∀t H',Same H H'->LogT H' t L->Q (.ref t) H'
def jr:Sp:=fun vs H Q _=>∃(a:Da) (D:Dr) (L:List Rw),vs=[.ref a.p]/\DlAt K C H a D L/\D.kss.length<=8/\
 ∀a' H',Same H H'->H a'.p=none->H a'.hk=none->H a'.bd=none->H a'.lg=none->DlAt K C H' a' D L->Q (.ref a'.p) H'
end
theorem cf{X:Cx}:qY X (.type "tuple") (fun xs H Q=>∃kt ks,xs=[.ref kt]/\wM H kt ks/\∀t H2,Same H H2->Rd H2 t (.tup (ks.map V.int))->Q (.ref t) H2):=by
 intro pins s σ H xs us Q I r h
 obtain⟨kt,ks,e,h,q⟩:=h
 refine qS pins s σ H xs us Q I r ⟨kt,ks.map V.int,e,?_⟩
 rcases h with h|h
 ·exact .inl ⟨SqL.of h,fun t ht=>q t _ (Same.upd ht) (.inl qc)⟩
 ·exact .inr ⟨.inl h,q kt _ (Same.refl _) h⟩
section
variable{D:Dr}{P R:Ps}{o1 o2:Option Ps}
theorem e7(D:Dr)(nm:Str)(age:Int)(r:Option (Int×Int)):(qQ D nm age r).1.length<=3/\∀v∈(qQ D nm age r).1,jT v:=by
 have two:∀a b:Str,([V.str a,.str b]:List V).length<=3/\∀v∈([V.str a,.str b]:List V),jT v:=fun a b=>⟨by show 2<=3;decide,fun v hv=>by simp at hv;rcases hv with rfl|rfl<;>trivial⟩
 have three:∀(a b:Str) (i:Int),([V.str a,.str b,.int i]:List V).length<=3/\∀v∈([V.str a,.str b,.int i]:List V),jT v:=fun a b i=>⟨by show 3<=3;decide,fun v hv=>by simp at hv;rcases hv with rfl|rfl|rfl<;>trivial⟩
 unfold qQ
 split
 ·exact two _ _
 ·split
  ·split
   ·exact two _ _
   ·split
    ·exact three _ _ _
    ·exact two _ _
  ·exact two _ _
theorem nF(D:Dr)(P:Ps):(Zh D P).1.length<=3:=(e7 ..).1
theorem ot(D:Dr)(P:Ps):∀v∈(Zh D P).1,jT v:=(e7 ..).2
end
section
open SeqAt
variable{X:Cx}
end
theorem rZ{t u:TS}{D:Ends}{σ:L2.St}{H:Hp}(G:L2.St->Hp->Prop)(h:∀D':Ends,D'.rt=D.rt->(∀σ' H',G σ' H'->D'.nx σ' H')->t D' σ H)(hG:∀σ' H',G σ' H'->u D σ' H'):iz t u D σ H:=h {D with nx:=u D} rfl hG
section
variable{K:Frag}{C:Addr}{S:List Addr}{H H':Hp}{v:Wa}{W:Wo}
theorem KsT.mv{b:Addr}{kss:List (List Int)}(h:KsT K H b kss)(m:Mv S H H')(n:NT S H):KsT K H' b kss:=let⟨as,e,l,r⟩:=h;⟨as,m.sqt n e,l,fun i a ks e1 e2=>m.sqt n (r i a ks e1 e2)⟩
end
structure KlOk(D:Dr)(e:Kb):Prop where
 a0:0<=e.age
 a1:e.age<D.kss.length
 l0:1<=e.last
 l1:e.last<4096
 w:∀x c,e.wt=some (x,c)->e.age<=x/\x<D.kss.length/\e.last+D.near<c/\c<=e.last+D.far/\0<=c/\c<4096
section
variable{K:Frag}{C:Addr}{H H':Hp}{b:Addr}{v:Wa}{W:Wo}{a:Da}{D D':Dr}{L:List Rw}
def dS(a:Da):List Addr:=[a.p,a.hk,a.bd,a.lg]
theorem DlAt.nt(d:DlAt K C H a D L):NT (dS a) H:=fun c hc=>by
 obtain⟨dx,ep⟩:=id d.dr.ob
 obtain⟨f0,hd,_⟩:=id d.dr.kb
 obtain⟨as,eh,_⟩:=id d.dr.ks
 obtain⟨rs,el,_⟩:=id d.lo
 simp only[dS,List.mem_cons,List.not_mem_nil,or_false]at hc
 rcases hc with rfl|rfl|rfl|rfl
 ·exact⟨_,ep,trivial⟩
 ·exact⟨_,eh,trivial⟩
 ·exact⟨_,hd,trivial⟩
 ·exact⟨_,el,trivial⟩
theorem DlAt.outD{x:Addr}{xs:List (qJ×V)}(d:DlAt K C H a D L)(hx:H x=some (.dK xs))(n1:x≠a.bd):x∉dS a:=fun hc=>by
 obtain⟨dx,ep⟩:=id d.dr.ob
 obtain⟨as,eh,_⟩:=id d.dr.ks
 obtain⟨rs,el,_⟩:=id d.lo
 simp only[dS,List.mem_cons,List.not_mem_nil,or_false]at hc
 rcases hc with z|z|z|z
 ·rw[z,ep]at hx;cases hx
 ·rw[z,eh]at hx;cases hx
 ·exact n1 z
 ·rw[z,el]at hx;cases hx
end
section
variable(K:Frag)(C:Addr)
end
theorem KlOk.mono{D D':Dr}{e:Kb}(k:KlOk D e)(h:D.kss.length<=D'.kss.length)(hn:D'.near=D.near:=by rfl)(hf:D'.far=D.far:=by rfl):KlOk D' e:=⟨k.a0,by have:=k.a1;omega,k.l0,k.l1,fun x c z=>by have:=k.w x c z;rw[hn,hf];omega⟩
theorem oo{D:Dr}{e:Kb}{age c:Int}(k:KlOk D e)(a0:e.age<=age)(a1:age<D.kss.length)(c0:0<=c)(c1:c<4096):KlOk D (zh D.near D.far e age c).2:=by
 have e0:=k.a0
 have l0:=k.l0
 have new:e.last<c->KlOk D ⟨age,c,none⟩:=fun h=>⟨by show 0<=age;omega,a1,by show 1<=c;omega,c1,fun x y z=>by cases z⟩
 unfold zh
 split
 ·exact k
 ·split
  ·exact new (by omega)
  ·split
   ·split
    ·exact new (by omega)
    ·exact⟨k.a0,k.a1,k.l0,k.l1,fun x y z=>by cases z;exact⟨a0,a1,by show e.last+D.near<c;omega,by show c<=e.last+D.far;omega,c0,c1⟩⟩
   ·exact k
theorem je{kn:Kw}{nm:Str}{e:Kb}(h:nm∈kn.map (·.1)):(za kn nm e).length=kn.length:=by
 unfold za;rw[if_pos h,List.length_map]
theorem kI{D:Dr}{e:Kb}{age:Int}(h:ze D e age=true):e.age<=age:=by
 unfold ze at h
 rw[Bool.and_eq_true]at h
 exact of_decide_eq_true h.2
theorem iD{i:Nat}{v:V}{σ:L2.St}{H:Hp}{t u:TS}{D:Ends}{rt:VK}{bk ct:L2.St->Hp->Prop}(G:L2.St->Hp->Prop)(h:∀D':Ends,D'.rt=D.rt->(∀σ' H',G σ' H'->D'.nx σ' H')->t D' (σ.set i (some v)) H)(hG:∀σ' H',G σ' H'->u D σ' H'):Qe i v σ H (Ends.nx {nx:=iz t u D,rt:=rt,bk:=bk,ct:=ct}):=h {D with nx:=u D} rfl hG
theorem vd{K:Frag}{H:Hp}{D:Dr}{age:Int}{as:List Addr}(la:as.length=D.kss.length)(hks:∀(i:Nat) (a:Addr) (ks:List Int),as[i]? =some a->D.kss[i]? =some ks->SqT K H a (ks.map V.int))(h0:0<=age)(h1:age<D.kss.length):∃ak,zV (as.map V.ref) age=some (.ref ak)/\SqT K H ak ((Qc D age).map V.int):=by
 obtain⟨i,rfl⟩:∃i:Nat,age=(i:Int):=⟨age.toNat,by omega⟩
 have hi:i<D.kss.length:=by omega
 have hi':i<as.length:=by omega
 refine⟨as[i],Qm (by rw[List.getElem?_map,List.getElem?_eq_getElem hi'];rfl),?_⟩
 have:=hks i as[i] D.kss[i] (List.getElem?_eq_getElem hi') (List.getElem?_eq_getElem hi)
 unfold Qc
 rw[Int.toNat_natCast,List.getD_eq_getElem?_getD,List.getElem?_eq_getElem hi]
 exact this
theorem sN{nms:List Str}{r:Int}(h0:0<=r)(h1:r<((nms.map V.str).length:Int))(ok:∀z∈nms,zU z):∃z:Str,zV (nms.map V.str) r=some (.str z)/\zU z:=by
 obtain⟨x,hx,hm⟩:=QL (xs:=nms.map V.str) h0 h1
 obtain⟨z,hz,rfl⟩:=List.mem_map.mp hm
 exact⟨z,hx,ok z hz⟩
section
variable{σ:L2.St}{H:Hp}{tc:TT}{t u r:TS}{D:Ends}{rt:VK}{bk ct:L2.St->Hp->Prop}
end
theorem wN{a:Da}{H H':Hp}(m:Mv [a.p,a.lg] H H'):Mv (dS a) H H':=m.mono fun c h z=>h (by simp only[dS,List.mem_cons,List.not_mem_nil,or_false]at z⊢;rcases z with z|z<;>simp [z])
section
variable{K:Frag}{C:Addr}{H0 H H':Hp}{b:Addr}{v:Wa}{W:Wo}{a:Da}{D D':Dr}{L R:List Rw}{rl q:Addr}{r:Rw}{rs:List Addr}
end
section
variable{K:Frag}{H H':Hp}{a g:Addr}{r:Rw}{L:List Rw}{rs:List Addr}{xs:List V}
end
section
variable(K:Frag)(C:Addr)
end
section
variable{K:Frag}{S:List Addr}{H H':Hp}{a t x:Addr}{r:Rw}{L M:List Rw}{rs:List Addr}
end
section
variable(K:Frag)(C:Addr)
end
theorem Wt.same{H H':Hp}{v:V}{o:Option (Int×Int)}(s:Same H H')(h:Wt H v o):Wt H' v o:=h.mv (S:=[]) s.mv aM
section
variable{K:Frag}{H H':Hp}{a b:Addr}{r:Rw}{L:List Rw}
end
theorem ko{kn:Kw}{nm:Str}(h:nm∉kn.map (·.1)):kn.lookup nm=none:=by
 cases e:kn.lookup nm with
 |none=>rfl
 |some x=>exact absurd (lookup_mem_iff.mp (by rw[e];rfl)) h
section
variable(K:Frag)(C:Addr)
end
section
variable{K:Frag}{H:Hp}
theorem Eqv.eqk{n:Nat}{x y:V}(h:Eqv H n x y):Eqk K H n x y:=by
 induction h with
 |int n i=>exact .int n i
 |str n z=>exact .str n z
 |non n=>exact .non n
 |tup h1 h2 hl _ _ ih=>exact .tup (.inl h1) (.inl h2) hl ih
theorem nX{a b:Addr}{ns:List Int}{n:Nat}(h1:SqT K H a (ns.map V.int))(h2:SqT K H b (ns.map V.int)):Eqk K H (n+1) (.ref a) (.ref b):=by
 refine .tup h1 h2 rfl fun i x y e1 e2=>?_
 rw[e1]at e2;cases e2
 rw[List.getElem?_map]at e1
 cases h:ns[i]? with
 |none=>rw[h]at e1;cases e1
 |some v=>rw[h]at e1;cases e1;exact .int _ _
theorem me{p q:Addr}{ss:List Str}{k1 k2:Kw}(h1:ShAt H p ss k1)(h2:ShAt H q ss k2)(hs:∀nm∈ss,nm∈k1.map (·.1))(he:∀nm,k2.lookup nm=k1.lookup nm):Eqk K H 3 (.ref p) (.ref q):=by
 obtain⟨as,e1,l1,r1⟩:=h1
 obtain⟨bs,e2,l2,r2⟩:=h2
 refine .tup (SqT.of e1) (SqT.of e2) (by simp [l1,l2]) fun i x y ex ey=>?_
 rw[List.getElem?_map]at ex ey
 cases q1:as[i]? with
 |none=>rw[q1]at ex;cases ex
 |some a=>
  cases q2:bs[i]? with
  |none=>rw[q2]at ey;cases ey
  |some b=>
   rw[q1]at ex;rw[q2]at ey;cases ex;cases ey
   have hi:i<ss.length:=by rw[<- l1];exact(List.getElem?_eq_some_iff.mp q1).1
   have hn:=List.getElem?_eq_getElem hi
   obtain⟨e,hee⟩:=aP (hs _ (List.getElem_mem hi))
   obtain⟨v1,t1,w1⟩:=r1 i a _ e q1 hn hee
   obtain⟨v2,t2,w2⟩:=r2 i b _ e q2 hn (by rw[he];exact hee)
   refine .tup (SqT.of t1) (SqT.of t2) rfl fun j x y ex ey=>?_
   match j,ex,ey with
   |0,ex,ey=>cases ex;cases ey;exact .str _ _
   |1,ex,ey=>cases ex;cases ey;exact .int _ _
   |2,ex,ey=>cases ex;cases ey;exact .int _ _
   |3,ex,ey=>
    cases ex;cases ey
    cases hw:e.wt with
    |none=>
     rw[hw]at w1 w2
     have w1:v1= .non:=w1
     have w2:v2= .non:=w2
     rw[w1,w2];exact .non _
    |some xc=>
     rw[hw]at w1 w2
     obtain⟨z1,rfl,u1⟩:=w1
     obtain⟨z2,rfl,u2⟩:=w2
     exact nX (ns:=[xc.1,xc.2]) (SqT.of u1) (SqT.of u2)
   |j+4,ex,ey=>cases ex
theorem Eqk.up{n:Nat}{x y:V}(h:Eqk K H n x y):Eqk K H (n+1) x y:=by
 induction h with
 |int n i=>exact .int _ i
 |str n z=>exact .str _ z
 |non n=>exact .non _
 |tup h1 h2 hl _ ih=>exact .tup h1 h2 hl ih
end
section
variable(K:Frag)(C:Addr)
end
section
variable{D:Dr}{M:Kw}(pm:M.Perm D.kn)(nd:(D.kn.map (·.1)).Nodup)
include pm nd
end
theorem nw{a:Da}{x:Addr}(h:x∈dS a):x=a.p\/x=a.hk\/x=a.bd\/x=a.lg:=by
 simpa only[dS,List.mem_cons,List.not_mem_nil,or_false]using h
theorem tI(a:Da):a.p∈dS a:=by simp [dS]
theorem pY(a:Da):a.hk∈dS a:=by simp [dS]
theorem pJ(a:Da):a.bd∈dS a:=by simp [dS]
theorem rg(a:Da):a.lg∈dS a:=by simp [dS]
section
variable{K:Frag}{C:Addr}{H0 H H':Hp}{b:Addr}{v:Wa}{W:Wo}{a a2:Da}{D D' E:Dr}{L L' M:List Rw}
end
section
variable{K:Frag}{H H':Hp}{a g t:Addr}{r:Rw}{L:List Rw}{xs:List V}
end
section
variable(K:Frag)(C:Addr)
end
theorem oI{a:Da}{H H1 H2:Hp}(s:Same H H1)(m:Mv (dS a) H1 H2)(h:∀z∈dS a,H z=none):Same H H2:=fun c o e=>m c o (fun z=>by rw[h c z]at e;cases e) (s c o e)
section
variable{H H':Hp}{S:List Addr}{a m n:Addr}{r:Rw}{L:List Rw}
end
theorem iQ{a:Da}{H H':Hp}(m:Mv [a.bd,a.lg] H H'):Mv (dS a) H H':=m.mono (fun c h z=>h (by simp [dS]at z⊢;rcases z with z|z<;>simp [z]))
theorem ShAt.mv{S:List Addr}{H H':Hp}{q:Addr}{ss:List Str}{kn:Kw}(h:ShAt H q ss kn)(m:Mv S H H')(nt:NT S H):ShAt H' q ss kn:=let⟨as,e,l,r⟩:=h;⟨as,m.tup nt e,l,fun i a nm x e1 e2 e3=>let⟨v,h1,h2⟩:=r i a nm x e1 e2 e3;⟨v,m.tup nt h1,h2.mv m nt⟩⟩
def bv(D:Dr)(kd:Addr):List (qJ×V):=[(.inr "near",.int D.near),(.inr "far",.int D.far),(.inr "keys",.int (D.kss.length:Int)),(.inr "closed",.int D.least),(.inr "known",.ref kd)]
theorem nh(D:Dr)(kd:Addr):((bv D kd).map (·.1)).Nodup:=by
 have:([.inr "near",.inr "far",.inr "keys",.inr "closed",.inr "known"]:List qJ).Nodup:=by decide +kernel
 exact this
theorem pB(D:Dr)(kd:Addr):QX [] (bv D kd)=bv D kd:=by
 have:=iq (bv D kd) [] (nh D kd)
 rwa [List.nil_append]at this
structure MdAt(H:Hp)(m kd:Addr)(D:Dr):Prop where
 di:H m=some (.dK (bv D kd))
 kn:KnAt H kd D.kn
 ne:m≠kd
section
variable{S:List Addr}{H H':Hp}{m kd:Addr}{D:Dr}
theorem MdAt.get(a:MdAt H m kd D)(i:Nat){k:qJ}{x:V}(h:(bv D kd)[i]? =some (k,x)):DGet H m (kV k) (some x):=by
 have:=DGet.k (k:=k) a.di
 rw[jX i h (nh ..)]at this
 exact this
theorem MdAt.g_near(a:MdAt H m kd D):DGet H m (.str "near") (some (.int D.near)):=a.get (k:= .inr "near") 0 rfl
theorem MdAt.g_far(a:MdAt H m kd D):DGet H m (.str "far") (some (.int D.far)):=a.get (k:= .inr "far") 1 rfl
theorem MdAt.g_keys(a:MdAt H m kd D):DGet H m (.str "keys") (some (.int (D.kss.length:Int))):=a.get (k:= .inr "keys") 2 rfl
theorem MdAt.g_closed(a:MdAt H m kd D):DGet H m (.str "closed") (some (.int D.least)):=a.get (k:= .inr "closed") 3 rfl
theorem MdAt.g_known(a:MdAt H m kd D):DGet H m (.str "known") (some (.ref kd)):=a.get (k:= .inr "known") 4 rfl
theorem MdAt.mv(a:MdAt H m kd D)(v:Mv S H H')(n:NT S H)(h1:m∉S)(h2:kd∉S):MdAt H' m kd D:=⟨v _ _ h1 a.di,a.kn.mv v n h2,a.ne⟩
theorem MdAt.same(a:MdAt H m kd D)(s:Same H H'):MdAt H' m kd D:=a.mv (S:=[]) s.mv aM (fun h=>nomatch h) (fun h=>nomatch h)
theorem MdAt.putK{kn':Kw}(a:MdAt H m kd D)(v:Mv [kd] H H')(kb:KnAt H' kd kn'):MdAt H' m kd {D with kn:=kn'}:=⟨v _ _ (qR a.ne) a.di,kb,a.ne⟩
theorem ke(D:Dr)(kd:Addr)(z:Int):L2.putK (bv D kd) (Sum.inr "closed":qJ) (.int z)=bv {D with least:=z} kd:=by
 unfold L2.putK bv
 rw[if_pos (by simp [List.any_cons])]
 have h1:¬((Sum.inr ("near":Str):Sum Int Str)=Sum.inr ("closed":Str)):=by decide +kernel
 have h2:¬((Sum.inr ("far":Str):Sum Int Str)=Sum.inr ("closed":Str)):=by decide +kernel
 have h3:¬((Sum.inr ("keys":Str):Sum Int Str)=Sum.inr ("closed":Str)):=by decide +kernel
 have h5:¬((Sum.inr ("known":Str):Sum Int Str)=Sum.inr ("closed":Str)):=by decide +kernel
 simp only[List.map_cons,List.map_nil,if_neg h1,if_neg h2,if_neg h3,if_neg h5,if_true]
theorem MdAt.close(a:MdAt H m kd D)(z:Int):∃H',DPut H m (.str "closed") (.int z) H'/\Mv [m] H H'/\MdAt H' m kd {D with least:=z}:=by
 refine⟨_,DPut.k (k:=Sum.inr "closed") a.di (pM _ (by show 5<=100;decide)),Mv.upd1,by rw[qc,ke],a.kn.mv Mv.upd1 (NT.one a.di trivial) (qR a.ne.symm),a.ne⟩
end
structure Em where
 e:Addr
 a:Da
 m:Addr
 kd:Addr
def eS(x:Em):List Addr:=dS x.a++[x.m,x.kd]
structure Ent(K:Frag)(C:Addr)(H:Hp)(x:Em)(D:Dr)(L:List Rw)(E:Dr):Prop where
 tu:H x.e=some (.tup [.ref x.a.p,.ref x.m])
 dl:DlAt K C H x.a D L
 md:MdAt H x.m x.kd E
 n1:x.m≠x.a.bd
 n2:x.kd≠x.a.bd
section
variable{K:Frag}{C:Addr}{S:List Addr}{H H':Hp}{x:Em}{D D' E E':Dr}{L L':List Rw}{z:Addr}
theorem nD(h:z∈eS x):z∈dS x.a\/z=x.m\/z=x.kd:=by
 rcases List.mem_append.mp h with h|h
 ·exact .inl h
 ·simp only[List.mem_cons,List.not_mem_nil,or_false]at h;exact .inr h
theorem iM(h:z∈dS x.a):z∈eS x:=List.mem_append.mpr (.inl h)
theorem wE:x.m∈eS x:=List.mem_append.mpr (.inr (by simp))
theorem wA:x.kd∈eS x:=List.mem_append.mpr (.inr (by simp))
theorem Ent.nt(b:Ent K C H x D L E):NT (eS x) H:=fun z hz=>by
 rcases nD hz with h|rfl|rfl
 ·exact b.dl.nt z h
 ·exact⟨_,b.md.di,trivial⟩
 ·obtain⟨f,e,_⟩:=b.md.kn;exact⟨_,e,trivial⟩
theorem Ent.some(b:Ent K C H x D L E)(h:z∈eS x):H z≠none:=fun w=>by
 obtain⟨o,e,_⟩:=b.nt z h
 rw[w]at e;cases e
theorem Ent.mv(b:Ent K C H x D L E)(m:Mv S H H')(nt:NT S H)(h:∀z∈eS x,z∉S):Ent K C H' x D L E:=⟨m.tup nt b.tu,b.dl.mv m nt (h _ (iM (tI _))) (h _ (iM (pY _))) (h _ (iM (pJ _))) (h _ (iM (rg _))),b.md.mv m nt (h _ wE) (h _ wA),b.n1,b.n2⟩
theorem Ent.same(b:Ent K C H x D L E)(s:Same H H'):Ent K C H' x D L E:=b.mv (S:=[]) s.mv aM (fun z _ h=>nomatch h)
theorem Ent.m_out(b:Ent K C H x D L E):x.m∉dS x.a:=b.dl.outD b.md.di b.n1
theorem Ent.k_out(b:Ent K C H x D L E):x.kd∉dS x.a:=let⟨f,e,_⟩:=b.md.kn;b.dl.outD e b.n2
theorem Ent.door(b:Ent K C H x D L E)(m:Mv (dS x.a) H H')(d:DlAt K C H' x.a D' L'):Ent K C H' x D' L' E:=⟨m.tup b.dl.nt b.tu,d,b.md.mv m b.dl.nt b.m_out b.k_out,b.n1,b.n2⟩
theorem Ent.model(b:Ent K C H x D L E)(m:Mv [x.m,x.kd] H H')(md:MdAt H' x.m x.kd E'):Ent K C H' x D L E':=by
 have nt:NT [x.m,x.kd] H:=fun z hz=>b.nt z (List.mem_append.mpr (.inr hz))
 have o:∀z∈dS x.a,z∉[x.m,x.kd]:=fun z hz w=>by
  simp only[List.mem_cons,List.not_mem_nil,or_false]at w
  rcases w with rfl|rfl
  ·exact b.m_out hz
  ·exact b.k_out hz
 exact⟨m.tup nt b.tu,b.dl.mv m nt (o _ (tI _)) (o _ (pY _)) (o _ (pJ _)) (o _ (rg _)),md,b.n1,b.n2⟩
theorem eV(m:Mv (dS x.a) H H'):Mv (eS x) H H':=m.mono fun c h z=>h (iM z)
theorem ef(m:Mv [x.m,x.kd] H H'):Mv (eS x) H H':=m.mono fun c h z=>h (List.mem_append.mpr (.inr z))
end
abbrev En:=Em×Dr×List Rw
structure Pw(K:Frag)(C:Addr)(H0 H:Hp)(b:Addr)(c:Nat)(pl:Addr)(xs:List En):Prop where
 s:Mv [b] H0 H
 bx:BoxC H b c
 b0:H0 b≠none
 en:∀(i:Nat) (x:En),xs[i]? =some x->Ent K C H x.1 x.2.1 x.2.2 x.2.1
 dj:∀(i j:Nat) (x y:En),i≠j->xs[i]? =some x->xs[j]? =some y->∀z∈eS x.1,z∉eS y.1
 fr:∀(i:Nat) (x:En),xs[i]? =some x->∀z∈eS x.1,H0 z=none
 pe:H pl=some (.lst (xs.map fun x=> .ref x.1.e))
 np:∀(i:Nat) (x:En),xs[i]? =some x->pl∉eS x.1
 fp:H0 pl=none
section
variable{K:Frag}{C:Addr}{H0 H H':Hp}{b:Addr}{c c':Nat}{pl:Addr}{xs:List En}{i:Nat}{x:En}{D':Dr}{L':List Rw}
theorem Pw.nb(p:Pw K C H0 H b c pl xs)(hi:xs[i]? =some x):b∉eS x.1:=fun z=>p.b0 (p.fr i x hi b z)
theorem Pw.npb(p:Pw K C H0 H b c pl xs):pl≠b:=fun z=>p.b0 (z▸p.fp)
theorem Pw.grc(p:Pw K C H0 H b c pl xs)(g:GrC b c' H H'):Pw K C H0 H' b c' pl xs:=by
 have m:Mv [b] H H':=fun c o h e=>g.kp c o (fun z=>h (List.mem_singleton.mpr z)) e
 exact⟨p.s.trans m,g.bx,p.b0,fun i x hi=>(p.en i x hi).mv m (zz p.bx) (fun z hz w=>p.nb hi (List.mem_singleton.mp w▸hz)),p.dj,p.fr,g.kp _ _ p.npb p.pe,p.np,p.fp⟩
theorem Pw.same(p:Pw K C H0 H b c pl xs)(s:Same H H'):Pw K C H0 H' b c pl xs:=p.grc (s.grc p.bx)
theorem Pw.mono(p:Pw K C H0 H b c pl xs)(h:c<=c'):Pw K C H0 H b c' pl xs:=⟨p.s,p.bx.mono h,p.b0,p.en,p.dj,p.fr,p.pe,p.np,p.fp⟩
theorem Pw.step(p:Pw K C H0 H b c pl xs)(hi:xs[i]? =some x)(m:Mv (eS x.1) H H')(e:Ent K C H' x.1 D' L' D'):Pw K C H0 H' b c pl (xs.set i (x.1,D',L')):=by
 have hl:i<xs.length:=(List.getElem?_eq_some_iff.mp hi).1
 have nt:=(p.en i x hi).nt
 have key:∀{j:Nat} {y:En},(xs.set i (x.1,D',L'))[j]? =some y->(j=i/\y=(x.1,D',L'))\/(j≠i/\xs[j]? =some y):=fun{j y} h=>by
  rw[List.getElem?_set]at h
  split at h
  ·rename_i z
   subst z
   injection h with h
   exact .inl ⟨rfl,h.symm⟩
  ·rename_i z
   exact .inr ⟨fun w=>z w.symm,h⟩
 have same:∀{j:Nat} {y:En},(xs.set i (x.1,D',L'))[j]? =some y->∃y',xs[j]? =some y'/\y'.1=y.1:=fun h=>by
  rcases key h with⟨rfl,rfl⟩|⟨_,h⟩
  ·exact⟨x,hi,rfl⟩
  ·exact⟨_,h,rfl⟩
 refine⟨fun c o hc e=>m c o (fun z=>?_) (p.s c o hc e),p.bx.mv m (p.nb hi),p.b0,fun j y hj=>?_,fun j k y z hjk hj hk=>?_,fun j y hj=>?_,?_,fun j y hj=>?_,p.fp⟩
 ·rw[p.fr i x hi c z]at e;cases e
 ·rcases key hj with⟨rfl,rfl⟩|⟨n,hj⟩
  ·exact e
  ·exact(p.en j y hj).mv m nt (fun z hz w=>p.dj j i y x n hj hi z hz w)
 ·obtain⟨y',hy,ey⟩:=same hj
  obtain⟨z',hz,ez⟩:=same hk
  rw[<- ey,<- ez]
  exact p.dj j k y' z' hjk hy hz
 ·obtain⟨y',hy,ey⟩:=same hj
  rw[<- ey];exact p.fr j y' hy
 ·have:(xs.set i (x.1,D',L')).map (fun x=>V.ref x.1.e)=xs.map fun x=>V.ref x.1.e:=by
   refine List.ext_getElem? fun j=>?_
   rw[List.getElem?_map,List.getElem?_map,List.getElem?_set]
   split
   ·rename_i z
    subst z
    rw[hi];rfl
   ·rfl
  rw[this]
  exact m _ _ (p.np i x hi) p.pe
 ·obtain⟨y',hy,ey⟩:=same hj
  rw[<- ey];exact p.np j y' hy
theorem Pw.at(p:Pw K C H0 H b c pl xs)(hi:xs[i]? =some x):zV (xs.map fun x=>V.ref x.1.e) (i:Int)=some (.ref x.1.e):=Qm (by rw[List.getElem?_map,hi];rfl)
theorem Pw.add{Ha:Hp}{y:Em}{D:Dr}(p:Pw K C H0 H b c pl xs)(s:Same H Ha)(e:Ent K C Ha y D [] D)(f:∀z∈eS y,H z=none):Pw K C H0 (upd Ha pl (.lst ((xs.map fun x=>V.ref x.1.e)++[.ref y.e]))) b c pl (xs++[(y,D,[])]):=by
 have pa:=p.same s
 have m:Mv [pl] Ha (upd Ha pl (.lst ((xs.map fun x=>V.ref x.1.e)++[.ref y.e]))):=Mv.upd1
 have nt:NT [pl] Ha:=NT.one pa.pe trivial
 have npy:pl∉eS y:=fun z=>by have:=p.pe;rw[f pl z]at this;cases this
 have key:∀{j:Nat} {w:En},(xs++[(y,D,[])])[j]? =some w->xs[j]? =some w\/(j=xs.length/\w=(y,D,[])):=fun{j w} h=>by
  by_cases hj:j<xs.length
  ·rw[List.getElem?_append_left hj]at h;exact .inl h
  ·rw[List.getElem?_append_right (by omega)]at h
   cases q:j-xs.length with
   |zero=>rw[q]at h;cases h;exact .inr ⟨by omega,rfl⟩
   |succ k=>rw[q]at h;cases h
 have fz:∀z∈eS y,H0 z=none:=fun z hz=>by
  cases q:H0 z with
  |none=>rfl
  |some o=>
   by_cases w:z=b
   ·subst w;obtain⟨_,_,_,e1,_⟩:=p.bx;rw[f z hz]at e1;cases e1
   ·have:=p.s z o (qR w) q;rw[f z hz]at this;cases this
 refine⟨fun c o hc e1=>?_,pa.bx.mv m (qR p.npb.symm),p.b0,fun j w hj=>?_,fun j k w u hjk hj hk=>?_,fun j w hj=>?_,?_,fun j w hj=>?_,p.fp⟩
 ·rw[qh (fun z=>by rw[z,p.fp]at e1;cases e1)]
  exact s _ _ (p.s c o hc e1)
 ·rcases key hj with hj|⟨_,rfl⟩
  ·exact(pa.en j w hj).mv m nt (fun z hz u=>p.np j w hj (List.mem_singleton.mp u▸hz))
  ·exact e.mv m nt (fun z hz u=>npy (List.mem_singleton.mp u▸hz))
 ·rcases key hj with hj'|⟨ej,rfl⟩
  ·rcases key hk with hk'|⟨_,rfl⟩
   ·exact p.dj j k w u hjk hj' hk'
   ·exact fun z hz v=>(p.en j w hj').some hz (f z v)
  ·rcases key hk with hk'|⟨ek,rfl⟩
   ·exact fun z hz v=>(p.en k u hk').some v (f z hz)
   ·omega
 ·rcases key hj with hj'|⟨_,rfl⟩
  ·exact p.fr j w hj'
  ·exact fz
 ·rw[qc,List.map_append];rfl
 ·rcases key hj with hj'|⟨_,rfl⟩
  ·exact p.np j w hj'
  ·exact npy
end
def qN(D:Dr)(nm:Str)(age c:Int):Str:=match D.kn.lookup nm with
 |none=>""
 |some e=>if ze D e age=true then(if c-e.last<1\/c-e.last>D.far then "" else if c-e.last<=D.near\/e.wt=some (age,c-1)then "open" else "wait")else ""
def Qf(D:Dr)(nm:Str)(age c:Int):Kw:=(qQ D nm age (some (c,0))).2
theorem lu(D:Dr)(nm:Str)(age c d:Int):(qQ D nm age (some (c,d))).2=Qf D nm age c:=by
 unfold Qf qQ
 split
 ·rfl
 ·split
  ·simp only
   split
   ·rfl
   ·rfl
  ·rfl
theorem lp{D:Dr}{nm:Str}{age c:Int}(nd:(D.kn.map (·.1)).Nodup)(nf:D.near<=D.far):Qf D nm age c=match D.kn.lookup nm with
  |none=>D.kn
  |some e=>if qN D nm age c="open" then za D.kn nm ⟨age,c,none⟩else if qN D nm age c="wait" then za D.kn nm ⟨e.age,e.last,some (age,c)⟩else D.kn:=by
 unfold Qf
 cases e1:D.kn.lookup nm with
 |none=>unfold qQ;rw[e1]
 |some e=>
  simp only
  have no1:¬(("":Str)="open"):=by decide
  have no2:¬(("":Str)="wait"):=by decide
  have no3:¬(("wait":Str)="open"):=by decide
  have self:=mw nd e1
  by_cases ht:ze D e age=true
  ·have eh:(qQ D nm age (some (c,0))).2=za D.kn nm (zh D.near D.far e age c).2:=by
    unfold qQ
    rw[e1]
    simp only
    rw[if_pos ht]
    split<;>rfl
   have ew:qN D nm age c=(if c-e.last<1\/c-e.last>D.far then("":Str)else if c-e.last<=D.near\/e.wt=some (age,c-1)then("open":Str)else("wait":Str)):=by
    unfold qN
    rw[e1]
    simp only
    rw[if_pos ht]
   rw[eh]
   unfold zh
   by_cases h1:c<=e.last
   ·rw[if_pos (show c-e.last<1\/c-e.last>D.far from .inl (by omega))]at ew
    rw[if_pos h1,ew,if_neg no1,if_neg no2];exact self
   ·rw[if_neg h1]
    by_cases h2:c<=e.last+D.near
    ·rw[if_neg (show¬(c-e.last<1\/c-e.last>D.far) by omega),if_pos (show c-e.last<=D.near\/_ from .inl (by omega))]at ew
     rw[if_pos h2,ew,if_pos rfl]
    ·rw[if_neg h2]
     by_cases h3:c<=e.last+D.far
     ·rw[if_neg (show¬(c-e.last<1\/c-e.last>D.far) by omega)]at ew
      rw[if_pos h3]
      by_cases h4:e.wt=some (age,c-1)
      ·rw[if_pos (show c-e.last<=D.near\/_ from .inr h4)]at ew
       rw[if_pos h4,ew,if_pos rfl]
      ·rw[if_neg (show¬(c-e.last<=D.near\/e.wt=some (age,c-1))from fun z=>z.elim (fun z=>by omega) h4)]at ew
       rw[if_neg h4,ew,if_neg no3,if_pos rfl]
     ·rw[if_pos (show c-e.last<1\/c-e.last>D.far from .inr (by omega))]at ew
      rw[if_neg h3,ew,if_neg no1,if_neg no2];exact self
  ·have eh:(qQ D nm age (some (c,0))).2=D.kn:=by
    unfold qQ
    rw[e1]
    simp only
    rw[if_neg ht]
   have ew:qN D nm age c="":=by
    unfold qN
    rw[e1]
    simp only
    rw[if_neg ht]
   rw[eh,ew,if_neg no1,if_neg no2]
section
variable(K:Frag)(C:Addr)
def fR:Sp:=fun vs H Q _=>∃(a:Da) (D:Dr) (L:List Rw) (p1 p2:Addr) (P R:Ps) (c d d':Int),vs=[.ref a.p,.ref p1,.ref p2]/\DlAt K C H a D L/\L.length<=1000/\DrOk D/\PsAt H p1 P/\PsAt H p2 R/\PsOk P/\PsOk R/\bD D P=some (c,d)/\bD D R=some (c+1,d')/\R.nm=P.nm/\R.age=P.age/\D.kn.lookup R.nm=none/\(D.kn.length:Int)<D.most/\
 ∀H',Mv [a.bd,a.lg] H H'->DlAt K C H' a {D with kn:=za D.kn R.nm ⟨R.age,c+1,none⟩} (L++[.learn P R])->Q .non H'
end
def bb(D:Dr)(e:Kb)(age:Int):List (Int×Int):=if ze D e age=true then
  (if e.last+1<4096 then [(e.last+1,if 4095<e.last+D.near then 4095 else e.last+D.near)]else [])++
  (match e.wt with
   |none=>[]
   |some (x,w)=>if x=age/\w+1<=(if 4095<e.last+D.far then 4095 else e.last+D.far)then [(w+1,w+1)]else [])
 else []
def zj(D:Dr)(nm:Str)(age:Int):List (Int×Int):=match D.kn.lookup nm with
 |none=>[]
 |some e=>bb D e age
def PrT(H:Hp)(t:Addr)(zs:List (Int×Int)):Prop:=∃as:List Addr,H t=some (.tup (as.map V.ref))/\as.length=zs.length/\∀(i:Nat) (a:Addr) (z:Int×Int),as[i]? =some a->zs[i]? =some z->H a=some (.tup [.int z.1,.int z.2])
def PrL(H:Hp)(t:Addr)(zs:List (Int×Int)):Prop:=∃as:List Addr,H t=some (.lst (as.map V.ref))/\as.length=zs.length/\∀(i:Nat) (a:Addr) (z:Int×Int),as[i]? =some a->zs[i]? =some z->H a=some (.tup [.int z.1,.int z.2])
section
variable{S:List Addr}{H H':Hp}{t x:Addr}{zs:List (Int×Int)}{z:Int×Int}
theorem PrT.mv(m:Mv S H H')(n:NT S H)(h:PrT H t zs):PrT H' t zs:=let⟨as,e,l,r⟩:=h;⟨as,m.tup n e,l,fun i a z e1 e2=>m.tup n (r i a z e1 e2)⟩
theorem PrT.same(s:Same H H')(h:PrT H t zs):PrT H' t zs:=h.mv (S:=[]) s.mv aM
theorem PrL.mv(m:Mv S H H')(n:NT S H)(hs:t∉S)(h:PrL H t zs):PrL H' t zs:=let⟨as,e,l,r⟩:=h;⟨as,m _ _ hs e,l,fun i a z e1 e2=>m.tup n (r i a z e1 e2)⟩
theorem PrL.same(s:Same H H')(h:PrL H t zs):PrL H' t zs:=h.mv (S:=[]) s.mv aM (fun h=>nomatch h)
theorem PrL.add{as:List Addr}(e:H t=some (.lst (as.map V.ref)))(l:as.length=zs.length)(r:∀(i:Nat) (a:Addr) (z:Int×Int),as[i]? =some a->zs[i]? =some z->H a=some (.tup [.int z.1,.int z.2]))(hx:H x=some (.tup [.int z.1,.int z.2])):PrL (upd H t (.lst (as.map V.ref++[.ref x]))) t (zs++[z]):=by
 have nt:NT [t] H:=NT.one e trivial
 refine⟨as++[x],by rw[qc,List.map_append];rfl,by simp [l],fun i a y e1 e2=>(Mv.upd1 (a:=t)).tup nt ?_⟩
 by_cases hi:i<as.length
 ·rw[List.getElem?_append_left hi]at e1
  rw[List.getElem?_append_left (by rw[<- l];exact hi)]at e2
  exact r i a y e1 e2
 ·rw[List.getElem?_append_right (by omega)]at e1
  rw[List.getElem?_append_right (by rw[<- l];omega),<- l]at e2
  cases q:i-as.length with
  |zero=>rw[q]at e1 e2;cases e1;cases e2;exact hx
  |succ k=>rw[q]at e1;cases e1
end
section
variable(K:Frag)(C:Addr)
def wP(H:Hp)(v:V):Option Kb->Prop
 |none=>v= .non
 |some e=>∃a,v= .ref a/\BuAt H a e
def ra:Sp:=fun vs H Q _=>∃(p ta hk bd lg:Addr) (n:Nat) (D:Dr) (v:V) (o:Option Kb) (age:Int),vs=[.ref p,v,.int age]/\DoorAt K C H p ta hk bd lg n D/\wP H v o/\∀t H',Same H H'->PrT H' t (match o with
 |none=>[]
 |some e=>bb D e age)->Q (.ref t) H'
def jC:Sp:=fun vs H Q _=>∃(p ta hk bd lg:Addr) (n:Nat) (D:Dr) (nm:Str) (age:Int),vs=[.ref p,.str nm,.int age]/\DoorAt K C H p ta hk bd lg n D/\∀t H',Same H H'->PrT H' t (zj D nm age)->Q (.ref t) H'
def jE:Sp:=fun vs H Q _=>∃(D:Dr),vs=[.int D.near,.int D.far,.int (D.kss.length:Int)]/\D.least=0/\D.kn=[]/\∀m kd H',Same H H'->H m=none->H kd=none->MdAt H' m kd D->Q (.ref m) H'
def eY:Sp:=fun vs H Q _=>∃(m kd p:Addr) (D:Dr) (nm:Str) (age c:Int),vs=[.ref m,.ref p]/\MdAt H m kd D/\H p=some (.tup [.str nm,.int age,.int c])/\∀H',Same H H'->Q (.str (qN D nm age c)) H'
def jk:Sp:=fun vs H Q _=>∃(m kd p:Addr) (D:Dr) (nm:Str) (age c:Int),vs=[.ref m,.ref p]/\MdAt H m kd D/\H p=some (.tup [.str nm,.int age,.int c])/\DrOk D/\D.near<=D.far/\∀H',Mv [m,kd] H H'->MdAt H' m kd {D with kn:=Qf D nm age c}->Q (.bl (decide (qN D nm age c="open"))) H'
structure CdAt(H:Hp)(cd tb kt:Addr)(t:List Int)(kss:List (List Int)):Prop where
 e:H cd=some (.tup [.ref tb,.ref kt])
 tb:Rd H tb (.tup (t.map V.int))
 ks:KsT [] H kt kss
def zR(t:List Int)(kss:List (List Int))(nm:Str)(age c d:Int):Ps:=⟨nm,age,aA t (kss.getD age.toNat []) nm c d⟩
def ai:Sp:=fun vs H Q _=>∃(cd tb kt p:Addr) (t:List Int) (kss:List (List Int)) (nm:Str) (age c d:Int),vs=[.ref cd,.ref p,.int d]/\CdAt H cd tb kt t kss/\H p=some (.tup [.str nm,.int age,.int c])/\t.Perm digs/\zU nm/\0<=age/\age<kss.length/\0<=c/\c<4096/\ZR d/\∀pr H',Same H H'->PsAt H' pr (zR t kss nm age c d)->Q (.ref pr) H'
end
section
variable{K:Frag}{S:List Addr}{H H':Hp}{cd tb kt:Addr}{t:List Int}{kss:List (List Int)}
theorem CdAt.mv(h:CdAt H cd tb kt t kss)(m:Mv S H H')(n:NT S H):CdAt H' cd tb kt t kss:=⟨m.tup n h.e,m.rd n h.tb,h.ks.mv m n⟩
theorem CdAt.same(h:CdAt H cd tb kt t kss)(s:Same H H'):CdAt H' cd tb kt t kss:=h.mv (S:=[]) s.mv aM
end
structure DpOk(t:List Int)(kss:List (List Int))(base:Int)(D:Dr):Prop where
 ok:DrOk D
 t:D.t=t
 ks:D.kss=kss
 k1:1<=kss.length
 n0:1<=D.near
 n1:D.near<=4
 f0:D.near<=D.far
 f1:D.far<=12
 ms:D.most=12
 lk:D.least<kss.length
 nm:∀e∈D.kn,zU e.1
 kb:∀e∈D.kn,KlOk D e.2/\base<e.2.last/\e.2.last<=base+23
section
variable{t:List Int}{kss:List (List Int)}{base:Int}{D:Dr}{nm:Str}{age c:Int}
theorem DpOk.learn(h:DpOk t kss base D)(hn:zU nm)(hl:D.kn.length<=11)(a0:0<=age)(a1:age<kss.length)(c0:1<=c)(c1:c<4096)(b0:base<c)(b1:c<=base+23):DpOk t kss base {D with kn:=za D.kn nm ⟨age,c,none⟩}:=by
 have hle:=iC D.kn nm ⟨age,c,none⟩
 have k:KlOk {D with kn:=za D.kn nm ⟨age,c,none⟩} ⟨age,c,none⟩:=⟨a0,by show age<(D.kss.length:Int);rw[h.ks];exact a1,c0,c1,fun x y z=>by cases z⟩
 refine⟨⟨h.ok.tp,h.ok.l0,h.ok.kl,by show(za _ _ _).length<=60;omega,dh h.ok.nd _ _⟩,h.t,h.ks,h.k1,h.n0,h.n1,h.f0,h.f1,h.ms,h.lk,fun e he=>?_,fun e he=>?_⟩
 ·rcases ap he with he|rfl
  ·exact h.nm e he
  ·exact hn
 ·rcases ap he with he|rfl
  ·exact⟨(h.kb e he).1.mono (Nat.le_refl _),(h.kb e he).2⟩
  ·exact⟨k,b0,b1⟩
theorem kX{D:Dr}{nm:Str}{age c:Int}:Qf D nm age c=D.kn\/∃e,D.kn.lookup nm=some e/\ze D e age=true/\Qf D nm age c=za D.kn nm (zh D.near D.far e age c).2:=by
 unfold Qf qQ
 cases e1:D.kn.lookup nm with
 |none=>exact .inl rfl
 |some e=>
  simp only
  by_cases ht:ze D e age=true
  ·rw[if_pos ht]
   exact .inr ⟨e,rfl,ht,by split<;>rfl⟩
  ·rw[if_neg ht];exact .inl rfl
theorem DpOk.hear(h:DpOk t kss base D)(c0:0<=c)(c1:c<4096)(b1:c<=base+23):DpOk t kss base {D with kn:=Qf D nm age c}/\(Qf D nm age c).map (·.1)=D.kn.map (·.1):=by
 rcases kX (D:=D) (nm:=nm) (age:=age) (c:=c)with e|⟨e,he,ht,ek⟩
 ·rw[e];exact⟨h,rfl⟩
 ·rw[ek]
  have hin:=zt he
  have hk:=(h.kb _ hin).1
  have hb:=(h.kb _ hin).2
  simp only at hb
  obtain⟨a0,a1⟩:=bB ht h.ok.l0
  have hm:nm∈D.kn.map (·.1):=List.mem_map.mpr ⟨_,hin,rfl⟩
  have hl:=je (e:=(zh D.near D.far e age c).2) hm
  have ks:=oo hk (kI ht) a1 c0 c1
  have lst:(zh D.near D.far e age c).2.last=e.last\/((zh D.near D.far e age c).2.last=c/\e.last<c):=by
   unfold zh
   split
   ·exact .inl rfl
   ·split
    ·exact .inr ⟨rfl,by omega⟩
    ·split
     ·split
      ·exact .inr ⟨rfl,by omega⟩
      ·exact .inl rfl
     ·exact .inl rfl
  refine⟨⟨⟨h.ok.tp,h.ok.l0,h.ok.kl,by show(za _ _ _).length<=60;rw[hl];exact h.ok.nl,dh h.ok.nd _ _⟩,h.t,h.ks,h.k1,h.n0,h.n1,h.f0,h.f1,h.ms,h.lk,fun x hx=>?_,fun x hx=>?_⟩,k9 he⟩
  ·rcases ap hx with hx|rfl
   ·exact h.nm x hx
   ·exact h.nm (nm,e) hin
  ·rcases ap hx with hx|rfl
   ·exact⟨(h.kb x hx).1.mono (Nat.le_refl _),(h.kb x hx).2⟩
   ·refine⟨ks.mono (Nat.le_refl _),?_⟩
    show base<(zh D.near D.far e age c).2.last/\(zh D.near D.far e age c).2.last<=base+23
    rcases lst with l|⟨l,q⟩
    ·rw[l];exact hb
    ·rw[l];omega
theorem DpOk.close{a:Int}(h:DpOk t kss base D)(a1:a<kss.length):DpOk t kss base {D with least:=if a>D.least then a else D.least}:=by
 have lk:=h.lk
 have l0:=h.ok.l0
 exact⟨⟨h.ok.tp,(by show 0<=if a>D.least then a else D.least;split<;>omega),h.ok.kl,h.ok.nl,h.ok.nd⟩,h.t,h.ks,h.k1,h.n0,h.n1,h.f0,h.f1,h.ms,(by show(if a>D.least then a else D.least)<(kss.length:Int);split<;>omega),h.nm,fun e he=>⟨(h.kb e he).1.mono (Nat.le_refl _),(h.kb e he).2⟩⟩
theorem ZP{d:Int}(tp:t.Perm digs)(hn:zU nm)(c0:0<=c)(c1:c<4096)(hd:ZR d):PsOk (zR t kss nm age c d):=⟨hn,mJ ..,oX tp c0 c1 hd⟩
theorem cX{d:Int}(h:DpOk t kss base D)(l0:D.least=0)(a0:0<=age)(a1:age<kss.length)(c0:0<=c)(c1:c<4096)(hd:ZR d):bD D (zR t kss nm age c d)=some (c,d):=by
 unfold bD Zc zR
 simp only
 rw[l0,h.ks,decide_eq_true a0,decide_eq_true a1,if_pos (show(true&&true)=true from rfl),h.t,show Qc D age=kss.getD age.toNat [] by unfold Qc;rw[h.ks]]
 exact fc (h.t▸h.ok.tp) c0 c1 hd
theorem bo{d:Int}(h:DpOk t kss base D)(c0:0<=c)(c1:c<4096)(hd:ZR d):Zh D (zR t kss nm age c d)=qQ D nm age (some (c,d)):=by
 unfold Zh zR
 simp only
 rw[h.t,show Qc D age=kss.getD age.toNat [] by unfold Qc;rw[h.ks],fc (h.t▸h.ok.tp) c0 c1 hd]
end
def Stp(f:Nat->Dr->Dr)(k:Nat)(xs xs':List En):Prop:=xs'.length=xs.length/\∀(i:Nat) (x:En),xs[i]? =some x->∃L',xs'[i]? =some (x.1,f i x.2.1,L')/\L'.length<=x.2.2.length+k
theorem Stp.refl(xs:List En):Stp (fun _ D=>D) 0 xs xs:=⟨rfl,fun i x hx=>⟨x.2.2,hx,Nat.le_refl _⟩⟩
theorem Stp.set{f g:Nat->Dr->Dr}{k i:Nat}{xs xs':List En}{x:En}{L' L'':List Rw}(h:Stp f k xs xs')(hx:xs[i]? =some x)(hx':xs'[i]? =some (x.1,f i x.2.1,L'))(hl:L''.length<=L'.length+1)(hg:g i x.2.1=D')(ho:∀j,j≠i->g j=f j):Stp g (k+1) xs (xs'.set i (x.1,D',L'')):=by
 refine⟨by rw[List.length_set];exact h.1,fun j y hy=>?_⟩
 obtain⟨M,hM,hMl⟩:=h.2 j y hy
 by_cases z:j=i
 ·subst z
  rw[hx]at hy;cases hy
  rw[hx']at hM
  have:L'=M:=by injection hM with hM;injection hM with _ hM;injection hM
  subst this
  exact⟨L'',by rw[List.getElem?_set_self (by rw[h.1];exact(List.getElem?_eq_some_iff.mp hx).1),hg],by omega⟩
 ·exact⟨M,by rw[List.getElem?_set_ne (fun w=>z w.symm),ho j z];exact hM,by omega⟩
theorem Stp.mono{f:Nat->Dr->Dr}{k k':Nat}{xs xs':List En}(h:Stp f k xs xs')(l:k<=k'):Stp f k' xs xs':=⟨h.1,fun i x hx=>let⟨L',e,q⟩:=h.2 i x hx;⟨L',e,by omega⟩⟩
theorem Stp.ext{f g:Nat->Dr->Dr}{k:Nat}{xs xs':List En}(h:Stp f k xs xs')(e:∀i x,xs[i]? =some x->f i x.2.1=g i x.2.1):Stp g k xs xs':=⟨h.1,fun i x hx=>let⟨L',q,r⟩:=h.2 i x hx;⟨L',by rw[q,e i x hx],r⟩⟩
theorem Stp.all{p q:Dr->Prop}{f:Nat->Dr->Dr}{k n:Nat}{xs xs':List En}(h:Stp f k xs xs')(hp:∀(i:Nat) (x:En),xs[i]? =some x->p x.2.1/\x.2.2.length<=n)(hf:∀i D,p D->q (f i D)):∀(i:Nat) (x:En),xs'[i]? =some x->q x.2.1/\x.2.2.length<=n+k:=by
 intro i x hx
 have hi:i<xs.length:=by rw[<- h.1];exact(List.getElem?_eq_some_iff.mp hx).1
 obtain⟨L',e,l⟩:=h.2 i xs[i] (List.getElem?_eq_getElem hi)
 rw[e]at hx;cases hx
 obtain⟨h1,h2⟩:=hp i xs[i] (List.getElem?_eq_getElem hi)
 exact⟨hf i _ h1,by show L'.length<=n+k;omega⟩
def Olv(H:Hp)(v:V):Option (Int×Int)->Prop
 |none=>v= .non
 |some (a,l)=>∃t,v= .ref t/\H t=some (.tup [.int a,.int l])
def OlAt(H:Hp)(tl:Addr)(os:List (Option (Int×Int))):Prop:=∃vs:List V,H tl=some (.lst vs)/\vs.length=os.length/\∀(i:Nat) (v:V) (o:Option (Int×Int)),vs[i]? =some v->os[i]? =some o->Olv H v o
theorem Olv.mv{S:List Addr}{H H':Hp}{v:V}{o:Option (Int×Int)}(m:Mv S H H')(n:NT S H)(h:Olv H v o):Olv H' v o:=by
 cases o with
 |none=>exact h
 |some p=>obtain⟨t,e,r⟩:=h;exact⟨t,e,m.tup n r⟩
theorem OlAt.mv{S:List Addr}{H H':Hp}{tl:Addr}{os:List (Option (Int×Int))}(h:OlAt H tl os)(m:Mv S H H')(n:NT S H)(hs:tl∉S):OlAt H' tl os:=let⟨vs,e,l,r⟩:=h;⟨vs,m _ _ hs e,l,fun i v o e1 e2=>(r i v o e1 e2).mv m n⟩
theorem OlAt.same{H H':Hp}{tl:Addr}{os:List (Option (Int×Int))}(h:OlAt H tl os)(s:Same H H'):OlAt H' tl os:=h.mv (S:=[]) s.mv aM (fun h=>nomatch h)
def aY(nm:Str)(D:Dr):Option (Int×Int)->Dr
 |none=>D
 |some (a,l)=>{D with kn:=za D.kn nm ⟨a,l,none⟩}
section
variable(K:Frag)(C:Addr)
def fj:Sp:=fun vs H Q _=>∃(cd tb kt pl tl b:Addr) (c:Nat) (H0:Hp) (t:List Int) (kss:List (List Int)) (xs:List En) (nm:Str) (os:List (Option (Int×Int))) (base:Int),vs=[.ref cd,.ref pl,.str nm,.ref tl]/\Pw K C H0 H b c pl xs/\xs.length=2/\CdAt H cd tb kt t kss/\zU nm/\OlAt H tl os/\os.length=2/\(∀(i:Nat) (x:En),xs[i]? =some x->tl∉eS x.1)/\
 (∀(i:Nat) (x:En),xs[i]? =some x->DpOk t kss base x.2.1/\x.2.1.least=0/\x.2.1.kn.lookup nm=none/\x.2.1.kn.length<=11/\x.2.2.length<=900)/\(∀a l,some (a,l)∈os->0<=a/\a<kss.length/\1<=l/\l<4096)/\
 ∀H' xs',Pw K C H0 H' b c pl xs'->CdAt H' cd tb kt t kss->Stp (fun i D=>aY nm D (os.getD i none)) 2 xs xs'->Q .non H'
def gJ:Sp:=fun vs H Q _=>∃(cd tb kt pl p ps b:Addr) (c:Nat) (H0:Hp) (t:List Int) (kss:List (List Int)) (xs:List En) (nm:Str) (age n:Int) (is:List Nat) (base:Int),vs=[.ref cd,.ref pl,.ref p,.ref ps]/\Pw K C H0 H b c pl xs/\xs.length=2/\CdAt H cd tb kt t kss/\zU nm/\0<=age/\age<kss.length/\0<=n/\n<4096/\H p=some (.tup [.str nm,.int age,.int n])/\Rd H ps (.tup (is.map fun i:Nat=>V.int (i:Int)))/\is.Nodup/\(∀i∈is,i<2)/\
 (∀(i:Nat) (x:En),xs[i]? =some x->DpOk t kss base x.2.1/\x.2.2.length<=900)/\
 ∀H' xs',Pw K C H0 H' b c pl xs'->CdAt H' cd tb kt t kss->Stp (fun i D=>if i∈is then{D with kn:=Qf D nm age n}else D) 2 xs xs'->Q .non H'
end
section
variable{X:Cx}
theorem nG:qY X (.type "range") (fun xs H Q=>∃i j:Int,xs=[.int i,.int j]/\∀p,H p=none->Q (.ref p) (upd H p (.rng i j))):=by
 intro pins s σ H xs us Q I r h
 obtain⟨i,j,rfl,q⟩:=h
 obtain⟨u,v,rfl,ru,rv⟩:=bJ r
 obtain⟨t,rfl⟩:=ru
 obtain⟨t',rfl⟩:=rv
 refine call_range_2 ⟨.ref s.heap.objs.size,_,I.laid (o:= .rng i j) (fun b o e=>Heap.get?_push_of_some _ e) (Nat.le_refl _) ⟨_,_,_,Heap.get?_push_size _ rfl⟩,rfl,q _ (I.hok.fresh (Nat.le_refl _))⟩
def Ze(a:Int)(n:Nat):List V:=(List.range n).map fun i:Nat=>V.int (a+(i:Int))
theorem jf(hc:X.calm=true):qY X (.type "list") (fun xs H Q=>∃(p:Addr) (a:Int) (n:Nat),xs=[.ref p]/\H p=some (.rng a (a+(n:Int)))/\ -(2 ^ 60)<=a/\a<=2 ^ 60/\n<=2 ^ 24/\∀l,H l=none->Q (.ref l) (upd H l (.lst (Ze a n)))):=by
 intro pins s σ H xs us Q I r h
 obtain⟨p,a,j,rfl,hp,ha,ha',hj,q⟩:=h
 obtain⟨u,rfl,ru⟩:=zO r
 cases ru
 obtain⟨t,u,v,e⟩:=I.hok p _ hp
 refine call_list_range (n:=j) (I.ok.hd hc) (show IsRange s.heap p a (a+(j:Int)) 1 t u v from e) (small_one (by omega) (by omega) (by omega) (by omega)) (by rw[rangeSize_one];split<;>omega) hj fun h' tk acc' c' hk hS' hacc=>?_
 refine⟨.ref s.heap.objs.size,_,I.laid (h':=h') (t':=tk) hk (Nat.le_refl _) ?_,rfl,q _ (I.hok.fresh (Nat.le_refl _))⟩
 have aux:∀(us:List Value) (n k:Nat),us.length=n->(∀i v,us[i]? =some v->∃t,v=Value.int (a+((k+i:Nat):Int)) t)->Vals ((List.range' k n).map fun i:Nat=>V.int (a+(i:Int))) us:=by
  intro us
  induction us with
  |nil=>intro n k hn _;cases hn;exact .nil
  |cons u us ih=>
   intro n k hn hv
   cases n with
   |zero=>cases hn
   |succ n=>
    rw[List.range'_succ,List.map_cons]
    obtain⟨t,ht⟩:=hv 0 u rfl
    refine .cons ⟨t,by simpa using ht⟩ (ih n (k+1) (by simpa using hn) fun i v hi=>?_)
    obtain⟨t,ht⟩:=hv (i+1) v hi
    exact⟨t,by rw[ht];congr 1;omega⟩
 have vals:Vals (Ze a j) acc'.toList:=by
  unfold Ze
  rw[List.range_eq_range']
  refine aux _ _ 0 (by rw[Array.length_toList];exact hacc.1) fun i v hi=>?_
  obtain⟨t,ht⟩:=hacc.2 i v (by rw[<- Array.getElem?_toList];exact hi)
  exact⟨t,by rw[ht];first|rfl|(congr 1;omega)⟩
 exact⟨by unfold Ze;simp only[List.length_map,List.length_range];exact Nat.le_trans hj (by rw[sizeLine_eq];decide),acc'.toList,c',vals,hS'⟩
end
theorem hW(a:Int)(n:Nat):(Ze a n).length=n:=by unfold Ze;rw[List.length_map,List.length_range]
theorem rP{a:Int}{n i:Nat}{x:V}(h:(Ze a n)[i]? =some x):x= .int (a+(i:Int))/\i<n:=by
 unfold Ze at h
 rw[List.getElem?_map]at h
 have hi:i<n:=by
  cases q:(List.range n)[i]? with
  |none=>rw[q]at h;cases h
  |some y=>have:=(List.getElem?_eq_some_iff.mp q).1;rwa [List.length_range]at this
 rw[List.getElem?_range hi]at h
 cases h
 exact⟨rfl,hi⟩
def Qd(n:Int)(S:List (Int×Int)):List (Int×Int):=S.filterMap fun p=>if p.1<n then some (p.1,if p.2<n-1 then p.2 else n-1)else none
def fG(n:Int)(S:List (Int×Int)):Bool:=S.any fun p=>decide (p.1<=n)&&decide (n<=p.2)
inductive Two:List (Int×Int)->Prop where
 |nil:Two []
 |one (f l:Int) (h:f<=l):Two [(f,l)]
 |two (f l g:Int) (h:f<=l) (h2:l+1<g):Two [(f,l),(g,g)]
def bj(F:List (Int×Int))(n:Int):List (Int×Int):=match F.getLast? with
 |some (f,l)=>if l=n-1 then F.dropLast++[(f,n)]else F++[(n,n)]
 |none=>[(n,n)]
theorem mT{S:List (Int×Int)}(h:Two S)(n:Int):Qd (n+1) S=if fG n S=true then bj (Qd n S) n else Qd n S:=by
 cases h with
 |nil=>rfl
 |one f l h=>
  unfold Qd fG bj
  by_cases h1:f<n
  ·by_cases h2:n<=l
   ·have e1:(if f<n+1 then some (f,if l<n+1-1 then l else n+1-1)else none)=some (f,n):=by rw[if_pos (by omega),if_neg (by omega)];congr 2;omega
    have e2:(if f<n then some (f,if l<n-1 then l else n-1)else none)=some (f,n-1):=by rw[if_pos h1,if_neg (by omega)]
    simp only[List.filterMap_cons,List.filterMap_nil,e1,e2,List.any_cons,List.any_nil]
    rw[decide_eq_true (by omega:f<=n),decide_eq_true h2]
    simp
   ·have e1:(if f<n+1 then some (f,if l<n+1-1 then l else n+1-1)else none)=some (f,l):=by rw[if_pos (by omega),if_pos (by omega)]
    have e2:(if f<n then some (f,if l<n-1 then l else n-1)else none)=some (f,l):=by rw[if_pos h1];congr 2;split<;>omega
    simp only[List.filterMap_cons,List.filterMap_nil,e1,e2,List.any_cons,List.any_nil]
    rw[decide_eq_false h2]
    simp
  ·by_cases h2:f=n
   ·subst h2
    have e1:(if f<f+1 then some (f,if l<f+1-1 then l else f+1-1)else none)=some (f,f):=by rw[if_pos (by omega),if_neg (by omega)];congr 2;omega
    have e2:(if f<f then some (f,if l<f-1 then l else f-1)else none)=none:=by rw[if_neg (by omega)]
    simp only[List.filterMap_cons,List.filterMap_nil,e1,e2,List.any_cons,List.any_nil]
    rw[decide_eq_true (Int.le_refl f),decide_eq_true h]
    simp
   ·have e1:(if f<n+1 then some (f,if l<n+1-1 then l else n+1-1)else none)=none:=by rw[if_neg (by omega)]
    have e2:(if f<n then some (f,if l<n-1 then l else n-1)else none)=none:=by rw[if_neg h1]
    simp only[List.filterMap_cons,List.filterMap_nil,e1,e2,List.any_cons,List.any_nil]
    rw[decide_eq_false (by omega:¬f<=n)]
    simp
 |two f l g h hg=>
  unfold Qd fG bj
  by_cases h1:f<n
  ·by_cases h2:n<=l
   ·have e1:(if f<n+1 then some (f,if l<n+1-1 then l else n+1-1)else none)=some (f,n):=by rw[if_pos (by omega),if_neg (by omega)];congr 2;omega
    have e2:(if f<n then some (f,if l<n-1 then l else n-1)else none)=some (f,n-1):=by rw[if_pos h1,if_neg (by omega)]
    have e3:(if g<n+1 then some (g,if g<n+1-1 then g else n+1-1)else none)=none:=by rw[if_neg (by omega)]
    have e4:(if g<n then some (g,if g<n-1 then g else n-1)else none)=none:=by rw[if_neg (by omega)]
    simp only[List.filterMap_cons,List.filterMap_nil,e1,e2,e3,e4,List.any_cons,List.any_nil]
    rw[decide_eq_true (by omega:f<=n),decide_eq_true h2]
    simp
   ·have e1:(if f<n+1 then some (f,if l<n+1-1 then l else n+1-1)else none)=some (f,l):=by rw[if_pos (by omega),if_pos (by omega)]
    have e2:(if f<n then some (f,if l<n-1 then l else n-1)else none)=some (f,l):=by rw[if_pos h1];congr 2;split<;>omega
    by_cases h3:g<n
    ·have e3:(if g<n+1 then some (g,if g<n+1-1 then g else n+1-1)else none)=some (g,g):=by rw[if_pos (by omega),if_pos (by omega)]
     have e4:(if g<n then some (g,if g<n-1 then g else n-1)else none)=some (g,g):=by rw[if_pos h3];congr 2;split<;>omega
     simp only[List.filterMap_cons,List.filterMap_nil,e1,e2,e3,e4,List.any_cons,List.any_nil]
     rw[decide_eq_false h2,decide_eq_false (by omega:¬n<=g)]
     simp
    ·by_cases h4:g=n
     ·subst h4
      have e3:(if g<g+1 then some (g,if g<g+1-1 then g else g+1-1)else none)=some (g,g):=by rw[if_pos (by omega),if_neg (by omega)];congr 2;omega
      have e4:(if g<g then some (g,if g<g-1 then g else g-1)else none)=none:=by rw[if_neg (by omega)]
      simp only[List.filterMap_cons,List.filterMap_nil,e1,e2,e3,e4,List.any_cons,List.any_nil]
      rw[decide_eq_true (Int.le_refl g)]
      simp
      omega
     ·have e3:(if g<n+1 then some (g,if g<n+1-1 then g else n+1-1)else none)=none:=by rw[if_neg (by omega)]
      have e4:(if g<n then some (g,if g<n-1 then g else n-1)else none)=none:=by rw[if_neg h3]
      simp only[List.filterMap_cons,List.filterMap_nil,e1,e2,e3,e4,List.any_cons,List.any_nil]
      rw[decide_eq_false h2,decide_eq_false (by omega:¬g<=n)]
      simp
  ·have e3:(if g<n+1 then some (g,if g<n+1-1 then g else n+1-1)else none)=none:=by rw[if_neg (by omega)]
   have e4:(if g<n then some (g,if g<n-1 then g else n-1)else none)=none:=by rw[if_neg (by omega)]
   by_cases h2:f=n
   ·subst h2
    have e1:(if f<f+1 then some (f,if l<f+1-1 then l else f+1-1)else none)=some (f,f):=by rw[if_pos (by omega),if_neg (by omega)];congr 2;omega
    have e2:(if f<f then some (f,if l<f-1 then l else f-1)else none)=none:=by rw[if_neg (by omega)]
    simp only[List.filterMap_cons,List.filterMap_nil,e1,e2,e3,e4,List.any_cons,List.any_nil]
    rw[decide_eq_true (Int.le_refl f),decide_eq_true h]
    simp
   ·have e1:(if f<n+1 then some (f,if l<n+1-1 then l else n+1-1)else none)=none:=by rw[if_neg (by omega)]
    have e2:(if f<n then some (f,if l<n-1 then l else n-1)else none)=none:=by rw[if_neg h1]
    simp only[List.filterMap_cons,List.filterMap_nil,e1,e2,e3,e4,List.any_cons,List.any_nil]
    rw[decide_eq_false (by omega:¬f<=n),decide_eq_false (by omega:¬g<=n)]
    simp
theorem mH{S:List (Int×Int)}{n:Int}(h:∀p∈S,n<=p.1):Qd n S=[]:=by
 unfold Qd
 rw[List.filterMap_eq_nil_iff]
 intro p hp
 rw[if_neg (by have:=h p hp;omega)]
theorem nU{S:List (Int×Int)}{n:Int}(h:∀p∈S,p.1<=p.2/\p.2<n):Qd n S=S:=by
 unfold Qd
 induction S with
 |nil=>rfl
 |cons p r ih=>
  have:=h p (List.mem_cons_self ..)
  rw[List.filterMap_cons,if_pos (by omega)]
  simp only
  rw[ih (fun q hq=>h q (List.mem_cons_of_mem _ hq))]
  congr 1
  obtain⟨a,b⟩:=p
  simp only at this⊢
  congr 1
  split<;>omega
theorem kh(bs:List Bool):((List.range bs.length).any fun i=>(bs[i]?).getD true)=bs.any id:=by
 rw[Bool.eq_iff_iff,List.any_eq_true,List.any_eq_true]
 constructor
 ·rintro⟨i,hi,h⟩
  have hi':=List.mem_range.mp hi
  rw[List.getElem?_eq_getElem hi',Option.getD_some]at h
  exact⟨_,List.getElem_mem hi',h⟩
 ·rintro⟨b,hb,h⟩
  obtain⟨i,hi,e⟩:=List.mem_iff_getElem.mp hb
  exact⟨i,List.mem_range.mpr hi,by rw[List.getElem?_eq_getElem hi,Option.getD_some,e];exact h⟩
theorem ng{X:Cx}(hc:X.calm=true):qY X (.builtin "any") (fun xs H Q=>∃(p:Addr) (bs:List Bool),xs=[.ref p]/\SqL X.K H p (bs.map V.bl)/\Q (.bl (bs.any id)) H):=by
 intro pins s σ H xs us Q I r h
 obtain⟨p,bs,rfl,hq,q⟩:=h
 obtain⟨u,rfl,ru⟩:=zO r
 cases ru
 obtain⟨its,rv,pl,hz⟩:=I.list hq
 have e:=cw rv
 have hl:=pl.isList
 have hlt:p<s.heap.objs.size:=by obtain⟨_,e,_⟩:=hl;exact Heap.lt_size e
 refine call_any_walk (wpAny_pyIter_list hl ?_)
 refine⟨s.heap.objs.size,[s.heap.objs.size,p],[s.heap.objs.size],its.toArray.size,_,_,fun i=>(bs[i]?).getD true,rfl,Walks.list (A:=X.A.in1) (I.ok.hd hc) _ p (Nat.ne_of_lt hlt) its.toArray,
  ⟨⟨_,Heap.get?_push_size _ rfl,rfl,rfl⟩,hl.push _⟩,fun i v s' Q' E' hP hQ=>?_,fun h' tk hk=>?_⟩
 ·have hP':its[i]? =some v:=by simpa using hP
  rw[e,List.getElem?_map]at hP'
  cases eb:bs[i]? with
  |none=>rw[eb]at hP';cases hP'
  |some b=>
   rw[eb]at hP'
   cases(Option.some.inj hP':Value.bool b=v)
   simp only[eb,Option.getD_some]at hQ
   exact wpAny_truthy_bool hQ
 ·have e2:((List.range its.toArray.size).any fun i=>(bs[i]?).getD true)=bs.any id:=by
   rw[List.size_toArray,e,List.length_map];exact kh bs
  rw[e2]
  refine⟨.bl _,H,I.kept (h':=h') (t':=tk) fun b o q=>hk b o (fun hm=>?_) (Heap.get?_push_of_some _ q),rfl,q⟩
  rw[List.mem_singleton.mp hm]at q
  exact Nat.lt_irrefl _ (Heap.lt_size q)
def drawNames:List Str:=["a","b","ab","ba","aaaaaaaa","aaaaaaab","door","gate","x"]
structure NmOk(nms:List Str)(many:Nat)(base:Int):Prop where
 nd:nms.Nodup
 nm:∀z∈nms,zU z
 l1:1<=nms.length
 l9:nms.length<=9
 m1:1<=many
 m8:many<=8
 b0:0<=base
 b1:base<=4076
section
variable(K:Frag)(C:Addr)
def n6(n f:Int):Prop:=1<=n/\n<=4/\n<=f/\f<=12
def fK:Sp:=fun vs H Q _=>∃(b:Addr) (c:Nat),vs=[.ref b]/\BoxC H b c/\c<100000000/\∀l x y (n f n' f':Int) H',GrC b (c+7) H H'->H' l=some (.lst [.ref x,.ref y])->H' x=some (.tup [.int n,.int f])->H' y=some (.tup [.int n',.int f'])->n6 n f->n6 n' f'->H l=none->Q (.ref l) H'
def ik:Sp:=fun vs H Q _=>∃(b:Addr) (c:Nat),vs=[.ref b]/\BoxC H b c/\c<100000000/\∀q nl nms many base H',GrC b (c+20) H H'->H' q=some (.tup [.ref nl,.int ((many:Nat):Int),.int base])->H' nl=some (.lst (nms.map V.str))->H nl=none->NmOk nms many base->Q (.ref q) H'
def fJ:Sp:=fun vs H Q _=>∃(base:Int),vs=[.int base]/\0<=base/\base<=4076/\∀l H',Same H H'->H' l=some (.lst (Ze base ((if base+40<4095 then base+40 else 4095)-base+1).toNat))->Q (.ref l) H'
def jJ:Sp:=fun vs H Q _=>∃(b dr nl:Addr) (c:Nat) (nms:List Str) (many:Nat) (base:Int),vs=[.ref b,.ref dr]/\BoxC H b c/\c<1000000/\H dr=some (.tup [.ref nl,.int (many:Int),.int base])/\H nl=some (.lst (nms.map V.str))/\nl≠b/\NmOk nms many base/\
 ∀q cd tb kt pl t kss xs H',Pw K C H H' b (c+300) pl xs->xs.length=2->H' q=some (.tup [.ref cd,.ref pl])->CdAt H' cd tb kt t kss->kss.length=many->(∀(i:Nat) (x:En),xs[i]? =some x->DpOk t kss base x.2.1/\x.2.2.length<=100)->Q (.ref q) H'
end
section
variable{K:Frag}{C:Addr}{H0 H H':Hp}{b:Addr}{c:Nat}{pl:Addr}{xs:List En}{S:List Addr}{z:Addr}
theorem Pw.fresh(p:Pw K C H0 H b c pl xs)(h:H z=none):H0 z=none:=by
 cases q:H0 z with
 |none=>rfl
 |some o=>
  by_cases w:z=b
  ·subst w;obtain⟨_,_,_,e1,_⟩:=p.bx;rw[h]at e1;cases e1
  ·have:=p.s z o (qR w) q;rw[h]at this;cases this
theorem Pw.out(p:Pw K C H0 H b c pl xs)(m:Mv S H H')(nt:NT S H)(hb:b∉S)(hp:pl∉S)(he:∀(i:Nat) (x:En),xs[i]? =some x->∀z∈eS x.1,z∉S)(h0:∀z∈S,H0 z=none):Pw K C H0 H' b c pl xs:=
 ⟨fun c o hc e=>m c o (fun z=>by rw[h0 c z]at e;cases e) (p.s c o hc e),p.bx.mv m hb,p.b0,fun i x hi=>(p.en i x hi).mv m nt (he i x hi),p.dj,p.fr,m _ _ hp p.pe,p.np,p.fp⟩
end
theorem OlAt.two{H:Hp}{tl:Addr}{v v':V}{o o':Option (Int×Int)}(e:H tl=some (.lst [v,v']))(h:Olv H v o)(h':Olv H v' o'):OlAt H tl [o,o']:=⟨[v,v'],e,rfl,fun i u w e1 e2=>by
 match i,e1,e2 with
 |0,e1,e2=>cases e1;cases e2;exact h
 |1,e1,e2=>cases e1;cases e2;exact h'
 |i+2,e1,e2=>cases e1⟩
theorem mB{nms:List Str}{nm:Str}{j:Nat}(nd:nms.Nodup)(e:nms[j]? =some nm):nm∉nms.take j:=fun z=>by
 obtain⟨k,hk,ek⟩:=List.mem_iff_getElem.mp z
 rw[List.getElem_take]at ek
 rw[List.length_take]at hk
 exact(List.pairwise_iff_getElem.mp nd) k j (by omega) (List.getElem?_eq_some_iff.mp e).1 (by omega) (ek.trans (List.getElem?_eq_some_iff.mp e).2.symm)
section
variable{t:List Int}{kss:List (List Int)}{base:Int}{D:Dr}{nm:Str}{age:Int}
theorem bC(h:DpOk t kss base D)(nm:Str)(age:Int):zj D nm age=[]\/∃e,D.kn.lookup nm=some e/\ze D e age=true/\e.last+1<4096/\
  ((zj D nm age=[(e.last+1,if 4095<e.last+D.near then 4095 else e.last+D.near)]/\∀w,e.wt=some (age,w)->¬w+1<=(if 4095<e.last+D.far then 4095 else e.last+D.far))\/
   ∃w,e.wt=some (age,w)/\w+1<=(if 4095<e.last+D.far then 4095 else e.last+D.far)/\zj D nm age=[(e.last+1,if 4095<e.last+D.near then 4095 else e.last+D.near),(w+1,w+1)]):=by
 cases e1:D.kn.lookup nm with
 |none=>exact .inl (by unfold zj;rw[e1])
 |some e=>
  have kl:=(h.kb _ (zt e1)).1
  simp only at kl
  by_cases ht:ze D e age=true
  case neg=>exact .inl (by unfold zj bb;rw[e1];simp only;rw[if_neg ht])
  have es:zj D nm age=(if e.last+1<4096 then [(e.last+1,if 4095<e.last+D.near then 4095 else e.last+D.near)]else [])++(match e.wt with
   |none=>[]
   |some (x,w)=>if x=age/\w+1<=(if 4095<e.last+D.far then 4095 else e.last+D.far)then [(w+1,w+1)]else []):=by unfold zj bb;rw[e1];simp only;rw[if_pos ht]<;>rfl
  have n0:=h.n0
  have l1:=kl.l1
  by_cases h1:e.last+1<4096
  ·refine .inr ⟨e,rfl,ht,h1,?_⟩
   rw[es,if_pos h1]
   cases ew:e.wt with
   |none=>exact .inl ⟨rfl,fun w z=>by cases z⟩
   |some xw=>
    obtain⟨x,w⟩:=xw
    simp only
    by_cases h2:x=age/\w+1<=(if 4095<e.last+D.far then 4095 else e.last+D.far)
    ·rw[if_pos h2]
     obtain⟨rfl,h2⟩:=h2
     exact .inr ⟨w,rfl,h2,rfl⟩
    ·rw[if_neg h2]
     exact .inl ⟨rfl,fun w' z=>by cases z;exact fun q=>h2 ⟨rfl,q⟩⟩
  ·refine .inl ?_
   rw[es,if_neg h1]
   cases ew:e.wt with
   |none=>rfl
   |some xw=>
    obtain⟨x,w⟩:=xw
    have:=kl.w x w ew
    simp only
    rw[if_neg (fun z=>by have:=z.2;split at this<;>omega)];rfl
theorem eW(h:DpOk t kss base D)(nm:Str)(age:Int):Two (zj D nm age):=by
 rcases bC h nm age with e|⟨e,e1,ht,h1,⟨q,_⟩|⟨w,ew,hw,q⟩⟩
 ·rw[e];exact .nil
 ·have n0:=h.n0
  rw[q];exact .one _ _ (by split<;>omega)
 ·have n0:=h.n0
  have kl:=(h.kb _ (zt e1)).1.w age w ew
  simp only at kl
  rw[q];exact .two _ _ _ (by split<;>omega) (by split<;>omega)
theorem t9(h:DpOk t kss base D)(nm:Str)(age:Int):∀p∈zj D nm age,base<p.1/\p.1<=p.2/\p.2<=4095/\p.2<=base+40:=by
 rcases bC h nm age with e|⟨e,e1,ht,h1,⟨q,_⟩|⟨w,ew,hw,q⟩⟩
 ·rw[e];exact fun p hp=>nomatch hp
 ·have n0:=h.n0
  have n1:=h.n1
  have kb:=(h.kb _ (zt e1)).2
  simp only at kb
  rw[q]
  intro p hp
  rw[List.mem_singleton.mp hp]
  simp only
  split<;>omega
 ·have n0:=h.n0
  have n1:=h.n1
  have f1:=h.f1
  have kb:=(h.kb _ (zt e1)).2
  have kl:=(h.kb _ (zt e1)).1.w age w ew
  simp only at kb kl
  rw[q]
  intro p hp
  simp only[List.mem_cons,List.not_mem_nil,or_false]at hp
  rcases hp with rfl|rfl
  ·simp only;split<;>omega
  ·simp only;split at hw<;>omega
theorem jI(h:DpOk t kss base D){n:Int}(nm:Str)(age:Int)(n1:n<=4095):qN D nm age n="open"↔fG n (zj D nm age)=true:=by
 have no1:¬(("":Str)="open"):=by decide
 have no3:¬(("wait":Str)="open"):=by decide
 have nil:fG n []=false:=rfl
 cases e1:D.kn.lookup nm with
 |none=>
  have:zj D nm age=[]:=by unfold zj;rw[e1]
  rw[this,nil]
  have:qN D nm age n="":=by unfold qN;rw[e1]
  rw[this]
  exact⟨fun z=>absurd z no1,fun z=>by cases z⟩
 |some e=>
  by_cases ht:ze D e age=true
  case neg=>
   have:zj D nm age=[]:=by unfold zj bb;rw[e1];simp only;rw[if_neg ht]
   rw[this,nil]
   have:qN D nm age n="":=by unfold qN;rw[e1];simp only;rw[if_neg ht]
   rw[this]
   exact⟨fun z=>absurd z no1,fun z=>by cases z⟩
  have ew:qN D nm age n=(if n-e.last<1\/n-e.last>D.far then("":Str)else if n-e.last<=D.near\/e.wt=some (age,n-1)then("open":Str)else("wait":Str)):=by unfold qN;rw[e1];simp only;rw[if_pos ht]
  have op:qN D nm age n="open"↔(1<=n-e.last/\n-e.last<=D.far/\(n-e.last<=D.near\/e.wt=some (age,n-1))):=by
   rw[ew]
   by_cases h1:n-e.last<1\/n-e.last>D.far
   ·rw[if_pos h1];exact⟨fun z=>absurd z no1,fun z=>by omega⟩
   ·rw[if_neg h1]
    by_cases h2:n-e.last<=D.near\/e.wt=some (age,n-1)
    ·rw[if_pos h2];exact⟨fun _=>⟨by omega,by omega,h2⟩,fun _=>rfl⟩
    ·rw[if_neg h2];exact⟨fun z=>absurd z no3,fun z=>absurd z.2.2 h2⟩
  rw[op]
  have f0:=h.f0
  have kl:=(h.kb _ (zt e1)).1
  simp only at kl
  have l1:=kl.l1
  rcases bC h nm age with es|⟨e',e1',_,h1,⟨q,hno⟩|⟨w,ew',hw,q⟩⟩
  ·rw[es,nil]
   refine⟨fun z=>?_,fun z=>by cases z⟩
   have:e.last+1<4096:=by omega
   have es':zj D nm age≠[]:=by unfold zj bb;rw[e1];simp only;rw[if_pos ht,if_pos this];exact fun z=>by cases z
   exact absurd es es'
  ·rw[e1]at e1';cases e1'
   rw[q]
   unfold fG
   simp only[List.any_cons,List.any_nil,Bool.or_false,Bool.and_eq_true,decide_eq_true_eq]
   constructor
   ·rintro⟨a1,a2,a3|a3⟩
    ·split<;>omega
    ·have:=hno (n-1) a3
     split at this<;>omega
   ·intro z
    split at z<;>omega
  ·rw[e1]at e1';cases e1'
   have kw:=kl.w age w ew'
   have n0:=h.n0
   rw[q]
   unfold fG
   simp only[List.any_cons,List.any_nil,Bool.or_false,Bool.and_eq_true,Bool.or_eq_true,decide_eq_true_eq]
   constructor
   ·rintro⟨a1,a2,a3|a3⟩
    ·left;split<;>omega
    ·right;rw[ew']at a3;injection a3 with a3;injection a3 with _ a3;omega
   ·rintro(z|z)
    ·split at z<;>omega
    ·refine⟨by omega,?_,.inr ?_⟩
     ·split at hw<;>omega
     ·rw[ew'];congr 2;omega
theorem nB(D:Dr)(nm:Str)(age c d:Int)(nf:D.near<=D.far):(qN D nm age c="open"->(qQ D nm age (some (c,d))).1[0]? =some (.str "open"))/\(¬qN D nm age c="open"->(qQ D nm age (some (c,d))).1[0]? =some (.str "held")):=by
 have no1:¬(("":Str)="open"):=by decide
 have no3:¬(("wait":Str)="open"):=by decide
 cases e1:D.kn.lookup nm with
 |none=>
  have:qN D nm age c="":=by unfold qN;rw[e1]
  rw[this]
  exact⟨fun z=>absurd z no1,fun _=>by unfold qQ;rw[e1];rfl⟩
 |some e=>
  by_cases ht:ze D e age=true
  case neg=>
   have:qN D nm age c="":=by unfold qN;rw[e1];simp only;rw[if_neg ht]
   rw[this]
   exact⟨fun z=>absurd z no1,fun _=>by unfold qQ;rw[e1];simp only;rw[if_neg ht];rfl⟩
  have ew:qN D nm age c=(if c-e.last<1\/c-e.last>D.far then("":Str)else if c-e.last<=D.near\/e.wt=some (age,c-1)then("open":Str)else("wait":Str)):=by unfold qN;rw[e1];simp only;rw[if_pos ht]
  have eh:(qQ D nm age (some (c,d))).1[0]? =if(zh D.near D.far e age c).1="near" then some (.str "open")else some (.str "held"):=by
   unfold qQ;rw[e1];simp only;rw[if_pos ht];split<;>rfl
  rw[eh,ew]
  unfold zh
  by_cases h1:c<=e.last
  ·rw[if_pos h1,if_pos (show c-e.last<1\/c-e.last>D.far from .inl (by omega))]
   exact⟨fun z=>absurd z no1,fun _=>if_neg (show¬(("old":Str)="near") by decide)⟩
  rw[if_neg h1]
  by_cases h2:c<=e.last+D.near
  ·rw[if_pos h2,if_neg (show¬(c-e.last<1\/c-e.last>D.far) by omega),if_pos (show c-e.last<=D.near\/_ from .inl (by omega))]
   exact⟨fun _=>if_pos rfl,fun z=>absurd rfl z⟩
  rw[if_neg h2]
  by_cases h3:c<=e.last+D.far
  ·rw[if_pos h3,if_neg (show¬(c-e.last<1\/c-e.last>D.far) by omega)]
   by_cases h4:e.wt=some (age,c-1)
   ·rw[if_pos h4,if_pos (show c-e.last<=D.near\/_ from .inr h4)]
    exact⟨fun _=>if_pos rfl,fun z=>absurd rfl z⟩
   ·rw[if_neg h4,if_neg (show¬(c-e.last<=D.near\/e.wt=some (age,c-1))from fun z=>z.elim (fun z=>by omega) h4)]
    exact⟨fun z=>absurd z no3,fun _=>if_neg (show¬(("far":Str)="near") by decide)⟩
  ·rw[if_neg h3,if_pos (show c-e.last<1\/c-e.last>D.far from .inr (by omega))]
   exact⟨fun z=>absurd z no1,fun _=>if_neg (show¬(("beyond":Str)="near") by decide)⟩
end
theorem PrT.eqw{H:Hp}{p q:Addr}{zs:List (Int×Int)}(h1:PrT H p zs)(h2:PrT H q zs)(hl:zs.length<=100):Eqw H 2 (.ref p) (.ref q):=by
 obtain⟨rs,e1,l1,r1⟩:=h1
 obtain⟨qs,e2,l2,r2⟩:=h2
 refine .tup (.inl e1) (.inl e2) (by simp [l1,l2]) (by rw[List.length_map,l1,sizeLine_eq];omega) fun i x y ex ey=>?_
 rw[List.getElem?_map]at ex ey
 cases q1:rs[i]? with
 |none=>rw[q1]at ex;cases ex
 |some a=>
  cases q2:qs[i]? with
  |none=>rw[q2]at ey;cases ey
  |some b=>
   rw[q1]at ex;rw[q2]at ey;cases ex;cases ey
   have hi:i<zs.length:=by rw[<- l1];exact(List.getElem?_eq_some_iff.mp q1).1
   refine .tup (n:=0) (.inl (r1 i a _ q1 (List.getElem?_eq_getElem hi))) (.inl (r2 i b _ q2 (List.getElem?_eq_getElem hi))) rfl (by show 2<=sizeLine;decide) fun j x y ex ey=>?_
   match j,ex,ey with
   |0,ex,ey=>cases ex;cases ey;exact .int _ _
   |1,ex,ey=>cases ex;cases ey;exact .int _ _
   |j+2,ex,ey=>cases ex
theorem Two.len{S:List (Int×Int)}(h:Two S):S.length<=2:=by
 cases h with
 |nil=>exact Nat.zero_le _
 |one _ _ _=>exact(by decide:1<=2)
 |two _ _ _ _ _=>exact Nat.le_refl 2
theorem nL(n:Int)(S:List (Int×Int)):(Qd n S).length<=S.length:=List.length_filterMap_le _ _
section
variable(K:Frag)(C:Addr)
def mQ:Sp:=fun vs H Q _=>∃(m kd:Addr) (D:Dr) (t:List Int) (kss:List (List Int)) (nm:Str) (age base:Int),vs=[.ref m,.str nm,.int age,.int base]/\MdAt H m kd D/\DpOk t kss base D/\0<=base/\base<=4076/\∀q H',Same H H'->PrT H' q (zj D nm age)->Q (.ref q) H'
def iJ:Sp:=fun vs H Q _=>∃(b cd tb kt pl dr nl:Addr) (c:Nat) (H0:Hp) (t:List Int) (kss:List (List Int)) (xs:List En) (i:Nat) (x:En) (nm:Str) (base:Int),vs=[.ref b,.ref cd,.ref x.1.e,.ref dr,.str nm]/\Pw K C H0 H b c pl xs/\xs[i]? =some x/\c<1000000/\CdAt H cd tb kt t kss/\H dr=some (.tup [.ref nl,.int (kss.length:Int),.int base])/\DpOk t kss base x.2.1/\x.2.2.length<=900/\zU nm/\0<=base/\base<=4076/\∀H',GrC b (c+2) H H'->Q (.bl true) H'
end
theorem nJ{K:Frag}{js:List Nat}{te:TE}{σ:L2.St}{H:Hp}{Q:VK}{a:Addr}{xs:List V}(hn:xs.length<=sizeLine)(Pv:Nat->List V->Hp->Prop)(h0:Pv 0 [] H)(hl:∀i ys H,Pv i ys H->SqT K H a xs)
  (hs:∀i ys H x,xs[i]? =some x->ys.length=i->Pv i ys H->∃p x1 x2,x= .ref p/\SqT K H p [x1,x2]/\te (some x1::some x2::Qu js σ) H fun v H3=>Pv (i+1) (ys++[v]) H3)
  (hd:∀ys H,ys.length=xs.length->Pv xs.length ys H->∀p,H p=none->Q (.ref p) (upd H p (.lst ys))):
  cN 2 js (ee K 2 (ZN (Qe 0) (ZN (Qe 1) gB))) te σ Q (cM K a) H:=by
 refine⟨fun i m zs τ H=>m=xs.length-i/\i<=xs.length/\zs.length=i/\Pv i zs H/\∃o o',τ=o::o'::Qu js σ,⟨xs.length,by simp,Nat.zero_le _,rfl,h0,none,none,rfl⟩,?_⟩
 rintro i m zs τ H ⟨rfl,hi,hzl,p,o,o',rfl⟩
 by_cases hlt:i<xs.length
 ·refine .inr ⟨⟨xs,xs[i],hl _ _ _ p,by simp [hlt]⟩,by omega,fun x H' y=>?_⟩
  obtain⟨e,hx⟩:H'=H/\xs[i]? =some x:=⟨y.1,y.2 xs (hl _ _ _ p)⟩
  subst e
  obtain⟨pp,x1,x2,rfl,hp,ht⟩:=hs i zs _ x hx hzl p
  refine⟨pp,_,rfl,hp,rfl,_,_,rfl,_,_,rfl,rfl,?_⟩
  exact⟨fun v H3=>Pv (i+1) (zs++[v]) H3,fun v H3 p3=>⟨xs.length-(i+1),by omega,rfl,hlt,by simp [hzl],p3,_,_,rfl⟩,ht⟩
 ·have e:i=xs.length:=by omega
  subst e
  exact .inl ⟨⟨xs,hl _ _ _ p,Nat.le_refl _⟩,hd zs H hzl p⟩
theorem dy{xs:List V}{x:V}:zV (xs++[x]) (-1)=some x/\Zr (xs++[x]).length (-1)=some xs.length:=by
 have e:Zr (xs++[x]).length (-1)=some xs.length:=by
  unfold Zr
  rw[if_neg (by decide),if_pos (by rw[List.length_append];simp;omega),List.length_append]
  congr 1
  simp
  omega
 refine⟨?_,e⟩
 unfold zV
 rw[e]
 simp
theorem n5{xs:List V}{x y:V}:(xs++[x]).set xs.length y=xs++[y]:=by
 rw[List.set_append_right _ _ (Nat.le_refl _)]
 simp
end L3
namespace Lw
open PySem L2 L3
def qW(i:Nat):Stmt:=PySem.Challenge.pw_rollcode_k31_what_opens_now.main.body.getD i (.Pass ⟨0,0,0,0⟩)
abbrev ZU:Stmt:=qW 3
abbrev aj:Stmt:=qW 4
abbrev ZH:Stmt:=qW 5
abbrev Zy:Stmt:=qW 6
abbrev dw:Stmt:=qW 7
abbrev bh:Stmt:=qW 8
abbrev a9:Stmt:=qW 14
abbrev bA:Stmt:=qW 15
abbrev aH:Stmt:=qW 16
abbrev QZ:Stmt:=qW 17
abbrev cy:Stmt:=qW 18
abbrev Q4:Stmt:=qW 19
abbrev az:Stmt:=qW 20
abbrev Zs:Stmt:=qW 21
abbrev aW:Stmt:=qW 31
abbrev bF:Stmt:=qW 32
abbrev Qx:Stmt:=zB (qW 34) 0
abbrev Q6:Stmt:=zB (qW 34) 2
abbrev Qy:Stmt:=zB (qW 34) 8
abbrev QC:Stmt:=zB (qW 34) 11
abbrev Qo:Stmt:=zB (qW 34) 10
abbrev Qp:Stmt:=zB (qW 34) 9
abbrev QF:Stmt:=zB (qW 34) 7
abbrev ZX:Stmt:=zB (qW 34) 6
abbrev Qq:Stmt:=zB (qW 34) 12
abbrev Zw:Stmt:=zB (qW 34) 1
abbrev Qj:Stmt:=zB (qW 34) 5
abbrev QH:Stmt:=zB (qW 34) 13
abbrev Ql:Stmt:=zB (qW 34) 16
abbrev Q2:Stmt:=zB (qW 34) 18
abbrev QB:Stmt:=zB (qW 34) 19
abbrev Q3:Stmt:=qW 24
abbrev ay:Stmt:=qW 23
abbrev a6:Stmt:=qW 36
abbrev aE:Stmt:=qW 37
abbrev Z0:Stmt:=qW 38
abbrev bz:Stmt:=qW 39
abbrev Z2:Stmt:=qW 40
abbrev aC:Stmt:=qW 42
abbrev av:Stmt:=qW 43
abbrev ZV:Stmt:=qW 44
abbrev Zu:Stmt:=qW 45
abbrev ZT:Stmt:=qW 46
abbrev ZD:Stmt:=qW 47
abbrev aD:Stmt:=qW 48
abbrev ZZ:Stmt:=qW 49
abbrev ZG:Stmt:=qW 50
abbrev Z1:Stmt:=qW 52
abbrev br:Stmt:=qW 53
abbrev ZS:Stmt:=qW 54
abbrev Zk:Stmt:=qW 55
theorem qV{N P:List Str}{c:Scope}(h1:c.kind= .function:=by rfl)(h2:c.isCoroutine=false:=by rfl)(h3:c.isGenerator=false:=by rfl)(h4:N.Nodup:=by decide +kernel)(h5:N.take P.length=P:=by rfl)(h6:∀x∈P,c.names.lookup x=some .local\/c.names.lookup x=some .cell:=by decide +kernel)(h7:∀y∈c.names,y.2≠ .free:=by decide +kernel):FnScope N P c:=⟨h1,h2,h3,h4,h5,h6,h7⟩
theorem gF:FnScope (["thing"]:List Str) (["thing"]:List Str) (ql ZU):=qV
theorem iW:FnScope (["thing"]:List Str) (["thing"]:List Str) (ql aj):=qV
theorem ge:FnScope (["things"]:List Str) (["things"]:List Str) (ql ZH):=qV
theorem sc_back_table:FnScope (["table","back","place","digit"]:List Str) (["table"]:List Str) (ql Zy):=qV
theorem sc_coded:FnScope (["table","key","digits","row","shift","place","ahead"]:List Str) (["table","key","digits"]:List Str) (ql dw):=qV
theorem sc_decoded:FnScope (["table","key","digits","back","row","shift","place","ahead"]:List Str) (["table","key","digits"]:List Str) (ql bh):=qV
theorem j6:FnScope (["thing"]:List Str) (["thing"]:List Str) (ql a9):=qV
theorem kj:FnScope (["thing"]:List Str) (["thing"]:List Str) (ql bA):=qV
theorem sc_is_press:FnScope (["thing","name","age","code"]:List Str) (["thing"]:List Str) (ql aH):=qV
theorem sc_letter_digits:FnScope (["name","digits","letter","place"]:List Str) (["name"]:List Str) (ql QZ):=qV
theorem sc_key_of:FnScope (["table","key","name","sums","place","digit"]:List Str) (["table","key","name"]:List Str) (ql cy):=qV
theorem cV:FnScope (["count"]:List Str) (["count"]:List Str) (ql Q4):=qV
theorem sc_press_of:FnScope (["table","key","name","age","count","deed","four","five"]:List Str) (["table","key","name","age","count","deed"]:List Str) (ql az):=qV
theorem sc_read_press:FnScope (["table","key","press","name","age","code","low","middle","high","deed","check"]:List Str) (["table","key","press"]:List Str) (ql Zs):=qV
theorem kA:FnScope (["count","last","near","far"]:List Str) (["count","last","near","far"]:List Str) (ql aW):=qV
theorem sc_step_by:FnScope (["button","age","count","near","far","own_age","last","waiting","word"]:List Str) (["button","age","count","near","far"]:List Str) (ql bF):=qV
theorem Z9:FnScope (["self","table","keys","near","far","most"]:List Str) (["self","table","keys","near","far","most"]:List Str) (ql Qx):=qV
theorem cW:FnScope (["self"]:List Str) (["self"]:List Str) (ql Q6):=qV
theorem ca:FnScope (["self","name"]:List Str) (["self","name"]:List Str) (ql Qy):=qV
theorem bZ:FnScope (["self","age"]:List Str) (["self","age"]:List Str) (ql QC):=qV
theorem a7:FnScope (["self","button","age"]:List Str) (["self","button","age"]:List Str) (ql Qo):=qV
theorem bG:FnScope (["self","button","age","count"]:List Str) (["self","button","age","count"]:List Str) (ql Qp):=qV
theorem sc_Door_answer_to:FnScope (["self","press","name","age","code","button","pair","count","deed","word","behind"]:List Str) (["self","press"]:List Str) (ql QF):=qV
theorem sc_Door_hear:FnScope (["self","thing","answer"]:List Str) (["self","thing"]:List Str) (ql ZX):=qV
theorem bf:FnScope (["self","thing"]:List Str) (["self","thing"]:List Str) (ql Qq):=qV
theorem sc_Door_learn:FnScope (["self","one","other","first","second","name","age","code"]:List Str) (["self","one","other"]:List Str) (ql Zw):=qV
theorem aS:FnScope (["self","age"]:List Str) (["self","age"]:List Str) (ql Qj):=qV
theorem bY:FnScope (["self"]:List Str) (["self"]:List Str) (ql QH):=qV
theorem aQ:FnScope (["self"]:List Str) (["self"]:List Str) (ql Ql):=qV
theorem c9:FnScope (["self"]:List Str) (["self"]:List Str) (ql Q2):=qV
theorem sc_Door_twin_door:FnScope (["self","twin"]:List Str) (["self"]:List Str) (ql QB):=qV
theorem sc_stretches_of:FnScope (["door","button","age","near","far","most","own_age","last","waiting","stretches","after"]:List Str) (["door","button","age"]:List Str) (ql Q3):=qV
theorem iZ:FnScope (["door","name","age"]:List Str) (["door","name","age"]:List Str) (ql ay):=qV
theorem sc_law_box:FnScope (["_law_script","_law_k","_law_cell","_law_fold","_law_one_here"]:List Str) (["_law_script","_law_k"]:List Str) (ql a6):=qV
theorem sc_law_take:FnScope (["_law_box_here","_law_many","_law_digit","_law_m","_law_turn"]:List Str) (["_law_box_here","_law_many"]:List Str) (ql aE):=qV
theorem sc_law_table:FnScope (["_law_box_here","_law_rest"]:List Str) (["_law_box_here"]:List Str) (ql Z0):=qV
theorem k7:FnScope (["_law_box_here"]:List Str) (["_law_box_here"]:List Str) (ql bz):=qV
theorem iL:FnScope (["_law_near","_law_far","_law_keys"]:List Str) (["_law_near","_law_far","_law_keys"]:List Str) (ql Z2):=qV
theorem sc_law_word:FnScope (["_law_own","_law_plain","_law_name","_law_age","_law_count","_law_row","_law_gone"]:List Str) (["_law_own","_law_plain"]:List Str) (ql aC):=qV
theorem sc_law_hear:FnScope (["_law_own","_law_plain","_law_word_here","_law_name","_law_age","_law_count"]:List Str) (["_law_own","_law_plain"]:List Str) (ql av):=qV
theorem sc_law_press:FnScope (["_law_code","_law_plain","_law_deed","_law_name","_law_age","_law_count"]:List Str) (["_law_code","_law_plain","_law_deed"]:List Str) (ql ZV):=qV
theorem sc_law_learnt:FnScope (["_law_code","_law_pair_here","_law_name","_law_told","_law_place","_law_age","_law_last","_law_presses"]:List Str) (["_law_code","_law_pair_here","_law_name","_law_told"]:List Str) (ql Zu):=qV
theorem sc_law_heard:FnScope (["_law_code","_law_pair_here","_law_plain","_law_places","_law_place"]:List Str) (["_law_code","_law_pair_here","_law_plain","_law_places"]:List Str) (ql ZT):=qV
theorem sc_law_bounds:FnScope (["_law_box_here","_law_near","_law_far","_law_other"]:List Str) (["_law_box_here"]:List Str) (ql ZD):=qV
theorem sc_law_pair:FnScope (["_law_box_here","_law_drawn_here","_law_names","_law_many","_law_base","_law_code","_law_pair_here","_law_near","_law_far","_law_name","_law_age","_law_last","_law_other","_law_way","_law_some","_law_told","_law_turn","_law_plain","_law_door","_law_own"]:List Str) (["_law_box_here","_law_drawn_here"]:List Str) (ql aD):=qV
theorem sc_law_drawn:FnScope (["_law_box_here","_law_some","_law_many","_law_names"]:List Str) (["_law_box_here"]:List Str) (ql ZZ):=qV
theorem f6:FnScope (["_law_base"]:List Str) (["_law_base"]:List Str) (ql ZG):=qV
theorem bw:FnScope (["_law_found","_law_due_here"]:List Str) (["_law_found","_law_due_here"]:List Str) (ql Z1):=qV
theorem sc_law_due:FnScope (["_law_own","_law_name","_law_age","_law_base","_law_found","_law_count"]:List Str) (["_law_own","_law_name","_law_age","_law_base"]:List Str) (ql br):=qV
theorem sc_law_right:FnScope (["_law_box_here","_law_code","_law_entry","_law_drawn_here","_law_name","_law_door","_law_own","_law_age","_law_due_here","_law_plain","_law_opened"]:List Str) (["_law_box_here","_law_code","_law_entry","_law_drawn_here","_law_name"]:List Str) (ql ZS):=qV
theorem sc_law:FnScope (["_law_script","_law_k","_law_box_here","_law_drawn_here","_law_code","_law_pair_here","_law_entry","_law_held","_law_name"]:List Str) (["_law_script"]:List Str) (ql Zk):=qV
structure Txt(K:Frag)(mg:Str->Option Value)(tk:Nat->Tok):Prop where
 g_DIGITS:mg "DIGITS"=some (.int 16 (tk 0))
 g_KEY_PLACES:mg "KEY_PLACES"=some (.int 4 (tk 1))
 g_LONGEST_NAME:mg "LONGEST_NAME"=some (.int 8 (tk 2))
 g_CODE_DIGITS:mg "CODE_DIGITS"=some (.int 5 (tk 3))
 g_COUNTS:mg "COUNTS"=some (.int 4096 (tk 4))
 b_isinstance:mg "isinstance"=none
 b_bool:mg "bool"=none
 b_int:mg "int"=none
 b_tuple:mg "tuple"=none
 b_all:mg "all"=none
 b_any:mg "any"=none
 b_len:mg "len"=none
 b_abs:mg "abs"=none
 b_list:mg "list"=none
 b_enumerate:mg "enumerate"=none
 b_range:mg "range"=none
 b_max:mg "max"=none
 b_min:mg "min"=none
 b_str:mg "str"=none
 b_zip:mg "zip"=none
 b_ord:mg "ord"=none
 b_sum:mg "sum"=none
 b_reversed:mg "reversed"=none
 b_sorted:mg "sorted"=none
 b_dict:mg "dict"=none
section
variable{P:Program}{w:World}{K:Frag}{mg:Str->Option Value}{base:Heap}{tk:Nat->Tok}
theorem hX(a:At K mg "is_number" ZU ["thing"])(T:Txt K mg tk):Df P w K mg base "is_number" ["thing"] 1 cD:=by
 refine a.dq gF (fun vs H Q E h=>?_) (fun f cdv A outer s H vs Q E hr h=>?_)
 ·obtain⟨x,t,rfl,_⟩:=h
  rfl
 ·obtain⟨x,t,rfl,hk,q⟩:=h
  obtain⟨ty,ht⟩:=vF (K:=K) hk
  refine⟨_,(qg (qq (zx (qm gM (by rfl) T.b_isinstance PyProof.Rows.boot_isinstance (qd (qv 0) (qd (qE (v:= .ty "int") rfl T.b_int PyProof.Rows.boot_int rfl) qb))) (Qk (Zx (qm gM (by rfl) T.b_isinstance PyProof.Rows.boot_isinstance (qd (qv 0) (qd (qE (v:= .ty "bool") rfl T.b_bool PyProof.Rows.boot_bool rfl) qb)))))))),?_⟩
  rw[sU hk]at q
  refine⟨_,rfl,x,"int",t,rfl,ty,ht,by simp,_,rfl,?_⟩
  cases hi:zk t "int" with
  |false=>
   refine zi ?_
   rw[hi,Bool.false_and]at q
   exact q
  |true=>
   refine zq ?_
   rw[hi,Bool.true_and]at q
   exact⟨_,rfl,x,"bool",t,rfl,ty,ht,by simp,_,rfl,q⟩
theorem iU(a:At K mg "is_digit" aj ["thing"])(T:Txt K mg tk)(dM:Df P w K mg base "is_number" ["thing"] 1 cD):Df P w K mg base "is_digit" ["thing"] 2 jz:=by
 refine a.dq iW (fun vs H Q E h=>?_) (fun f cdv A outer s H vs Q E hr h=>?_)
 ·obtain⟨x,t,rfl,_⟩:=h
  rfl
 ·obtain⟨x,t,rfl,hk,q⟩:=h
  refine⟨_,(qg (qq (zx (qr dM hr.mo (qd (qv 0) qb)) (Qk (aF Qv bQ qf (qv 0) (zc (v:= .int 16) rfl T.g_DIGITS ⟨_,rfl⟩)))))),?_⟩
  refine⟨_,rfl,x,t,rfl,hk,_,rfl,?_⟩
  cases hn:cz x with
  |false=>
   refine zi ?_
   rw[nA hn]at q
   exact q
  |true=>
   refine zq ?_
   obtain⟨i,rfl⟩:=oW hn
   refine⟨_,rfl,_,_,rfl,rfl,_,rfl,?_⟩
   have q':Q (.bl (decide (0<=i)&&decide (i<16))) H:=q
   refine qX (fun h0=>?_) (fun h0=>?_)
   ·refine⟨_,_,rfl,rfl,?_⟩
    rw[h0,Bool.true_and]at q'
    exact q'
   ·rw[Bool.eq_false_iff.mpr h0,Bool.false_and]at q'
    exact q'
theorem f9(a:At K mg "are_digits" ZH ["things"])(T:Txt K mg tk)(xS:Df P w K mg base "is_digit" ["thing"] 2 jz):Df P w K mg base "are_digits" ["things"] 3 gW:=by
 refine a.dq ge (fun vs H Q E h=>?_) (fun f cdv A outer s H vs Q E hr h=>?_)
 ·obtain⟨x,t,rfl,_⟩:=h
  rfl
 ·obtain⟨p,xs,rfl,hp,hz,hk,q⟩:=h
  refine⟨_,(qg (qq (qm (ZJ rfl) (by rfl) T.b_all PyProof.Rows.boot_all (qd (zK (own:=["thing"]) (fr:=[]) (js:=[]) rfl (bH (qv 0)) rfl (fun _ _ h=>nomatch h) rfl (cp rfl (by decide +kernel) (by decide +kernel) (by decide +kernel)) (fun _ _ _ _=>qi (i:=0) (show List.Nodup (["thing"]:List Str)from by decide +kernel) rfl (Or.inl rfl) (.inr rfl)) (fun _ _ _ _=>(qr xS hr.mo (qd (qv 0) qb)))) qb)))),?_⟩
  refine⟨_,rfl,p,rfl,⟨xs,SqT.of hp⟩,cr (xs:=xs) hz (fun i ys H2=>ys=(xs.take i).map (fun x=>V.bl (aq x))/\Same H H2) ⟨by simp,Same.refl H⟩ (fun i ys H2 ⟨_,s2⟩=>SqT.of (s2 _ _ hp)) ?_ ?_⟩
  ·rintro i ys H2 x hx _ ⟨rfl,s2⟩
   obtain⟨t,ht⟩:=hk x (List.mem_of_getElem? hx)
   refine⟨_,rfl,x,t,rfl,bL s2 ht,?_,s2⟩
   rw[List.take_add_one,hx]
   simp
  ·rintro ys H2 _ ⟨rfl,s2⟩ l hl
   rw[List.take_length]
   refine⟨l,xs.map aq,rfl,SqL.of (by rw[List.map_map];exact qc),?_⟩
   rw[List.all_map]
   exact q _ (s2.trans (Same.upd hl))
theorem kF(a:At K mg "is_name" a9 ["thing"])(T:Txt K mg tk):Df P w K mg base "is_name" ["thing"] 1 fH:=by
 refine a.dq j6 (fun vs H Q E h=>?_) (fun f cdv A outer s H vs Q E hr h=>?_)
 ·obtain⟨_,_,rfl,_⟩:=h
  rfl
 ·obtain⟨x,b,rfl,hx,q⟩:=h
  refine⟨_,(qe (qF (QW.pt (zP (zT (q9 (qm qG (by rfl) T.b_isinstance PyProof.Rows.boot_isinstance (qd (qv 0) (qd (qE (v:= .ty "str") rfl T.b_str PyProof.Rows.boot_str rfl) qb))))) (zD (zT (hZ Qv Qv qf (qm ir (by rfl) T.b_len PySem.boot_len (qd (qv 0) qb)) (zc (v:= .int 8) rfl T.g_LONGEST_NAME ⟨_,rfl⟩)))))) (qg (qq QR)) qy)
   (qg (qq (qm (ZJ rfl) (by rfl) T.b_all PyProof.Rows.boot_all (qd (zK (own:=["letter"]) (fr:=[]) (js:=[]) rfl (nj (qv 0)) rfl (fun _ _ h=>nomatch h) rfl (cp rfl (by decide +kernel) (by decide +kernel) (by decide +kernel)) (fun _ _ _ _=>qi (i:=0) (show List.Nodup (["letter"]:List Str)from by decide +kernel) rfl (Or.inl rfl) (.inr rfl)) (fun _ _ _ _=>(aF fW fW qz (qv 0) qz))) qb))))),?_⟩
  rcases hx with⟨z,rfl,hz,hl,rfl⟩|⟨t,hk,hs,rfl⟩
  case inr=>
   refine⟨_,rfl,x,"str",t,rfl,io hk,by simp,_,rfl,?_⟩
   rw[hs]
   exact zq (q _ (Same.refl _))
  have zl:z.length=z.cps.toList.length:=rfl
  refine⟨_,rfl,_,"str","str",rfl,.str z,by simp,_,rfl,?_⟩
  refine zi ?_
  refine⟨_,rfl,z,rfl,by rw[sizeLine_eq];omega,_,_,rfl,rfl,_,rfl,?_⟩
  unfold rD at q
  by_cases h1:1<=z.length
  case neg=>
   refine zJ (decide_eq_false (by omega)) ⟨_,rfl,zq ?_⟩
   rw[decide_eq_false h1,Bool.false_and,Bool.false_and]at q
   exact q _ (Same.refl _)
  refine zE (decide_eq_true (by omega)) ?_
  refine⟨_,_,rfl,rfl,_,rfl,?_⟩
  rw[decide_eq_true h1,Bool.true_and]at q
  by_cases h8:z.length<=8
  case neg=>
   refine zE (by rw[decide_eq_false (by omega:¬((z.length:Nat):Int)<=8)];rfl) ?_
   rw[decide_eq_false h8,Bool.false_and]at q
   exact q _ (Same.refl _)
  refine zJ (by rw[decide_eq_true (by omega:((z.length:Nat):Int)<=8)];rfl) ?_
  rw[decide_eq_true h8,Bool.true_and]at q
  refine⟨_,rfl,z,rfl,hz,oy (by show z.cps.toList.length<=_;rw[sizeLine_eq];omega) (fun i ys H2=>H2=H/\ys=((z.cps.toList.take i).map iF).map V.bl) ⟨rfl,rfl⟩ ?_ ?_⟩
  ·rintro i ys H2 c hc _ ⟨rfl,rfl⟩
   have hc':=jQ hc
   obtain⟨l1,l2⟩:=ki c
   refine⟨_,rfl,_,_,rfl,rfl,_,rfl,?_⟩
   rw[List.take_add_one,hc',List.map_append,List.map_append]
   by_cases h97:97<=c
   ·refine zE (by rw[l1,decide_eq_true h97]) ⟨_,_,rfl,rfl,rfl,?_⟩
    rw[l2]
    show _=_++[V.bl (decide (97<=c)&&decide (c<=122))]
    rw[decide_eq_true h97,Bool.true_and]
   ·refine zJ (by rw[l1,decide_eq_false h97]) ⟨rfl,?_⟩
    show _=_++[V.bl (decide (97<=c)&&decide (c<=122))]
    rw[decide_eq_false h97,Bool.false_and]
  ·rintro ys H2 hl ⟨rfl,rfl⟩ l hl'
   refine⟨l,z.cps.toList.map iF,rfl,SqL.of (by rw[show z.cps.size=z.cps.toList.length from rfl,List.take_length];exact qc),?_⟩
   rw[List.all_map]
   exact q _ (Same.upd hl')
theorem kM(a:At K mg "is_code" bA ["thing"])(T:Txt K mg tk)(xI:Df P w K mg base "are_digits" ["things"] 3 gW):Df P w K mg base "is_code" ["thing"] 4 ft:=by
 refine a.dq kj (fun vs H Q E h=>?_) (fun f cdv A outer s H vs Q E hr h=>?_)
 ·obtain⟨_,_,rfl,_⟩:=h
  rfl
 ·obtain⟨x,b,rfl,hx,q⟩:=h
  refine⟨_,(qe (qF (zT (q9 (qm qG (by rfl) T.b_isinstance PyProof.Rows.boot_isinstance (qd (qv 0) (qd (qE (v:= .ty "tuple") rfl T.b_tuple PyProof.Rows.boot_tuple rfl) qb))))) (qg (qq QR)) qy)
   (qg (qq (zx (zb zd (qm qT (by rfl) T.b_len PySem.boot_len (qd (qv 0) qb)) (zc (v:= .int 5) rfl T.g_CODE_DIGITS ⟨_,rfl⟩) (qw _)) (Qk (qr xI hr.mo (qd (qv 0) qb))))))),?_⟩
  rcases hx with⟨pc,ds,rfl,hp,hl,hk,rfl⟩|⟨t,hk,hs,rfl⟩
  case inr=>
   refine⟨_,rfl,x,"tuple",t,rfl,io hk,by simp,_,rfl,?_⟩
   rw[hs]
   exact zq (q _ (Same.refl _))
  refine⟨_,rfl,_,"tuple","tuple",rfl,.tup (.inl hp),by simp,_,rfl,?_⟩
  refine zi ?_
  refine⟨_,rfl,pc,_,rfl,.inr (SqT.of hp),rfl,_,rfl,?_⟩
  by_cases h5:ds.length=5
  ·refine zE (decide_eq_true (by rw[h5];rfl)) ?_
   refine⟨_,rfl,pc,_,rfl,hp,by rw[sizeLine_eq];omega,hk,fun H' s'=>?_⟩
   rw[decide_eq_true h5,Bool.true_and]at q
   exact q _ s'
  ·rw[decide_eq_false h5,Bool.false_and]at q
   refine zJ (decide_eq_false (by intro z;injection z with z;omega)) ?_
   exact q _ (Same.refl _)
theorem i4(a:At K mg "is_press" aH ["thing"])(T:Txt K mg tk)(xV:Df P w K mg base "is_name" ["thing"] 1 fH)(dM:Df P w K mg base "is_number" ["thing"] 1 cD)(xZ:Df P w K mg base "is_code" ["thing"] 4 ft):Df P w K mg base "is_press" ["thing"] 5 aI:=by
 refine a.dq sc_is_press (fun vs H Q E h=>?_) (fun f cdv A outer s H vs Q E hr h=>?_)
 ·obtain⟨_,_,rfl,_⟩:=h
  rfl
 ·obtain⟨x,b,rfl,hx,q⟩:=h
  refine⟨_,(qe (qF (QW.pt (zP (zT (q9 (qm qG (by rfl) T.b_isinstance PyProof.Rows.boot_isinstance (qd (qv 0) (qd (qE (v:= .ty "tuple") rfl T.b_tuple PyProof.Rows.boot_tuple rfl) qb))))) (zD (qB Zj (qm qT (by rfl) T.b_len PySem.boot_len (qd (qv 0) qb)) qf (qw _))))) (qg (qq QR)) qy)
   (qe (qZ (qv 0) (zu rfl (qp (qi (i:=1) sc_is_press.nd rfl (Or.inl rfl)) (qp (qi (i:=2) sc_is_press.nd rfl (Or.inl rfl)) (qp (qi (i:=3) sc_is_press.nd rfl (Or.inl rfl)) qP)))))
   (qg (qq (zx (qr xV hr.mo (qd (qv 1) qb)) (zx (qr dM hr.mo (qd (qv 2) qb)) (Qk (qr xZ hr.mo (qd (qv 3) qb))))))))),?_⟩
  cases hx with
  | @kd t hk hs=>
   refine⟨_,rfl,x,"tuple",t,rfl,io hk,by simp,_,rfl,?_⟩
   rw[hs]
   exact zq (q _ (Same.refl _))
  | @len a xs e h l n=>
   subst e
   refine⟨_,rfl,_,"tuple","tuple",rfl,.tup (.inl h),by simp,_,rfl,?_⟩
   refine zi ?_
   refine⟨_,rfl,a,_,rfl,.inr (SqT.of h),rfl,_,rfl,?_⟩
   refine zE (by rw[decide_eq_false (by intro z;injection z with z;omega)];rfl) ?_
   exact q _ (Same.refl _)
  | @tup a n y c bn bc ty e h hn hy hc=>
   subst e
   refine⟨_,rfl,_,"tuple","tuple",rfl,.tup (.inl h),by simp,_,rfl,?_⟩
   refine zi ?_
   refine⟨_,rfl,a,_,rfl,.inr (SqT.of h),rfl,_,rfl,?_⟩
   refine Zl rfl ?_
   refine⟨_,rfl,a,_,rfl,.tup h,rfl,_,_,rfl,_,_,rfl,_,_,rfl,rfl,?_⟩
   refine⟨_,rfl,n,bn,rfl,hn,fun H1 s1=>⟨_,rfl,?_⟩⟩
   cases bn with
   |false=>exact zi (q _ s1)
   |true=>
    refine zq ?_
    refine⟨_,rfl,y,ty,rfl,bL s1 hy,_,rfl,?_⟩
    cases hnum:cz y with
    |false=>
     rw[hnum]at q
     exact zi (q _ s1)
    |true=>
     rw[hnum]at q
     refine zq ?_
     exact⟨_,rfl,c,bc,rfl,hc.same s1,fun H2 s2=>q _ (s1.trans s2)⟩
theorem kg(a:At K mg "word_of" aW ["count","last","near","far"])(T:Txt K mg tk):Df P w K mg base "word_of" ["count","last","near","far"] 1 jx:=by
 refine a.dq kA (fun vs H Q E h=>?_) (fun f cdv A outer s H vs Q E hr h=>?_)
 ·obtain⟨c,l,n,f,rfl,_⟩:=h
  rfl
 ·obtain⟨c,l,n,f,rfl,q⟩:=h
  unfold ku at q
  refine⟨_,(qe (qF (qB Qv (qv 0) (qv 1) (qw _)) (qg (qq qz)) qy)
   (qe (qF (qB Qv (qv 0) (qu qH (qv 1) (qv 2)) (qw _)) (qg (qq qz)) qy)
   (qe (qF (qB Qv (qv 0) (qu qH (qv 1) (qv 3)) (qw _)) (qg (qq qz)) qy)
   (qg (qq qz))))),?_⟩
  refine⟨_,rfl,_,rfl,_,_,rfl,rfl,_,rfl,?_⟩
  refine qX (fun z=>?_) (fun z=>?_)
  ·rw[if_pos (of_decide_eq_true z)]at q;exact q
  ·rw[if_neg (fun y=>z (decide_eq_true y))]at q
   refine⟨_,rfl,_,rfl,_,rfl,_,_,rfl,rfl,_,_,rfl,rfl,_,rfl,?_⟩
   refine qX (fun z=>?_) (fun z=>?_)
   ·rw[if_pos (of_decide_eq_true z)]at q;exact q
   ·rw[if_neg (fun y=>z (decide_eq_true y))]at q
    refine⟨_,rfl,_,rfl,_,rfl,_,_,rfl,rfl,_,_,rfl,rfl,_,rfl,?_⟩
    refine qX (fun z=>?_) (fun z=>?_)
    ·rw[if_pos (of_decide_eq_true z)]at q;exact q
    ·rw[if_neg (fun y=>z (decide_eq_true y))]at q;exact q
theorem kB(a:At K mg "step_by" bF ["button","age","count","near","far"])(T:Txt K mg tk)(xW:Df P w K mg base "word_of" ["count","last","near","far"] 1 jx):Df P w K mg base "step_by" ["button","age","count","near","far"] 2 jG:=by
 refine a.dq sc_step_by (fun vs H Q E h=>?_) (fun f cdv A outer s H vs Q E hr h=>?_)
 ·obtain⟨_,_,_,_,_,_,rfl,_⟩:=h
  rfl
 ·obtain⟨a,e,age,c,near,far,rfl,⟨v,hb,hw⟩,q⟩:=h
  refine⟨_,(qe (qZ (qv 0) (zu rfl (qp (qi (i:=5) sc_step_by.nd rfl (Or.inl rfl)) (qp (qi (i:=6) sc_step_by.nd rfl (Or.inl rfl)) (qp (qi (i:=7) sc_step_by.nd rfl (Or.inl rfl)) qP)))))
   (qe (qC (i:=8) sc_step_by.nd rfl (Or.inl rfl) (qr xW hr.mo (qd (qv 2) (qd (qv 6) (qd (qv 3) (qd (qv 4) qb))))))
   (qe (qF (QW.pt (gR (qB zd (qv 8) qz (qw _)) (eB (qB (mS hr) (qv 7) (qx (qd (qv 1) (qd (qu zH (qv 2) qf) qb))) (qw _))))) (qg (qC (i:=8) sc_step_by.nd rfl (Or.inl rfl) qz)) qy)
   (qe (qF (qB zd (qv 8) qz (qw _)) (qg (qq (qx (qd (qv 8) (qd (qx (qd (qv 1) (qd (qv 2) (qd zm qb)))) qb))))) qy)
   (qe (qF (qB zd (qv 8) qz (qw _)) (qg (qq (qx (qd (qv 8) (qd (qx (qd (qv 5) (qd (qv 6) (qd (qx (qd (qv 1) (qd (qv 2) qb))) qb)))) qb))))) qy)
   (qg (qq (qx (qd (qv 8) (qd (qv 0) qb)))))))))),?_⟩
  refine⟨_,rfl,a,_,rfl,.tup hb,rfl,_,_,rfl,_,_,rfl,_,_,rfl,rfl,?_⟩
  refine⟨_,rfl,_,rfl,_,rfl,_,rfl,c,e.last,near,far,rfl,?_⟩
  unfold zh at q
  unfold ku
  by_cases h1:c<=e.last
  ·rw[if_pos h1]
   rw[if_pos h1]at q
   refine⟨_,rfl,rfl,_,rfl,?_⟩
   refine qX (fun y=>absurd (of_decide_eq_true y) (by decide +kernel)) (fun _=>?_)
   refine⟨_,rfl,rfl,_,rfl,?_⟩
   refine qX (fun y=>absurd (of_decide_eq_true y) (by decide +kernel)) (fun _=>?_)
   refine⟨_,rfl,rfl,_,rfl,?_⟩
   refine qX (fun y=>absurd (of_decide_eq_true y) (by decide +kernel)) (fun _=>?_)
   refine⟨_,rfl,_,rfl,by show 2<=sizeLine;decide,fun q1 hq1=>?_⟩
   exact q q1 a _ (Same.upd hq1) qc (BuAt.same (Same.upd hq1) ⟨v,hb,hw⟩)
  ·rw[if_neg h1]
   rw[if_neg h1]at q
   by_cases h2:c<=e.last+near
   ·rw[if_pos h2]
    rw[if_pos h2]at q
    refine⟨_,rfl,rfl,_,rfl,?_⟩
    refine qX (fun y=>absurd (of_decide_eq_true y) (by decide +kernel)) (fun _=>?_)
    refine⟨_,rfl,rfl,_,rfl,?_⟩
    refine qX (fun _=>?_) (fun y=>absurd (decide_eq_true rfl) y)
    refine⟨_,rfl,_,rfl,_,rfl,by show 3<=sizeLine;decide,fun t ht=>⟨by show 2<=sizeLine;decide,fun q1 hq1=>?_⟩⟩
    have u1:=Same.upd (o:= .tup [.int age,.int c,.non]) ht
    have u2:=Same.upd (o:= .tup [.str "near",.ref t]) hq1
    exact q q1 t _ (u1.trans u2) qc ⟨.non,u2 _ _ qc,rfl⟩
   ·rw[if_neg h2]
    rw[if_neg h2]at q
    by_cases h3:c<=e.last+far
    ·rw[if_pos h3]
     rw[if_pos h3]at q
     refine⟨_,rfl,rfl,_,rfl,?_⟩
     refine qX (fun _=>?_) (fun y=>absurd (decide_eq_true rfl) y)
     refine⟨_,rfl,_,rfl,_,rfl,_,_,rfl,rfl,by show 2<=sizeLine;decide,fun t0 ht0=>?_⟩
     have u0:=Same.upd (o:= .tup [.int age,.int (c-1)]) ht0
     have hw0:=hw.mv (S:=[]) u0.mv (fun c h=>nomatch h)
     refine⟨e.wt,t0,age,c-1,hw0,rfl,.inl qc,_,rfl,?_⟩
     by_cases h4:e.wt=some (age,c-1)
     ·rw[if_pos h4]at q
      refine zE (decide_eq_true h4) ?_
      refine⟨_,rfl,rfl,_,rfl,?_⟩
      refine qX (fun _=>?_) (fun y=>absurd (decide_eq_true rfl) y)
      refine⟨_,rfl,_,rfl,_,rfl,by show 3<=sizeLine;decide,fun t ht=>⟨by show 2<=sizeLine;decide,fun q1 hq1=>?_⟩⟩
      have u1:=Same.upd (o:= .tup [.int age,.int c,.non]) ht
      have u2:=Same.upd (o:= .tup [.str "near",.ref t]) hq1
      exact q q1 t _ ((u0.trans u1).trans u2) qc ⟨.non,u2 _ _ qc,rfl⟩
     ·rw[if_neg h4]at q
      refine zJ (decide_eq_false h4) ?_
      refine⟨_,rfl,rfl,_,rfl,?_⟩
      refine qX (fun y=>absurd (of_decide_eq_true y) (by decide +kernel)) (fun _=>?_)
      refine⟨_,rfl,rfl,_,rfl,?_⟩
      refine qX (fun _=>?_) (fun y=>absurd (decide_eq_true rfl) y)
      refine⟨_,rfl,_,rfl,_,rfl,_,rfl,_,rfl,by show 2<=sizeLine;decide,fun t1 ht1=>⟨by show 3<=sizeLine;decide,fun t ht=>⟨by show 2<=sizeLine;decide,fun q1 hq1=>?_⟩⟩⟩
      have u1:=Same.upd (o:= .tup [.int age,.int c]) ht1
      have u2:=Same.upd (o:= .tup [.int e.age,.int e.last,.ref t1]) ht
      have u3:=Same.upd (o:= .tup [.str "far",.ref t]) hq1
      exact q q1 t _ (((u0.trans u1).trans u2).trans u3) qc ⟨.ref t1,u3 _ _ qc,t1,rfl,u3 _ _ (u2 _ _ qc)⟩
    ·rw[if_neg h3]
     rw[if_neg h3]at q
     refine⟨_,rfl,rfl,_,rfl,?_⟩
     refine qX (fun y=>absurd (of_decide_eq_true y) (by decide +kernel)) (fun _=>?_)
     refine⟨_,rfl,rfl,_,rfl,?_⟩
     refine qX (fun y=>absurd (of_decide_eq_true y) (by decide +kernel)) (fun _=>?_)
     refine⟨_,rfl,rfl,_,rfl,?_⟩
     refine qX (fun y=>absurd (of_decide_eq_true y) (by decide +kernel)) (fun _=>?_)
     refine⟨_,rfl,_,rfl,by show 2<=sizeLine;decide,fun q1 hq1=>?_⟩
     exact q q1 a _ (Same.upd hq1) qc (BuAt.same (Same.upd hq1) ⟨v,hb,hw⟩)
end
section
variable{P:Program}{w:World}{K:Frag}{mg:Str->Option Value}{base:Heap}{tk:Nat->Tok}{C:Addr}
theorem eu(a:AtM K C "__init__" "Door.__init__" Qx ["self","table","keys","near","far","most"])(T:Txt K mg tk)(U:DCx K C):Mf P w K mg base C "__init__" ["self","table","keys","near","far","most"] 1 (jF K C):=by
 refine a.mq Z9 (fun vs H Q E h=>?_) (fun f cdv A outer s H vs Q E hr h=>?_)
 ·obtain⟨_,_,_,_,_,_,_,_,_,rfl,_⟩:=h
  rfl
 ·obtain⟨p,a,b,dx,near,far,most,t,kss,rfl,hp,ha,hb,hl,q⟩:=h
  refine⟨_,(qe (zo (qv 0) (qL cm (by rfl) T.b_tuple PyProof.Rows.boot_tuple (qd (qv 1) qb)))
   (qe (zo (qv 0) (zK (own:=["key"]) (fr:=[]) (js:=[]) rfl (Qb (qv 2)) rfl (fun _ _ h=>nomatch h) rfl (cp rfl (by decide +kernel) (by decide +kernel) (by decide +kernel)) (fun _ _ _ _=>qi (i:=0) (show List.Nodup (["key"]:List Str)from by decide +kernel) rfl (Or.inl rfl) (.inr rfl)) (fun _ _ _ _=>(qL cf (by rfl) T.b_tuple PyProof.Rows.boot_tuple (qd (qv 0) qb)))))
   (qe (zo (qv 0) (qv 3))
   (qe (zo (qv 0) (qv 4))
   (qe (zo (qv 0) (qv 5))
   (qe (zo (qv 0) qf)
   (qe (zo (qv 0) cC)
   (qg (zo (qv 0) (q8 qb)))))))))),?_⟩
  refine⟨_,rfl,a,_,rfl,ha,fun ta H2 s2 ht=>⟨_,rfl,p,_,rfl,zg U.cl (s2 _ _ hp) U.n_table 0,?_⟩⟩
  have e2:=s2 _ _ hp
  have hb2:=(hb.same s2).upd (o:= .ins C dx [("table",.ref ta)]) e2
  obtain⟨as,eb,la,hks⟩:=hb2
  have ht2:=bM (o:= .ins C dx [("table",.ref ta)]) e2 ht
  refine⟨_,rfl,b,rfl,⟨_,SqL.of eb⟩,bu (K:=K) (xs:=as.map V.ref) (by rw[List.length_map,la,sizeLine_eq];omega) (fun i ys H3=>Same (upd H2 p (.ins C dx [("table",.ref ta)])) H3/\∃bs:List Addr,ys=bs.map V.ref/\bs.length=i/\∀(j:Nat) (x:Addr) (ks:List Int),bs[j]? =some x->kss[j]? =some ks->SqT [] H3 x (ks.map V.int)) ⟨Same.refl _,[],rfl,rfl,fun j x ks e=>by(cases e)⟩ (fun i ys H3 ⟨s3,_⟩=>s3.seq (SqL.of eb)) ?_ ?_⟩
  ·rintro i ys H3 x hx hyl ⟨s3,bs,rfl,hbl,hbs⟩
   rw[List.getElem?_map]at hx
   cases ea:as[i]? with
   |none=>rw[ea]at hx;cases hx
   |some x0=>
    rw[ea]at hx
    obtain rfl:V.ref x0=x:=Option.some.inj hx
    have hi:i<kss.length:=by rw[<- la];exact(List.getElem?_eq_some_iff.mp ea).1
    have hk0:=hks i x0 kss[i] ea (List.getElem?_eq_getElem hi)
    refine⟨_,rfl,x0,_,rfl,.inr (Same.sqt s3 hk0).rd,fun l H4 s4 hl4=>⟨s3.trans s4,bs++[l],by simp,by simp [hbl],fun j y ks e1 e2'=>?_⟩⟩
    rw[List.getElem?_append]at e1
    split at e1
    ·exact Same.sqt s4 (hbs j y ks e1 e2')
    ·have hj:j-bs.length=0:=by
      cases hj:j-bs.length with
      |zero=>rfl
      |succ k=>rw[hj]at e1;cases e1
     rw[hj]at e1
     cases e1
     have:j=i:=by omega
     subst this
     rw[List.getElem?_eq_getElem hi]at e2'
     cases e2'
     exact .inl hl4
  ·rintro ys H3 hyl ⟨s3,bs,rfl,hbl,hbs⟩ hk hhk
   have u3:=Same.upd (o:= .lst (bs.map V.ref)) hhk
   have e3:=u3 _ _ (s3 _ _ qc)
   refine⟨_,rfl,p,_,rfl,zg U.cl e3 U.n_house_keys 1,?_⟩
   refine⟨_,rfl,_,rfl,p,_,rfl,zg U.cl qc U.n_near 2,?_⟩
   refine⟨_,rfl,_,rfl,p,_,rfl,zg U.cl qc U.n_far 3,?_⟩
   refine⟨_,rfl,_,rfl,p,_,rfl,zg U.cl qc U.n_most 4,?_⟩
   refine⟨_,rfl,p,_,rfl,zg U.cl qc U.n_least_age 5,?_⟩
   refine fun bd hbd=>⟨_,rfl,p,_,rfl,zg U.cl (by rw[qh (qo qc hbd)];exact qc) U.n_buttons 6,?_⟩
   have nbd:=qo qc hbd
   refine⟨by show 0<=sizeLine;decide,fun lg hlg=>⟨_,rfl,p,_,rfl,zg U.cl (by rw[qh (qo qc hlg)];exact qc) U.n_log 7,?_⟩⟩
   have nlg:=qo qc hlg
   have m3:Mv [p] H H3:=((s2.mv (S:=[p])).trans Mv.upd1).trans s3.mv
   have nhk:hk≠p:=(qo (s3 _ _ qc) hhk).symm
   have m4:Mv [p] H (upd H3 hk (.lst (bs.map V.ref))):=m3.trans u3.mv
   have M:∀o1 o2 o3 o4 o5,Mv [p] (upd H3 hk (.lst (bs.map V.ref))) (upd (upd (upd (upd (upd (upd H3 hk (.lst (bs.map V.ref))) p o1) p o2) p o3) p o4) p o5):=fun o1 o2 o3 o4 o5=>(((Mv.upd1.trans Mv.upd1).trans Mv.upd1).trans Mv.upd1).trans Mv.upd1
   have M6:Mv [p] (upd H3 hk (.lst (bs.map V.ref))) _:=(((M _ _ _ _ _).trans (Same.upd hbd).mv).trans Mv.upd1).trans (Same.upd (o:= .lst []) hlg).mv
   have M7:=M6.trans (Mv.upd1 (o:= .ins C dx (dF ⟨t,kss,near,far,most,0,[]⟩ ta hk bd lg)))
   have nt:NT [p] (upd H3 hk (.lst (bs.map V.ref))):=NT.one e3 trivial
   have hbdlg:bd≠lg:=qo (by rw[qh nbd.symm];exact qc) hlg
   have KR:=KsAt.mv M7 nt (qR nhk) (show KsAt [] _ hk kss from⟨bs,qc,by rw[hbl,List.length_map,la],fun j x ks e1 e2'=>Same.sqt u3 (hbs j x ks e1 e2')⟩)
   refine q ta hk bd lg _ (m3.nfree (qR nhk) hhk) ((m4.trans (M _ _ _ _ _)).nfree (qR nbd.symm) hbd) ((m4.trans ((((M _ _ _ _ _).trans (Same.upd hbd).mv).trans Mv.upd1))).nfree (qR nlg.symm) hlg) (m4.trans M7) ⟨⟨dx,qc⟩,?_,KsAt.up KR,?_,?_,?_⟩ KR
   ·exact M7.sqt nt (Same.sqt u3 (Same.sqt s3 ht2))
   ·exact⟨([],fun _=>0),by rw[qh nbd.symm,qh hbdlg,qh nbd.symm];exact qc,fun e he=>by(cases he),.refl _,List.nodup_nil⟩
   ·exact⟨[],by rw[qh nlg.symm];exact qc,Nat.le_refl _⟩
   ·refine(qo (o:= .lst (bs.map V.ref)) ?_ hlg).symm
    rw[qh nhk]
    rw[qh (qo (o:= .lst (bs.map V.ref)) (by rw[qh nhk,qh nhk,qh nhk,qh nhk,qh nhk];exact qc) hbd)]
    rw[qh nhk,qh nhk,qh nhk,qh nhk,qh nhk]
    exact qc
theorem c7(a:AtM K C "is_full" "Door.is_full" Q6 ["self"])(T:Txt K mg tk)(U:DCx K C):Mf P w K mg base C "is_full" ["self"] 1 (jn K C):=by
 refine a.mq cW (fun vs H Q E h=>?_) (fun f cdv A outer s H vs Q E hr h=>?_)
 ·obtain⟨_,_,_,_,_,_,_,rfl,_⟩:=h
  rfl
 ·obtain⟨p,ta,hk,bd,lg,n,D,rfl,b,q⟩:=h
  obtain⟨fn,hd,_,hpm,_⟩:=b.kb
  refine⟨_,(qg (qq (zb li (qm mz (by rfl) T.b_len PySem.boot_len (qd (qO (qv 0)) qb)) (qO (qv 0)) (qw _)))),?_⟩
  refine⟨_,rfl,p,_,rfl,b.h_buttons U,bd,_,rfl,hd,_,rfl,p,_,rfl,b.h_most U,_,_,rfl,rfl,?_⟩
  rw[show(aa fn.1 fn.2).length=D.kn.length from(List.length_map _).trans hpm.length_eq]
  exact q
theorem bW(a:AtM K C "button_of" "Door.button_of" Qy ["self","name"])(T:Txt K mg tk)(U:DCx K C):Mf P w K mg base C "button_of" ["self","name"] 1 (kL K C):=by
 refine a.mq ca (fun vs H Q E h=>?_) (fun f cdv A outer s H vs Q E hr h=>?_)
 ·obtain⟨_,_,_,_,_,_,_,_,rfl,_⟩:=h
  rfl
 ·obtain⟨p,ta,hk,bd,lg,n,D,nm,rfl,b,q1,q2⟩:=h
  refine⟨_,(qg (qq (gr hr (qO (qv 0)) (qv 1)))),?_⟩
  obtain⟨fn,hd,_⟩:=id b.kb
  refine⟨_,rfl,p,_,rfl,b.h_buttons U,bd,rfl,.inl ⟨_,.inl hd⟩,_,rfl,?_⟩
  rcases b.kb.get nm with⟨e1,g⟩|⟨e,x,e1,g,hx⟩
  ·exact⟨_,g,q1 e1⟩
  ·exact⟨_,g,q2 e x e1 hx⟩
theorem b8(a:AtM K C "takes_age" "Door.takes_age" QC ["self","age"])(T:Txt K mg tk)(U:DCx K C):Mf P w K mg base C "takes_age" ["self","age"] 1 (cx K C):=by
 refine a.mq bZ (fun vs H Q E h=>?_) (fun f cdv A outer s H vs Q E hr h=>?_)
 ·obtain⟨_,_,_,_,_,_,_,_,rfl,_⟩:=h
  rfl
 ·obtain⟨p,ta,hk,bd,lg,n,D,age,rfl,b,q⟩:=h
  obtain⟨as,eh,la,_⟩:=b.ks
  refine⟨_,(qg (qq (aF Qv bQ (qO (qv 0)) (qv 1) (qm qT (by rfl) T.b_len PySem.boot_len (qd (qO (qv 0)) qb))))),?_⟩
  unfold Zc at q
  refine⟨_,rfl,p,_,rfl,b.h_least_age U,_,rfl,_,_,rfl,rfl,_,rfl,?_⟩
  refine qX (fun z=>?_) (fun z=>?_)
  ·rw[z,Bool.true_and]at q
   refine⟨_,rfl,p,_,rfl,b.h_house_keys U,hk,_,rfl,.inl (SqL.of eh),_,_,rfl,rfl,?_⟩
   rw[List.length_map,la]
   exact q
  ·rw[Bool.eq_false_iff.mpr z,Bool.false_and]at q
   exact q
theorem bp(a:AtM K C "takes_from" "Door.takes_from" Qo ["self","button","age"])(T:Txt K mg tk)(U:DCx K C)(dD:Mf P w K mg base C "takes_age" ["self","age"] 1 (cx K C)):Mf P w K mg base C "takes_from" ["self","button","age"] 2 (bI K C):=by
 refine a.mq a7 (fun vs H Q E h=>?_) (fun f cdv A outer s H vs Q E hr h=>?_)
 ·obtain⟨_,_,_,_,_,_,_,_,_,_,rfl,_⟩:=h
  rfl
 ·obtain⟨p,ta,hk,bd,lg,x,n,D,e,age,rfl,b,⟨v,hx,hw⟩,q⟩:=h
  refine⟨_,(qg (qq (zx (zy dD U.cl hr.mo (qv 0) (qd (qv 2) qb)) (Qk (zb li (qv 2) (qA qK (qv 1) qf (fun _ _=>rfl)) (qw _)))))),?_⟩
  unfold ze at q
  refine⟨_,rfl,p,rfl,b.no,_,rfl,p,ta,hk,bd,lg,n,D,age,rfl,b,_,rfl,?_⟩
  refine qX (fun z=>?_) (fun z=>?_)
  ·rw[z,Bool.true_and]at q
   exact⟨_,rfl,_,rfl,x,_,_,_,rfl,rfl,SqT.of hx,rfl,_,_,rfl,rfl,q⟩
  ·rw[Bool.eq_false_iff.mpr z,Bool.false_and]at q
   exact q
theorem bg(a:AtM K C "plain_step" "Door.plain_step" Qp ["self","button","age","count"])(T:Txt K mg tk)(U:DCx K C)(dB:Mf P w K mg base C "takes_from" ["self","button","age"] 2 (bI K C))(x6:Df P w K mg base "step_by" ["button","age","count","near","far"] 2 jG):Mf P w K mg base C "plain_step" ["self","button","age","count"] 3 (jv K C):=by
 refine a.mq bG (fun vs H Q E h=>?_) (fun f cdv A outer s H vs Q E hr h=>?_)
 ·obtain⟨_,_,_,_,_,_,_,_,_,_,_,rfl,_⟩:=h
  rfl
 ·obtain⟨p,ta,hk,bd,lg,x,n,D,e,age,c,rfl,b,hx,ht,q⟩:=h
  refine⟨_,(qe (qF (zT (q9 (zy dB U.cl hr.mo (qv 0) (qd (qv 1) (qd (qv 2) qb))))) (qg (qq (qx (qd qz (qd (qv 1) qb))))) qy)
   (qg (qq (qr x6 hr.mo (qd (qv 1) (qd (qv 2) (qd (qv 3) (qd (qO (qv 0)) (qd (qO (qv 0)) qb))))))))),?_⟩
  refine⟨_,rfl,p,rfl,b.no,_,rfl,_,rfl,p,ta,hk,bd,lg,x,n,D,e,age,rfl,b,hx,_,rfl,?_⟩
  rw[ht]
  refine zi ?_
  exact⟨_,rfl,_,rfl,_,rfl,_,rfl,p,_,rfl,b.h_near U,_,rfl,p,_,rfl,b.h_far U,x,e,age,c,D.near,D.far,rfl,hx,q⟩
theorem b9(a:AtM K C "answer_to" "Door.answer_to" QF ["self","press"])(T:Txt K mg tk)(U:DCx K C)(dC:Mf P w K mg base C "button_of" ["self","name"] 1 (kL K C))(dB:Mf P w K mg base C "takes_from" ["self","button","age"] 2 (bI K C))(dX:Mf P w K mg base C "plain_step" ["self","button","age","count"] 3 (jv K C))
  (dH:Df P w K mg base "read_press" ["table","key","press"] 3 (gT K)):Mf P w K mg base C "answer_to" ["self","press"] 4 (fk K C):=by
 refine a.mq sc_Door_answer_to (fun vs H Q E h=>?_) (fun f cdv A outer s H vs Q E hr h=>?_)
 ·obtain⟨_,_,_,_,_,_,_,_,_,_,_,rfl,_⟩:=h
  rfl
 ·obtain⟨p,ta,hk,bd,lg,pr,n,D,nm,age,ds,rfl,b,ok,⟨pc,hp,hpc⟩,hn,l5,hdd,q⟩:=h
  refine⟨_,(qe (qZ (qv 1) (zu rfl (qp (qi (i:=2) sc_Door_answer_to.nd rfl (Or.inl rfl)) (qp (qi (i:=3) sc_Door_answer_to.nd rfl (Or.inl rfl)) (qp (qi (i:=4) sc_Door_answer_to.nd rfl (Or.inl rfl)) qP)))))
   (qe (qC (i:=5) sc_Door_answer_to.nd rfl (Or.inl rfl) (zy dC U.cl hr.mo (qv 0) (qd (qv 2) qb)))
   (qe (qF (qB zZ (qv 5) zm (qw _)) (qg (qq (qx (qd qz (qd qz qb))))) qy)
   (qe (qF (zT (q9 (zy dB U.cl hr.mo (qv 0) (qd (qv 5) (qd (qv 3) qb))))) (qg (qq (qx (qd qz (qd qz qb))))) qy)
   (qe (qC (i:=6) sc_Door_answer_to.nd rfl (Or.inl rfl) (qr dH hr.mo (qd (qO (qv 0)) (qd (qA qI (qO (qv 0)) (qv 3) (fun _ _=>rfl)) (qd (qv 1) qb)))))
   (qe (qF (qB zZ (qv 6) zm (qw _)) (qg (qq (qx (qd qz (qd qz qb))))) qy)
   (qe (qZ (qv 6) (zu rfl (qp (qi (i:=7) sc_Door_answer_to.nd rfl (Or.inl rfl)) (qp (qi (i:=8) sc_Door_answer_to.nd rfl (Or.inl rfl)) qP))))
   (qe (qZ (zy dX U.cl hr.mo (qv 0) (qd (qv 5) (qd (qv 3) (qd (qv 7) qb)))) (zu rfl (qp (qi (i:=9) sc_Door_answer_to.nd rfl (Or.inl rfl)) (qp (qi (i:=10) sc_Door_answer_to.nd rfl (Or.inl rfl)) qP))))
   (qe (Q1 hr (qO (qv 0)) (qv 2) (qv 10))
   (qe (qF (qB zd (qv 9) qz (qw _)) (qg (qq (qx (qd qz (qd (qv 2) (qd (qv 8) qb)))))) qy)
   (qg (qq (qx (qd qz (qd (qv 9) qb))))))))))))))),?_⟩
  refine⟨_,rfl,pr,_,rfl,.tup hp,rfl,_,_,rfl,_,_,rfl,_,_,rfl,rfl,?_⟩
  refine⟨_,rfl,p,rfl,b.no,_,rfl,p,ta,hk,bd,lg,n,D,nm,rfl,b,fun e1=>?_,fun e x e1 hx=>?_⟩
  ·have eJ:qQ D nm age (QV D.t (Qc D age) nm ds)=([.str "held",.str "unknown"],D.kn):=by unfold qQ;rw[e1]
   rw[eJ]at q
   refine⟨_,rfl,rfl,_,rfl,?_⟩
   refine qX (fun _=>?_) (fun y=>absurd (decide_eq_true rfl) y)
   refine⟨by show 2<=sizeLine;decide,fun q1 hq1=>?_⟩
   exact q q1 _ (Same.upd hq1).mv qc (b.same (Same.upd hq1))
  ·refine⟨_,rfl,rfl,_,rfl,?_⟩
   refine qX (fun y=>nomatch (of_decide_eq_true y)) (fun _=>?_)
   refine⟨_,rfl,p,rfl,b.no,_,rfl,_,rfl,p,ta,hk,bd,lg,x,n,D,e,age,rfl,b,hx,_,rfl,?_⟩
   cases ht:ze D e age with
   |false=>
    have eJ:qQ D nm age (QV D.t (Qc D age) nm ds)=([.str "held",.str "age"],D.kn):=by unfold qQ;rw[e1];simp only;rw[ht];rfl
    rw[eJ]at q
    refine zq ?_
    refine⟨by show 2<=sizeLine;decide,fun q1 hq1=>?_⟩
    exact q q1 _ (Same.upd hq1).mv qc (b.same (Same.upd hq1))
   |true=>
    refine zi ?_
    obtain⟨a0,a1⟩:=bB ht ok.l0
    obtain⟨xs,ak,eh,hat,hak⟩:=b.ks.at a0 a1
    refine⟨_,rfl,p,_,rfl,b.h_table U,_,rfl,p,_,rfl,b.h_house_keys U,_,rfl,hk,_,_,_,rfl,rfl,SqL.of eh,hat,_,rfl,ta,ak,pr,pc,nm,age,D.t,Qc D age,ds,rfl,.inr b.tb,.inr hak,.tup hp,.tup hpc,hn,ok.tp,l5,hdd,fun y H1 s1 told=>?_⟩
    have b1:=b.same s1
    have hx1:=hx.same s1
    have told':aV H1 y (QV D.t (Qc D age) nm ds):=told
    cases er:QV D.t (Qc D age) nm ds with
    |none=>
     rw[er]at told' q
     have ey:y= .non:=told'
     subst ey
     have eJ:qQ D nm age none=([.str "held",.str "false"],D.kn):=by unfold qQ;rw[e1];simp only;rw[ht];rfl
     rw[eJ]at q
     refine⟨_,rfl,rfl,_,rfl,?_⟩
     refine qX (fun _=>?_) (fun y=>absurd (decide_eq_true rfl) y)
     refine⟨by show 2<=sizeLine;decide,fun q1 hq1=>?_⟩
     exact q q1 _ (s1.trans (Same.upd hq1)).mv qc (b1.same (Same.upd hq1))
    |some cd=>
     obtain⟨c,d⟩:=cd
     rw[er]at told' q
     obtain⟨pp,ey,hpp⟩:=told'
     subst ey
     refine⟨_,rfl,rfl,_,rfl,?_⟩
     refine qX (fun y=>nomatch (of_decide_eq_true y)) (fun _=>?_)
     refine⟨_,rfl,pp,_,rfl,.tup hpp,rfl,_,_,rfl,_,_,rfl,rfl,?_⟩
     refine⟨_,rfl,p,rfl,b1.no,_,rfl,_,rfl,_,rfl,p,ta,hk,bd,lg,x,n,D,e,age,c,rfl,b1,hx1,ht,fun q1 a' H2 s2 hq1 hb'=>⟨q1,_,rfl,.tup hq1,rfl,_,_,rfl,_,_,rfl,rfl,?_⟩⟩
     have b2:=b1.same s2
     obtain⟨H3,dp,m3,kb3⟩:=b2.kb.put nm (by have:=ok.nl;omega) hb'
     refine⟨_,rfl,_,rfl,p,_,rfl,b2.h_buttons U,_,rfl,bd,H3,rfl,dp,?_⟩
     have b3:=b2.putK m3 kb3
     have mm:Mv [bd] H H3:=(s1.trans s2).mv.trans m3
     refine⟨_,rfl,rfl,_,rfl,?_⟩
     by_cases hw:(zh D.near D.far e age c).1="near"
     ·have eJ:qQ D nm age (some (c,d))=([.str "open",.str nm,.int d],za D.kn nm (zh D.near D.far e age c).2):=by unfold qQ;rw[e1];simp only;rw[if_pos ht,if_pos hw]
      rw[eJ]at q
      refine qX (fun _=>?_) (fun y=>absurd (decide_eq_true (by rw[hw])) y)
      refine⟨_,rfl,_,rfl,by show 3<=sizeLine;decide,fun q2 hq2=>?_⟩
      exact q q2 _ (mm.trans (Same.upd hq2).mv) qc (b3.same (Same.upd hq2))
     ·have eJ:qQ D nm age (some (c,d))=([.str "held",.str (zh D.near D.far e age c).1],za D.kn nm (zh D.near D.far e age c).2):=by unfold qQ;rw[e1];simp only;rw[if_pos ht,if_neg hw]
      rw[eJ]at q
      refine qX (fun y=>absurd (of_decide_eq_true y) (by intro z;injection z with z;exact hw z)) (fun _=>?_)
      refine⟨_,rfl,by show 2<=sizeLine;decide,fun q2 hq2=>?_⟩
      exact q q2 _ (mm.trans (Same.upd hq2).mv) qc (b3.same (Same.upd hq2))
theorem a8(a:AtM K C "read_right" "Door.read_right" Qq ["self","thing"])(T:Txt K mg tk)(U:DCx K C)(dR:Df P w K mg base "is_press" ["thing"] 5 aI)(dD:Mf P w K mg base C "takes_age" ["self","age"] 1 (cx K C))(dH:Df P w K mg base "read_press" ["table","key","press"] 3 (gT K)):Mf P w K mg base C "read_right" ["self","thing"] 6 (fg K C):=by
 refine a.mq bf (fun vs H Q E h=>?_) (fun f cdv A outer s H vs Q E hr h=>?_)
 ·obtain⟨_,_,_,_,_,_,_,_,_,rfl,_⟩:=h
  rfl
 ·obtain⟨p,ta,hk,bd,lg,n,D,x,o,rfl,b,ok,tg,q⟩:=h
  refine⟨_,(qe (qF (QW.pt (zP (zT (q9 (qr dR hr.mo (qd (qv 1) qb)))) (zD (zT (q9 (zy dD U.cl hr.mo (qv 0) (qd (qA qK (qv 1) qf (fun _ _=>rfl)) qb))))))) (qg (qq zm)) qy)
   (qg (qq (qr dH hr.mo (qd (qO (qv 0)) (qd (qA qI (qO (qv 0)) (qA qK (qv 1) qf (fun _ _=>rfl)) (fun _ _=>rfl)) (qd (qv 1) qb))))))),?_⟩
  refine⟨_,rfl,x,_,rfl,tg.b,fun H1 s1=>⟨_,rfl,?_⟩⟩
  cases o with
  |none=>exact zq (zq (q .non _ s1 rfl))
  |some PP=>
  obtain⟨pr,rfl,hp,hn,l5,hdd⟩:=tg
  have q:∀y H',Same H H'->aV H' y (bD D PP)->Q y H':=q
  obtain⟨nm,age,ds⟩:=PP
  simp only at hn l5 hdd
  refine zi ?_
  have b1:=b.same s1
  obtain⟨pc,hp1,hpc1⟩:=PrAt.same s1 hp
  refine⟨_,rfl,p,rfl,b1.no,_,rfl,pr,_,_,_,rfl,rfl,SqT.of hp1,rfl,p,ta,hk,bd,lg,n,D,age,rfl,b1,_,rfl,?_⟩
  unfold bD at q
  cases ht:Zc D age with
  |false=>
   rw[if_neg (by rw[ht];intro z;cases z)]at q
   exact zq (q _ _ s1 rfl)
  |true=>
  rw[if_pos ht]at q
  refine zi ?_
  have ht':ze D ⟨age,0,none⟩ age=true:=by unfold ze;rw[ht,decide_eq_true (Int.le_refl _)];rfl
  obtain⟨a0,a1⟩:=bB ht' ok.l0
  obtain⟨xs,ak,eh,hat,hak⟩:=b1.ks.at a0 a1
  exact⟨_,rfl,p,_,rfl,b1.h_table U,_,rfl,p,_,rfl,b1.h_house_keys U,_,rfl,pr,_,_,_,rfl,rfl,SqT.of hp1,rfl,hk,_,_,_,rfl,rfl,SqL.of eh,hat,_,rfl,ta,ak,pr,pc,nm,age,D.t,Qc D age,ds,rfl,.inr b1.tb,.inr hak,.tup hp1,.tup hpc1,hn,ok.tp,l5,hdd,fun y H2 s2 told=>q y H2 (s1.trans s2) told⟩
theorem bX(a:AtM K C "known_now" "Door.known_now" QH ["self"])(T:Txt K mg tk)(U:DCx K C):Mf P w K mg base C "known_now" ["self"] 1 (iR K C):=by
 refine a.mq bY (fun vs H Q E h=>?_) (fun f cdv A outer s H vs Q E hr h=>?_)
 ·obtain⟨_,_,_,_,_,_,_,rfl,_⟩:=h
  rfl
 ·obtain⟨p,ta,hk,bd,lg,n,D,rfl,b,ok,q⟩:=h
  obtain⟨fn,hd,hbu,hpm,_⟩:=id b.kb
  refine⟨_,(qg (qq (qL qS (by rfl) T.b_tuple PyProof.Rows.boot_tuple (qd (zK (own:=["name"]) (fr:=["self"]) (js:=[0]) rfl (Qb (qm (gH rfl) (by rfl) T.b_sorted PyProof.Rows.boot_sorted (qd (qO (qv 0)) qb))) rfl (kT rfl) rfl (j5 rfl (by decide +kernel) (by decide +kernel) (by decide +kernel) rfl rfl rfl) (fun _ _ _ _=>qi (i:=0) (show List.Nodup (["name","self"]:List Str)from by decide +kernel) rfl (Or.inl rfl) (.inr rfl)) (fun _ _ _ _=>(qu bU (qx (qd (qv 0) qb)) (zL hr (sY (K:=K) rfl (qv 1)) (qv 0))))) qb)))),?_⟩
  refine⟨_,rfl,p,_,rfl,b.h_buttons U,bd,_,fn.1.map (·.1),rfl,hd,rS _ _,by rw[List.length_map,hpm.length_eq];have:=ok.nl;omega,fun l ss hl pm0 so=>⟨l,rfl,⟨_,SqL.of qc⟩,?_⟩⟩
  have pm:=pm0.trans (hpm.map (·.1))
  have u1:=Same.upd (o:= .lst (ss.map V.str)) hl
  have ls:ss.length<=60:=by rw[pm.length_eq,List.length_map];exact ok.nl
  refine bu (K:=K) (xs:=ss.map V.str) (by rw[List.length_map,sizeLine_eq];omega) (fun i ys H3=>Same (upd H l (.lst (ss.map V.str))) H3/\∃as:List Addr,ys=as.map V.ref/\as.length=i/\∀(j:Nat) (x:Addr) (nm:Str) (e:Kb),as[j]? =some x->ss[j]? =some nm->D.kn.lookup nm=some e->∃v,H3 x=some (.tup [.str nm,.int e.age,.int e.last,v])/\Wt H3 v e.wt) ⟨Same.refl _,[],rfl,rfl,fun j x nm e h=>by(cases h)⟩ (fun i ys H3 ⟨s3,_⟩=>s3.seq (SqL.of qc)) ?_ ?_
  ·rintro i ys H3 x hx hyl ⟨s3,as,rfl,hal,has⟩
   rw[List.getElem?_map]at hx
   cases es:ss[i]? with
   |none=>rw[es]at hx;cases hx
   |some nm=>
    rw[es]at hx
    obtain rfl:V.str nm=x:=Option.some.inj hx
    have hmem:nm∈D.kn.map (·.1):=pm.mem_iff.mp (List.mem_of_getElem? es)
    obtain⟨e,he⟩:=aP hmem
    have b3:=b.same (u1.trans s3)
    obtain⟨e',x0,he',g,v0,hx0,hw0⟩:=(b3.kb.get nm).resolve_left (fun z=>by rw[he]at z;cases z.1)
    rw[he]at he'
    cases he'
    refine⟨_,rfl,by show 1<=sizeLine;decide,fun t ht=>?_⟩
    have u4:=Same.upd (o:= .tup [.str nm]) ht
    have b4:=b3.same u4
    obtain⟨e',x0,he',g,v0,hx0,hw0⟩:=(b4.kb.get nm).resolve_left (fun z=>by rw[he]at z;cases z.1)
    rw[he]at he'
    cases he'
    refine⟨_,rfl,p,_,rfl,b4.h_buttons U,_,rfl,bd,_,rfl,g,t,x0,_,_,rfl,rfl,qc,hx0,by show 4<=sizeLine;decide,fun q1 H5 s5 hq1=>?_⟩
    refine⟨(s3.trans u4).trans s5,as++[q1],by simp,by simp [hal],fun j y m2 e2 h1 h2 h3=>?_⟩
    rw[List.getElem?_append]at h1
    split at h1
    ·obtain⟨v,a1,a2⟩:=has j y m2 e2 h1 h2 h3
     exact⟨v,s5 _ _ (u4 _ _ a1),a2.mv (S:=[]) (u4.trans s5).mv (fun c h=>nomatch h)⟩
    ·have hj:j-as.length=0:=by
      cases hj:j-as.length with
      |zero=>rfl
      |succ k=>rw[hj]at h1;cases h1
     rw[hj]at h1
     cases h1
     obtain rfl:j=i:=by omega
     rw[es]at h2
     cases h2
     rw[he]at h3
     cases h3
     exact⟨v0,hq1,hw0.mv (S:=[]) s5.mv (fun c h=>nomatch h)⟩
  ·rintro ys H3 hyl ⟨s3,as,rfl,hal,has⟩ l2 hl2
   have u4:=Same.upd (o:= .lst (as.map V.ref)) hl2
   refine⟨l2,_,rfl,.inl ⟨SqL.of qc,fun q1 hq1=>?_⟩⟩
   have u5:=Same.upd (o:= .tup (as.map V.ref)) hq1
   have S:=u4.trans u5
   refine q q1 ss _ ((u1.trans s3).trans S) pm so ⟨as,qc,by rw[hal,List.length_map],fun j x nm e h1 h2 h3=>?_⟩
   obtain⟨v,a1,a2⟩:=has j x nm e h1 h2 h3
   exact⟨v,S _ _ a1,a2.mv (S:=[]) S.mv (fun c h=>nomatch h)⟩
end
section
variable{P:Program}{w:World}{K:Frag}{mg:Str->Option Value}{base:Heap}{tk:Nat->Tok}{C:Addr}
theorem ip(a:AtM K C "hear" "Door.hear" ZX ["self","thing"])(T:Txt K mg tk)(U:DCx K C)(dR:Df P w K mg base "is_press" ["thing"] 5 aI)(dZ:Mf P w K mg base C "answer_to" ["self","press"] 4 (fk K C)):Mf P w K mg base C "hear" ["self","thing"] 6 (eM K C):=by
 refine a.mq sc_Door_hear (fun vs H Q E h=>?_) (fun f cdv A outer s H vs Q E hr h=>?_)
 ·obtain⟨_,_,_,_,_,rfl,_⟩:=h
  rfl
 ·obtain⟨⟨p,ta,hk,bd,lg⟩,D,L,x,o,rfl,⟨b,⟨rs,el,ro⟩,kr⟩,n1,ok,tg,qn,qs⟩:=h
  simp only at b el kr qs
  refine⟨_,(qe (qF (zT (q9 (qr dR hr.mo (qd (qv 1) qb)))) (qg (qq (qx (qd qz (qd qz qb))))) qy)
   (qe (qC (i:=2) sc_Door_hear.nd rfl (Or.inl rfl) (zy dZ U.cl hr.mo (qv 0) (qd (qv 1) qb)))
   (qe (zw (Za PySem.F.plainAttrs_list PySem.F.slot_list_append PySem.F.type_list_append zQ (qO (qv 0)) (qd (qx (qd qz (qd (qv 1) (qd (qv 2) qb)))) qb)))
   (qg (qq (qv 2)))))),?_⟩
  refine⟨_,rfl,x,_,rfl,tg.b,fun H1 s1=>⟨_,rfl,?_⟩⟩
  cases o with
  |none=>exact zq ⟨by show 2<=sizeLine;decide,fun q hq=>qn rfl q _ (s1.trans (Same.upd hq)) qc⟩
  |some PP=>
  obtain⟨pr,rfl,hp,okP⟩:=tg
  have q:=qs PP rfl
  refine zi ?_
  have b1:=b.same s1
  obtain⟨f0,hd,_⟩:=id b1.kb
  have ntb:NT [bd] H1:=NT.one hd trivial
  refine⟨_,rfl,p,rfl,b1.no,_,rfl,p,ta,hk,bd,lg,pr,L.length,D,PP.nm,PP.age,PP.ds,rfl,b1,ok,PrAt.same s1 hp,okP.nm,okP.l,okP.dg,fun q1 H2 m2 hq1 b2=>?_⟩
  have el2:=m2 _ _ (qR (zI (s1 _ _ el) hd (by intro z;cases z))) (s1 _ _ el)
  have ro2:=(ro.same s1).mv m2 ntb
  refine⟨_,rfl,p,_,rfl,b2.h_log U,.inl ⟨rfl,_,SqL.of el2⟩,_,rfl,_,rfl,by show 3<=sizeLine;decide,fun r hr'=>?_⟩
  have u3:=Same.upd (o:= .tup [.str "hear",.ref pr,.ref q1]) hr'
  have b3:=b2.same u3
  have pr3:=PrAt.same u3 (PrAt.mv m2 ntb (PrAt.same s1 hp))
  have ntl:NT [lg] _:=NT.one (u3 _ _ el2) trivial
  refine⟨lg,_,_,rfl,rfl,u3 _ _ el2,by rw[List.length_map,ro.1,sizeLine_eq];omega,⟨_,rfl,?_⟩⟩
  exact q pr q1 _ rfl (((s1.mv.trans (m2.mono (fun c h z=>h (by rw[List.mem_singleton.mp z];exact List.mem_cons_self ..)))).trans u3.mv).trans (Mv.upd1.mono (fun c h z=>h (by rw[List.mem_singleton.mp z];exact List.mem_cons_of_mem _ (List.mem_cons_self ..))))) (PrAt.mv Mv.upd1 ntl pr3) (Mv.upd1.tup ntl (u3 _ _ hq1)) (DlAt.push (a:=⟨p,ta,hk,bd,lg⟩) b3 (u3 _ _ el2) (ro2.same u3) ((KsAt.mv m2 ntb (qR (pN hd b1)) (KsAt.same s1 kr)).same u3) ⟨pr,q1,.inl qc,pr3,okP,u3 _ _ hq1,nF D PP,ot D PP⟩)
theorem aR(a:AtM K C "close_below" "Door.close_below" Qj ["self","age"])(T:Txt K mg tk)(U:DCx K C):Mf P w K mg base C "close_below" ["self","age"] 1 (ie K C):=by
 refine a.mq aS (fun vs H Q E h=>?_) (fun f cdv A outer s H vs Q E hr h=>?_)
 ·obtain⟨_,_,_,_,rfl,_⟩:=h
  rfl
 ·obtain⟨⟨p,ta,hk,bd,lg⟩,D,L,age,rfl,⟨b,⟨rs,el,ro⟩,kr⟩,n1,q⟩:=h
  simp only at b el kr q
  refine⟨_,(qe (zo (qv 0) (qm (ZM rfl) (by rfl) T.b_max PyProof.Rows.boot_max (qd (qO (qv 0)) (qd (qv 1) qb))))
   (qg (zw (Za PySem.F.plainAttrs_list PySem.F.slot_list_append PySem.F.type_list_append zQ (qO (qv 0)) (qd (qx (qd qz (qd (qv 1) qb))) qb))))),?_⟩
  have q:=q _ _ rfl
  obtain⟨z,hz⟩:∃z:Int,z=if age>D.least then age else D.least:=⟨_,rfl⟩
  rw[<- hz]at q
  obtain⟨dx0,ep⟩:=id b.ob
  obtain⟨dx,pf,m,b3⟩:=b.putLeast U z
  have el3:=m _ _ (qR (zI el ep (by intro z;cases z))) el
  have ro3:=ro.mv m (NT.one ep trivial)
  refine⟨_,rfl,p,_,rfl,b.h_least_age U,_,rfl,_,_,rfl,_,rfl,p,_,rfl,by rw[<- hz];exact pf,?_⟩
  refine⟨_,rfl,p,_,rfl,b3.h_log U,.inl ⟨rfl,_,SqL.of el3⟩,_,rfl,by show 2<=sizeLine;decide,fun r hr'=>?_⟩
  have u7:=Same.upd (o:= .tup [.str "close",.int age]) hr'
  have b7:=b3.same u7
  refine⟨lg,_,_,rfl,rfl,u7 _ _ el3,by rw[List.length_map,ro.1,sizeLine_eq];omega,?_⟩
  exact q _ (((m.mono (fun c h z=>h (by rw[List.mem_singleton.mp z];exact List.mem_cons_self ..))).trans u7.mv).trans (Mv.upd1.mono (fun c h z=>h (by rw[List.mem_singleton.mp z];exact List.mem_cons_of_mem _ (List.mem_cons_self ..))))) (DlAt.push (a:=⟨p,ta,hk,bd,lg⟩) b7 (u7 _ _ el3) (ro3.same u7) ((KsAt.mv m (NT.one ep trivial) (qR (uO ep b)) kr).same u7) (show RwAt _ r (.close age)from .inl qc))
theorem cU(a:AtM K C "log_now" "Door.log_now" Q2 ["self"])(T:Txt K mg tk)(U:DCx K C):Mf P w K mg base C "log_now" ["self"] 1 (l6 K C):=by
 refine a.mq c9 (fun vs H Q E h=>?_) (fun f cdv A outer s H vs Q E hr h=>?_)
 ·obtain⟨_,_,_,rfl,_⟩:=h
  rfl
 ·obtain⟨⟨p,ta,hk,bd,lg⟩,D,L,rfl,⟨b,⟨rs,el,ro⟩,kr⟩,q⟩:=h
  simp only at b el kr
  refine⟨_,(qg (qq (qL qS (by rfl) T.b_tuple PyProof.Rows.boot_tuple (qd (qO (qv 0)) qb)))),?_⟩
  exact⟨_,rfl,p,_,rfl,b.h_log U,lg,_,rfl,.inl ⟨SqL.of el,fun t ht=>q t _ (Same.upd ht) ⟨rs,.inl qc,ro.same (Same.upd ht)⟩⟩⟩
theorem gb(a:AtM K C "learn" "Door.learn" Zw ["self","one","other"])(T:Txt K mg tk)(U:DCx K C)(dG:Mf P w K mg base C "read_right" ["self","thing"] 6 (fg K C))(xD:Mf P w K mg base C "is_full" ["self"] 1 (jn K C)):Mf P w K mg base C "learn" ["self","one","other"] 7 (fR K C):=by
 refine a.mq sc_Door_learn (fun vs H Q E h=>?_) (fun f cdv A outer s H vs Q E hr h=>?_)
 ·obtain⟨_,_,_,_,_,_,_,_,_,_,rfl,_⟩:=h
  rfl
 ·obtain⟨⟨p,ta,hk,bd,lg⟩,D,L,p1,p2,⟨nm,age,ds1⟩,⟨nm2,age2,ds2⟩,c,d1,d2,rfl,⟨b,⟨rs,el,ro⟩,kr⟩,n1,ok,hp1,hp2,ok1,ok2,r1,r2,en,ea,hno,hmo,q⟩:=h
  simp only at b el kr q en ea hno
  subst en;subst ea
  refine⟨_,(qe (qC (i:=3) sc_Door_learn.nd rfl (Or.inl rfl) (zy dG U.cl hr.mo (qv 0) (qd (qv 1) qb)))
   (qe (qF (qB zZ (qv 3) zm (qw _)) zW qy)
   (qe (qC (i:=4) sc_Door_learn.nd rfl (Or.inl rfl) (zy dG U.cl hr.mo (qv 0) (qd (qv 2) qb)))
   (qe (qF (QW.pt (zP (qB zZ (qv 4) zm (qw _)) (zP (qB (ul hr) (Q0 bO (qv 2) Zq (Zo qf)) (Q0 bO (qv 1) Zq (Zo qf)) (qw _)) (zD (qB Zj (qA qK (qv 4) qf (fun _ _=>rfl)) (qu qH (qA qK (qv 3) qf (fun _ _=>rfl)) qf) (qw _)))))) zW qy)
   (qe (qZ (qv 1) (zu rfl (qp (qi (i:=5) sc_Door_learn.nd rfl (Or.inl rfl)) (qp (qi (i:=6) sc_Door_learn.nd rfl (Or.inl rfl)) (qp (qi (i:=7) sc_Door_learn.nd rfl (Or.inl rfl)) qP)))))
   (qe (qF (uQ hr (qv 5) (qO (qv 0))) zW qy)
   (qe (qF (q9 (Qz xD U.cl hr.mo (qv 0))) zW qy)
   (qe (Q1 hr (qO (qv 0)) (qv 5) (qx (qd (qv 6) (qd (qA qK (qv 4) qf (fun _ _=>rfl)) (qd zm qb)))))
   (qg (zw (Za PySem.F.plainAttrs_list PySem.F.slot_list_append PySem.F.type_list_append zQ (qO (qv 0)) (qd (qx (qd qz (qd (qv 1) (qd (qv 2) qb)))) qb)))))))))))),?_⟩
  refine⟨_,rfl,p,rfl,b.no,_,rfl,p,ta,hk,bd,lg,L.length,D,.ref p1,some _,rfl,b,ok,⟨p1,rfl,hp1,ok1⟩,fun y1 H1 s1 t1=>?_⟩
  have t1:aV H1 y1 (bD D _):=t1
  rw[r1]at t1
  obtain⟨f1,rfl,hf1⟩:=t1
  refine⟨_,rfl,rfl,_,rfl,qX (fun y=>nomatch (of_decide_eq_true y)) (fun _=>?_)⟩
  have b1:=b.same s1
  refine⟨_,rfl,p,rfl,b1.no,_,rfl,p,ta,hk,bd,lg,L.length,D,.ref p2,some _,rfl,b1,ok,⟨p2,rfl,PrAt.same s1 hp2,ok2⟩,fun y2 H2 s2 t2=>?_⟩
  have t2:aV H2 y2 (bD D _):=t2
  rw[r2]at t2
  obtain⟨f2,rfl,hf2⟩:=t2
  have b2:=b1.same s2
  have hp1':=PrAt.same (s1.trans s2) hp1
  have hp2':=PrAt.same (s1.trans s2) hp2
  obtain⟨c1,e1,_⟩:=id hp1'
  obtain⟨c2,e2,_⟩:=id hp2'
  simp only at e1 e2
  refine⟨_,rfl,rfl,_,rfl,?_⟩
  refine qX (fun y=>nomatch (of_decide_eq_true y)) (fun _=>?_)
  refine⟨_,rfl,_,rfl,p2,_,rfl,e2,fun t3 H3 s3 h3 _=>⟨_,rfl,_,rfl,p1,_,rfl,s3 _ _ e1,fun t4 H4 s4 h4 _=>?_⟩⟩
  have h3':H4 t3=some (.tup [.str nm2,.int age2]):=s4 _ _ h3
  have h4':H4 t4=some (.tup [.str nm2,.int age2]):=h4
  have S4:=(s3.trans s4)
  have SS:=(s1.trans s2).trans S4
  refine⟨1,by decide,Eqd.pair h3' h4',_,rfl,zi ?_⟩
  refine⟨_,rfl,f2,_,_,_,rfl,rfl,SqT.of (S4 _ _ hf2),rfl,_,rfl,f1,_,_,_,rfl,rfl,SqT.of (S4 _ _ (s2 _ _ hf1)),rfl,_,_,rfl,rfl,rfl,_,rfl,?_⟩
  refine Zl rfl ?_
  have b4:=b2.same S4
  refine⟨_,rfl,p1,_,rfl,.tup (S4 _ _ e1),rfl,_,_,rfl,_,_,rfl,_,_,rfl,rfl,?_⟩
  have g4:DGet H4 bd (.str nm2) none:=by
   rcases b4.kb.get nm2 with⟨_,g⟩|⟨e,x,e5,_⟩
   ·exact g
   ·rw[hno]at e5;cases e5
  refine⟨_,rfl,_,rfl,p,_,rfl,b4.h_buttons U,bd,_,rfl,g4,_,rfl,?_⟩
  refine zi ?_
  refine⟨_,rfl,p,rfl,b4.no,p,ta,hk,bd,lg,L.length,D,rfl,b4,_,rfl,?_⟩
  refine qX (fun y=>absurd (of_decide_eq_true y) (by omega)) (fun _=>?_)
  refine⟨_,rfl,_,rfl,f2,_,_,_,rfl,rfl,SqT.of (S4 _ _ hf2),rfl,by show 3<=sizeLine;decide,fun t5 ht5=>?_⟩
  have u5:=Same.upd (o:= .tup [.int age2,.int (c+1),.non]) ht5
  have b5:=b4.same u5
  obtain⟨f0,hd,_⟩:=id b5.kb
  have SQ:=SS.trans u5
  obtain⟨H6,dp,m6,kb6⟩:=b5.kb.put nm2 (a:=t5) (e:=⟨age2,c+1,none⟩) (by have:=ok.nl;omega) ⟨.non,qc,rfl⟩
  refine⟨_,rfl,p,_,rfl,b5.h_buttons U,_,rfl,bd,H6,rfl,dp,?_⟩
  have b6:=b5.putK m6 kb6
  have el6:=m6 _ _ (qR (zI (SQ _ _ el) hd (by intro z;cases z))) (SQ _ _ el)
  have nt5:NT [bd] _:=NT.one hd trivial
  have ro6:=(ro.same SQ).mv m6 nt5
  refine⟨_,rfl,p,_,rfl,b6.h_log U,.inl ⟨rfl,_,SqL.of el6⟩,_,rfl,_,rfl,by show 3<=sizeLine;decide,fun r hr'=>?_⟩
  have u7:=Same.upd (o:= .tup [.str "learn",.ref p1,.ref p2]) hr'
  have b7:=b6.same u7
  refine⟨lg,_,_,rfl,rfl,u7 _ _ el6,by rw[List.length_map,ro.1,sizeLine_eq];omega,?_⟩
  exact q _ (((SQ.mv.trans (m6.mono (fun c h z=>h (by rw[List.mem_singleton.mp z];exact List.mem_cons_self ..)))).trans u7.mv).trans (Mv.upd1.mono (fun c h z=>h (by rw[List.mem_singleton.mp z];exact List.mem_cons_of_mem _ (List.mem_cons_self ..))))) (DlAt.push (a:=⟨p,ta,hk,bd,lg⟩) b7 (u7 _ _ el6) (ro6.same u7) ((KsAt.mv m6 nt5 (qR (pN hd b5)) (KsAt.same SQ kr)).same u7) ⟨p1,p2,.inl qc,PrAt.same u7 (PrAt.mv m6 nt5 (PrAt.same SQ hp1)),PrAt.same u7 (PrAt.mv m6 nt5 (PrAt.same SQ hp2)),ok1,ok2⟩)
theorem cb(a:AtM K C "twin_door" "Door.twin_door" QB ["self"])(T:Txt K mg tk)(U:DCx K C)(xL:Mi P w K mg base C "Door" ["self","table","keys","near","far","most"] 1 (jF K C)):Mf P w K mg base C "twin_door" ["self"] 3 (jr K C):=by
 refine a.mq sc_Door_twin_door (fun vs H Q E h=>?_) (fun f cdv A outer s H vs Q E hr h=>?_)
 ·obtain⟨_,_,_,rfl,_⟩:=h
  rfl
 ·obtain⟨⟨p,ta,hk,bd,lg⟩,D,L,rfl,⟨b,⟨rs,el,ro⟩,kr⟩,k8,q⟩:=h
  simp only at b el kr q
  refine⟨_,(qe (qC (i:=1) sc_Door_twin_door.nd rfl (Or.inl rfl) (jS xL hr.mo (qd (qO (qv 0)) (qd (qO (qv 0)) (qd (qO (qv 0)) (qd (qO (qv 0)) (qd (qO (qv 0)) qb)))))))
   (qe (zo (qv 1) (qO (qv 0)))
   (qe (zo (qv 1) (qL kO (by rfl) T.b_dict PyProof.Rows.boot_dict (qd (qO (qv 0)) qb)))
   (qe (zo (qv 1) (qL ZA (by rfl) T.b_list PyProof.Rows.boot_list (qd (qO (qv 0)) qb)))
   (qg (qq (qv 1))))))),?_⟩
  refine⟨_,rfl,p,_,rfl,b.h_table U,_,rfl,p,_,rfl,b.h_house_keys U,_,rfl,p,_,rfl,b.h_near U,_,rfl,p,_,rfl,b.h_far U,_,rfl,p,_,rfl,b.h_most U,fun x dx nx ndx nex=>?_⟩
  have sJ:Same H (upd (upd H dx (.own x)) x (.ins C dx [])):=(Same.upd ndx).trans (Same.upd (by rw[qh nex.symm];exact nx))
  refine⟨x,ta,hk,dx,D.near,D.far,D.most,D.t,D.kss,rfl,qc,.inr (Same.sqt sJ b.tb),KsAt.same sJ kr,k8,fun ta' hk' bd0 lg0 H1 h1 h2 h3 mv dr krn=>⟨rfl,?_⟩⟩
  have S1:Same H H1:=fun c o e=>mv c o (qR (qo e nx)) (sJ c o e)
  obtain⟨dx',e1⟩:=id dr.ob
  obtain⟨as,eh1,_⟩:=id dr.ks
  have nhx:hk'≠x:=zI eh1 e1 (by intro z;cases z)
  obtain⟨f0,hd,hbu,hpm,nd⟩:=id b.kb
  have b1:=b.same S1
  refine⟨_,rfl,p,_,rfl,b1.h_least_age U,_,rfl,x,_,rfl,fP U e1 D.least,?_⟩
  have S2:=S1.put (o:= .ins C dx' (dF ⟨D.t,D.kss,D.near,D.far,D.most,D.least,[]⟩ ta' hk' bd0 lg0)) nx
  have b2:=b.same S2
  refine⟨_,rfl,p,_,rfl,b2.h_buttons U,bd,_,rfl,S2 _ _ hd,fun bd' hbd'=>?_⟩
  have nbx:bd'≠x:=(qo qc hbd').symm
  have fbd:H bd'=none:=ZC hbd' S2
  have S3:=S2.put (o:= .dK (aa f0.1 f0.2)) fbd
  refine⟨_,rfl,x,_,rfl,ja U (by rw[qh nbx.symm];exact qc) bd',?_⟩
  have S4:=S3.put (o:= .ins C dx' (dF ⟨D.t,D.kss,D.near,D.far,D.most,D.least,[]⟩ ta' hk' bd' lg0)) nx
  have b4:=b.same S4
  refine⟨_,rfl,p,_,rfl,b4.h_log U,lg,_,rfl,.inl (SqL.of (S4 _ _ el)),fun lg' hlg'=>?_⟩
  have nlx:lg'≠x:=(qo qc hlg').symm
  have flg:H lg'=none:=ZC hlg' S4
  have S5:=S4.put (o:= .lst (rs.map V.ref)) flg
  refine⟨_,rfl,x,_,rfl,rR U (by rw[qh nlx.symm];exact qc) lg',?_⟩
  have S6:=S5.put (o:= .ins C dx' (dF ⟨D.t,D.kss,D.near,D.far,D.most,D.least,[]⟩ ta' hk' bd' lg')) nx
  have e4b:_=some (HO.dK (aa f0.1 f0.2)):=(qh (o:= .ins C dx' (dF ⟨D.t,D.kss,D.near,D.far,D.most,D.least,[]⟩ ta' hk' bd' lg0)) nbx).trans (qc (H:=upd H1 x (.ins C dx' (dF ⟨D.t,D.kss,D.near,D.far,D.most,D.least,[]⟩ ta' hk' bd0 lg0))) (a:=bd') (o:= .dK (aa f0.1 f0.2)))
  have nlb:lg'≠bd':=(qo e4b hlg').symm
  have nhb:hk'≠bd':=qo (by rw[qh nhx];exact eh1) hbd'
  have nhl:hk'≠lg':=qo (by rw[qh nhx,qh nhb,qh nhx];exact eh1) hlg'
  have M:Mv [x] H1 _:=(((Mv.upd1 (a:=x) (H:=H1) (o:= .ins C dx' (dF ⟨D.t,D.kss,D.near,D.far,D.most,D.least,[]⟩ ta' hk' bd0 lg0))).trans (Same.upd (o:= .dK (aa f0.1 f0.2)) hbd').mv).trans (Mv.upd1 (o:= .ins C dx' (dF ⟨D.t,D.kss,D.near,D.far,D.most,D.least,[]⟩ ta' hk' bd' lg0)))).trans (Same.upd (o:= .lst (rs.map V.ref)) hlg').mv
  have M6:=M.trans (Mv.upd1 (o:= .ins C dx' (dF ⟨D.t,D.kss,D.near,D.far,D.most,D.least,[]⟩ ta' hk' bd' lg')))
  have nt:NT [x] H1:=NT.one e1 trivial
  have eL6:∀(G:Hp) (o:HO),upd (upd G lg' (.lst (rs.map V.ref))) x o lg'=some (HO.lst (rs.map V.ref)):=fun G o=>by rw[qh nlx];exact qc
  refine⟨_,rfl,q ⟨x,ta',hk',bd',lg'⟩ _ S6 nx (ZC h1 sJ) fbd flg ⟨⟨⟨dx',qc⟩,M6.sqt nt dr.tb,dr.ks.mv M6 nt (qR nhx),⟨f0,?_,fun e he=>(hbu e he).same S6,hpm,nd⟩,⟨rs,eL6 _ _,Nat.le_of_eq ro.1⟩,nhl.symm⟩,⟨rs,eL6 _ _,ro.same S6⟩,KsAt.mv M6 nt (qR nhx) krn⟩⟩
  rw[qh nbx,qh nlb.symm];exact e4b
theorem dc(a:AtM K C "__init__" "Door.__init__" Qx ["self","table","keys","near","far","most"])(T:Txt K mg tk)(U:DCx K C):Mf P w K mg base C "__init__" ["self","table","keys","near","far","most"] 1 (iP K C):=by
 refine a.mq Z9 (fun vs H Q E h=>?_) (fun f cdv A outer s H vs Q E hr h=>?_)
 ·obtain⟨_,_,_,_,_,_,_,_,_,rfl,_⟩:=h
  rfl
 ·obtain⟨p,a,b,dx,near,far,most,t,kss,rfl,hp,ha,hb,hl,q⟩:=h
  refine⟨_,(qe (zo (qv 0) (qL cm (by rfl) T.b_tuple PyProof.Rows.boot_tuple (qd (qv 1) qb)))
   (qe (zo (qv 0) (zK (own:=["key"]) (fr:=[]) (js:=[]) rfl (bH (qv 2)) rfl (fun _ _ h=>nomatch h) rfl (cp rfl (by decide +kernel) (by decide +kernel) (by decide +kernel)) (fun _ _ _ _=>qi (i:=0) (show List.Nodup (["key"]:List Str)from by decide +kernel) rfl (Or.inl rfl) (.inr rfl)) (fun _ _ _ _=>(qL cf (by rfl) T.b_tuple PyProof.Rows.boot_tuple (qd (qv 0) qb)))))
   (qe (zo (qv 0) (qv 3))
   (qe (zo (qv 0) (qv 4))
   (qe (zo (qv 0) (qv 5))
   (qe (zo (qv 0) qf)
   (qe (zo (qv 0) cC)
   (qg (zo (qv 0) (q8 qb)))))))))),?_⟩
  refine⟨_,rfl,a,_,rfl,ha,fun ta H2 s2 ht=>⟨_,rfl,p,_,rfl,zg U.cl (s2 _ _ hp) U.n_table 0,?_⟩⟩
  have e2:=s2 _ _ hp
  have hb2:=(hb.same s2).upd (o:= .ins C dx [("table",.ref ta)]) e2
  obtain⟨as,eb,la,hks⟩:=hb2
  have ht2:=bM (o:= .ins C dx [("table",.ref ta)]) e2 ht
  refine⟨_,rfl,b,rfl,⟨_,eb.up⟩,cr (K:=K) (xs:=as.map V.ref) (by rw[List.length_map,la,sizeLine_eq];omega) (fun i ys H3=>Same (upd H2 p (.ins C dx [("table",.ref ta)])) H3/\∃bs:List Addr,ys=bs.map V.ref/\bs.length=i/\∀(j:Nat) (x:Addr) (ks:List Int),bs[j]? =some x->kss[j]? =some ks->SqT [] H3 x (ks.map V.int)) ⟨Same.refl _,[],rfl,rfl,fun j x ks e=>by(cases e)⟩ (fun i ys H3 ⟨s3,_⟩=>(Same.sqt s3 eb).up) ?_ ?_⟩
  ·rintro i ys H3 x hx hyl ⟨s3,bs,rfl,hbl,hbs⟩
   rw[List.getElem?_map]at hx
   cases ea:as[i]? with
   |none=>rw[ea]at hx;cases hx
   |some x0=>
    rw[ea]at hx
    obtain rfl:V.ref x0=x:=Option.some.inj hx
    have hi:i<kss.length:=by rw[<- la];exact(List.getElem?_eq_some_iff.mp ea).1
    have hk0:=hks i x0 kss[i] ea (List.getElem?_eq_getElem hi)
    refine⟨_,rfl,x0,_,rfl,.inr (Same.sqt s3 hk0).rd,fun l H4 s4 hl4=>⟨s3.trans s4,bs++[l],by simp,by simp [hbl],fun j y ks e1 e2'=>?_⟩⟩
    rw[List.getElem?_append]at e1
    split at e1
    ·exact Same.sqt s4 (hbs j y ks e1 e2')
    ·have hj:j-bs.length=0:=by
      cases hj:j-bs.length with
      |zero=>rfl
      |succ k=>rw[hj]at e1;cases e1
     rw[hj]at e1
     cases e1
     have:j=i:=by omega
     subst this
     rw[List.getElem?_eq_getElem hi]at e2'
     cases e2'
     exact .inl hl4
  ·rintro ys H3 hyl ⟨s3,bs,rfl,hbl,hbs⟩ hk hhk
   have u3:=Same.upd (o:= .lst (bs.map V.ref)) hhk
   have e3:=u3 _ _ (s3 _ _ qc)
   refine⟨_,rfl,p,_,rfl,zg U.cl e3 U.n_house_keys 1,?_⟩
   refine⟨_,rfl,_,rfl,p,_,rfl,zg U.cl qc U.n_near 2,?_⟩
   refine⟨_,rfl,_,rfl,p,_,rfl,zg U.cl qc U.n_far 3,?_⟩
   refine⟨_,rfl,_,rfl,p,_,rfl,zg U.cl qc U.n_most 4,?_⟩
   refine⟨_,rfl,p,_,rfl,zg U.cl qc U.n_least_age 5,?_⟩
   refine fun bd hbd=>⟨_,rfl,p,_,rfl,zg U.cl (by rw[qh (qo qc hbd)];exact qc) U.n_buttons 6,?_⟩
   have nbd:=qo qc hbd
   refine⟨by show 0<=sizeLine;decide,fun lg hlg=>⟨_,rfl,p,_,rfl,zg U.cl (by rw[qh (qo qc hlg)];exact qc) U.n_log 7,?_⟩⟩
   have nlg:=qo qc hlg
   have m3:Mv [p] H H3:=((s2.mv (S:=[p])).trans Mv.upd1).trans s3.mv
   have nhk:hk≠p:=(qo (s3 _ _ qc) hhk).symm
   have m4:Mv [p] H (upd H3 hk (.lst (bs.map V.ref))):=m3.trans u3.mv
   have M:∀o1 o2 o3 o4 o5,Mv [p] (upd H3 hk (.lst (bs.map V.ref))) (upd (upd (upd (upd (upd (upd H3 hk (.lst (bs.map V.ref))) p o1) p o2) p o3) p o4) p o5):=fun o1 o2 o3 o4 o5=>(((Mv.upd1.trans Mv.upd1).trans Mv.upd1).trans Mv.upd1).trans Mv.upd1
   have M6:Mv [p] (upd H3 hk (.lst (bs.map V.ref))) _:=(((M _ _ _ _ _).trans (Same.upd hbd).mv).trans Mv.upd1).trans (Same.upd (o:= .lst []) hlg).mv
   have M7:=M6.trans (Mv.upd1 (o:= .ins C dx (dF ⟨t,kss,near,far,most,0,[]⟩ ta hk bd lg)))
   have nt:NT [p] (upd H3 hk (.lst (bs.map V.ref))):=NT.one e3 trivial
   have hbdlg:bd≠lg:=qo (by rw[qh nbd.symm];exact qc) hlg
   have KR:=KsAt.mv M7 nt (qR nhk) (show KsAt [] _ hk kss from⟨bs,qc,by rw[hbl,List.length_map,la],fun j x ks e1 e2'=>Same.sqt u3 (hbs j x ks e1 e2')⟩)
   refine q ta hk bd lg _ (m3.nfree (qR nhk) hhk) ((m4.trans (M _ _ _ _ _)).nfree (qR nbd.symm) hbd) ((m4.trans ((((M _ _ _ _ _).trans (Same.upd hbd).mv).trans Mv.upd1))).nfree (qR nlg.symm) hlg) (m4.trans M7) ⟨⟨dx,qc⟩,?_,KsAt.up KR,?_,?_,?_⟩ KR
   ·exact M7.sqt nt (Same.sqt u3 (Same.sqt s3 ht2))
   ·exact⟨([],fun _=>0),by rw[qh nbd.symm,qh hbdlg,qh nbd.symm];exact qc,fun e he=>by(cases he),.refl _,List.nodup_nil⟩
   ·exact⟨[],by rw[qh nlg.symm];exact qc,Nat.le_refl _⟩
   ·refine(qo (o:= .lst (bs.map V.ref)) ?_ hlg).symm
    rw[qh nhk]
    rw[qh (qo (o:= .lst (bs.map V.ref)) (by rw[qh nhk,qh nhk,qh nhk,qh nhk,qh nhk];exact qc) hbd)]
    rw[qh nhk,qh nhk,qh nhk,qh nhk,qh nhk]
    exact qc
theorem aU(a:AtM K C "bounds_told" "Door.bounds_told" Ql ["self"])(T:Txt K mg tk)(U:DCx K C):Mf P w K mg base C "bounds_told" ["self"] 1 (fi K C):=by
 refine a.mq aQ (fun vs H Q E h=>?_) (fun f cdv A outer s H vs Q E hr h=>?_)
 ·obtain⟨_,_,_,_,_,_,_,rfl,_⟩:=h
  rfl
 ·obtain⟨p,ta,hk,bd,lg,n,D,rfl,b,q⟩:=h
  refine⟨_,(qg (qq (qx (qd (qO (qv 0)) (qd (qO (qv 0)) (qd (qO (qv 0)) qb)))))),?_⟩
  exact⟨_,rfl,p,_,rfl,b.h_near U,_,rfl,p,_,rfl,b.h_far U,_,rfl,p,_,rfl,b.h_most U,by show 3<=sizeLine;decide,fun t ht=>q t _ (Same.upd ht) qc⟩
end
section
variable{P:Program}{w:World}{K:Frag}{mg:Str->Option Value}{base:Heap}{tk:Nat->Tok}
theorem jb(a:At K mg "_law_take" aE ["_law_box_here","_law_many"])(T:Txt K mg tk):Df P w K mg base "_law_take" ["_law_box_here","_law_many"] 1 Q7:=by
 refine a.dq sc_law_take (fun vs H Q E h=>?_) (fun f cdv A outer s H vs Q E hr h=>?_)
 ·obtain⟨b,many,c,rfl,_⟩:=h
  rfl
 ·obtain⟨b,many,c,rfl,⟨n,m,k,hb,m0,m1,k0,k1⟩,hc,h0,h1,q⟩:=h
  refine⟨_,(qe (qF (qB rG (qA qI (qv 0) qf (fun _ _=>rfl)) qf (qw _)) (qe (qC (i:=2) sc_law_take.nd rfl (Or.inl rfl) (qu zM (qA qI (qv 0) qf (fun _ _=>rfl)) (qv 1)))
   (qe (qZ (qu ae (qA qI (qv 0) qf (fun _ _=>rfl)) (qv 1)) (ac (qv 0) qf QD))
   (qg (qq (qv 2))))) qy)
   (qe (qZ (qu qH (qA qI (qv 0) qf (fun _ _=>rfl)) qf) (ac (qv 0) qf QD))
   (qe (qC (i:=3) sc_law_take.nd rfl (Or.inl rfl) (qu qH (qA qI (qv 0) qf (fun _ _=>rfl)) (qu QP qf (qA qI (qv 0) qf (fun _ _=>rfl)))))
   (qe (zn PassesOwn.never rfl (zN rfl T.b_range (qd qf qb)) (qi (i:=4) sc_law_take.nd rfl (Or.inl rfl))
   (qg (qC (i:=3) sc_law_take.nd rfl (Or.inl rfl) (qu zM (qu qH (qu qH (qu QP (qv 3) (qv 3)) (qu QP qf (qA qI (qv 0) qf (fun _ _=>rfl)))) qf) qf))))
   (qg (qq (qu zM (qu ae (qv 3) qf) (qv 1)))))))),?_⟩
  refine⟨_,rfl,b,_,_,_,rfl,rfl,SqL.of hb,rfl,_,_,rfl,rfl,_,rfl,?_⟩
  refine qX (fun _=>?_) (fun _=>?_)
  ·refine⟨_,rfl,b,_,_,_,rfl,rfl,SqL.of hb,rfl,_,rfl,_,_,rfl,rfl,h0,?_⟩
   refine⟨_,rfl,b,_,_,_,rfl,rfl,SqL.of hb,rfl,_,rfl,_,_,rfl,rfl,⟨h0,h1⟩,_,rfl,b,_,_,0,rfl,rfl,hb,rfl,?_⟩
   refine⟨_,rfl,?_⟩
   refine q _ _ (Int.emod_nonneg _ (by omega)) (Int.emod_lt_of_pos _ h0) ⟨fun c o hc e=>?_,_,_,_,qc,m0,m1,k0,by omega⟩
   rw[qh hc]
   exact e
  ·refine⟨_,rfl,b,_,_,_,rfl,rfl,SqL.of hb,rfl,_,_,rfl,rfl,_,rfl,b,_,_,2,rfl,rfl,hb,rfl,?_⟩
   have hb2:(upd H b (kS n m (k+1))) b=some (kS n m (k+1)):=qc
   refine⟨_,rfl,b,_,_,_,rfl,rfl,SqL.of hb2,rfl,_,rfl,b,_,_,_,rfl,rfl,SqL.of hb2,rfl,_,_,rfl,rfl,.inl ⟨by decide,by decide⟩,_,_,rfl,rfl,?_⟩
   refine⟨3,rfl,by decide,by decide,QM (n:=3) (Pv:=fun i σ H2=>H2=upd H b (kS n m (k+1))/\∃(z:Int) (o:Option V),σ=[some (.ref b),some (.int many),none,some (.int z),o]/\0<=z/\z<2 ^ 64) ⟨rfl,_,_,rfl,by omega,by omega⟩ ?_ ?_⟩
   ·rintro i σ H2 hi ⟨rfl,z,o,rfl,z0,z1⟩
    refine⟨_,rfl,_,rfl,_,_,rfl,rfl,.inl ⟨by omega,by omega⟩,_,rfl,b,_,_,_,rfl,rfl,SqL.of hb2,rfl,_,_,rfl,rfl,.inl ⟨by decide,by decide⟩,_,_,rfl,rfl,_,_,rfl,rfl,_,_,rfl,rfl,(by decide:(0:Int)<2305843009213693951),rfl,_,_,rfl,?_,?_⟩
    ·exact Int.emod_nonneg _ (by decide)
    ·exact Int.lt_trans (Int.emod_lt_of_pos _ (by decide)) (by decide)
   ·rintro σ H2 ⟨rfl,z,o,rfl,z0,z1⟩
    refine⟨_,rfl,_,_,rfl,rfl,⟨by decide,by decide⟩,_,rfl,_,_,rfl,rfl,h0,?_⟩
    refine q _ _ (Int.emod_nonneg _ (by omega)) (Int.emod_lt_of_pos _ h0) ⟨fun c o hc e=>?_,_,_,_,qc,m0,m1,by omega,by omega⟩
    rw[qh hc]
    exact e
theorem kU(a:At K mg "_law_box" a6 ["_law_script","_law_k"])(T:Txt K mg tk):Df P w K mg base "_law_box" ["_law_script","_law_k"] 1 (mN K):=by
 refine a.dq sc_law_box (fun vs H Q E h=>?_) (fun f cdv A outer s H vs Q E hr h=>?_)
 ·obtain⟨b,ns,k,rfl,_⟩:=h
  rfl
 ·obtain⟨b,ns,k,rfl,hS,q⟩:=h
  refine⟨_,(qe (qZ (qx (qd qf (qd qf qb))) (cQ rfl (qp (qi (i:=2) sc_law_box.nd rfl (Or.inl rfl)) (qp (qi (i:=3) sc_law_box.nd rfl (Or.inl rfl)) qP))))
   (qe (qF (qB bQ (qv 1) (qm qT (by rfl) T.b_len PySem.boot_len (qd (qv 0) qb)) (qw _)) (qg (qC (i:=2) sc_law_box.nd rfl (Or.inl rfl) (qA qI (qv 0) (qv 1) (fun _ _=>rfl)))) qy)
   (qe (zn PassesOwn.never rfl (Qb (Q0 jW (qv 0) Zq (Zo qf))) (qi (i:=4) sc_law_box.nd rfl (Or.inl rfl))
   (qg (qC (i:=3) sc_law_box.nd rfl (Or.inl rfl) (qu zM (qu qH (qu QP (qv 3) qf) (qv 4)) qf))))
   (qg (qq (q8 (qd (qu QP (qm ii (by rfl) T.b_abs PyProof.Rows.boot_abs (qd (qv 2) qb)) (qL fX (by rfl) T.b_int PyProof.Rows.boot_int (qd (zb li (qm ii (by rfl) T.b_abs PyProof.Rows.boot_abs (qd (qv 2) qb)) (qu tP qf qf) (qw _)) qb))) (qd (qu zM (qu qH (qu qH (qu QP (qv 3) qf) (qv 2)) (qu QP qf (qv 1))) qf) (qd qf qb))))))))),?_⟩
  refine⟨by show 2<=sizeLine;decide,fun tp htp=>⟨tp,_,rfl,SqT.of qc,rfl,_,_,rfl,_,_,rfl,rfl,?_⟩⟩
  have s1:=Same.upd (o:= .tup [.int 0,.int 7]) htp
  refine⟨_,rfl,_,rfl,b,_,rfl,.inl (s1.seq hS),_,_,rfl,rfl,_,rfl,?_⟩
  refine qX (fun hk=>?_) (fun _=>?_)
  ·have hk':k<ns.length:=by have:=of_decide_eq_true hk;rw[List.length_map]at this;omega
   refine⟨_,rfl,_,rfl,b,_,_,.int ns[k],rfl,rfl,s1.seq hS,Qm (by rw[List.getElem?_map,List.getElem?_eq_getElem hk'];rfl),?_⟩
   refine⟨_,rfl,_,rfl,b,_,rfl,s1.seq hS,fun l hl=>⟨l,rfl,⟨_,SqL.of qc⟩,?_⟩⟩
   rw[am]
   have s2:=s1.trans (Same.upd (o:= .lst ((Zz ns none (some 63)).map V.int)) hl)
   refine zY (K:=K) (a:=l) (xs:=(Zz ns none (some 63)).map V.int) (fun i σ H2=>H2=upd (upd H tp (.tup [.int 0,.int 7])) l (.lst ((Zz ns none (some 63)).map V.int))/\∃(z:Int) (o:Option V),σ=[some (.ref b),some (.int (k:Int)),some (.int ns[k]),some (.int z),o]/\0<=z/\z<2147483647) ⟨rfl,_,_,rfl,by decide,by decide⟩ (fun i σ H2 _ ⟨e,_⟩=>by subst e;exact SqL.of qc) ?_ ?_
   ·rintro i x σ H2 hx ⟨rfl,z,o,rfl,z0,z1⟩
    obtain⟨y,rfl,hy⟩:=zX hx
    refine⟨_,rfl,_,_,rfl,rfl,.inr ⟨by decide,by decide⟩,_,rfl,_,_,rfl,rfl,_,_,rfl,rfl,(by decide:(0:Int)<2147483647),rfl,_,_,rfl,Int.emod_nonneg _ (by decide),Int.emod_lt_of_pos _ (by decide)⟩
   ·rintro σ H2 ⟨rfl,z,o,rfl,z0,z1⟩
    refine⟨_,rfl,_,rfl,_,rfl,_,rfl,_,_,rfl,rfl,⟨by decide,by decide,by decide⟩,_,_,rfl,rfl,.inr ⟨_,rfl,?_⟩⟩
    refine⟨_,_,rfl,rfl,.inr ⟨nq _,lB _⟩,_,rfl,_,_,rfl,rfl,.inr ⟨by decide,by decide⟩,_,rfl,_,_,rfl,rfl,_,rfl,_,_,rfl,rfl,.inl ⟨by decide,by decide⟩,_,_,rfl,rfl,_,_,rfl,rfl,(by decide:(0:Int)<2305843009213693951),?_⟩
    exact⟨by show 3<=sizeLine;decide,fun p hp=>q _ _ (ZC hp s2) (s2.trans (Same.upd hp)) ⟨_,_,_,qc,Int.emod_nonneg _ (by decide),Int.lt_trans (Int.emod_lt_of_pos _ (by decide)) (by decide),by decide,by decide⟩⟩
  ·refine⟨_,rfl,_,rfl,b,_,rfl,s1.seq hS,fun l hl=>⟨l,rfl,⟨_,SqL.of qc⟩,?_⟩⟩
   rw[am]
   have s2:=s1.trans (Same.upd (o:= .lst ((Zz ns none (some 63)).map V.int)) hl)
   refine zY (K:=K) (a:=l) (xs:=(Zz ns none (some 63)).map V.int) (fun i σ H2=>H2=upd (upd H tp (.tup [.int 0,.int 7])) l (.lst ((Zz ns none (some 63)).map V.int))/\∃(z:Int) (o:Option V),σ=[some (.ref b),some (.int (k:Int)),some (.int 0),some (.int z),o]/\0<=z/\z<2147483647) ⟨rfl,_,_,rfl,by decide,by decide⟩ (fun i σ H2 _ ⟨e,_⟩=>by subst e;exact SqL.of qc) ?_ ?_
   ·rintro i x σ H2 hx ⟨rfl,z,o,rfl,z0,z1⟩
    obtain⟨y,rfl,hy⟩:=zX hx
    refine⟨_,rfl,_,_,rfl,rfl,.inr ⟨by decide,by decide⟩,_,rfl,_,_,rfl,rfl,_,_,rfl,rfl,(by decide:(0:Int)<2147483647),rfl,_,_,rfl,Int.emod_nonneg _ (by decide),Int.emod_lt_of_pos _ (by decide)⟩
   ·rintro σ H2 ⟨rfl,z,o,rfl,z0,z1⟩
    refine⟨_,rfl,_,rfl,_,rfl,_,rfl,_,_,rfl,rfl,⟨by decide,by decide,by decide⟩,_,_,rfl,rfl,.inr ⟨_,rfl,?_⟩⟩
    refine⟨_,_,rfl,rfl,.inr ⟨nq _,lB _⟩,_,rfl,_,_,rfl,rfl,.inr ⟨by decide,by decide⟩,_,rfl,_,_,rfl,rfl,_,rfl,_,_,rfl,rfl,.inl ⟨by decide,by decide⟩,_,_,rfl,rfl,_,_,rfl,rfl,(by decide:(0:Int)<2305843009213693951),?_⟩
    exact⟨by show 3<=sizeLine;decide,fun p hp=>q _ _ (ZC hp s2) (s2.trans (Same.upd hp)) ⟨_,_,_,qc,Int.emod_nonneg _ (by decide),Int.lt_trans (Int.emod_lt_of_pos _ (by decide)) (by decide),by decide,by decide⟩⟩
theorem iG(a:At K mg "_law_table" Z0 ["_law_box_here"])(T:Txt K mg tk)(dA:Df P w K mg base "_law_take" ["_law_box_here","_law_many"] 1 Q7):Df P w K mg base "_law_table" ["_law_box_here"] 2 iO:=by
 refine a.dq sc_law_table (fun vs H Q E h=>?_) (fun f cdv A outer s H vs Q E hr h=>?_)
 ·obtain⟨x,c,rfl,_⟩:=h
  rfl
 ·obtain⟨b,c,rfl,hb,hc,q⟩:=h
  refine⟨_,(qe (qC (i:=1) sc_law_table.nd rfl (Or.inr rfl) (qL (j8 rfl) (by rfl) T.b_list PyProof.Rows.boot_list (qd (qL e9 (by rfl) T.b_range PyProof.Rows.boot_range (qd qf qb)) qb)))
   (qg (qq (qL qS (by rfl) T.b_tuple PyProof.Rows.boot_tuple (qd (zK (own:=["_law_k"]) (fr:=["_law_rest","_law_box_here"]) (js:=[1,0]) rfl (zN rfl T.b_range (qd qf qb)) rfl (vg rfl rfl) rfl (uC rfl (by decide +kernel) (by decide +kernel) (by decide +kernel) rfl rfl rfl rfl rfl rfl) (fun _ _ _ _=>qi (i:=0) (show List.Nodup (["_law_k","_law_rest","_law_box_here"]:List Str)from by decide +kernel) rfl (Or.inl rfl) (.inr rfl)) (fun _ _ _ _=>(lD (K:=K) rfl PySem.F.plainAttrs_list PySem.F.slot_list_pop PySem.F.type_list_pop iA (qv 1) (qd (qr dA hr.mo (qd (qv 2) (qd (qm (aL (K:=K) rfl) (by rfl) T.b_len PySem.boot_len (qd (qv 1) qb)) qb))) qb)))) qb))))),?_⟩
  refine⟨_,rfl,fun r hr0=>⟨r,16,rfl,qc,by decide,fun l hl=>?_⟩⟩
  rw[uZ]
  have s1:=(Same.upd (o:= .rng 0 16) hr0).trans (Same.upd (o:= .lst (digs.map V.int)) hl)
  have nlb:l≠b:=zf ((Same.upd hr0).grc hb).bx hl
  refine⟨_,rfl,by decide,by decide,Zi (n:=16) (by decide) (fun i ys H2=>GrC b (c+i) H H2/\∃ms zs:List Int,H2 l=some (.lst (ms.map V.int))/\ys=zs.map V.int/\ms.length+i=16/\(zs++ms).Perm digs) ⟨s1.grc hb,digs,[],qc,rfl,by rw[ig],.refl _⟩ ?_ ?_⟩
  ·rintro i ys H2 hi hl2 ⟨G2,ms,zs,hm,rfl,hml,pm⟩
   refine⟨_,rfl,.inl ⟨rfl,_,SqL.of hm⟩,?_⟩
   refine⟨_,rfl,_,rfl,l,_,rfl,.inl (SqL.of hm),b,_,_,rfl,G2.bx,by omega,by rw[List.length_map];omega,by rw[List.length_map];omega,fun x H3 x0 x1 g3=>?_⟩
   rw[List.length_map]at x1
   obtain⟨k,rfl⟩:∃k:Nat,x=(k:Int):=⟨x.toNat,by omega⟩
   have hk:k<ms.length:=by omega
   have hm3:=g3.kp _ _ nlb hm
   refine⟨l,_,_,k,.int ms[k],rfl,rfl,hm3,by omega,by omega,?_,?_,?_⟩
   ·rw[List.length_map];exact bt hk
   ·rw[List.getElem?_map,List.getElem?_eq_getElem hk];rfl
   ·refine⟨⟨fun c o hcb e=>?_,?_⟩,ms.eraseIdx k,zs++[ms[k]],?_,by simp,?_,?_⟩
    ·by_cases z:c=l
     ·subst z
      rw[Same.upd hr0 _ _ e]at hl;cases hl
     ·rw[qh z];exact g3.kp _ _ hcb (G2.kp _ _ hcb e)
    ·obtain⟨n,m,k',e,r⟩:=g3.bx
     exact⟨n,m,k',by rw[qh nlb.symm];exact e,r⟩
    ·rw[qc,km]
    ·rw[List.length_eraseIdx_of_lt hk];omega
    ·exact(pA hk).trans pm
  ·rintro ys H2 hyl ⟨G2,ms,zs,hm,rfl,hml,pm⟩ p hp
   have e0:ms=[]:=List.eq_nil_of_length_eq_zero (by omega)
   subst e0
   rw[List.append_nil]at pm
   refine⟨p,_,rfl,.inl ⟨SqL.of qc,fun t ht=>?_⟩⟩
   have G3:=G2.same (Same.upd (o:= .lst (zs.map V.int)) hp)
   exact q t zs _ (G3.same (Same.upd ht)) (G3.fresh (hb.mono (by omega)) ht) qc pm
theorem jZ(a:At K mg "_law_key" bz ["_law_box_here"])(T:Txt K mg tk)(dA:Df P w K mg base "_law_take" ["_law_box_here","_law_many"] 1 Q7):Df P w K mg base "_law_key" ["_law_box_here"] 2 ji:=by
 refine a.dq k7 (fun vs H Q E h=>?_) (fun f cdv A outer s H vs Q E hr h=>?_)
 ·obtain⟨x,c,rfl,_⟩:=h
  rfl
 ·obtain⟨b,c,rfl,hb,hc,q⟩:=h
  refine⟨_,(qg (qq (qL qS (by rfl) T.b_tuple PyProof.Rows.boot_tuple (qd (zK (own:=["_law_k"]) (fr:=["_law_box_here"]) (js:=[0]) rfl (zN rfl T.b_range (qd (qu qH qf (qr dA hr.mo (qd (qv 0) (qd qf qb)))) qb)) rfl (kT rfl) rfl (j5 rfl (by decide +kernel) (by decide +kernel) (by decide +kernel) rfl rfl rfl) (fun _ _ _ _=>qi (i:=0) (show List.Nodup (["_law_k","_law_box_here"]:List Str)from by decide +kernel) rfl (Or.inl rfl) (.inr rfl)) (fun _ _ _ _=>(qr dA hr.mo (qd (qv 1) (qd qf qb))))) qb)))),?_⟩
  refine⟨_,rfl,b,_,_,rfl,hb,by omega,by decide,by decide,fun r H1 r0 r1 g1=>⟨_,_,rfl,rfl,_,rfl,by omega,by omega,?_⟩⟩
  obtain⟨n,rfl,n8⟩:∃n:Nat,r=(n:Int)/\n<8:=⟨r.toNat,by omega,by omega⟩
  have en:(1+(n:Int)).toNat=n+1:=by omega
  rw[en]
  refine Zi (n:=n+1) (Nat.le_trans (by omega:n+1<=8) (by decide)) (fun i ys H2=>GrC b (c+1+i) H H2/\∃ks:List Int,ys=ks.map V.int/\zp ks) ⟨g1,[],rfl,fun _ h=>nomatch h⟩ ?_ ?_
  ·rintro i ys H2 hi hl2 ⟨G2,ks,rfl,hk⟩
   refine⟨_,rfl,b,_,_,rfl,G2.bx,by omega,by decide,by decide,fun x H3 x0 x1 g3=>⟨G2.trans g3,ks++[x],by simp,fun z hz=>?_⟩⟩
   rcases List.mem_append.mp hz with y|y
   ·exact hk z y
   ·rw[List.mem_singleton.mp y];exact⟨x0,x1⟩
  ·rintro ys H2 hyl ⟨G2,ks,rfl,hk⟩ p hp
   rw[List.length_map]at hyl
   refine⟨p,_,rfl,.inl ⟨SqL.of qc,fun t ht=>?_⟩⟩
   have G3:=G2.same (Same.upd (o:= .lst (ks.map V.int)) hp)
   exact q t ks _ ((G3.same (Same.upd ht)).mono (by omega)) (G3.fresh (hb.mono (by omega)) ht) qc hk (by omega) (by omega)
end
section
variable{P:Program}{w:World}{K:Frag}{mg:Str->Option Value}{base:Heap}{tk:Nat->Tok}
theorem gd(a:At K mg "back_table" Zy ["table"])(T:Txt K mg tk):Df P w K mg base "back_table" ["table"] 1 (mM K):=by
 refine a.dq sc_back_table (fun vs H Q E h=>?_) (fun f cdv A outer s H vs Q E hr h=>?_)
 ·obtain⟨x,t,rfl,_⟩:=h
  rfl
 ·obtain⟨c,t,rfl,hS,pm,q⟩:=h
  refine⟨_,(qe (qC (i:=1) sc_back_table.nd rfl (Or.inl rfl) (qu mC (q8 (qd qf qb)) (zc (v:= .int 16) rfl T.g_DIGITS ⟨_,rfl⟩)))
   (qe (zn PassesOwn.never rfl (pz rfl T.b_enumerate (qd (qv 0) qb)) (cQ rfl (qp (qi (i:=2) sc_back_table.nd rfl (Or.inl rfl)) (qp (qi (i:=3) sc_back_table.nd rfl (Or.inl rfl)) qP)))
   (qg (qZ (qv 2) (ac (qv 1) (qv 3) QD))))
   (qg (qq (qL qS (by rfl) T.b_tuple PyProof.Rows.boot_tuple (qd (qv 1) qb)))))),?_⟩
  refine⟨by show 1<=sizeLine;decide,fun p hp=>⟨p,16,_,rfl,rfl,qc,by decide,by decide,by show 16<=sizeLine;decide,fun l hl=>?_⟩⟩
  have e0:(List.replicate (16:Int).toNat [V.int 0]).flatten=(Qn t 0).map V.int:=by rw[om];rfl
  rw[e0]
  have s1:=(Same.upd (o:= .lst [V.int 0]) hp)
  have s2:=s1.trans (Same.upd (o:= .lst ((Qn t 0).map V.int)) hl)
  have step:∀(i:Nat) (x:V) (H2:Hp) (pp:Addr),(t.map V.int)[i]? =some x->H2 l=some (.lst ((Qn t i).map V.int))->Same H H2->H2 pp=none->
    ∃j:Nat,∃z:Int,x= .int z/\Zr ((Qn t i).map V.int).length z=some j/\(upd H2 pp (.tup [.int i,x])) l=some (.lst ((Qn t i).map V.int))/\
     (upd (upd H2 pp (.tup [.int i,x])) l (.lst (((Qn t i).map V.int).set j (.int i)))) l=some (.lst ((Qn t (i+1)).map V.int))/\Same H (upd (upd H2 pp (.tup [.int i,x])) l (.lst (((Qn t i).map V.int).set j (.int i)))):=by
   intro i x H2 pp hx hm sm hpp
   obtain⟨z,rfl,hz⟩:=zX hx
   have hi:i<t.length:=(List.getElem?_eq_some_iff.mp hz).1
   have ez:t[i]=z:=(List.getElem?_eq_some_iff.mp hz).2
   have bd:=iH pm hi
   have sp:=Same.upd (o:= .tup [.int i,.int z]) hpp
   refine⟨z.toNat,z,rfl,eG (by omega) (by rw[List.length_map,Z7];omega),sp _ _ hm,?_,fun d o e=>?_⟩
   ·rw[qc,aG,<- ez,px pm hi]
   ·have ndl:d≠l:=fun y=>by
     rw[y]at e
     rw[s1 _ _ e]at hl
     cases hl
    rw[qh ndl]
    exact sp _ _ (sm _ _ e)
  have fin:∀(o:Option V) (o':Option V) (H2:Hp),H2 l=some (.lst ((Qn t t.length).map V.int))->Same H H2->∀p',H2 p'=none->Q (.ref p') (upd H2 p' (.tup ((Qn t t.length).map V.int))):=fun _ _ H2 hm sm p' hp'=>
   q _ _ (sm.trans (Same.upd hp')) (by rw[qc,sQ pm])
  rcases hS with hS|hS
  ·refine⟨_,rfl,c,rfl,.inl ⟨⟨_,s2.seq hS⟩,?_⟩⟩
   refine gS (K:=K) (a:=c) (xs:=t.map V.int) (fun i σ H2=>∃(o2 o3:Option V),σ=[some (.ref c),some (.ref l),o2,o3]/\H2 l=some (.lst ((Qn t i).map V.int))/\Same H H2) ⟨none,none,rfl,qc,s2⟩ (fun i σ H2 _ ⟨_,_,_,_,sm⟩=>sm.seq hS) ?_ ?_
   ·rintro i x σ H2 pp hx ⟨o2,o3,rfl,hm,sm⟩ hpp
    obtain⟨j,z,rfl,hj,e1,e2,s3⟩:=step i x H2 pp hx hm sm hpp
    refine⟨pp,_,rfl,SqT.of qc,rfl,_,_,rfl,_,_,rfl,rfl,?_⟩
    exact⟨_,rfl,_,rfl,_,rfl,l,_,_,j,rfl,rfl,e1,hj,_,_,rfl,e2,s3⟩
   ·rintro σ H2 ⟨o2,o3,rfl,hm,sm⟩
    rw[List.length_map]at hm
    exact⟨_,rfl,l,_,rfl,.inl ⟨SqL.of hm,fin o2 o3 H2 hm sm⟩⟩
  ·refine⟨_,rfl,c,rfl,.inr ⟨⟨_,Same.sqt s2 hS⟩,?_⟩⟩
   refine mF (K:=K) (a:=c) (xs:=t.map V.int) (fun i σ H2=>∃(o2 o3:Option V),σ=[some (.ref c),some (.ref l),o2,o3]/\H2 l=some (.lst ((Qn t i).map V.int))/\Same H H2) ⟨none,none,rfl,qc,s2⟩ (fun i σ H2 _ ⟨_,_,_,_,sm⟩=>Same.sqt sm hS) ?_ ?_
   ·rintro i x σ H2 pp hx ⟨o2,o3,rfl,hm,sm⟩ hpp
    obtain⟨j,z,rfl,hj,e1,e2,s3⟩:=step i x H2 pp hx hm sm hpp
    refine⟨pp,_,rfl,SqT.of qc,rfl,_,_,rfl,_,_,rfl,rfl,?_⟩
    exact⟨_,rfl,_,rfl,_,rfl,l,_,_,j,rfl,rfl,e1,hj,_,_,rfl,e2,s3⟩
   ·rintro σ H2 ⟨o2,o3,rfl,hm,sm⟩
    rw[List.length_map]at hm
    exact⟨_,rfl,l,_,rfl,.inl ⟨SqL.of hm,fin o2 o3 H2 hm sm⟩⟩
theorem oz(a:At K mg "coded" dw ["table","key","digits"])(T:Txt K mg tk):Df P w K mg base "coded" ["table","key","digits"] 1 (eU K):=by
 refine a.dq sc_coded (fun vs H Q E h=>?_) (fun f cdv A outer s H vs Q E hr h=>?_)
 ·obtain⟨a,b,c,t,ks,ds,rfl,_⟩:=h
  rfl
 ·obtain⟨a,b,c,t,ks,ds,rfl,ha,hb,hc,lt,l1,l64,q⟩:=h
  refine⟨_,(qe (qC (i:=3) sc_coded.nd rfl (Or.inl rfl) (qL ZA (by rfl) T.b_list PyProof.Rows.boot_list (qd (qv 2) qb)))
   (qe (zn PassesOwn.never rfl (tW (qv 1)) (qi (i:=4) sc_coded.nd rfl (Or.inl rfl))
   (qg (zn PassesOwn.never rfl (zN rfl T.b_range (qd (qm qT (by rfl) T.b_len PySem.boot_len (qd (qv 2) qb)) qb)) (qi (i:=5) sc_coded.nd rfl (Or.inl rfl))
   (qe (qC (i:=6) sc_coded.nd rfl (Or.inl rfl) (qA qI (qv 3) (qu zH (qv 5) qf) (fun _ _=>rfl)))
   (qg (qZ (qA (IxR.or qI qK) (qv 0) (qu zM (qu qH (qu qH (qu qH (qA qI (qv 3) (qv 5) (fun _ _=>rfl)) (qv 4)) (qv 5)) (qv 6)) (zc (v:= .int 16) rfl T.g_DIGITS ⟨_,rfl⟩)) (fun _ _=>rfl)) (ac (qv 3) (qv 5) QD)))))))
   (qg (qq (qL qS (by rfl) T.b_tuple PyProof.Rows.boot_tuple (qd (qv 3) qb)))))),?_⟩
  refine⟨_,rfl,c,_,rfl,hc,fun l hl=>?_⟩
  have s1:Same H _:=Same.upd (o:= .lst (ds.map V.int)) hl
  refine⟨_,rfl,b,rfl,sd (K:=K) (H0:=H) hb (fun j σ H2=>Same H H2/\∃o4 o5 o6,σ=[some (.ref a),some (.ref b),some (.ref c),some (.ref l),o4,o5,o6]/\H2 l=some (.lst ((Qg t (ks.take j) ds).map V.int))) ⟨s1,_,_,_,rfl,qc⟩ (fun j σ' H' h=>h.1) ?_ ?_⟩
  ·rintro j x σ H2 hx ⟨s2,o4,o5,o6,rfl,hm⟩
   obtain⟨shift,rfl,hks⟩:=zX hx
   rw[eN hks,gU]
   have hrl:(Qg t (ks.take j) ds).length=ds.length:=ar
   generalize Qg t (ks.take j) ds=r at hm hrl
   refine⟨_,rfl,c,_,rfl,hc.same s2,_,rfl,?_,?_,?_⟩
   ·omega
   ·rw[List.length_map];omega
   rw[show((((ds.map V.int).length:Nat):Int)).toNat=ds.length by rw[List.length_map];rfl]
   refine QM (n:=ds.length) (Pv:=fun i σ H3=>Same H H3/\∃o5 o6,σ=[some (.ref a),some (.ref b),some (.ref c),some (.ref l),some (.int shift),o5,o6]/\H3 l=some (.lst ((Zf t shift r i).map V.int))) ⟨s2,_,_,rfl,hm⟩ ?_ ?_
   ·rintro i σ H3 hi ⟨s3,o5,o6,rfl,hm3⟩
    have hrl3:(Zf t shift r i).length=ds.length:=by rw[Qh,hrl]
    generalize hr':Zf t shift r i=r' at hm3 hrl3
    have hi':i<r'.length:=by omega
    refine⟨_,rfl,_,rfl,_,_,rfl,rfl,l,_,_,_,rfl,rfl,SqL.of hm3,lN (i:=i) (by omega) hi',?_⟩
    refine⟨_,rfl,_,rfl,_,rfl,l,_,_,_,rfl,rfl,SqL.of hm3,ZI (i:=i) (by omega) hi',_,rfl,_,_,rfl,rfl,_,rfl,_,_,rfl,rfl,_,rfl,_,_,rfl,rfl,_,_,rfl,rfl,(by decide:(0:Int)<16),?_⟩
    have dm:=Zp (r'.getD i 0+shift+(0+(i:Int))+ah r' i)
    refine(ha.same s3).ix (ZI (i:=((r'.getD i 0+shift+(0+(i:Int))+ah r' i)%16).toNat) (by have:=dm.1;omega) (by rw[lt];have:=dm.1;have:=dm.2;omega)) ?_
    refine⟨_,rfl,_,rfl,l,_,_,i,rfl,rfl,hm3,eG (by omega) (by rw[List.length_map];exact hi'),QU s3 hl,_,_,rfl,?_⟩
    rw[qc,aG,Zf,hr',dz,Int.zero_add]
   ·rintro σ H3 ⟨s3,o5,o6,rfl,hm3⟩
    exact⟨s3,_,_,_,rfl,hm3⟩
  ·rintro σ H2 ⟨s2,o4,o5,o6,rfl,hm⟩
   rw[List.length_map,List.take_length]at hm
   exact⟨_,rfl,l,_,rfl,.inl ⟨SqL.of hm,fun p hp=>q p _ (s2.trans (Same.upd hp)) (ZC hp s2) qc⟩⟩
theorem kK(a:At K mg "decoded" bh ["table","key","digits"])(T:Txt K mg tk)(xH:Df P w K mg base "back_table" ["table"] 1 (mM K)):Df P w K mg base "decoded" ["table","key","digits"] 2 (fE K):=by
 refine a.dq sc_decoded (fun vs H Q E h=>?_) (fun f cdv A outer s H vs Q E hr h=>?_)
 ·obtain⟨a,b,c,t,ks,ds,rfl,_⟩:=h
  rfl
 ·obtain⟨a,b,c,t,ks,ds,rfl,ha,hb,hc,pm,hdd,l1,l64,q⟩:=h
  refine⟨_,(qe (qC (i:=3) sc_decoded.nd rfl (Or.inl rfl) (qr xH hr.mo (qd (qv 0) qb)))
   (qe (qC (i:=4) sc_decoded.nd rfl (Or.inl rfl) (qL ZA (by rfl) T.b_list PyProof.Rows.boot_list (qd (qv 2) qb)))
   (qe (zn PassesOwn.never rfl (lQ rfl T.b_reversed (qd (qv 1) qb)) (qi (i:=5) sc_decoded.nd rfl (Or.inl rfl))
   (qg (zn PassesOwn.never rfl (lQ rfl T.b_reversed (qd (qL e9 (by rfl) T.b_range PyProof.Rows.boot_range (qd (qm qT (by rfl) T.b_len PySem.boot_len (qd (qv 2) qb)) qb)) qb)) (qi (i:=6) sc_decoded.nd rfl (Or.inl rfl))
   (qe (qC (i:=7) sc_decoded.nd rfl (Or.inl rfl) (qA qI (qv 4) (qu zH (qv 6) qf) (fun _ _=>rfl)))
   (qg (qZ (qu zM (qu zH (qu zH (qu zH (qA qK (qv 3) (qA qI (qv 4) (qv 6) (fun _ _=>rfl)) (fun _ _=>rfl)) (qv 5)) (qv 6)) (qv 7)) (zc (v:= .int 16) rfl T.g_DIGITS ⟨_,rfl⟩)) (ac (qv 4) (qv 6) QD)))))))
   (qg (qq (qL qS (by rfl) T.b_tuple PyProof.Rows.boot_tuple (qd (qv 4) qb))))))),?_⟩
  refine⟨_,rfl,a,t,rfl,ha,pm,fun pb H1 s1 hpb=>?_⟩
  refine⟨_,rfl,c,_,rfl,hc.same s1,fun l hl=>?_⟩
  have s2:Same H1 _:=Same.upd (o:= .lst (ds.map V.int)) hl
  refine⟨_,rfl,b,rfl,oY (K:=K) (H0:=H1) (hb.same s1) (fun j σ H2=>Same H1 H2/\∃o4 o5 o6,σ=[some (.ref a),some (.ref b),some (.ref c),some (.ref pb),some (.ref l),o4,o5,o6]/\H2 l=some (.lst ((QJ (zv t) (ks.drop (ks.length-j)) ds).map V.int))) ⟨s2,_,_,_,rfl,by rw[Nat.sub_zero,List.drop_length];exact qc⟩ (fun j σ' H' h=>h.1) ?_ ?_⟩
  ·rintro j x σ H2 hj hx ⟨s2,o4,o5,o6,rfl,hm⟩
   obtain⟨shift,rfl,hks⟩:=zX hx
   rw[List.length_map]at hj hks
   have ed:ks.drop (ks.length-(j+1))=shift::ks.drop (ks.length-j):=by
    have:=mR hks
    rw[show ks.length-1-j+1=ks.length-j by omega]at this
    rw[show ks.length-(j+1)=ks.length-1-j by omega]
    exact this
   rw[ed,QJ]
   have hrl:(QJ (zv t) (ks.drop (ks.length-j)) ds).length=ds.length:=cA
   have hrd:zp (QJ (zv t) (ks.drop (ks.length-j)) ds):=gK hdd
   generalize QJ (zv t) (ks.drop (ks.length-j)) ds=r at hm hrl hrd
   refine⟨_,rfl,c,_,rfl,(hc.same s1).same s2,_,rfl,fun pr hpr=>⟨pr,rfl,.inr (.inr ⟨ds.length,?_,by omega,?_⟩)⟩⟩
   ·rw[qc,List.length_map]
   have s2':=s2.trans (Same.upd (o:= .rng 0 ((ds.map V.int).length:Nat)) hpr)
   have hm':=Same.upd (o:= .rng 0 ((ds.map V.int).length:Nat)) hpr _ _ hm
   refine oU (n:=ds.length) (Pv:=fun i σ H3=>Same H1 H3/\∃o5 o6 r',σ=[some (.ref a),some (.ref b),some (.ref c),some (.ref pb),some (.ref l),some (.int shift),o5,o6]/\H3 l=some (.lst (r'.map V.int))/\r'.length=ds.length/\zp r'/\ZE (zv t) shift r' (ds.length-i)=ZE (zv t) shift r ds.length) ⟨s2',_,_,r,rfl,hm',hrl,hrd,rfl⟩ ?_ ?_
   ·rintro i σ H3 hi ⟨s3,o5,o6,r',rfl,hm3,hrl3,hrd3,er⟩
    have hi':ds.length-1-i<r'.length:=by omega
    have ep:(ds.length:Int)-1-i=((ds.length-1-i:Nat):Int):=by omega
    rw[ep]
    generalize hpl:ds.length-1-i=pl at hi'
    rw[show ds.length-i=pl+1 by omega,ZE]at er
    refine⟨_,rfl,_,rfl,_,_,rfl,rfl,l,_,_,_,rfl,rfl,SqL.of hm3,lN (i:=pl) rfl hi',?_⟩
    have dr:=eD hrd3 pl
    refine⟨_,rfl,_,rfl,_,rfl,l,_,_,_,rfl,rfl,SqL.of hm3,ZI (i:=pl) rfl hi',pb,_,_,_,rfl,rfl,SqT.of (s3 _ _ hpb),ZI (i:=(r'.getD pl 0).toNat) (by have:=dr.1;omega) (by rw[ZK];have:=dr.1;have:=dr.2;omega),?_⟩
    refine⟨_,rfl,_,_,rfl,rfl,_,rfl,_,_,rfl,rfl,_,rfl,_,_,rfl,rfl,_,_,rfl,rfl,(by decide:(0:Int)<16),?_⟩
    refine⟨_,rfl,_,rfl,l,_,_,pl,rfl,rfl,hm3,jK (by rw[List.length_map];exact hi'),QU s3 hl,_,_,cE (zv t) shift r' pl,rfl,?_,by rw[ib];exact hrl3,ij hrd3,?_⟩
    ·rw[qc,aG,cE]
    ·rw[show ds.length-(i+1)=pl by omega];exact er
   ·rintro σ H3 ⟨s3,o5,o6,r',rfl,hm3,hrl3,hrd3,er⟩
    rw[Nat.sub_self,ZE]at er
    rw[er]at hm3
    exact⟨s3,_,_,_,rfl,hm3⟩
  ·rintro σ H2 ⟨s2,o4,o5,o6,rfl,hm⟩
   rw[List.length_map,Nat.sub_self,List.drop_zero]at hm
   exact⟨_,rfl,l,_,rfl,.inl ⟨SqL.of hm,fun p hp=>q p _ ((s1.trans s2).trans (Same.upd hp)) (ZC hp (s1.trans s2)) qc⟩⟩
theorem cq(a:At K mg "letter_digits" QZ ["name"])(T:Txt K mg tk):Df P w K mg base "letter_digits" ["name"] 1 fF:=by
 refine a.dq sc_letter_digits (fun vs H Q E h=>?_) (fun f cdv A outer s H vs Q E hr h=>?_)
 ·obtain⟨z,rfl,_⟩:=h
  rfl
 ·obtain⟨z,rfl,hz,q⟩:=h
  refine⟨_,(qe (qC (i:=1) sc_letter_digits.nd rfl (Or.inl rfl) (q8 qb))
   (qe (zn PassesOwn.never rfl (nj (qv 0)) (qi (i:=2) sc_letter_digits.nd rfl (Or.inl rfl))
   (qe (qC (i:=3) sc_letter_digits.nd rfl (Or.inl rfl) (qu zH (qm gA (by rfl) T.b_ord PyProof.Rows.boot_ord (qd (qv 2) qb)) (qm gA (by rfl) T.b_ord PyProof.Rows.boot_ord (qd qz qb))))
   (qe (zw (Za PySem.F.plainAttrs_list PySem.F.slot_list_append PySem.F.type_list_append zQ (qv 1) (qd (qu zM (qv 3) (zc (v:= .int 16) rfl T.g_DIGITS ⟨_,rfl⟩)) qb)))
   (qg (zw (Za PySem.F.plainAttrs_list PySem.F.slot_list_append PySem.F.type_list_append zQ (qv 1) (qd (qu ae (qv 3) (zc (v:= .int 16) rfl T.g_DIGITS ⟨_,rfl⟩)) qb)))))))
   (qg (qq (qv 1))))),?_⟩
  refine⟨by show 0<=sizeLine;decide,fun l hl=>?_⟩
  refine⟨_,rfl,z,rfl,iB hz,sf (fun i σ H2=>Same H H2/\∃o2 o3,σ=[some (.str z),some (.ref l),o2,o3]/\H2 l=some (.lst ((Qt (z.cps.toList.take i)).map V.int))) ⟨Same.upd hl,_,_,rfl,qc⟩ ?_ ?_⟩
  ·rintro i c σ H2 hc ⟨s2,o2,o3,rfl,hm⟩
   have hc':=jQ hc
   rw[si hc',lv]
   have hln:(Qt (z.cps.toList.take i)).length<=16:=by rw[fY,List.length_take];have:=hz.2.2;omega
   generalize Qt (z.cps.toList.take i)=ds at hm hln
   have eX:((((⟨#[c]⟩:Str).cps.getD 0 0:Nat):Int)-((("a":Str).cps.getD 0 0:Nat):Int))=(c:Int)-97:=rfl
   have big:(100:Nat)<sizeLine:=by decide
   refine⟨_,rfl,_,rfl,rfl,_,rfl,rfl,_,_,rfl,rfl,?_⟩
   show iz _ _ _ [some (V.str z),some (V.ref l),some (V.str ⟨#[c]⟩),some (V.int ((c:Int)-97))] H2
   refine⟨_,rfl,.inl ⟨rfl,_,SqL.of hm⟩,_,rfl,_,_,rfl,rfl,(by decide:(0:Int)<16),l,_,_,rfl,rfl,hm,by rw[List.length_map];omega,?_⟩
   have w1:Same H (upd H2 l (.lst (ds.map V.int++[V.int (((c:Int)-97)%16)]))):=QU s2 hl
   refine⟨_,rfl,.inl ⟨rfl,_,SqL.of qc⟩,_,rfl,_,_,rfl,rfl,⟨by decide,by decide⟩,l,_,_,rfl,rfl,qc,by rw[List.length_append,List.length_map,List.length_singleton];omega,QU w1 hl,_,_,rfl,?_⟩
   rw[qc,List.map_append,List.append_assoc]
   rfl
  ·rintro σ H2 ⟨s2,o2,o3,rfl,hm⟩
   rw[show z.cps.size=z.cps.toList.length from rfl,List.take_length]at hm
   exact⟨_,rfl,q l H2 s2 hl hm⟩
theorem lG(a:At K mg "key_of" cy ["table","key","name"])(T:Txt K mg tk)(d0:Df P w K mg base "letter_digits" ["name"] 1 fF)(xF:Df P w K mg base "coded" ["table","key","digits"] 1 (eU K)):Df P w K mg base "key_of" ["table","key","name"] 2 (eL K):=by
 refine a.dq sc_key_of (fun vs H Q E h=>?_) (fun f cdv A outer s H vs Q E hr h=>?_)
 ·obtain⟨a,b,z,t,ks,rfl,_⟩:=h
  rfl
 ·obtain⟨a,b,z,t,ks,rfl,ha,hb,hz,lt,q⟩:=h
  refine⟨_,(qe (qC (i:=3) sc_key_of.nd rfl (Or.inl rfl) (qu mC (q8 (qd qf qb)) (zc (v:= .int 4) rfl T.g_KEY_PLACES ⟨_,rfl⟩)))
   (qe (zn PassesOwn.never rfl (tf rfl T.b_enumerate (qd (qr d0 hr.mo (qd (qv 2) qb)) qb)) (cQ rfl (qp (qi (i:=4) sc_key_of.nd rfl (Or.inl rfl)) (qp (qi (i:=5) sc_key_of.nd rfl (Or.inl rfl)) qP)))
   (qg (sL (qv 3) (qu zM (qv 4) (zc (v:= .int 4) rfl T.g_KEY_PLACES ⟨_,rfl⟩)) pv (qv 5) vx QD)))
   (qg (qq (qr xF hr.mo (qd (qv 0) (qd (qv 1) (qd (zK (own:=["total"]) (fr:=[]) (js:=[]) rfl (Qb (qv 3)) rfl (fun _ _ h=>nomatch h) rfl (cp rfl (by decide +kernel) (by decide +kernel) (by decide +kernel)) (fun _ _ _ _=>qi (i:=0) (show List.Nodup (["total"]:List Str)from by decide +kernel) rfl (Or.inl rfl) (.inr rfl)) (fun _ _ _ _=>(qu zM (qv 0) (zc (v:= .int 16) rfl T.g_DIGITS ⟨_,rfl⟩)))) qb)))))))),?_⟩
  refine⟨by show 1<=sizeLine;decide,fun p0 hp0=>⟨p0,4,_,rfl,rfl,qc,by decide,by decide,by show 4<=sizeLine;decide,fun l hl=>?_⟩⟩
  have s1:=(Same.upd (o:= .lst [V.int 0]) hp0)
  have s2:=s1.trans (Same.upd (o:= .lst (List.replicate (4:Int).toNat [V.int 0]).flatten) hl)
  have hlH:H l=none:=ZC hl s1
  refine⟨_,rfl,z,rfl,hz,fun ld H1 s3 hldn hld=>?_⟩
  have hm1:=s3 _ _ (qc (H:=upd H p0 (.lst [V.int 0])) (a:=l) (o:= .lst (List.replicate (4:Int).toNat [V.int 0]).flatten))
  have ndl:ld≠l:=fun y=>by rw[y,qc]at hldn;cases hldn
  generalize hds:Qt z.cps.toList=ds at hld q
  have hdl:ds.length<=16:=by rw[<- hds,fY];have:=hz.2.2;omega
  refine⟨ld,rfl,⟨_,SqL.of hld⟩,gS (K:=K) (a:=ld) (xs:=ds.map V.int) (fun i σ H2=>∃(o4 o5:Option V),σ=[some (.ref a),some (.ref b),some (.str z),some (.ref l),o4,o5]/\H2 l=some (.lst ((Q9 ds i).map V.int))/\H2 ld=some (.lst (ds.map V.int))/\Same H H2)
   ⟨none,none,rfl,hm1,hld,s2.trans s3⟩ (fun i σ H2 _ ⟨_,_,_,_,hd,_⟩=>SqL.of hd) ?_ ?_⟩
  ·rintro i x σ H2 pp hx ⟨o4,o5,rfl,hm,hd2,sm⟩ hpp
   obtain⟨dg,rfl,hz'⟩:=zX hx
   have hi:i<ds.length:=(List.getElem?_eq_some_iff.mp hz').1
   have eg:ds.getD i 0=dg:=by rw[List.getD_eq_getElem?_getD,hz'];rfl
   have sp2:=Same.upd (o:= .tup [.int i,.int dg]) hpp
   have hm':=sp2 _ _ hm
   have h4:i%4<(Q9 ds i).length:=Nat.mod_lt i (by decide)
   have e4:(i:Int)%4=((i%4:Nat):Int):=by omega
   refine⟨pp,_,rfl,SqT.of qc,rfl,_,_,rfl,_,_,rfl,rfl,?_⟩
   refine⟨_,rfl,_,rfl,_,_,rfl,rfl,(by decide:(0:Int)<4),l,_,i%4,.int ((Q9 ds i).getD (i%4) 0),rfl,(by show V.int ((i:Int)%4)=_;rw[e4]),hm',?_,_,rfl,_,_,rfl,rfl,l,_,_,i%4,rfl,rfl,hm',eG e4 (by rw[List.length_map];exact h4),_,_,rfl,?_,?_,?_⟩
   ·rw[eP h4,List.getD_eq_getElem?_getD,List.getElem?_eq_getElem h4];rfl
   ·rw[qc,aG,<- eg,mn]
   ·rw[qh ndl];exact sp2 _ _ hd2
   ·exact QU (sm.trans sp2) hlH
  ·rintro σ H2 ⟨o4,o5,rfl,hm,hd2,sm⟩
   rw[List.length_map]at hm
   refine⟨_,rfl,_,rfl,_,rfl,l,rfl,⟨_,SqL.of hm⟩,bu (xs:=(Q9 ds ds.length).map V.int) (by show 4<=sizeLine;decide) (fun i ys H3=>ys=((ZW ds).take i).map V.int/\H3=H2) ⟨by simp,rfl⟩ (fun i ys H3 ⟨_,e⟩=>by rw[e];exact SqL.of hm) ?_ ?_⟩
   ·rintro i ys H3 x hx _ ⟨rfl,rfl⟩
    obtain⟨y,rfl,hy⟩:=zX hx
    refine⟨_,rfl,_,_,rfl,rfl,(by decide:(0:Int)<16),?_,rfl⟩
    have:(ZW ds)[i]? =some (y%16):=by unfold ZW;rw[List.getElem?_map,hy];rfl
    rw[List.take_add_one,this];simp
   ·rintro ys H3 hyl ⟨rfl,rfl⟩ p hp
    rw[show(ZW ds).take ((Q9 ds ds.length).map V.int).length=ZW ds from rfl]
    have su:=Same.upd (o:= .lst ((ZW ds).map V.int)) hp
    exact⟨a,b,p,t,ks,ZW ds,rfl,(ha.same sm).same su,(hb.same sm).same su,.lst qc,lt,by rw[iw];decide,by rw[iw];decide,fun p' H' s' hn' hp'=>q p' H' ((sm.trans su).trans s') (ZC hn' (sm.trans su)) hp'⟩
theorem c8(a:At K mg "count_digits" Q4 ["count"])(T:Txt K mg tk):Df P w K mg base "count_digits" ["count"] 1 vb:=by
 refine a.dq cV (fun vs H Q E h=>?_) (fun f cdv A outer s H vs Q E hr h=>?_)
 ·obtain⟨c,rfl,_⟩:=h
  rfl
 ·obtain⟨c,rfl,q⟩:=h
  refine⟨_,(qg (qq (qx (qd (qu zM (qv 0) (zc (v:= .int 16) rfl T.g_DIGITS ⟨_,rfl⟩)) (qd (qu zM (qu ae (qv 0) (zc (v:= .int 16) rfl T.g_DIGITS ⟨_,rfl⟩)) (zc (v:= .int 16) rfl T.g_DIGITS ⟨_,rfl⟩)) (qd (qu ae (qv 0) qf) qb)))))),?_⟩
  exact⟨_,rfl,_,_,rfl,rfl,(by decide:(0:Int)<16),_,rfl,_,_,rfl,rfl,⟨by decide,by decide⟩,_,_,rfl,rfl,(by decide:(0:Int)<16),_,rfl,_,_,rfl,rfl,⟨by decide,by decide⟩,by show 3<=sizeLine;decide,fun p hp=>q p _ (Same.upd hp) qc⟩
theorem sO{c d:Int}(h0:0<=c)(h1:c<4096)(hd:ZR d):∀z∈Zm c d,0<=z/\z<=1000000:=fun z hz=>by
 have:=cB h0 h1 hd z (List.mem_append_left _ hz)
 exact⟨this.1,Int.le_trans (Int.le_of_lt this.2) (by decide)⟩
theorem iX(a:At K mg "press_of" az ["table","key","name","age","count","deed"])(T:Txt K mg tk)(xE:Df P w K mg base "count_digits" ["count"] 1 vb)(xB:Df P w K mg base "key_of" ["table","key","name"] 2 (eL K))(xF:Df P w K mg base "coded" ["table","key","digits"] 1 (eU K)):Df P w K mg base "press_of" ["table","key","name","age","count","deed"] 3 (jy K):=by
 refine a.dq sc_press_of (fun vs H Q E h=>?_) (fun f cdv A outer s H vs Q E hr h=>?_)
 ·obtain⟨a,b,z,age,c,d,t,ks,rfl,_⟩:=h
  rfl
 ·obtain⟨a,b,z,age,c,d,t,ks,rfl,ha,hb,hz,lt,c0,c1,hd,q⟩:=h
  refine⟨_,(qe (qC (i:=6) sc_press_of.nd rfl (Or.inl rfl) (qu bU (qr xE hr.mo (qd (qv 4) qb)) (qx (qd (qv 5) qb))))
   (qe (qC (i:=7) sc_press_of.nd rfl (Or.inl rfl) (qu bU (qv 6) (qx (qd (qu zM (qm (mG rfl) (by rfl) T.b_sum PyProof.Rows.boot_sum (qd (qv 6) qb)) (zc (v:= .int 16) rfl T.g_DIGITS ⟨_,rfl⟩)) qb))))
   (qg (qq (qx (qd (qv 2) (qd (qv 3) (qd (qr xF hr.mo (qd (qv 0) (qd (qr xB hr.mo (qd (qv 0) (qd (qv 1) (qd (qv 2) qb)))) (qd (qv 7) qb)))) qb)))))))),?_⟩
  refine⟨_,rfl,c,rfl,fun p1 H1 s1 hp1=>?_⟩
  refine⟨_,rfl,by show 1<=sizeLine;decide,fun p2 hp2=>?_⟩
  have u2:=Same.upd (o:= .tup [V.int d]) hp2
  refine⟨p1,p2,_,_,rfl,rfl,u2 _ _ hp1,qc,by show 4<=sizeLine;decide,fun p3 H3 s3 hp3=>?_⟩
  have hp3':H3 p3=some (.tup ((Zm c d).map V.int)):=hp3
  have S3:=(s1.trans u2).trans s3
  refine⟨_,rfl,_,rfl,p3,Zm c d,rfl,.tup hp3',by show 4<=1000;decide,sO c0 c1 hd,_,_,rfl,rfl,(by decide:(0:Int)<16),by show 1<=sizeLine;decide,fun p4 hp4=>?_⟩
  have u4:=Same.upd (o:= .tup [V.int ((Zm c d).sum%16)]) hp4
  refine⟨p3,p4,_,_,rfl,rfl,u4 _ _ hp3',qc,by show 5<=sizeLine;decide,fun p5 H5 s5 hp5=>?_⟩
  have hp5':H5 p5=some (.tup ((Zn c d).map V.int)):=hp5
  have S5:=(S3.trans u4).trans s5
  refine⟨_,rfl,_,rfl,_,rfl,_,rfl,_,rfl,_,rfl,a,b,z,t,ks,rfl,ha.same S5,hb.same S5,hz,lt,fun pk H6 s6 _ hpk=>?_⟩
  refine⟨_,rfl,a,pk,p5,t,eQ t ks z,Zn c d,rfl,(ha.same S5).same s6,.tup hpk,.tup (s6 _ _ hp5'),lt,by rw[ao];decide,by rw[ao];decide,fun pc H7 s7 _ hpc=>?_⟩
  refine⟨by show 3<=sizeLine;decide,fun p hp=>?_⟩
  have u8:=Same.upd (o:= .tup [V.str z,.int age,.ref pc]) hp
  exact q p pc _ (((S5.trans s6).trans s7).trans u8) qc (u8 _ _ hpc)
theorem f7(a:At K mg "read_press" Zs ["table","key","press"])(T:Txt K mg tk)(xB:Df P w K mg base "key_of" ["table","key","name"] 2 (eL K))(x8:Df P w K mg base "decoded" ["table","key","digits"] 2 (fE K)):Df P w K mg base "read_press" ["table","key","press"] 3 (gT K):=by
 refine a.dq sc_read_press (fun vs H Q E h=>?_) (fun f cdv A outer s H vs Q E hr h=>?_)
 ·obtain⟨a,b,pr,pc,z,age,t,ks,ds,rfl,_⟩:=h
  rfl
 ·obtain⟨a,b,pr,pc,z,age,t,ks,ds,rfl,ha,hb,hpr,hpc,hz,pm,l5,hdd,q⟩:=h
  refine⟨_,(qe (qZ (qv 2) (zu rfl (qp (qi (i:=3) sc_read_press.nd rfl (Or.inl rfl)) (qp (qi (i:=4) sc_read_press.nd rfl (Or.inl rfl)) (qp (qi (i:=5) sc_read_press.nd rfl (Or.inl rfl)) qP)))))
   (qe (qZ (qr x8 hr.mo (qd (qv 0) (qd (qr xB hr.mo (qd (qv 0) (qd (qv 1) (qd (qv 3) qb)))) (qd (qv 5) qb)))) (cQ rfl (qp (qi (i:=6) sc_read_press.nd rfl (Or.inl rfl)) (qp (qi (i:=7) sc_read_press.nd rfl (Or.inl rfl)) (qp (qi (i:=8) sc_read_press.nd rfl (Or.inl rfl)) (qp (qi (i:=9) sc_read_press.nd rfl (Or.inl rfl)) (qp (qi (i:=10) sc_read_press.nd rfl (Or.inl rfl)) qP)))))))
   (qe (qF (qB Zj (qv 10) (qu zM (qu qH (qu qH (qu qH (qv 6) (qv 7)) (qv 8)) (qv 9)) (zc (v:= .int 16) rfl T.g_DIGITS ⟨_,rfl⟩)) (qw _)) (qg (qq zm)) qy)
   (qg (qq (qx (qd (qu qH (qu qH (qv 6) (qu QP (qv 7) (zc (v:= .int 16) rfl T.g_DIGITS ⟨_,rfl⟩))) (qu QP (qv 8) qf)) (qd (qv 9) qb)))))))),?_⟩
  refine⟨_,rfl,pr,_,rfl,hpr,rfl,_,_,rfl,_,_,rfl,_,_,rfl,rfl,?_⟩
  refine⟨_,rfl,_,rfl,_,rfl,_,rfl,a,b,z,t,ks,rfl,ha,hb,hz,jj pm,fun pk H1 s1 _ hpk=>?_⟩
  refine⟨_,rfl,a,pk,pc,t,eQ t ks z,ds,rfl,ha.same s1,.tup hpk,hpc.same s1,pm,hdd,by omega,by omega,fun pd H2 s2 _ hpd=>?_⟩
  have q':∀x H',Same H2 H'->aV H' x (gk (QJ (zv t) (eQ t ks z) ds))->Q x H':=fun x H' s' ht=>q x H' ((s1.trans s2).trans s') ht
  have hl:(QJ (zv t) (eQ t ks z) ds).length=5:=by rw[cA,l5]
  obtain⟨lo,mi,hi,de,ck,er⟩:=tz hl
  rw[er]at hpd q'
  refine⟨pd,_,rfl,SqT.of hpd,rfl,_,_,rfl,_,_,rfl,_,_,rfl,_,_,rfl,_,_,rfl,rfl,?_⟩
  refine⟨_,rfl,_,rfl,_,rfl,_,_,rfl,rfl,_,rfl,_,_,rfl,rfl,_,rfl,_,_,rfl,rfl,_,_,rfl,rfl,(by decide:(0:Int)<16),rfl,_,rfl,?_⟩
  have q2:∀x H',Same H2 H'->aV H' x (if ck=(lo+mi+hi+de)%16 then some (lo+mi*16+hi*256,de)else none)->Q x H':=q'
  by_cases e:ck=(lo+mi+hi+de)%16
  ·rw[if_pos e]at q2
   refine Zl (c:=V.int ck=V.int ((lo+mi+hi+de)%16)) (by rw[e]) ?_
   refine⟨_,rfl,_,rfl,_,_,rfl,rfl,.inr ⟨by decide,by decide⟩,_,_,rfl,rfl,_,rfl,_,_,rfl,rfl,.inr ⟨by decide,by decide⟩,_,_,rfl,rfl,_,rfl,by show 2<=sizeLine;decide,fun p hp=>?_⟩
   exact q2 _ _ (Same.upd hp) ⟨p,rfl,qc⟩
  ·rw[if_neg e]at q2
   refine qX (fun _=>q2 _ _ (Same.refl _) rfl) (fun y=>absurd ?_ y)
   have:¬V.int ck=V.int ((lo+mi+hi+de)%16):=fun w'=>e (by injection w')
   show(!decide (V.int ck=V.int ((lo+mi+hi+de)%16)))=true
   rw[decide_eq_false this];rfl
end
section
variable{P:Program}{w:World}{K:Frag}{mg:Str->Option Value}{base:Heap}{tk:Nat->Tok}{C:Addr}
theorem cP(a:At K mg "stretches_of" Q3 ["door","button","age"])(T:Txt K mg tk)(U:DCx K C)(dB:Mf P w K mg base C "takes_from" ["self","button","age"] 2 (bI K C))(dQ:Mf P w K mg base C "bounds_told" ["self"] 1 (fi K C)):Df P w K mg base "stretches_of" ["door","button","age"] 3 (ra K C):=by
 refine a.dq sc_stretches_of (fun vs H Q E h=>?_) (fun f cdv A outer s H vs Q E hr h=>?_)
 ·obtain⟨_,_,_,_,_,_,_,_,_,_,rfl,_⟩:=h
  rfl
 ·obtain⟨p,ta,hk,bd,lg,n,D,v,o,age,rfl,b,hv,q⟩:=h
  refine⟨_,(qe (qF (QW.pt (zP (qB zZ (qv 1) zm (qw _)) (zD (zT (q9 (zy dB U.cl hr.mo (qv 0) (qd (qv 1) (qd (qv 2) qb)))))))) (qg (qq (qx qb))) qy)
   (qe (qZ (Qz dQ U.cl hr.mo (qv 0)) (zu rfl (qp (qi (i:=3) sc_stretches_of.nd rfl (Or.inl rfl)) (qp (qi (i:=4) sc_stretches_of.nd rfl (Or.inl rfl)) (qp (qi (i:=5) sc_stretches_of.nd rfl (Or.inl rfl)) qP)))))
   (qe (qZ (qv 1) (zu rfl (qp (qi (i:=6) sc_stretches_of.nd rfl (Or.inl rfl)) (qp (qi (i:=7) sc_stretches_of.nd rfl (Or.inl rfl)) (qp (qi (i:=8) sc_stretches_of.nd rfl (Or.inl rfl)) qP)))))
   (qe (qC (i:=9) sc_stretches_of.nd rfl (Or.inl rfl) (q8 qb))
   (qe (qF (qB bQ (qu qH (qv 7) qf) (zc (v:= .int 4096) rfl T.g_COUNTS ⟨_,rfl⟩) (qw _)) (qg (zw (Za PySem.F.plainAttrs_list PySem.F.slot_list_append PySem.F.type_list_append zQ (qv 9) (qd (qx (qd (qu qH (qv 7) qf) (qd (qm (Qi rfl) (by rfl) T.b_min PyProof.Rows.boot_min (qd (qu qH (qv 7) (qv 3)) (qd (qu zH (zc (v:= .int 4096) rfl T.g_COUNTS ⟨_,rfl⟩) qf) qb))) qb))) qb)))) qy)
   (qe (qF (QW.pt (gR (qB jD (qv 8) zm (qw _)) (eB (qB zd (qA qK (qv 8) qf (fun _ _=>rfl)) (qv 2) (qw _))))) (qe (qC (i:=10) sc_stretches_of.nd rfl (Or.inl rfl) (qu qH (qA qK (qv 8) qf (fun _ _=>rfl)) qf))
   (qg (qF (qB Qv (qv 10) (qm (Qi rfl) (by rfl) T.b_min PyProof.Rows.boot_min (qd (qu qH (qv 7) (qv 4)) (qd (qu zH (zc (v:= .int 4096) rfl T.g_COUNTS ⟨_,rfl⟩) qf) qb))) (qw _)) (qg (zw (Za PySem.F.plainAttrs_list PySem.F.slot_list_append PySem.F.type_list_append zQ (qv 9) (qd (qx (qd (qv 10) (qd (qv 10) qb))) qb)))) qy))) qy)
   (qg (qq (qL qS (by rfl) T.b_tuple PyProof.Rows.boot_tuple (qd (qv 9) qb)))))))))),?_⟩
  have none':(∀t H',Same H H'->PrT H' t []->Q (.ref t) H')->∀t,H t=none->Q (.ref t) (upd H t (.tup [])):=fun q t ht=>q t _ (Same.upd ht) ⟨[],qc,rfl,fun i a z h=>by cases h⟩
  cases o with
  |none=>
   have hv:v= .non:=hv
   subst hv
   exact⟨_,rfl,rfl,_,rfl,zE (decide_eq_true rfl) (zq ⟨by show 0<=sizeLine;decide,none' q⟩)⟩
  |some e=>
  obtain⟨x,rfl,v',hx,hw⟩:=hv
  refine⟨_,rfl,rfl,_,rfl,qX (fun y=>nomatch (of_decide_eq_true y)) (fun _=>?_)⟩
  refine⟨_,rfl,p,rfl,b.no,_,rfl,_,rfl,p,ta,hk,bd,lg,x,n,D,e,age,rfl,b,⟨v',hx,hw⟩,_,rfl,?_⟩
  have q:∀t H',Same H H'->PrT H' t (bb D e age)->Q (.ref t) H':=q
  unfold bb at q
  cases ht:ze D e age with
  |false=>
   rw[if_neg (by rw[ht];intro z;cases z)]at q
   exact zq ⟨by show 0<=sizeLine;decide,none' q⟩
  |true=>
  rw[if_pos ht]at q
  obtain⟨AA,eA⟩:∃AA:List (Int×Int),(if e.last+1<4096 then [(e.last+1,if 4095<e.last+D.near then 4095 else e.last+D.near)]else [])=AA:=⟨_,rfl⟩
  rw[eA]at q
  have hA:AA.length<=1:=by rw[<- eA];split<;>simp
  refine zi ?_
  refine⟨_,rfl,p,rfl,b.no,p,ta,hk,bd,lg,n,D,rfl,b,fun t1 H1 s1 ht1=>⟨t1,_,rfl,.tup ht1,rfl,_,_,rfl,_,_,rfl,_,_,rfl,rfl,?_⟩⟩
  refine⟨_,rfl,x,_,rfl,.tup (s1 _ _ hx),rfl,_,_,rfl,_,_,rfl,_,_,rfl,rfl,?_⟩
  refine⟨by show 0<=sizeLine;decide,fun sl hsl=>?_⟩
  have u2:=Same.upd (o:= .lst []) hsl
  have hsl0:=ZC hsl s1
  refine iD (fun σ' H'=>Same H H'/\PrL H' sl AA/\σ'=[some (.ref p),some (.ref x),some (.int age),some (.int D.near),some (.int D.far),some (.int D.most),some (.int e.age),some (.int e.last),some v',some (.ref sl),none]) (fun D' hrt hnx=>?_) ?_
  ·refine⟨_,rfl,_,_,rfl,rfl,_,_,rfl,rfl,_,rfl,?_⟩
   by_cases h1:e.last+1<4096
   ·refine zE (decide_eq_true h1) ?_
    refine⟨_,rfl,.inl ⟨rfl,_,SqL.of qc⟩,_,rfl,_,_,rfl,rfl,_,rfl,_,rfl,_,_,rfl,rfl,_,_,rfl,rfl,_,_,rfl,by show 2<=sizeLine;decide,fun y hy=>⟨sl,_,_,rfl,rfl,(Same.upd hy) _ _ qc,by show 0<sizeLine;decide,hnx _ _ ⟨?_,?_,rfl⟩⟩⟩
    ·exact fun c o e=>by rw[qh (qo e hsl0)];exact Same.upd hy _ _ (u2 _ _ (s1 _ _ e))
    ·rw[<- eA,if_pos h1]
     exact PrL.add (as:=[]) (zs:=[]) ((Same.upd hy) _ _ qc) rfl (fun i a z h=>by cases h) qc
   ·refine zJ (decide_eq_false h1) (hnx _ _ ⟨s1.trans u2,?_,rfl⟩)
    rw[<- eA,if_neg h1]
    exact⟨[],qc,rfl,fun i a z h=>by cases h⟩
  rintro _ H3 ⟨s3,pr3,rfl⟩
  refine rZ (fun σ' H'=>Same H H'/\PrL H' sl (AA++(match e.wt with
   |none=>[]
   |some (x,w)=>if x=age/\w+1<=(if 4095<e.last+D.far then 4095 else e.last+D.far)then [(w+1,w+1)]else []))/\∃o,σ'=[some (.ref p),some (.ref x),some (.int age),some (.int D.near),some (.int D.far),some (.int D.most),some (.int e.age),some (.int e.last),some v',some (.ref sl),o]) (fun D' hrt hnx=>?_) ?_
  ·have hw3:=hw.same s3
   cases ew:e.wt with
   |none=>
    rw[ew]at hw3
    have hv':v'= .non:=hw3
    subst hv'
    simp only
    exact⟨_,rfl,rfl,_,rfl,zJ rfl (zi (hnx _ _ ⟨s3,by rw[ew];simp only;rw[List.append_nil];exact pr3,_,rfl⟩))⟩
   |some xw=>
   obtain⟨x',w'⟩:=xw
   rw[ew]at hw3
   obtain⟨wa,rfl,hwa⟩:=hw3
   simp only
   refine⟨_,rfl,rfl,_,rfl,zE rfl ?_⟩
   refine⟨_,rfl,wa,_,_,_,rfl,rfl,SqT.of hwa,rfl,_,rfl,rfl,_,rfl,?_⟩
   by_cases h2:x'=age
   case neg=>
    refine zJ (decide_eq_false (by intro z;injection z with z;exact h2 z)) (hnx _ _ ⟨s3,?_,_,rfl⟩)
    rw[ew];simp only
    rw[if_neg (fun z=>h2 z.1),List.append_nil];exact pr3
   refine zE (decide_eq_true (by rw[h2])) ?_
   refine⟨_,rfl,wa,_,_,_,rfl,rfl,SqT.of hwa,rfl,_,_,rfl,rfl,?_⟩
   refine⟨_,rfl,_,rfl,_,rfl,_,_,rfl,rfl,_,_,rfl,rfl,_,_,rfl,_,_,rfl,rfl,_,rfl,?_⟩
   by_cases h3:w'+1<=(if 4095<e.last+D.far then 4095 else e.last+D.far)
   ·refine zE (decide_eq_true h3) ?_
    obtain⟨as,eas,las,has⟩:=pr3
    refine⟨_,rfl,.inl ⟨rfl,_,SqL.of eas⟩,_,rfl,_,rfl,by show 2<=sizeLine;decide,fun y hy=>⟨sl,_,_,rfl,rfl,(Same.upd hy) _ _ eas,by rw[List.length_map,las,sizeLine_eq];omega,hnx _ _ ⟨?_,?_,_,rfl⟩⟩⟩
    ·exact fun c o e=>by rw[qh (qo e hsl0)];exact Same.upd hy _ _ (s3 _ _ e)
    ·rw[ew];simp only
     rw[if_pos ⟨h2,h3⟩]
     exact PrL.add ((Same.upd hy) _ _ eas) las (fun i a z e1 e2=>Same.upd hy _ _ (has i a z e1 e2)) qc
   ·refine zJ (decide_eq_false h3) (hnx _ _ ⟨s3,?_,_,rfl⟩)
    rw[ew];simp only
    rw[if_neg (fun z=>h3 z.2),List.append_nil];exact pr3
  rintro _ H4 ⟨s4,⟨as,eas,las,has⟩,o,rfl⟩
  exact⟨_,rfl,sl,_,rfl,.inl ⟨SqL.of eas,fun t ht=>q t _ (s4.trans (Same.upd ht)) ⟨as,qc,las,fun i a z e1 e2=>Same.upd ht _ _ (has i a z e1 e2)⟩⟩⟩
theorem i7(a:At K mg "opens_at" ay ["door","name","age"])(T:Txt K mg tk)(U:DCx K C)(dC:Mf P w K mg base C "button_of" ["self","name"] 1 (kL K C))(xC:Df P w K mg base "stretches_of" ["door","button","age"] 3 (ra K C)):Df P w K mg base "opens_at" ["door","name","age"] 4 (jC K C):=by
 refine a.dq iZ (fun vs H Q E h=>?_) (fun f cdv A outer s H vs Q E hr h=>?_)
 ·obtain⟨_,_,_,_,_,_,_,_,_,rfl,_⟩:=h
  rfl
 ·obtain⟨p,ta,hk,bd,lg,n,D,nm,age,rfl,b,q⟩:=h
  refine⟨_,(qg (qq (qr xC hr.mo (qd (qv 0) (qd (zy dC U.cl hr.mo (qv 0) (qd (qv 1) qb)) (qd (qv 2) qb)))))),?_⟩
  unfold zj at q
  refine⟨_,rfl,_,rfl,p,rfl,b.no,_,rfl,p,ta,hk,bd,lg,n,D,nm,rfl,b,fun e1=>?_,fun e x e1 hx=>?_⟩
  ·rw[e1]at q
   exact⟨_,rfl,p,ta,hk,bd,lg,n,D,.non,none,age,rfl,b,rfl,q⟩
  ·rw[e1]at q
   exact⟨_,rfl,p,ta,hk,bd,lg,n,D,.ref x,some e,age,rfl,b,⟨x,rfl,hx⟩,q⟩
end
section
variable{P:Program}{w:World}{K:Frag}{mg:Str->Option Value}{base:Heap}{tk:Nat->Tok}{C:Addr}
theorem g0(a:At K mg "_law_model" Z2 ["_law_near","_law_far","_law_keys"])(T:Txt K mg tk):Df P w K mg base "_law_model" ["_law_near","_law_far","_law_keys"] 1 jE:=by
 refine a.dq iL (fun vs H Q E h=>?_) (fun f cdv A outer s H vs Q E hr h=>?_)
 ·obtain⟨_,rfl,_⟩:=h
  rfl
 ·obtain⟨D,rfl,hl,hk,q⟩:=h
  refine⟨_,(qg (qq (rY (ZB qz (qv 0) (ZB qz (qv 1) (ZB qz (qv 2) (ZB qz qf (ZB qz cC sF)))))))),?_⟩
  refine fun m hm=>⟨_,rfl,_,rfl,_,rfl,fun kd hkd=>⟨?_,?_⟩⟩
  ·rw[qh (qo qc hkd)];exact qc
  refine⟨bv D kd,by unfold bv;rw[hl];rfl,by show 5<=15;decide,?_⟩
  rw[pB]
  have nk:kd≠m:=(qo qc hkd).symm
  refine q m kd _ (fun c o e=>?_) hm ?_ ⟨qc,⟨([],fun _=>0),?_,?_,?_,?_⟩,nk.symm⟩
  ·have nm:c≠m:=qo e hm
   have nkd:c≠kd:=qo (by rw[qh nm];exact e) hkd
   rw[qh nm,qh nkd,qh nm];exact e
  ·rw[qh nk]at hkd;exact hkd
  ·rw[qh nk];exact qc
  ·rw[hk];exact fun e h=>nomatch h
  ·rw[hk]
  ·rw[hk];exact List.nodup_nil
theorem i5(a:At K mg "_law_word" aC ["_law_own","_law_plain"])(T:Txt K mg tk):Df P w K mg base "_law_word" ["_law_own","_law_plain"] 1 eY:=by
 refine a.dq sc_law_word (fun vs H Q E h=>?_) (fun f cdv A outer s H vs Q E hr h=>?_)
 ·obtain⟨_,_,_,_,_,_,_,rfl,_⟩:=h
  rfl
 ·obtain⟨m,kd,p,D,nm,age,c,rfl,md,hp,q⟩:=h
  refine⟨_,(qe (qZ (qv 1) (zu rfl (qp (qi (i:=2) sc_law_word.nd rfl (Or.inl rfl)) (qp (qi (i:=3) sc_law_word.nd rfl (Or.inl rfl)) (qp (qi (i:=4) sc_law_word.nd rfl (Or.inl rfl)) qP)))))
   (qe (qC (i:=5) sc_law_word.nd rfl (Or.inl rfl) (gr hr (zL hr (qv 0) qz) (qv 2)))
   (qe (qF (QW.pt (zP (qB zZ (qv 5) zm (qw _)) (zD (zT (hZ Qv bQ (qm (ZM rfl) (by rfl) T.b_max PyProof.Rows.boot_max (qd (zL hr (qv 0) qz) (qd (qA qK (qv 5) qf (fun _ _=>rfl)) qb))) (qv 3) (zL hr (qv 0) qz)))))) (qg (qq qz)) qy)
   (qe (qC (i:=6) sc_law_word.nd rfl (Or.inl rfl) (qu zH (qv 4) (qA qK (qv 5) qf (fun _ _=>rfl))))
   (qe (qF (QW.pt (zP (qB bQ (qv 6) qf (qw _)) (zD (qB rG (qv 6) (zL hr (qv 0) qz) (qw _))))) (qg (qq qz)) qy)
   (qg (qq (oP (QW.pt (zP (qB Qv (qv 6) (zL hr (qv 0) qz) (qw _)) (zD (qB (mS hr) (qA qK (qv 5) qf (fun _ _=>rfl)) (qx (qd (qv 3) (qd (qu zH (qv 4) qf) qb))) (qw _))))) qz qz)))))))),?_⟩
  refine⟨_,rfl,p,_,rfl,.tup hp,rfl,_,_,rfl,_,_,rfl,_,_,rfl,rfl,?_⟩
  obtain⟨f0,hd,_⟩:=id md.kn
  unfold qN at q
  rcases md.kn.get nm with⟨e1,g⟩|⟨e,x,e1,g,v,hx,hw⟩
  ·rw[e1]at q
   refine⟨_,rfl,m,_,rfl,md.g_known,kd,rfl,.inl ⟨_,.inl hd⟩,_,rfl,_,g,?_⟩
   exact⟨_,rfl,rfl,_,rfl,zE (decide_eq_true rfl) (zq (q _ (Same.refl H)))⟩
  ·rw[e1]at q
   simp only at q
   refine⟨_,rfl,m,_,rfl,md.g_known,kd,rfl,.inl ⟨_,.inl hd⟩,_,rfl,_,g,?_⟩
   refine⟨_,rfl,rfl,_,rfl,qX (fun y=>nomatch (of_decide_eq_true y)) (fun _=>?_)⟩
   refine⟨_,rfl,m,_,rfl,md.g_closed,_,rfl,x,_,_,_,rfl,rfl,SqT.of hx,rfl,_,_,rfl,_,rfl,_,_,rfl,rfl,_,rfl,?_⟩
   have et:ze D e age=(decide ((if D.least<e.age then e.age else D.least)<=age)&&decide (age<(D.kss.length:Int))):=by
    have hm:((if D.least<e.age then e.age else D.least)<=age)↔(D.least<=age/\e.age<=age):=by split<;>omega
    unfold ze Zc
    rw[show decide ((if D.least<e.age then e.age else D.least)<=age)=(decide (D.least<=age)&&decide (e.age<=age))from by rw[<- Bool.decide_and];exact decide_eq_decide.mpr hm]
    cases decide (D.least<=age)<;>cases decide (e.age<=age)<;>cases decide (age<(D.kss.length:Int))<;>rfl
   rw[et]at q
   by_cases h1:(if D.least<e.age then e.age else D.least)<=age
   case neg=>
    rw[decide_eq_false h1,Bool.false_and,if_neg (by intro z;cases z)]at q
    exact zJ (decide_eq_false h1) ⟨_,rfl,zq (q _ (Same.refl H))⟩
   rw[decide_eq_true h1,Bool.true_and]at q
   refine zE (decide_eq_true h1) ?_
   refine⟨_,rfl,m,_,rfl,md.g_keys,_,_,rfl,rfl,_,rfl,?_⟩
   by_cases h2:age<(D.kss.length:Int)
   case neg=>
    rw[decide_eq_false h2,if_neg (by intro z;cases z)]at q
    rw[decide_eq_false h2]
    exact zq (q _ (Same.refl H))
   rw[decide_eq_true h2,if_pos rfl]at q
   rw[decide_eq_true h2]
   refine zi ?_
   refine⟨_,rfl,_,rfl,x,_,_,_,rfl,rfl,SqT.of hx,rfl,_,_,rfl,rfl,?_⟩
   refine⟨_,rfl,_,_,rfl,rfl,_,rfl,?_⟩
   by_cases h3:c-e.last<1
   ·rw[if_pos (.inl h3)]at q
    exact zE (decide_eq_true h3) (zq (q _ (Same.refl H)))
   refine zJ (decide_eq_false h3) ?_
   refine⟨_,rfl,_,rfl,m,_,rfl,md.g_far,_,_,rfl,rfl,_,rfl,?_⟩
   by_cases h4:c-e.last>D.far
   ·rw[if_pos (.inr h4)]at q
    exact zE (decide_eq_true h4) (q _ (Same.refl H))
   refine zJ (decide_eq_false h4) ?_
   rw[if_neg (show¬(c-e.last<1\/c-e.last>D.far)from fun z=>z.elim h3 h4)]at q
   refine⟨_,rfl,_,rfl,m,_,rfl,md.g_near,_,_,rfl,rfl,_,rfl,?_⟩
   by_cases h5:c-e.last<=D.near
   ·rw[if_pos (.inl h5)]at q
    exact zE (decide_eq_true h5) (zq (q _ (Same.refl H)))
   refine zJ (decide_eq_false h5) ?_
   refine⟨_,rfl,x,_,_,_,rfl,rfl,SqT.of hx,rfl,_,rfl,_,rfl,_,_,rfl,rfl,by show 2<=sizeLine;decide,fun t ht=>?_⟩
   have u:=Same.upd (o:= .tup [.int age,.int (c-1)]) ht
   refine⟨e.wt,t,age,c-1,hw.same u,rfl,.inl qc,_,rfl,?_⟩
   by_cases h6:e.wt=some (age,c-1)
   ·rw[if_pos (.inr h6)]at q
    exact zE (decide_eq_true h6) (q _ u)
   ·rw[if_neg (fun z=>z.elim h5 h6)]at q
    exact zJ (decide_eq_false h6) (q _ u)
theorem jd(a:At K mg "_law_hear" av ["_law_own","_law_plain"])(T:Txt K mg tk)(dU:Df P w K mg base "_law_word" ["_law_own","_law_plain"] 1 eY):Df P w K mg base "_law_hear" ["_law_own","_law_plain"] 2 jk:=by
 refine a.dq sc_law_hear (fun vs H Q E h=>?_) (fun f cdv A outer s H vs Q E hr h=>?_)
 ·obtain⟨_,_,_,_,_,_,_,rfl,_⟩:=h
  rfl
 ·obtain⟨m,kd,p,D,nm,age,c,rfl,md,hp,ok,nf,q⟩:=h
  refine⟨_,(qe (qZ (qx (qd (qr dU hr.mo (qd (qv 0) (qd (qv 1) qb))) (qd (qv 1) qb))) (zu rfl (qp (qi (i:=2) sc_law_hear.nd rfl (Or.inl rfl)) (qp (zu rfl (qp (qi (i:=3) sc_law_hear.nd rfl (Or.inl rfl)) (qp (qi (i:=4) sc_law_hear.nd rfl (Or.inl rfl)) (qp (qi (i:=5) sc_law_hear.nd rfl (Or.inl rfl)) qP)))) qP))))
   (qe (qF (qB zd (qv 2) qz (qw _)) (qg (Q1 hr (zL hr (qv 0) qz) (qv 3) (qx (qd (qv 4) (qd (qv 5) (qd zm qb)))))) qy)
   (qe (qF (qB zd (qv 2) qz (qw _)) (qg (Q1 hr (zL hr (qv 0) qz) (qv 3) (qu bU (Q0 bO (zL hr (zL hr (qv 0) qz) (qv 3)) Zq (Zo qf)) (qx (qd (qx (qd (qv 4) (qd (qv 5) qb))) qb))))) qy)
   (qg (qq (zb zd (qv 2) qz (qw _))))))),?_⟩
  refine⟨_,rfl,_,rfl,m,kd,p,D,nm,age,c,rfl,md,hp,fun H1 s1=>⟨_,rfl,by show 2<=sizeLine;decide,fun t ht=>?_⟩⟩
  have u:=Same.upd (o:= .tup [.str (qN D nm age c),.ref p]) ht
  have S2:=s1.trans u
  have md2:=md.same S2
  have hp2:=S2 _ _ hp
  refine⟨t,_,rfl,.tup qc,rfl,_,_,rfl,_,_,rfl,p,_,rfl,.tup hp2,rfl,_,_,rfl,_,_,rfl,_,_,rfl,rfl,rfl,?_⟩
  have eK:=lp (age:=age) (c:=c) (nm:=nm) ok.nd nf
  generalize upd H1 t (.tup [.str (qN D nm age c),.ref p])=H2 at *
  refine⟨_,rfl,rfl,_,rfl,?_⟩
  obtain⟨f0,hd,_⟩:=id md2.kn
  by_cases h1:qN D nm age c="open"
  ·refine zE (decide_eq_true (by rw[h1])) ?_
   cases e1:D.kn.lookup nm with
   |none=>unfold qN at h1;rw[e1]at h1;exact absurd h1 (show¬(("":Str)="open") by decide)
   |some e=>
   rw[e1]at eK
   simp only at eK
   rw[if_pos h1]at eK
   refine⟨_,rfl,_,rfl,by show 3<=sizeLine;decide,fun t3 ht3=>?_⟩
   have u3:=Same.upd (o:= .tup [.int age,.int c,.non]) ht3
   have md3:=md2.same u3
   obtain⟨H4,dp,m4,kb4⟩:=md3.kn.put nm (a:=t3) (e:=⟨age,c,none⟩) (by have:=ok.nl;omega) ⟨.non,qc,rfl⟩
   refine⟨_,rfl,m,_,rfl,md3.g_known,_,rfl,kd,H4,rfl,dp,?_⟩
   have md4:=md3.putK m4 kb4
   refine⟨_,rfl,rfl,_,rfl,zJ (decide_eq_false (by rw[h1];intro z;injection z with z;exact absurd z (by decide))) ?_⟩
   refine⟨_,rfl,rfl,?_⟩
   rw[<- eK]at md4
   have:=q H4 ((S2.trans u3).mv.trans (m4.mono fun c h z=>h (by rw[List.mem_singleton.mp z];simp))) md4
   rw[decide_eq_true (show V.str (qN D nm age c)=V.str "open" by rw[h1])]
   rw[decide_eq_true h1]at this
   exact this
  ·refine zJ (decide_eq_false (by intro z;injection z with z;exact h1 z)) ?_
   refine⟨_,rfl,rfl,_,rfl,?_⟩
   have fin:∀H',Mv [m,kd] H H'->MdAt H' m kd {D with kn:=Qf D nm age c}->Q (.bl (decide (V.str (qN D nm age c)=V.str "open"))) H':=fun H' m' d'=>by
    have:=q H' m' d'
    rw[decide_eq_false h1]at this
    rw[decide_eq_false (show¬V.str (qN D nm age c)=V.str "open" by intro z;injection z with z;exact h1 z)]
    exact this
   by_cases h2:qN D nm age c="wait"
   ·refine zE (decide_eq_true (by rw[h2])) ?_
    rcases md2.kn.get nm with⟨e1,g⟩|⟨e,x,e1,g,v,hx,hw⟩
    ·unfold qN at h2;rw[e1]at h2;exact absurd h2 (show¬(("":Str)="wait") by decide)
    rw[e1]at eK
    simp only at eK
    rw[if_neg h1,if_pos h2]at eK
    refine⟨_,rfl,m,_,rfl,md2.g_known,_,rfl,kd,_,rfl,g,_,rfl,x,_,rfl,hx,fun y H3 s3 hy _=>?_⟩
    have hy:H3 y=some (.tup [.int e.age,.int e.last]):=hy
    refine⟨_,rfl,_,rfl,by show 2<=sizeLine;decide,fun t4 ht4=>⟨by show 1<=sizeLine;decide,fun t5 ht5=>?_⟩⟩
    have u4:=Same.upd (o:= .tup [.int age,.int c]) ht4
    have u5:=Same.upd (o:= .tup [.ref t4]) ht5
    have e4:(upd (upd H3 t4 (.tup [.int age,.int c])) t5 (.tup [.ref t4])) t4=some (.tup [.int age,.int c]):=u5 _ _ qc
    refine⟨y,t5,_,_,rfl,rfl,u5 _ _ (u4 _ _ hy),qc,by show 3<=sizeLine;decide,fun t6 H6 s6 ht6=>?_⟩
    have ht6:H6 t6=some (.tup [.int e.age,.int e.last,.ref t4]):=ht6
    have S6:=((s3.trans u4).trans u5).trans s6
    have md6:=md2.same S6
    obtain⟨H7,dp,m7,kb7⟩:=md6.kn.put nm (a:=t6) (e:=⟨e.age,e.last,some (age,c)⟩) (by have:=ok.nl;omega) ⟨.ref t4,ht6,t4,rfl,s6 _ _ e4⟩
    refine⟨_,rfl,m,_,rfl,md6.g_known,_,rfl,kd,H7,rfl,dp,?_⟩
    have md7:=md6.putK m7 kb7
    rw[<- eK]at md7
    exact⟨_,rfl,rfl,fin H7 ((S2.trans S6).mv.trans (m7.mono fun c h z=>h (by rw[List.mem_singleton.mp z];simp))) md7⟩
   ·refine zJ (decide_eq_false (by intro z;injection z with z;exact h2 z)) ?_
    refine⟨_,rfl,rfl,fin H2 S2.mv ?_⟩
    have:Qf D nm age c=D.kn:=by
     rw[eK]
     cases D.kn.lookup nm with
     |none=>rfl
     |some e=>simp only;rw[if_neg h1,if_neg h2]
    rw[this];exact md2
theorem iy(a:At K mg "_law_press" ZV ["_law_code","_law_plain","_law_deed"])(T:Txt K mg tk)(xT:Df P w K mg base "press_of" ["table","key","name","age","count","deed"] 3 (jy K)):Df P w K mg base "_law_press" ["_law_code","_law_plain","_law_deed"] 4 ai:=by
 refine a.dq sc_law_press (fun vs H Q E h=>?_) (fun f cdv A outer s H vs Q E hr h=>?_)
 ·obtain⟨_,_,_,_,_,_,_,_,_,_,rfl,_⟩:=h
  rfl
 ·obtain⟨cd,tb,kt,p,t,kss,nm,age,c,d,rfl,hc,hp,tp,hn,a0,a1,c0,c1,hd,q⟩:=h
  refine⟨_,(qe (qZ (qv 1) (zu rfl (qp (qi (i:=3) sc_law_press.nd rfl (Or.inl rfl)) (qp (qi (i:=4) sc_law_press.nd rfl (Or.inl rfl)) (qp (qi (i:=5) sc_law_press.nd rfl (Or.inl rfl)) qP)))))
   (qg (qq (qr xT hr.mo (qd (qA qK (qv 0) qf (fun _ _=>rfl)) (qd (qA qK (qA qK (qv 0) qf (fun _ _=>rfl)) (qv 4) (fun _ _=>rfl)) (qd (qv 3) (qd (qv 4) (qd (qv 5) (qd (qv 2) qb)))))))))),?_⟩
  refine⟨_,rfl,p,_,rfl,.tup hp,rfl,_,_,rfl,_,_,rfl,_,_,rfl,rfl,?_⟩
  obtain⟨as,eK,lK,hks⟩:=id hc.ks
  obtain⟨ak,hat,hak⟩:=vd (D:=⟨t,kss,0,0,0,0,[]⟩) lK hks a0 a1
  refine⟨_,rfl,cd,_,_,_,rfl,rfl,SqT.of hc.e,rfl,_,rfl,cd,_,_,_,rfl,rfl,SqT.of hc.e,rfl,_,rfl,kt,_,_,_,rfl,rfl,eK.up,hat,_,rfl,_,rfl,_,rfl,_,rfl,tb,ak,nm,age,c,d,t,_,rfl,.inr (.inl hc.tb),.inr hak.up,hn,by rw[tp.length_eq];rfl,c0,c1,hd,fun pr pc H1 s1 h1 h2=>q pr H1 s1 ⟨pc,h1,h2⟩⟩
end
section
variable{P:Program}{w:World}{K:Frag}{mg:Str->Option Value}{base:Heap}{tk:Nat->Tok}{C:Addr}
theorem gf(a:At K mg "_law_learnt" Zu ["_law_code","_law_pair_here","_law_name","_law_told"])(T:Txt K mg tk)(U:DCx K C)(xG:Mf P w K mg base C "learn" ["self","one","other"] 7 (fR K C))(dE:Df P w K mg base "_law_press" ["_law_code","_law_plain","_law_deed"] 4 ai):Df P w K mg base "_law_learnt" ["_law_code","_law_pair_here","_law_name","_law_told"] 8 (fj K C):=by
  refine a.dq sc_law_learnt (fun vs H Q E h=>?_) (fun f cdv A outer s H vs Q E hr h=>?_)
  · obtain⟨_,_,_,_,_,_,_,_,_,_,_,_,_,_,rfl,_⟩:=h
    rfl
  · obtain⟨cd,tb,kt,pl,tl,b,c,H0,t,kss,xs,nm,os,ba,rfl,pw,lx,hc,hn,ho,lo,ntl,hx,hos,q⟩:=h
    refine⟨_,(qg (zn PassesOwn.never rfl (zN rfl T.b_range (qd qf qb)) (qi (i:=4) sc_law_learnt.nd rfl (Or.inl rfl))
      (qg (qF (qB jD (qA qI (qv 3) (qv 4) (fun _ _=>rfl)) zm (qw _)) (qe (qZ (qA qI (qv 3) (qv 4) (fun _ _=>rfl)) (zu rfl (qp (qi (i:=5) sc_law_learnt.nd rfl (Or.inr rfl)) (qp (qi (i:=6) sc_law_learnt.nd rfl (Or.inl rfl)) qP))))
      (qe (jo (i:=7) sc_law_learnt.nd rfl (Or.inl rfl) (own:=["_law_count"]) (fr:=["_law_name","_law_code","_law_age"]) (js:=[2,0,5]) rfl (bH (qx (qd (qu zH (qv 6) qf) (qd (qv 6) qb)))) rfl (wF rfl rfl rfl) rfl (wG rfl (by decide +kernel) (by decide +kernel) (by decide +kernel) rfl rfl rfl rfl rfl rfl rfl rfl rfl) (fun _ _ _ _=>qi (i:=0) (show List.Nodup (["_law_count","_law_name","_law_code","_law_age"]:List Str)from by decide +kernel) rfl (Or.inl rfl) (.inr rfl)) (fun _ _ _ _=>(qr dE hr.mo (qd (qv 2) (qd (qx (qd (qv 1) (qd (qv 3) (qd (qv 0) qb)))) (qd qf qb))))))
      (qe (zw (zy xG U.cl hr.mo (qA qK (qA qI (qv 1) (qv 4) (fun _ _=>rfl)) qf (fun _ _=>rfl)) (qd (qA qI (qv 7) qf (fun _ _=>rfl)) (qd (qA qI (qv 7) qf (fun _ _=>rfl)) qb))))
      (qg (Q1 hr (zL hr (qA qK (qA qI (qv 1) (qv 4) (fun _ _=>rfl)) qf (fun _ _=>rfl)) qz) (qv 2) (qx (qd (qv 5) (qd (qv 6) (qd zm qb))))))))) qy)))),?_⟩
    refine⟨_,rfl,by decide,by decide,?_⟩
    refine QM (n:=2) (Pv:=fun j σ Hx=>∃xs',Pw K C H0 Hx b c pl xs'/\CdAt Hx cd tb kt t kss/\OlAt Hx tl os/\Stp (fun i D=>if i<j then aY nm D (os.getD i none)else D) j xs xs'/\∃o4 o5 o6 o7,σ=[some (.ref cd),some (.ref pl),some (.str nm),some (.ref tl),o4,o5,o6,o7]) ⟨xs,pw,hc,ho,(Stp.refl xs).ext (fun i x hi=>by simp),_,_,_,_,rfl⟩ ?_ ?_
    · rintro j σ Hx hj ⟨xs',pw1,hc1,ho1,st,o4,o5,o6,o7,rfl⟩
      have hj2:j<xs.length:=by rw[lx];exact hj
      have ex:=List.getElem?_eq_getElem hj2
      obtain⟨x,rx⟩:∃x,x=xs[j]:=⟨_,rfl⟩
      rw[<- rx]at ex
      obtain⟨L1,ex1,ll⟩:=st.2 j x ex
      simp only[Nat.lt_irrefl,if_false]at ex1
      obtain⟨dp,l0,hno,hkl,hLl⟩:=hx j x ex
      have en:=pw1.en j _ ex1
      simp only at en
      obtain⟨vs,evs,lvs,rvs⟩:=id ho1
      have hv:j<vs.length:=by rw[lvs,lo];exact hj
      have hoj:j<os.length:=by rw[lo];exact hj
      have hat:zV vs (0+(j:Int))=some vs[j]:=by rw[Int.zero_add];exact Qm (List.getElem?_eq_getElem hv)
      have hol:=rvs j vs[j] os[j] (List.getElem?_eq_getElem hv) (List.getElem?_eq_getElem hoj)
      have eoj:os.getD j none=os[j]:=by rw[List.getD_eq_getElem?_getD,List.getElem?_eq_getElem hoj];rfl
      have nxt:∀{f:Nat->Dr->Dr} {xs'':List En},Stp f (j+1) xs xs''->f j x.2.1=aY nm x.2.1 os[j]->(∀i,i≠j->f i=fun D=>if i<j then aY nm D (os.getD i none)else D)->Stp (fun i D=>if i<j+1 then aY nm D (os.getD i none)else D) (j+1) xs xs'':=fun h e1 e2=>h.ext fun i y hi=>by
        by_cases z:i=j
        · subst z
          rw[ex]at hi;cases hi
          rw[e1,if_pos (by omega),eoj]
        · rw[e2 i z]
          simp only
          by_cases w:i<j
          · rw[if_pos w,if_pos (by omega)]
          · rw[if_neg w,if_neg (by omega)]
      refine⟨_,rfl,_,rfl,tl,vs,_,_,rfl,rfl,SqL.of evs,hat,rfl,_,rfl,?_⟩
      cases eo:os[j]with
      | none=>
        rw[eo]at hol
        have hol:vs[j]= .non:=hol
        refine zJ (by rw[hol];rfl) ⟨xs',pw1,hc1,ho1,?_,_,_,_,_,rfl⟩
        exact nxt (st.mono (by omega)) (by rw[eo];simp [aY]) (fun i hi=>rfl)
      |some al=>
      obtain⟨ag,la⟩:=al
      rw[eo]at hol
      obtain⟨tt,ett,htt⟩:=hol
      obtain⟨a0,a1,la1,la2⟩:=hos ag la (eo▸List.getElem_mem hoj)
      refine zE (by rw[ett];rfl) ?_
      refine⟨_,rfl,_,rfl,tl,vs,_,_,rfl,rfl,SqL.of evs,hat,tt,_,ett,.tup htt,rfl,_,_,rfl,_,_,rfl,rfl,?_⟩
      refine⟨_,rfl,_,_,rfl,rfl,_,rfl,by show 2<=sizeLine;decide,fun tq htq=>⟨tq,rfl,⟨_,SqT.of qc⟩,?_⟩⟩
      have uq:=Same.upd (o:= .tup [.int (la-1),.int la]) htq
      have hcq:=hc1.same uq
      have etq:(upd Hx tq (.tup [.int (la-1),.int la])) tq=some (.tup [.int (la-1),.int la]):=qc
      have pwq:=pw1.same uq
      have hoq:=ho1.same uq
      generalize upd Hx tq (.tup [.int (la-1),.int la])=Hq at *
      refine cr (K:=K) (a:=tq) (xs:=[.int (la-1),.int la]) (by show 2<=sizeLine;decide) (fun i ys Hy=>Same Hq Hy/\∃qs:List Addr,ys=qs.map V.ref/\qs.length=i/\∀(k:Nat) (p:Addr),qs[k]? =some p->PsAt Hy p (zR t kss nm ag (la-1+(k:Int)) 0)) ⟨Same.refl _,[],rfl,rfl,fun k p h=>by cases h⟩ (fun i ys Hy h=>SqT.of (h.1 _ _ etq)) ?_ ?_
      · rintro i ys Hy z hz hyl ⟨sy,qs,rfl,hql,hqs⟩
        have hi2:i<2:=(List.getElem?_eq_some_iff.mp hz).1
        have ez:z= .int (la-1+(i:Int)):=by
          match i,hi2,hz with
          |0,_,hz=>cases hz;show V.int (la-1)=V.int (la-1+0);rw[Int.add_zero]
          |1,_,hz=>cases hz;show V.int la=V.int (la-1+1);rw[Int.sub_add_cancel]
        subst ez
        refine⟨_,rfl,_,rfl,_,rfl,_,rfl,by show 3<=sizeLine;decide,fun p hp=>?_⟩
        have up:=Same.upd (o:= .tup [.str nm,.int ag,.int (la-1+(i:Int))]) hp
        refine⟨cd,tb,kt,p,t,kss,nm,ag,la-1+(i:Int),0,rfl,(hcq.same sy).same up,qc,(dp.t▸dp.ok.tp),hn,a0,a1,by omega,by omega,⟨by decide,by decide⟩,fun pr Hz sz hps=>⟨(sy.trans up).trans sz,qs++[pr],by simp,by simp [hql],fun k p' hk=>?_⟩⟩
        by_cases hkl':k<qs.length
        · rw[List.getElem?_append_left hkl']at hk
          exact PrAt.same (up.trans sz) (hqs k p' hk)
        · rw[List.getElem?_append_right (by omega)]at hk
          cases ek:k-qs.length with
          | zero => rw[ek]at hk;cases hk;obtain rfl:k=i:=by omega
                    exact hps
          |succ m=>rw[ek]at hk;cases hk
      rintro ys Hy hyl ⟨sy,qs,rfl,hql,hqs⟩ prl hprl
      obtain⟨q0,q1,rfl⟩:∃q0 q1,qs=[q0,q1]:=by
        match qs,hql with
        | [q0,q1],_=>exact⟨q0,q1,rfl⟩
      have ur:=Same.upd (o:= .lst (([q0,q1]:List Addr).map V.ref)) hprl
      have Sr:=sy.trans ur
      have eprl:(upd Hy prl (.lst (([q0,q1]:List Addr).map V.ref))) prl=some (.lst [.ref q0,.ref q1]):=qc
      have hp0:=PrAt.same ur (hqs 0 q0 rfl)
      have hp1:=PrAt.same ur (hqs 1 q1 rfl)
      have pwr:=pwq.same Sr
      have hor:=hoq.same Sr
      have hcr:=hcq.same Sr
      generalize upd Hy prl (.lst (([q0,q1]:List Addr).map V.ref))=Hr at *
      have er:=pwr.en j _ ex1
      simp only at er
      have atp:zV (xs'.map fun x=>V.ref x.1.e) (0+(j:Int))=some (.ref x.1.e):=by rw[Int.zero_add];exact pwr.at (x:=(x.1,x.2.1,L1)) ex1
      refine⟨_,rfl,_,rfl,pl,_,_,_,rfl,rfl,SqL.of pwr.pe,atp,x.1.e,_,_,_,rfl,rfl,SqT.of er.tu,rfl,x.1.a.p,rfl,er.dl.dr.no,_,rfl,prl,_,_,_,rfl,rfl,SqL.of eprl,rfl,_,rfl,prl,_,_,_,rfl,rfl,SqL.of eprl,rfl,?_⟩
      have e10:la-1+((1:Nat):Int)=la-1+1:=rfl
      have e00:la-1+((0:Nat):Int)=la-1:=Int.add_zero _
      rw[e00]at hp0
      have rd0:=cX (nm:=nm) (d:=0) dp l0 a0 a1 (show 0<=la-1 by omega) (by omega) ⟨by decide,by decide⟩
      have rd1:=cX (nm:=nm) (c:=la-1+1) (d:=0) dp l0 a0 a1 (by omega) (by omega) ⟨by decide,by decide⟩
      have tp:t.Perm digs:=dp.t▸dp.ok.tp
      refine⟨x.1.a,x.2.1,L1,q0,q1,zR t kss nm ag (la-1) 0,zR t kss nm ag (la-1+1) 0,la-1,0,0,rfl,er.dl,by omega,dp.ok,hp0,hp1,ZP tp hn (by omega) (by omega) ⟨by decide,by decide⟩,ZP tp hn (by omega) (by omega) ⟨by decide,by decide⟩,rd0,rd1,rfl,rfl,hno,by have:=dp.ms;omega,fun Hs ms ds=>?_⟩
      have ms':=iQ ms
      have es:=er.door ms' ds
      have pes:Mv (eS x.1) Hr Hs:=eV ms'
      have npl:=pwr.np j _ ex1
      have pls:Hs pl=some (.lst (xs'.map fun x=> .ref x.1.e)):=pes _ _ npl pwr.pe
      have Nr:NT (eS x.1) Hr:=er.nt
      refine⟨_,rfl,_,rfl,by show 3<=sizeLine;decide,fun t3 ht3=>?_⟩
      have u3:=Same.upd (o:= .tup [.int ag,.int la,.non]) ht3
      have e3:=es.same u3
      have md3:=e3.md
      obtain⟨H4,dp4,m4,kb4⟩:=md3.kn.put nm (a:=t3) (e:=⟨ag,la,none⟩) (by omega) ⟨.non,qc,rfl⟩
      refine⟨_,rfl,_,rfl,pl,_,_,_,rfl,rfl,SqL.of (u3 _ _ pls),atp,x.1.e,_,_,_,rfl,rfl,SqT.of e3.tu,rfl,x.1.m,_,rfl,md3.g_known,_,rfl,x.1.kd,H4,rfl,dp4,?_⟩
      have md4:=md3.putK m4 kb4
      have m4':Mv [x.1.m,x.1.kd] _ H4:=m4.mono (fun c h z=>h (by rw[List.mem_singleton.mp z];simp))
      have e4:=e3.model m4' md4
      have Mall:Mv (eS x.1) Hr H4:=(pes.trans u3.mv).trans (ef m4')
      have lae:la-1+1=la:=by omega
      rw[lae]at e4
      have e4':Ent K C H4 x.1 {x.2.1 with kn:=za x.2.1.kn nm ⟨ag,la,none⟩} (L1++[.learn (zR t kss nm ag (la-1) 0) (zR t kss nm ag la 0)]) {x.2.1 with kn:=za x.2.1.kn nm ⟨ag,la,none⟩}:=e4
      refine⟨_,pwr.step ex1 Mall e4',hcr.mv Mall Nr,hor.mv Mall Nr (ntl j x ex),?_,_,_,_,_,rfl⟩
      exact nxt (Stp.set (x:=x) (g:=fun i D=>if i=j then aY nm D os[j]else if i<j then aY nm D (os.getD i none)else D) st ex (by simp only[Nat.lt_irrefl,if_false];exact ex1) (by simp) (by simp only[if_true];rw[eo];rfl) (fun i hi=>by funext D;rw[if_neg hi])) (by simp) (fun i hi=>by funext D;rw[if_neg hi])
    · rintro σ Hx ⟨xs',pw1,hc1,ho1,st,o4,o5,o6,o7,rfl⟩
      exact q Hx xs' pw1 hc1 (st.ext fun i x hi=>by
        have:i<2:=by rw[<- lx];exact(List.getElem?_eq_some_iff.mp hi).1
        rw[if_pos this])
theorem gw(a:At K mg "_law_heard" ZT ["_law_code","_law_pair_here","_law_plain","_law_places"])(T:Txt K mg tk)(U:DCx K C)(dL:Mf P w K mg base C "hear" ["self","thing"] 6 (eM K C))(dE:Df P w K mg base "_law_press" ["_law_code","_law_plain","_law_deed"] 4 ai)(dI:Df P w K mg base "_law_hear" ["_law_own","_law_plain"] 2 jk):Df P w K mg base "_law_heard" ["_law_code","_law_pair_here","_law_plain","_law_places"] 7 (gJ K C):=by
 refine a.dq sc_law_heard (fun vs H Q E h=>?_) (fun f cdv A outer s H vs Q E hr h=>?_)
 ·obtain⟨_,_,_,_,_,_,_,_,_,_,_,_,_,_,_,_,_,rfl,_⟩:=h
  rfl
 ·obtain⟨cd,tb,kt,pl,p,ps,b,c,H0,t,kss,xs,nm,age,n,is,ba,rfl,pw,lx,hc,hn,a0,a1,n0,n1,hp,hps,ndi,hi2,hx,q⟩:=h
  refine⟨_,(qg (zn PassesOwn.never rfl (bH (qv 3)) (qi (i:=4) sc_law_heard.nd rfl (Or.inl rfl))
   (qe (zw (zy dL U.cl hr.mo (qA qK (qA qI (qv 1) (qv 4) (fun _ _=>rfl)) qf (fun _ _=>rfl)) (qd (qr dE hr.mo (qd (qv 0) (qd (qv 2) (qd qf qb)))) qb)))
   (qg (zw (qr dI hr.mo (qd (qA qK (qA qI (qv 1) (qv 4) (fun _ _=>rfl)) qf (fun _ _=>rfl)) (qd (qv 2) qb)))))))),?_⟩
  refine⟨_,rfl,ps,rfl,⟨_,.inl hps⟩,?_⟩
  have hlen:is.length<=2:=by
   match is,ndi,hi2 with
   | [],_,_=>exact Nat.zero_le _
   | [_],_,_=>exact(by decide:1<=2)
   | [_,_],_,_=>exact Nat.le_refl 2
   |x::y::z::r,nd,h=>
    have h1:=h x (by simp)
    have h2:=h y (by simp)
    have h3:=h z (by simp)
    simp only[List.nodup_cons,List.mem_cons,not_or]at nd
    omega
  refine jl (K:=K) (a:=ps) (xs:=is.map fun i:Nat=>V.int (i:Int)) (fun j σ Hx=>∃xs',Pw K C H0 Hx b c pl xs'/\CdAt Hx cd tb kt t kss/\Hx p=some (.tup [.str nm,.int age,.int n])/\Rd Hx ps (.tup (is.map fun i:Nat=>V.int (i:Int)))/\Stp (fun i D=>if i∈is.take j then{D with kn:=Qf D nm age n}else D) j xs xs'/\∃o4,σ=[some (.ref cd),some (.ref pl),some (.ref p),some (.ref ps),o4]) ⟨xs,pw,hc,hp,hps,(Stp.refl xs).ext (fun i x hi=>by simp),_,rfl⟩ (fun j σ Hx _ h=>let⟨_,_,_,_,r,_⟩:=h;.inl r) ?_ ?_
  ·rintro j z σ Hx hz ⟨xs',pw1,hc1,hp1,hps1,st,o4,rfl⟩
   rw[List.getElem?_map]at hz
   cases ei:is[j]? with
   |none=>rw[ei]at hz;cases hz
   |some i=>
   rw[ei]at hz
   cases hz
   have hmem:=List.mem_of_getElem? ei
   have hi:=hi2 i hmem
   have hj:j<is.length:=(List.getElem?_eq_some_iff.mp ei).1
   have hix:i<xs.length:=by rw[lx];exact hi
   have ex:=List.getElem?_eq_getElem hix
   obtain⟨x,rx⟩:∃x,x=xs[i]:=⟨_,rfl⟩
   rw[<- rx]at ex
   have nin:i∉is.take j:=fun z=>by
    obtain⟨k,hk,ek⟩:=List.mem_iff_getElem.mp z
    rw[List.getElem_take]at ek
    rw[List.length_take]at hk
    exact(List.pairwise_iff_getElem.mp ndi) k j (by omega) hj (by omega) (ek.trans (List.getElem?_eq_some_iff.mp ei).2.symm)
   obtain⟨L1,ex1,ll⟩:=st.2 i x ex
   have ex1:xs'[i]? =some (x.1,x.2.1,L1):=by rw[ex1];show some (x.1,(if i∈is.take j then _ else x.2.1),L1)=_;rw[if_neg nin]
   obtain⟨dp,hLl⟩:=hx i x ex
   have tp:t.Perm digs:=dp.t▸dp.ok.tp
   have en:=pw1.en i _ ex1
   simp only at en
   have atp:zV (xs'.map fun x=>V.ref x.1.e) (i:Int)=some (.ref x.1.e):=pw1.at (x:=(x.1,x.2.1,L1)) ex1
   refine⟨_,rfl,_,rfl,pl,_,_,_,rfl,rfl,SqL.of pw1.pe,atp,x.1.e,_,_,_,rfl,rfl,SqT.of en.tu,rfl,x.1.a.p,rfl,en.dl.dr.no,_,rfl,_,rfl,cd,tb,kt,p,t,kss,nm,age,n,3,rfl,hc1,hp1,tp,hn,a0,a1,n0,n1,⟨by decide,by decide⟩,fun pr H2 s2 hpr=>?_⟩
   have pw2:=pw1.same s2
   have en2:=en.same s2
   have okP:=ZP (kss:=kss) (age:=age) tp hn n0 n1 (d:=3) ⟨by decide,by decide⟩
   refine⟨x.1.a,x.2.1,L1,.ref pr,some (zR t kss nm age n 3),rfl,en2.dl,by omega,dp.ok,⟨pr,rfl,hpr,okP⟩,(fun z=>by cases z),fun PP hP pr' q' H3 hpr' m3 _ _ d3=>?_⟩
   cases hP
   rw[bo dp n0 n1 ⟨by decide,by decide⟩,lu]at d3
   have m3':=iQ m3
   have en3:=en2.door m3' d3
   have pes:Mv (eS x.1) H2 H3:=eV m3'
   have npl:=pw2.np i _ ex1
   have pl3:H3 pl=some (.lst (xs'.map fun x=> .ref x.1.e)):=pes _ _ npl pw2.pe
   have N2:NT (eS x.1) H2:=en2.nt
   have hp3:=pes.tup N2 (s2 _ _ hp1)
   refine⟨_,rfl,_,rfl,pl,_,_,_,rfl,rfl,SqL.of pl3,atp,x.1.e,_,_,_,rfl,rfl,SqT.of en3.tu,rfl,_,rfl,x.1.m,x.1.kd,p,x.2.1,nm,age,n,rfl,en3.md,hp3,dp.ok,dp.f0,fun H4 m4 md4=>?_⟩
   have en4:=en3.model m4 md4
   have Mall:Mv (eS x.1) H2 H4:=pes.trans (ef m4)
   refine⟨_,pw2.step ex1 Mall en4,(hc1.same s2).mv Mall N2,Mall.tup N2 (s2 _ _ hp1),Mall.rd N2 (Rd.same s2 hps1),?_,_,rfl⟩
   refine Stp.set (x:=x) st ex (by show _=some (x.1,(if i∈is.take j then _ else x.2.1),L1);rw[if_neg nin];exact ex1) (by simp) ?_ (fun k hk=>?_)
   ·show(if i∈is.take (j+1)then _ else _)=_
    rw[if_pos (by rw[List.take_add_one,ei];simp)]
   ·funext D
    have:k∈is.take (j+1)↔k∈is.take j:=by rw[List.take_add_one,ei];simp;exact fun z=>absurd z hk
    by_cases z:k∈is.take j
    ·rw[if_pos z,if_pos (this.mpr z)]
    ·rw[if_neg z,if_neg (fun w=>z (this.mp w))]
  ·rintro σ Hx ⟨xs',pw1,hc1,hp1,hps1,st,o4,rfl⟩
   refine q Hx xs' pw1 hc1 ?_
   rw[List.length_map,List.take_length]at st
   exact st.mono hlen
end
section
variable{P:Program}{w:World}{K:Frag}{mg:Str->Option Value}{base:Heap}{tk:Nat->Tok}{C:Addr}
theorem gc(a:At K mg "_law_bounds" ZD ["_law_box_here"])(T:Txt K mg tk)(dA:Df P w K mg base "_law_take" ["_law_box_here","_law_many"] 1 Q7):Df P w K mg base "_law_bounds" ["_law_box_here"] 2 fK:=by
 refine a.dq sc_law_bounds (fun vs H Q E h=>?_) (fun f cdv A outer s H vs Q E hr h=>?_)
 ·obtain⟨_,_,rfl,_⟩:=h
  rfl
 ·obtain⟨b,c,rfl,hb,hc,q⟩:=h
  refine⟨_,(qe (qC (i:=1) sc_law_bounds.nd rfl (Or.inl rfl) (qu qH qf (qr dA hr.mo (qd (qv 0) (qd qf qb)))))
   (qe (qC (i:=2) sc_law_bounds.nd rfl (Or.inl rfl) (qu qH (qv 1) (qA qI (q8 (qd qf (qd qf (qd qf (qd (qr dA hr.mo (qd (qv 0) (qd qf qb))) qb))))) (qr dA hr.mo (qd (qv 0) (qd qf qb))) (fun _ _=>rfl))))
   (qe (qC (i:=3) sc_law_bounds.nd rfl (Or.inl rfl) (qA qI (q8 (qd (qv 1) (qd (qv 1) (qd (qu qH qf (qr dA hr.mo (qd (qv 0) (qd qf qb)))) qb)))) (qr dA hr.mo (qd (qv 0) (qd qf qb))) (fun _ _=>rfl)))
   (qg (qq (q8 (qd (qx (qd (qv 1) (qd (qv 2) qb))) (qd (qx (qd (qv 3) (qd (qu qH (qv 3) (qA qI (q8 (qd (qu zH (qv 2) (qv 1)) (qd qf (qd qf (qd (qr dA hr.mo (qd (qv 0) (qd qf qb))) qb))))) (qr dA hr.mo (qd (qv 0) (qd qf qb))) (fun _ _=>rfl))) qb))) qb)))))))),?_⟩
  refine⟨_,rfl,b,4,c,rfl,hb,by omega,by decide,by decide,fun r1 H1 r10 r11 g1=>⟨_,_,rfl,rfl,?_⟩⟩
  refine⟨_,rfl,_,rfl,b,9,c+1,rfl,g1.bx,by omega,by decide,by decide,fun r2 H2 r20 r21 g2=>⟨by show 4<=sizeLine;decide,fun l1 hl1=>?_⟩⟩
  have u2:=Same.upd (o:= .lst [.int 0,.int 1,.int 2,.int r2]) hl1
  have g2':=(g1.trans g2).same u2
  have n1:=zf g2.bx hl1
  refine⟨_,rfl,b,4,c+1+1,rfl,g2'.bx,by omega,by decide,by decide,fun r3 H3 r30 r31 g3=>?_⟩
  obtain⟨x,hx,hm⟩:=QL (xs:=[V.int 0,.int 1,.int 2,.int r2]) r30 r31
  obtain⟨z,rfl,z0,z1⟩:∃z:Int,x= .int z/\0<=z/\z<=8:=by
   simp only[List.mem_cons,List.not_mem_nil,or_false]at hm
   rcases hm with rfl|rfl|rfl|rfl
   ·exact⟨_,rfl,by omega,by omega⟩
   ·exact⟨_,rfl,by omega,by omega⟩
   ·exact⟨_,rfl,by omega,by omega⟩
   ·exact⟨_,rfl,by omega,by omega⟩
  have g3':=g2'.trans g3
  refine⟨l1,_,_,_,rfl,rfl,SqL.of (g3.kp _ _ n1 qc),hx,_,_,rfl,rfl,?_⟩
  refine⟨_,rfl,_,rfl,_,rfl,b,4,c+1+1+1,rfl,g3'.bx,by omega,by decide,by decide,fun r4 H4 r40 r41 g4=>⟨_,_,rfl,rfl,by show 3<=sizeLine;decide,fun l2 hl2=>?_⟩⟩
  have u4:=Same.upd (o:= .lst [.int (1+r1),.int (1+r1),.int (1+r4)]) hl2
  have g4':=(g3'.trans g4).same u4
  have n2:=zf g4.bx hl2
  refine⟨_,rfl,b,3,c+1+1+1+1,rfl,g4'.bx,by omega,by decide,by decide,fun r5 H5 r50 r51 g5=>?_⟩
  obtain⟨x2,hx2,hm2⟩:=QL (xs:=[V.int (1+r1),.int (1+r1),.int (1+r4)]) r50 r51
  obtain⟨o,rfl,o0,o1⟩:∃o:Int,x2= .int o/\1<=o/\o<=4:=by
   simp only[List.mem_cons,List.not_mem_nil,or_false]at hm2
   rcases hm2 with rfl|rfl|rfl
   ·exact⟨_,rfl,by omega,by omega⟩
   ·exact⟨_,rfl,by omega,by omega⟩
   ·exact⟨_,rfl,by omega,by omega⟩
  have g5':=g4'.trans g5
  refine⟨l2,_,_,_,rfl,rfl,SqL.of (g5.kp _ _ n2 qc),hx2,?_⟩
  refine⟨_,rfl,_,rfl,by show 2<=sizeLine;decide,fun t1 ht1=>?_⟩
  have u6:=Same.upd (o:= .tup [.int (1+r1),.int (1+r1+z)]) ht1
  have g6':=g5'.same u6
  have nt1:=zf g5'.bx ht1
  have et1:(upd H5 t1 (.tup [.int (1+r1),.int (1+r1+z)])) t1=some (.tup [.int (1+r1),.int (1+r1+z)]):=qc
  generalize upd H5 t1 (.tup [.int (1+r1),.int (1+r1+z)])=H6 at *
  refine⟨_,rfl,_,rfl,_,rfl,_,rfl,_,_,rfl,rfl,_,rfl,b,9,c+1+1+1+1+1,rfl,g6'.bx,by omega,by decide,by decide,fun r6 H7 r60 r61 g7=>⟨by show 4<=sizeLine;decide,fun l3 hl3=>?_⟩⟩
  have u7:=Same.upd (o:= .lst [.int (1+r1+z-(1+r1)),.int 0,.int 1,.int r6]) hl3
  have g7':=(g6'.trans g7).same u7
  have n3:=zf g7.bx hl3
  refine⟨_,rfl,b,4,c+1+1+1+1+1+1,rfl,g7'.bx,by omega,by decide,by decide,fun r7 H8 r70 r71 g8=>?_⟩
  obtain⟨x3,hx3,hm3⟩:=QL (xs:=[V.int (1+r1+z-(1+r1)),.int 0,.int 1,.int r6]) r70 r71
  obtain⟨y,rfl,y0,y1⟩:∃y:Int,x3= .int y/\0<=y/\y<=8:=by
   simp only[List.mem_cons,List.not_mem_nil,or_false]at hm3
   rcases hm3 with rfl|rfl|rfl|rfl
   ·exact⟨_,rfl,by omega,by omega⟩
   ·exact⟨_,rfl,by omega,by omega⟩
   ·exact⟨_,rfl,by omega,by omega⟩
   ·exact⟨_,rfl,by omega,by omega⟩
  have g8':=g7'.trans g8
  refine⟨l3,_,_,_,rfl,rfl,SqL.of (g8.kp _ _ n3 qc),hx3,_,_,rfl,rfl,by show 2<=sizeLine;decide,fun t2 ht2=>⟨by show 2<=sizeLine;decide,fun l hl=>?_⟩⟩
  have v1:=Same.upd (o:= .tup [.int o,.int (o+y)]) ht2
  have v2:=Same.upd (o:= .lst [.ref t1,.ref t2]) hl
  have G:=(g8'.same v1).same v2
  have e1:=v2 _ _ (v1 _ _ (g8.kp _ _ nt1 (u7 _ _ (g7.kp _ _ nt1 et1))))
  exact q l t1 t2 (1+r1) (1+r1+z) o (o+y) _ G qc e1 (v2 _ _ qc) ⟨by omega,by omega,by omega,by omega⟩ ⟨by omega,by omega,by omega,by omega⟩ ((g8'.same v1).fresh (hb.mono (by omega)) hl)
theorem gO(a:At K mg "_law_drawn" ZZ ["_law_box_here"])(T:Txt K mg tk)(dA:Df P w K mg base "_law_take" ["_law_box_here","_law_many"] 1 Q7):Df P w K mg base "_law_drawn" ["_law_box_here"] 2 ik:=by
 refine a.dq sc_law_drawn (fun vs H Q E h=>?_) (fun f cdv A outer s H vs Q E hr h=>?_)
 ·obtain⟨_,_,rfl,_⟩:=h
  rfl
 ·obtain⟨b,c,rfl,hb,hc,q⟩:=h
  refine⟨_,(qe (qC (i:=1) sc_law_drawn.nd rfl (Or.inr rfl) (q8 (qd qz (qd qz (qd qz (qd qz (qd qz (qd qz (qd qz (qd qz (qd qz qb)))))))))))
   (qe (qC (i:=2) sc_law_drawn.nd rfl (Or.inl rfl) (qA qI (q8 (qd (qu qH qf (qr dA hr.mo (qd (qv 0) (qd qf qb)))) (qd (qu qH qf (qr dA hr.mo (qd (qv 0) (qd qf qb)))) qb))) (qL fX (by rfl) T.b_int PyProof.Rows.boot_int (qd (zb zd (qr dA hr.mo (qd (qv 0) (qd qf qb))) qf (qw _)) qb)) (fun _ _=>rfl)))
   (qe (jo (i:=3) sc_law_drawn.nd rfl (Or.inl rfl) (own:=["_law_k"]) (fr:=["_law_some","_law_box_here"]) (js:=[1,0]) rfl (zN rfl T.b_range (qd (qv 2) qb)) rfl (vg rfl rfl) rfl (uC rfl (by decide +kernel) (by decide +kernel) (by decide +kernel) rfl rfl rfl rfl rfl rfl) (fun _ _ _ _=>qi (i:=0) (show List.Nodup (["_law_k","_law_some","_law_box_here"]:List Str)from by decide +kernel) rfl (Or.inl rfl) (.inr rfl)) (fun _ _ _ _=>(lD (K:=K) rfl PySem.F.plainAttrs_list PySem.F.slot_list_pop PySem.F.type_list_pop iA (qv 1) (qd (qr dA hr.mo (qd (qv 2) (qd (qm (aL (K:=K) rfl) (by rfl) T.b_len PySem.boot_len (qd (qv 1) qb)) qb))) qb))))
   (qg (qq (qx (qd (qv 3) (qd (qA qI (q8 (qd qf (qd qf (qd qf (qd qf (qd qf qb)))))) (qr dA hr.mo (qd (qv 0) (qd qf qb))) (fun _ _=>rfl)) (qd (qA qI (q8 (qd qf (qd qf (qd qf (qd qf qb))))) (qr dA hr.mo (qd (qv 0) (qd qf qb))) (fun _ _=>rfl)) qb))))))))),?_⟩
  refine⟨by show 9<=sizeLine;decide,fun l hl=>?_⟩
  have u1:=Same.upd (o:= .lst (drawNames.map V.str)) hl
  have nlb:l≠b:=zf hb hl
  have g1:=u1.grc hb
  have el:(upd H l (.lst (drawNames.map V.str))) l=some (.lst (drawNames.map V.str)):=qc
  have u1':∀x,H x=none->x≠l->(upd H l (.lst (drawNames.map V.str))) x=none:=fun x hx n=>by rw[qh n];exact hx
  have fr:H l=none:=hl
  have sm:Same H (upd H l (.lst (drawNames.map V.str))):=u1
  have el2:(upd H l (HO.lst [.str "a",.str "b",.str "ab",.str "ba",.str "aaaaaaaa",.str "aaaaaaab",.str "door",.str "gate",.str "x"]))=upd H l (.lst (drawNames.map V.str)):=rfl
  rw[el2]
  generalize upd H l (.lst (drawNames.map V.str))=Ha at *
  refine⟨_,rfl,b,3,c,rfl,g1.bx,by omega,by decide,by decide,fun r1 H1 r10 r11 g2=>⟨_,_,rfl,rfl,?_⟩⟩
  refine⟨_,rfl,b,3,c+1,rfl,g2.bx,by omega,by decide,by decide,fun r2 H2 r20 r21 g3=>⟨_,_,rfl,rfl,by show 2<=sizeLine;decide,fun l2 hl2=>?_⟩⟩
  have u3:=Same.upd (o:= .lst [.int (1+r1),.int (7+r2)]) hl2
  have n2:=zf g3.bx hl2
  have g3':=(((g1.trans g2).trans g3).same u3)
  refine⟨_,rfl,b,8,c+1+1,rfl,g3'.bx,by omega,by decide,by decide,fun r3 H3 r30 r31 g4=>⟨rfl,.inr ⟨_,rfl,?_⟩⟩⟩
  have el3:H3 l=some (.lst (drawNames.map V.str)):=g4.kp _ _ nlb (u3 _ _ (g3.kp _ _ nlb (g2.kp _ _ nlb el)))
  have el4:H3 l2=some (.lst [.int (1+r1),.int (7+r2)]):=g4.kp _ _ n2 qc
  have g4':=g3'.trans g4
  generalize decide (V.int r3=V.int 5)=gg
  obtain⟨mm,emm,m1,m9⟩:∃mm:Nat,zV [V.int (1+r1),.int (7+r2)] (if gg=true then 1 else 0)=some (.int (mm:Int))/\1<=mm/\mm<=9:=by
   cases gg with
   |true=>exact⟨(7+r2).toNat,by rw[Int.toNat_of_nonneg (by omega)];rfl,by omega,by omega⟩
   |false=>exact⟨(1+r1).toNat,by rw[Int.toNat_of_nonneg (by omega)];rfl,by omega,by omega⟩
  refine⟨l2,_,_,_,rfl,rfl,SqL.of el4,emm,?_⟩
  refine⟨_,rfl,_,rfl,by omega,by omega,?_⟩
  rw[Int.toNat_natCast]
  refine Zi (n:=mm) (Nat.le_trans m9 (by decide)) (fun i ys Hx=>GrC b (c+3+i) H Hx/\∃ms zs:List Str,Hx l=some (.lst (ms.map V.str))/\ys=zs.map V.str/\ms.length+i=9/\(zs++ms).Perm drawNames) ⟨g4',drawNames,[],el3,rfl,rfl,.refl _⟩ ?_ ?_
  ·rintro i ys Hx hi hl2' ⟨G2,ms,zs,hms,rfl,hml,pm⟩
   refine⟨_,rfl,.inl ⟨rfl,_,SqL.of hms⟩,?_⟩
   refine⟨_,rfl,_,rfl,l,_,rfl,.inl (SqL.of hms),b,_,_,rfl,G2.bx,by omega,by rw[List.length_map];omega,by rw[List.length_map];omega,fun x Hy x0 x1 g5=>?_⟩
   rw[List.length_map]at x1
   obtain⟨k,rfl⟩:∃k:Nat,x=(k:Int):=⟨x.toNat,by omega⟩
   have hk:k<ms.length:=by omega
   have hm3:=g5.kp _ _ nlb hms
   refine⟨l,_,_,k,.str ms[k],rfl,rfl,hm3,by omega,by omega,?_,?_,?_⟩
   ·rw[List.length_map];exact bt hk
   ·rw[List.getElem?_map,List.getElem?_eq_getElem hk];rfl
   ·refine⟨⟨fun c o hcb e=>?_,?_⟩,ms.eraseIdx k,zs++[ms[k]],?_,by simp,?_,?_⟩
    ·have z:c≠l:=fun z=>by rw[z,fr]at e;cases e
     rw[qh z];exact g5.kp _ _ hcb (G2.kp _ _ hcb e)
    ·obtain⟨n,m,k',e,r⟩:=g5.bx
     exact⟨n,m,k',by rw[qh nlb.symm];exact e,r⟩
    ·rw[qc,lj]
    ·rw[List.length_eraseIdx_of_lt hk];omega
    ·exact(mW hk).trans pm
  rintro ys Hx hyl ⟨G2,ms,zs,hms,rfl,hml,pm⟩ p hp
  rw[List.length_map]at hyl
  have nd:(zs++ms).Nodup:=pm.nodup_iff.mpr (by decide +kernel)
  have up:=Same.upd (o:= .lst (zs.map V.str)) hp
  have G3:=G2.same up
  have np:=zf G2.bx hp
  have ep:(upd Hx p (.lst (zs.map V.str))) p=some (.lst (zs.map V.str)):=qc
  have fp:=G2.fresh (hb.mono (by omega)) hp
  generalize upd Hx p (.lst (zs.map V.str))=Hp1 at *
  refine⟨_,rfl,by show 5<=sizeLine;decide,fun l3 hl3=>?_⟩
  have u5:=Same.upd (o:= .lst [.int 1,.int 2,.int 2,.int 3,.int 8]) hl3
  have n3:=zf G3.bx hl3
  have G4:=G3.same u5
  refine⟨_,rfl,b,5,c+3+mm,rfl,G4.bx,by omega,by decide,by decide,fun r5 H5 r50 r51 g6=>?_⟩
  obtain⟨x,hx,hm⟩:=QL (xs:=[V.int 1,.int 2,.int 2,.int 3,.int 8]) r50 r51
  obtain⟨mk,rfl,k1,k8⟩:∃mk:Nat,x= .int (mk:Int)/\1<=mk/\mk<=8:=by
   simp only[List.mem_cons,List.not_mem_nil,or_false]at hm
   rcases hm with rfl|rfl|rfl|rfl|rfl
   ·exact⟨1,rfl,by decide,by decide⟩
   ·exact⟨2,rfl,by decide,by decide⟩
   ·exact⟨2,rfl,by decide,by decide⟩
   ·exact⟨3,rfl,by decide,by decide⟩
   ·exact⟨8,rfl,by decide,by decide⟩
  have G5:=G4.trans g6
  have ep5:=g6.kp _ _ np (u5 _ _ ep)
  refine⟨l3,_,_,_,rfl,rfl,SqL.of (g6.kp _ _ n3 qc),hx,by show 4<=sizeLine;decide,fun l4 hl4=>?_⟩
  have u6:=Same.upd (o:= .lst [.int 0,.int 0,.int 4076,.int 100]) hl4
  have n4:=zf G5.bx hl4
  have G6:=G5.same u6
  refine⟨_,rfl,b,4,c+3+mm+1,rfl,G6.bx,by omega,by decide,by decide,fun r6 H6 r60 r61 g7=>?_⟩
  obtain⟨x2,hx2,hm2⟩:=QL (xs:=[V.int 0,.int 0,.int 4076,.int 100]) r60 r61
  obtain⟨ba,rfl,b0,b1⟩:∃ba:Int,x2= .int ba/\0<=ba/\ba<=4076:=by
   simp only[List.mem_cons,List.not_mem_nil,or_false]at hm2
   rcases hm2 with rfl|rfl|rfl|rfl
   ·exact⟨_,rfl,by decide,by decide⟩
   ·exact⟨_,rfl,by decide,by decide⟩
   ·exact⟨_,rfl,by decide,by decide⟩
   ·exact⟨_,rfl,by decide,by decide⟩
  have G7:=G6.trans g7
  refine⟨l4,_,_,_,rfl,rfl,SqL.of (g7.kp _ _ n4 qc),hx2,by show 3<=sizeLine;decide,fun t ht=>?_⟩
  have ut:=Same.upd (o:= .tup [.ref p,.int (mk:Int),.int ba]) ht
  refine q t p zs mk ba _ ((G7.same ut).mono (by omega)) qc (ut _ _ (g7.kp _ _ np (u6 _ _ ep5))) fp ⟨(List.nodup_append.mp nd).1,fun z hz=>?_,by omega,by omega,k1,k8,b0,b1⟩
  have hz':=pm.mem_iff.mp (List.mem_append_left _ hz)
  simp only[drawNames,List.mem_cons,List.not_mem_nil,or_false]at hz'
  rcases hz' with rfl|rfl|rfl|rfl|rfl|rfl|rfl|rfl|rfl
  all_goals exact⟨by decide +kernel,by decide +kernel,by decide +kernel⟩
theorem ga(a:At K mg "_law_window" ZG ["_law_base"])(T:Txt K mg tk):Df P w K mg base "_law_window" ["_law_base"] 1 fJ:=by
 refine a.dq f6 (fun vs H Q E h=>?_) (fun f cdv A outer s H vs Q E hr h=>?_)
 ·obtain⟨_,rfl,_⟩:=h
  rfl
 ·obtain⟨ba,rfl,b0,b1,q⟩:=h
  refine⟨_,(qg (qq (qL (jf rfl) (by rfl) T.b_list PyProof.Rows.boot_list (qd (qL nG (by rfl) T.b_range PyProof.Rows.boot_range (qd (qv 0) (qd (qu qH (qm (Qi rfl) (by rfl) T.b_min PyProof.Rows.boot_min (qd qf (qd (qu qH (qv 0) qf) qb))) qf) qb))) qb)))),?_⟩
  refine⟨_,rfl,_,rfl,_,_,rfl,rfl,_,_,rfl,_,_,rfl,rfl,_,_,rfl,fun r hr0=>⟨r,ba,((if ba+40<4095 then ba+40 else 4095)-ba+1).toNat,rfl,?_,by omega,by omega,?_,fun l hl=>?_⟩⟩
  ·rw[qc]
   congr 2
   rw[Int.toNat_of_nonneg (by split<;>omega)];omega
  ·split<;>omega
  ·exact q l _ ((Same.upd hr0).trans (Same.upd hl)) qc
end
section
variable{P:Program}{w:World}{K:Frag}{mg:Str->Option Value}{base:Heap}{tk:Nat->Tok}{C:Addr}
theorem i6(a:At K mg "_law_pair" aD ["_law_box_here","_law_drawn_here"])(T:Txt K mg tk)(U:DCx K C)(xL:Mi P w K mg base C "Door" ["self","table","keys","near","far","most"] 1 (iP K C))(dP:Mf P w K mg base C "close_below" ["self","age"] 1 (ie K C))(dA:Df P w K mg base "_law_take" ["_law_box_here","_law_many"] 1 Q7)(xR:Df P w K mg base "_law_table" ["_law_box_here"] 2 iO)(x9:Df P w K mg base "_law_key" ["_law_box_here"] 2 ji)(xK:Df P w K mg base "_law_bounds" ["_law_box_here"] 2 fK)(xO:Df P w K mg base "_law_model" ["_law_near","_law_far","_law_keys"] 1 jE)(xJ:Df P w K mg base "_law_learnt" ["_law_code","_law_pair_here","_law_name","_law_told"] 8 (fj K C))(xN:Df P w K mg base "_law_heard" ["_law_code","_law_pair_here","_law_plain","_law_places"] 7 (gJ K C)):Df P w K mg base "_law_pair" ["_law_box_here","_law_drawn_here"] 9 (jJ K C):=by
 refine a.dq sc_law_pair (fun vs H Q E h=>?_) (fun f cdv A outer s H vs Q E hr h=>?_)
 ·obtain⟨_,_,_,_,_,_,_,rfl,_⟩:=h
  rfl
 ·obtain⟨b,dr,nl,c,nms,many,ba,rfl,hb,hc,hdr,hnl,nlb,ok,q⟩:=h
  have m1:=ok.m1
  have m8:=ok.m8
  have b0:=ok.b0
  have b1:=ok.b1
  refine⟨_,(qe (qZ (qv 1) (zu rfl (qp (qi (i:=2) sc_law_pair.nd rfl (Or.inl rfl)) (qp (qi (i:=3) sc_law_pair.nd rfl (Or.inl rfl)) (qp (qi (i:=4) sc_law_pair.nd rfl (Or.inl rfl)) qP)))))
   (qe (qC (i:=5) sc_law_pair.nd rfl (Or.inl rfl) (qx (qd (qr xR hr.mo (qd (qv 0) qb)) (qd (qL qS (by rfl) T.b_tuple PyProof.Rows.boot_tuple (qd (zK (own:=["_law_k"]) (fr:=["_law_box_here"]) (js:=[0]) rfl (zN rfl T.b_range (qd (qv 3) qb)) rfl (kT rfl) rfl (j5 rfl (by decide +kernel) (by decide +kernel) (by decide +kernel) rfl rfl rfl) (fun _ _ _ _=>qi (i:=0) (show List.Nodup (["_law_k","_law_box_here"]:List Str)from by decide +kernel) rfl (Or.inl rfl) (.inr rfl)) (fun _ _ _ _=>(Q0 bO (qr x9 hr.mo (qd (qv 1) qb)) Zq (Zo qf)))) qb)) qb))))
   (qe (qC (i:=6) sc_law_pair.nd rfl (Or.inl rfl) (q8 qb))
   (qe (zn PassesOwn.never rfl (Qb (qr xK hr.mo (qd (qv 0) qb))) (zu rfl (qp (qi (i:=7) sc_law_pair.nd rfl (Or.inl rfl)) (qp (qi (i:=8) sc_law_pair.nd rfl (Or.inl rfl)) qP)))
   (qg (zw (Za PySem.F.plainAttrs_list PySem.F.slot_list_append PySem.F.type_list_append zQ (qv 6) (qd (qx (qd (jS xL hr.mo (qd (qA qK (qv 5) qf (fun _ _=>rfl)) (qd (qA qK (qv 5) qf (fun _ _=>rfl)) (qd (qv 7) (qd (qv 8) (qd qf qb)))))) (qd (qr xO hr.mo (qd (qv 7) (qd (qv 8) (qd (qv 3) qb)))) qb))) qb)))))
   (qe (zn PassesOwn.never rfl (Qb (qv 2)) (qi (i:=9) sc_law_pair.nd rfl (Or.inl rfl))
   (qe (qC (i:=10) sc_law_pair.nd rfl (Or.inl rfl) (qr dA hr.mo (qd (qv 0) (qd (qv 3) qb))))
   (qe (qC (i:=11) sc_law_pair.nd rfl (Or.inl rfl) (qm (Qi rfl) (by rfl) T.b_min PyProof.Rows.boot_min (qd qf (qd (qu qH (qu qH (qv 4) qf) (qr dA hr.mo (qd (qv 0) (qd qf qb)))) qb))))
   (qe (qC (i:=12) sc_law_pair.nd rfl (Or.inl rfl) (qx (qd (qr dA hr.mo (qd (qv 0) (qd (qv 3) qb))) (qd (qm (Qi rfl) (by rfl) T.b_min PyProof.Rows.boot_min (qd qf (qd (qu qH (qu qH (qv 4) qf) (qr dA hr.mo (qd (qv 0) (qd qf qb)))) qb))) qb))))
   (qe (qC (i:=13) sc_law_pair.nd rfl (Or.inl rfl) (qr dA hr.mo (qd (qv 0) (qd qf qb))))
   (qe (qC (i:=14) sc_law_pair.nd rfl (Or.inl rfl) (q8 (qd (qx (qd (qv 10) (qd (qv 11) qb))) (qd (qx (qd (qv 10) (qd (qA qK (qv 12) qf (fun _ _=>rfl)) qb))) (qd (qx (qd (qA qK (qv 12) qf (fun _ _=>rfl)) (qd (qv 11) qb))) (qd zm qb))))))
   (qe (qC (i:=15) sc_law_pair.nd rfl (Or.inl rfl) (q8 (qd (qx (qd (qv 10) (qd (qv 11) qb))) (qd (qA qI (qv 14) (qm (ZM rfl) (by rfl) T.b_max PyProof.Rows.boot_max (qd qf (qd (qu zH (qv 13) qf) qb))) (fun _ _=>rfl)) qb))))
   (qe (qF (qB zd (qr dA hr.mo (qd (qv 0) (qd qf qb))) qf (qw _)) (qg (zw (t8 PySem.F.plainAttrs_list PySem.F.slot_list_reverse PySem.F.type_list_reverse k6 (qv 15)))) qy)
   (qg (zw (qr xJ hr.mo (qd (qv 5) (qd (qv 6) (qd (qv 9) (qd (qv 15) qb)))))))))))))))
   (qe (zn PassesOwn.never rfl (zN rfl T.b_range (qd (qr dA hr.mo (qd (qv 0) (qd qf qb))) qb)) (qi (i:=16) sc_law_pair.nd rfl (Or.inl rfl))
   (qe (qC (i:=9) sc_law_pair.nd rfl (Or.inl rfl) (qA qI (qv 2) (qr dA hr.mo (qd (qv 0) (qd (qm qT (by rfl) T.b_len PySem.boot_len (qd (qv 2) qb)) qb))) (fun _ _=>rfl)))
   (qe (qC (i:=10) sc_law_pair.nd rfl (Or.inl rfl) (qr dA hr.mo (qd (qv 0) (qd (qv 3) qb))))
   (qe (qC (i:=17) sc_law_pair.nd rfl (Or.inl rfl) (qx (qd (qv 9) (qd (qv 10) (qd (qm (Qi rfl) (by rfl) T.b_min PyProof.Rows.boot_min (qd qf (qd (qu qH (qv 4) (qr dA hr.mo (qd (qv 0) (qd qf qb)))) qb))) qb)))))
   (qg (zw (qr xN hr.mo (qd (qv 5) (qd (qv 6) (qd (qv 17) (qd (qA qI (q8 (qd (qx (qd qf (qd qf qb))) (qd (qx (qd qf (qd qf qb))) (qd (qx (qd qf qb)) (qd (qx (qd qf qb)) qb))))) (qr dA hr.mo (qd (qv 0) (qd qf qb))) (fun _ _=>rfl)) qb)))))))))))
   (qe (zn PassesOwn.never rfl (Qb (qv 6)) (zu rfl (qp (qi (i:=18) sc_law_pair.nd rfl (Or.inl rfl)) (qp (qi (i:=19) sc_law_pair.nd rfl (Or.inl rfl)) qP)))
   (qg (qF (qB zd (qr dA hr.mo (qd (qv 0) (qd qf qb))) qf (qw _)) (qe (qC (i:=10) sc_law_pair.nd rfl (Or.inl rfl) (qr dA hr.mo (qd (qv 0) (qd (qv 3) qb))))
   (qe (zw (zy dP U.cl hr.mo (qv 18) (qd (qv 10) qb)))
   (qg (Q1 hr (qv 19) qz (qm (ZM rfl) (by rfl) T.b_max PyProof.Rows.boot_max (qd (zL hr (qv 19) qz) (qd (qv 10) qb))))))) qy)))
   (qg (qq (qx (qd (qv 5) (qd (qv 6) qb)))))))))))),?_⟩
  refine⟨_,rfl,dr,_,rfl,.tup hdr,rfl,_,_,rfl,_,_,rfl,_,_,rfl,rfl,?_⟩
  refine⟨_,rfl,b,c,rfl,hb,by omega,fun tb t H1 g1 ftb etb tp=>?_⟩
  refine⟨_,rfl,_,rfl,by omega,by omega,?_⟩
  rw[Int.toNat_natCast]
  have ntb:tb≠b:=fun z=>by obtain⟨_,_,_,e,_⟩:=hb;rw[z,e]at ftb;cases ftb
  refine Zi (n:=many) (Nat.le_trans m8 (by decide)) (fun i ys Hx=>GrC b (c+16+9*i) H Hx/\Hx tb=some (.tup (t.map V.int))/\∃(as:List Addr) (kss:List (List Int)),ys=as.map V.ref/\as.length=i/\kss.length=i/\∀(j:Nat) (x:Addr) (z:List Int),as[j]? =some x->kss[j]? =some z->Hx x=some (.tup (z.map V.int))) ⟨g1,etb,[],[],rfl,rfl,rfl,fun j x z e=>by cases e⟩ ?_ ?_
  ·rintro i ys Hx hi hyl ⟨G,et,as,kss,rfl,lA,lK,hks⟩
   refine⟨_,rfl,b,c+16+9*i,rfl,G.bx,by omega,fun p ks H2 g2 fp ep dk l1 l8=>⟨_,rfl,p,_,rfl,ep,fun y H3 s3 hy _=>?_⟩⟩
   rw[am]at hy
   have kp:∀{x:Addr} {xs:List V},Hx x=some (.tup xs)->H3 x=some (.tup xs):=fun{x xs} e=>s3 _ _ (g2.kp _ _ (fun z=>by obtain⟨_,_,_,eb,_⟩:=G.bx;rw[z,eb]at e;cases e) e)
   refine⟨((G.trans g2).same s3).mono (by omega),kp et,as++[y],kss++[Zz ks none (some 3)],by simp,by simp [lA],by simp [lK],fun j x z e1 e2=>?_⟩
   by_cases hj:j<as.length
   ·rw[List.getElem?_append_left hj]at e1
    rw[List.getElem?_append_left (by omega)]at e2
    exact kp (hks j x z e1 e2)
   ·rw[List.getElem?_append_right (by omega)]at e1
    rw[List.getElem?_append_right (by omega)]at e2
    cases ej:j-as.length with
    |zero=>rw[ej]at e1;rw[show j-kss.length=0 by omega]at e2;cases e1;cases e2;exact hy
    |succ k=>rw[ej]at e1;cases e1
  rintro ys Hx hyl ⟨G,et,as,kss,rfl,lA,lK,hks⟩ l0 hl0
  obtain rfl:kss.length=many:=lK
  refine⟨l0,_,rfl,.inl ⟨SqL.of qc,fun kt hkt=>⟨by show 2<=sizeLine;decide,fun cd hcd=>?_⟩⟩⟩
  have u1:=Same.upd (o:= .lst (as.map V.ref)) hl0
  have u2:=Same.upd (o:= .tup (as.map V.ref)) hkt
  have u3:=Same.upd (o:= .tup [.ref tb,.ref kt]) hcd
  have S3:=(u1.trans u2).trans u3
  have hC:CdAt (upd (upd (upd Hx l0 (.lst (as.map V.ref))) kt (.tup (as.map V.ref))) cd (.tup [.ref tb,.ref kt])) cd tb kt t kss:=⟨qc,.inl (S3 _ _ et),as,.inl (.inl (u3 _ _ qc)),lA,fun j x z e1 e2=> .inl (.inl (S3 _ _ (hks j x z e1 e2)))⟩
  have G3:=G.same S3
  generalize upd (upd (upd Hx l0 (.lst (as.map V.ref))) kt (.tup (as.map V.ref))) cd (.tup [.ref tb,.ref kt])=H3 at *
  clear hks et u1 u2 u3 hl0 hkt hcd
  refine⟨by show 0<=sizeLine;decide,fun pl hpl=>?_⟩
  have u4:=Same.upd (o:= .lst []) hpl
  have G4:=G3.same u4
  have hC4:=hC.same u4
  have b0':H b≠none:=fun z=>by obtain⟨_,_,_,e,_⟩:=hb;rw[z]at e;cases e
  have pw0:Pw K C H (upd H3 pl (.lst [])) b (c+16+9*kss.length) pl []:=⟨fun c o h e=>G4.kp c o (fun z=>h (List.mem_singleton.mpr z)) e,G4.bx,b0',(fun i x h=>by cases h),(fun i j x y _ h=>by cases h),(fun i x h=>by cases h),qc,(fun i x h=>by cases h),G3.fresh (hb.mono (by omega)) hpl⟩
  generalize upd H3 pl (.lst [])=H4 at *
  refine⟨_,rfl,b,c+16+9*kss.length,rfl,pw0.bx,by omega,fun bl bx by' n1 f1 n2 f2 H5 g5 ebl ebx eby bd1 bd2 fbl=>⟨bl,rfl,⟨_,SqL.of ebl⟩,?_⟩⟩
  have pw5:=(pw0.grc g5)
  have hC5:=hC4.mv (S:=[b]) (fun c o h e=>g5.kp c o (fun z=>h (List.mem_singleton.mpr z)) e) (zz pw0.bx)
  have nbl:bl≠pl:=qo pw0.pe fbl |>.symm
  refine zY (K:=K) (a:=bl) (xs:=[.ref bx,.ref by']) (fun j σ Hy=>∃xs,Pw K C H Hy b (c+16+9*kss.length+7) pl xs/\xs.length=j/\(∀(i:Nat) (x:En),xs[i]? =some x->DpOk t kss ba x.2.1/\x.2.1.least=0/\x.2.1.kn=[]/\x.2.2=[])/\CdAt Hy cd tb kt t kss/\Hy bl=some (.lst [.ref bx,.ref by'])/\Hy bx=some (.tup [.int n1,.int f1])/\Hy by'=some (.tup [.int n2,.int f2])/\∃o7 o8,σ=[some (.ref b),some (.ref dr),some (.ref nl),some (.int (kss.length:Int)),some (.int ba),some (.ref cd),some (.ref pl),o7,o8,none,none,none,none,none,none,none,none,none,none,none]) ⟨[],pw5,rfl,(fun i x h=>by cases h),hC5,ebl,ebx,eby,_,_,rfl⟩ (fun j σ Hy _ h=>let⟨_,_,_,_,_,e,_⟩:=h;SqL.of e) ?_ ?_
  ·rintro j z σ Hy hz ⟨xs,pw,lx,hxs,hCy,el,ex,ey,o7,o8,rfl⟩
   obtain⟨be,n,f,rfl,ebe,bd⟩:∃be n f,z= .ref be/\Hy be=some (.tup [.int n,.int f])/\n6 n f:=by
    match j,hz with
    |0,hz=>cases hz;exact⟨bx,n1,f1,rfl,ex,bd1⟩
    |1,hz=>cases hz;exact⟨by',n2,f2,rfl,ey,bd2⟩
   obtain⟨bn0,bn1,bf0,bf1⟩:=bd
   refine⟨be,_,rfl,.tup ebe,rfl,_,_,rfl,_,_,rfl,rfl,?_⟩
   refine⟨_,rfl,.inl ⟨rfl,_,SqL.of pw.pe⟩,?_⟩
   refine⟨_,rfl,cd,_,_,_,rfl,rfl,SqT.of hCy.e,rfl,_,rfl,cd,_,_,_,rfl,rfl,SqT.of hCy.e,rfl,_,rfl,_,rfl,fun x dx nx ndx nex=>?_⟩
   have sJ:Same Hy (upd (upd Hy dx (.own x)) x (.ins C dx [])):=(Same.upd ndx).trans (Same.upd (by rw[qh nex.symm];exact nx))
   refine⟨x,tb,kt,dx,n,f,12,t,kss,rfl,qc,.inr (.inl (Rd.same sJ hCy.tb)),hCy.ks.same sJ,m8,fun ta hk bd' lg H2 h1 h2 h3 mv dr' kr=>⟨rfl,?_⟩⟩
   have sK:Same Hy H2:=fun c o e=>mv c o (qR (qo e nx)) (sJ c o e)
   have dl:DlAt K C H2 ⟨x,ta,hk,bd',lg⟩ ⟨t,kss,n,f,12,0,[]⟩ []:=DoorAt.dl dr' kr
   have fz:∀z∈dS ⟨x,ta,hk,bd',lg⟩,Hy z=none:=fun z hz=>by
    rcases nw hz with rfl|rfl|rfl|rfl
    ·exact nx
    ·exact ZC h1 sJ
    ·exact ZC h2 sJ
    ·exact ZC h3 sJ
   refine⟨_,rfl,_,rfl,_,rfl,⟨t,kss,n,f,12,0,[]⟩,rfl,rfl,rfl,fun m kd H6 s6 fm fkd md=>⟨by show 2<=sizeLine;decide,fun e he=>?_⟩⟩
   have u7:=Same.upd (o:= .tup [.ref x,.ref m]) he
   have S7:=(sK.trans s6).trans u7
   obtain⟨f0,ebd,_⟩:=id dl.dr.kb
   have ent:Ent K C (upd H6 e (.tup [.ref x,.ref m])) ⟨e,⟨x,ta,hk,bd',lg⟩,m,kd⟩ ⟨t,kss,n,f,12,0,[]⟩ [] ⟨t,kss,n,f,12,0,[]⟩:=⟨qc,(dl.same s6).same u7,md.same u7,(qo ebd fm).symm,(qo ebd fkd).symm⟩
   have fe:∀z∈eS ⟨e,⟨x,ta,hk,bd',lg⟩,m,kd⟩,Hy z=none:=fun z hz=>by
    rcases nD hz with hz|rfl|rfl
    ·exact fz z hz
    ·exact ZC fm sK
    ·exact ZC fkd sK
   refine⟨pl,_,_,rfl,rfl,S7 _ _ pw.pe,by rw[List.length_map,lx,sizeLine_eq];have:j<2:=(List.getElem?_eq_some_iff.mp hz).1;omega,?_⟩
   have mp:Mv [pl] (upd H6 e (.tup [.ref x,.ref m])) (upd (upd H6 e (.tup [.ref x,.ref m])) pl (.lst ((xs.map fun x=>V.ref x.1.e)++[.ref e]))):=Mv.upd1
   have np:NT [pl] (upd H6 e (.tup [.ref x,.ref m])):=NT.one (S7 _ _ pw.pe) trivial
   refine⟨xs++[(⟨e,⟨x,ta,hk,bd',lg⟩,m,kd⟩,⟨t,kss,n,f,12,0,[]⟩,[])],pw.add S7 ent fe,by simp [lx],fun i y hy=>?_,(hCy.same S7).mv mp np,by rw[qh nbl];exact S7 _ _ el,mp.tup np (S7 _ _ ex),mp.tup np (S7 _ _ ey),_,_,rfl⟩
   by_cases hi:i<xs.length
   ·rw[List.getElem?_append_left hi]at hy;exact hxs i y hy
   ·rw[List.getElem?_append_right (by omega)]at hy
    cases ei:i-xs.length with
    |succ k=>rw[ei]at hy;cases hy
    |zero=>
     rw[ei]at hy
     cases hy
     exact⟨⟨⟨tp,Int.le_refl _,m8,Nat.zero_le _,List.nodup_nil⟩,rfl,rfl,m1,bn0,bn1,bf0,bf1,rfl,(by show(0:Int)<(kss.length:Int);omega),(fun e h=>nomatch h),(fun e h=>nomatch h)⟩,rfl,rfl,rfl⟩
  rintro σ Hy ⟨xs,pw,lx,hxs,hCy,el,ex,ey,o7,o8,rfl⟩
  have lx2:xs.length=2:=lx
  refine⟨_,rfl,nl,rfl,⟨_,SqL.of (pw.s _ _ (qR nlb) hnl)⟩,?_⟩
  refine zY (K:=K) (a:=nl) (xs:=nms.map V.str) (fun j σ Hz=>∃xs,Pw K C H Hz b (c+16+9*kss.length+7+7*j) pl xs/\xs.length=2/\(∀(i:Nat) (x:En),xs[i]? =some x->(DpOk t kss ba x.2.1/\x.2.1.least=0/\(∀z∈x.2.1.kn.map (·.1),z∈nms.take j)/\x.2.1.kn.length<=j)/\x.2.2.length<=2*j)/\CdAt Hz cd tb kt t kss/\∃o9 oa ob oc od oe og,σ=[some (.ref b),some (.ref dr),some (.ref nl),some (.int (kss.length:Int)),some (.int ba),some (.ref cd),some (.ref pl),o7,o8,o9,oa,ob,oc,od,oe,og,none,none,none,none]) ⟨xs,pw,lx2,fun i x hx=>?_,hCy,_,_,_,_,_,_,_,rfl⟩ (fun j σ Hz _ h=>let⟨_,p,_⟩:=h;SqL.of (p.s _ _ (qR nlb) hnl)) ?_ ?_
  ·obtain⟨h1,h2,h3,h4⟩:=hxs i x hx
   rw[h3,h4]
   exact⟨⟨h1,h2,(fun z h=>nomatch h),Nat.le_refl _⟩,Nat.le_refl _⟩
  ·rintro j z σ Hz hz ⟨xs,pw,lx,hxs,hCz,o9,oa,ob,oc,od,oe,og,rfl⟩
   rw[List.getElem?_map]at hz
   cases en:nms[j]? with
   |none=>rw[en]at hz;cases hz
   |some nm=>
   rw[en]at hz
   cases hz
   have hj:j<nms.length:=(List.getElem?_eq_some_iff.mp en).1
   have j9:j<9:=Nat.lt_of_lt_of_le hj ok.l9
   have hnm:=ok.nm nm (List.mem_of_getElem? en)
   refine⟨_,rfl,_,rfl,b,_,_,rfl,pw.bx,by omega,by omega,by omega,fun ag H1' ag0 ag1 g1'=>?_⟩
   have pwa:=pw.grc g1'
   refine⟨_,rfl,_,_,rfl,rfl,_,rfl,b,9,_,rfl,pwa.bx,by omega,by decide,by decide,fun r2 H2' r20 r21 g2'=>⟨_,_,rfl,rfl,_,_,rfl,?_⟩⟩
   have pwb:=pwa.grc g2'
   obtain⟨la,ela⟩:∃la,la=(if ba+1+r2<4095 then ba+1+r2 else 4095):=⟨_,rfl⟩
   have la0:1<=la/\la<4096/\ba<la/\la<=ba+23:=by rw[ela];split<;>omega
   rw[<- ela]
   refine⟨_,rfl,_,rfl,b,_,_,rfl,pwb.bx,by omega,by omega,by omega,fun ag2 H3' ag20 ag21 g3'=>?_⟩
   have pwc:=pwb.grc g3'
   refine⟨_,rfl,_,_,rfl,rfl,_,rfl,b,9,_,rfl,pwc.bx,by omega,by decide,by decide,fun r4 H4' r40 r41 g4'=>⟨_,_,rfl,rfl,_,_,rfl,by show 2<=sizeLine;decide,fun t0 ht0=>?_⟩⟩
   obtain⟨la2,ela2⟩:∃la2,la2=(if ba+1+r4<4095 then ba+1+r4 else 4095):=⟨_,rfl⟩
   have la20:1<=la2/\la2<4096/\ba<la2/\la2<=ba+23:=by rw[ela2];split<;>omega
   rw[<- ela2]
   have v0:=Same.upd (o:= .tup [.int ag2,.int la2]) ht0
   have pwd:=(pwc.grc g4').same v0
   have e0:(upd H4' t0 (.tup [.int ag2,.int la2])) t0=some (.tup [.int ag2,.int la2]):=qc
   generalize upd H4' t0 (.tup [.int ag2,.int la2])=H5' at *
   refine⟨_,rfl,b,8,_,rfl,pwd.bx,by omega,by decide,by decide,fun wy H6' wy0 wy1 g6'=>?_⟩
   have pwe:=pwd.grc g6'
   have e0:=g6'.kp _ _ (fun z=>by obtain⟨_,_,_,eb,_⟩:=pwd.bx;rw[z,eb]at e0;cases e0) e0
   refine⟨_,rfl,_,rfl,by show 2<=sizeLine;decide,fun t1 ht1=>?_⟩
   have v1:=Same.upd (o:= .tup [.int ag,.int la]) ht1
   refine⟨_,rfl,_,rfl,t0,_,_,_,rfl,rfl,SqT.of (v1 _ _ e0),rfl,by show 2<=sizeLine;decide,fun t2 ht2=>?_⟩
   have v2:=Same.upd (o:= .tup [.int ag,.int la2]) ht2
   refine⟨_,rfl,t0,_,_,_,rfl,rfl,SqT.of (v2 _ _ (v1 _ _ e0)),rfl,_,rfl,by show 2<=sizeLine;decide,fun t3 ht3=>⟨by show 4<=sizeLine;decide,fun l4 hl4=>?_⟩⟩
   have v3:=Same.upd (o:= .tup [.int ag2,.int la]) ht3
   have v4:=Same.upd (o:= .lst [.ref t1,.ref t2,.ref t3,.non]) hl4
   have d1:=v4 _ _ (v3 _ _ (v2 _ _ (show(upd H6' t1 (.tup [.int ag,.int la])) t1=some (.tup [.int ag,.int la])from qc)))
   have d2:=v4 _ _ (v3 _ _ (show(upd (upd H6' t1 (.tup [.int ag,.int la])) t2 (.tup [.int ag,.int la2])) t2=some (.tup [.int ag,.int la2])from qc))
   have d3:=v4 _ _ (show(upd (upd (upd H6' t1 (.tup [.int ag,.int la])) t2 (.tup [.int ag,.int la2])) t3 (.tup [.int ag2,.int la])) t3=some (.tup [.int ag2,.int la])from qc)
   have d4:(upd (upd (upd (upd H6' t1 (.tup [.int ag,.int la])) t2 (.tup [.int ag,.int la2])) t3 (.tup [.int ag2,.int la])) l4 (.lst [.ref t1,.ref t2,.ref t3,.non])) l4=some (.lst [.ref t1,.ref t2,.ref t3,.non]):=qc
   have S4:=((v1.trans v2).trans v3).trans v4
   have pwf:=pwe.same S4
   have kp4:∀{x:Addr} {xs:List V},Hz x=some (.tup xs)->H6' x=some (.tup xs):=fun{x xs} e=>by
    have nb:x≠b:=fun z=>by obtain⟨_,_,_,eb,_⟩:=pw.bx;rw[z,eb]at e;cases e
    exact g6'.kp _ _ nb (v0 _ _ (g4'.kp _ _ nb (g3'.kp _ _ nb (g2'.kp _ _ nb (g1'.kp _ _ nb e)))))
   have hCf:CdAt _ cd tb kt t kss:=CdAt.same (H:=H6') ⟨kp4 hCz.e,?_,?_⟩ S4
   rotate_left
   ·exact(fun h=>by exact h) (by
     have:Mv [b] Hz H6':=fun x o h e=>by
      have nb:x≠b:=fun z=>h (List.mem_singleton.mpr z)
      exact g6'.kp _ _ nb (v0 _ _ (g4'.kp _ _ nb (g3'.kp _ _ nb (g2'.kp _ _ nb (g1'.kp _ _ nb e)))))
     exact(hCz.mv this (zz pw.bx)).tb)
   ·exact(by
     have:Mv [b] Hz H6':=fun x o h e=>by
      have nb:x≠b:=fun z=>h (List.mem_singleton.mpr z)
      exact g6'.kp _ _ nb (v0 _ _ (g4'.kp _ _ nb (g3'.kp _ _ nb (g2'.kp _ _ nb (g1'.kp _ _ nb e)))))
     exact(hCz.mv this (zz pw.bx)).ks)
   generalize upd (upd (upd (upd H6' t1 (.tup [.int ag,.int la])) t2 (.tup [.int ag,.int la2])) t3 (.tup [.int ag2,.int la])) l4 (.lst [.ref t1,.ref t2,.ref t3,.non])=H7' at *
   have ix0:0<=(if 0<wy-4 then wy-4 else 0):=by split<;>omega
   have ix1:(if 0<wy-4 then wy-4 else 0)<(([V.ref t1,.ref t2,.ref t3,.non]:List V).length:Int):=by show _<(4:Int);split<;>omega
   obtain⟨v,hv,hvm⟩:=QL ix0 ix1
   obtain⟨o,ho,hob⟩:∃o:Option (Int×Int),Olv H7' v o/\∀a l,o=some (a,l)->0<=a/\a<(kss.length:Int)/\1<=l/\l<4096/\ba<l/\l<=ba+23:=by
    simp only[List.mem_cons,List.not_mem_nil,or_false]at hvm
    rcases hvm with rfl|rfl|rfl|rfl
    ·exact⟨some (ag,la),⟨t1,rfl,d1⟩,fun a l e=>by cases e;exact⟨ag0,ag1,la0⟩⟩
    ·exact⟨some (ag,la2),⟨t2,rfl,d2⟩,fun a l e=>by cases e;exact⟨ag0,ag1,la20⟩⟩
    ·exact⟨some (ag2,la),⟨t3,rfl,d3⟩,fun a l e=>by cases e;exact⟨ag20,ag21,la0⟩⟩
    ·exact⟨none,rfl,fun a l e=>by cases e⟩
   refine⟨_,rfl,_,rfl,by show 2<=sizeLine;decide,fun t5 ht5=>?_⟩
   have v5:=Same.upd (o:= .tup [.int ag,.int la]) ht5
   have d5:(upd H7' t5 (.tup [.int ag,.int la])) t5=some (.tup [.int ag,.int la]):=qc
   have ho5:=ho.mv (S:=[]) v5.mv aM
   refine⟨_,rfl,_,rfl,_,_,rfl,rfl,_,_,rfl,l4,_,_,_,rfl,rfl,SqL.of (v5 _ _ d4),hv,by show 2<=sizeLine;decide,fun tl htl=>?_⟩
   have v6:=Same.upd (o:= .lst [.ref t5,v]) htl
   have pwg:=(pwf.same v5).same v6
   have hCg:=(hCf.same v5).same v6
   have etl:(upd (upd H7' t5 (.tup [.int ag,.int la])) tl (.lst [.ref t5,v])) tl=some (.lst [.ref t5,v]):=qc
   have ho6:=ho5.mv (S:=[]) v6.mv aM
   have d6:=v6 _ _ d5
   have ntl:∀(i:Nat) (x:En),xs[i]? =some x->tl∉eS x.1:=fun i x hx z=>((pwf.same v5).en i x hx).some z htl
   have ntb':tl≠b:=zf (pwf.same v5).bx htl
   have ntp:tl≠pl:=(qo (pwf.same v5).pe htl).symm
   generalize upd (upd H7' t5 (.tup [.int ag,.int la])) tl (.lst [.ref t5,v])=H8' at *
   refine iD (fun σ' H'=>∃(os:List (Option (Int×Int))),Pw K C H H' b (c+16+9*kss.length+7+7*j+6) pl xs/\CdAt H' cd tb kt t kss/\OlAt H' tl os/\os.length=2/\(∀a l,some (a,l)∈os->0<=a/\a<(kss.length:Int)/\1<=l/\l<4096/\ba<l/\l<=ba+23)/\∃oa ob oc od oe,σ'=[some (.ref b),some (.ref dr),some (.ref nl),some (.int (kss.length:Int)),some (.int ba),some (.ref cd),some (.ref pl),o7,o8,some (.str nm),oa,ob,oc,od,oe,some (.ref tl),none,none,none,none]) (fun D' hrt hnx=>?_) ?_
   ·refine⟨_,rfl,b,2,_,rfl,pwg.bx,by omega,by decide,by decide,fun r9 H9 r90 r91 g9=>⟨rfl,_,rfl,?_⟩⟩
    have pwh:=(pwg.grc g9).mono (c':=c+16+9*kss.length+7+7*j+6) (by omega)
    have m9:Mv [b] H8' H9:=fun c o h e=>g9.kp c o (fun z=>h (List.mem_singleton.mpr z)) e
    have hCh:=hCg.mv m9 (zz pwg.bx)
    have etl9:=g9.kp _ _ ntb' etl
    have d9:=m9.tup (zz pwg.bx) d6
    have ho9:=ho6.mv m9 (zz pwg.bx)
    have ob':∀a l,some (a,l)∈[some (ag,la),o]->0<=a/\a<(kss.length:Int)/\1<=l/\l<4096/\ba<l/\l<=ba+23:=fun a l h=>by
     simp only[List.mem_cons,List.not_mem_nil,or_false]at h
     rcases h with h|h
     ·injection h with h;injection h with h1 h2;subst h1;subst h2;exact⟨ag0,ag1,la0⟩
     ·exact hob a l h.symm
    refine qX (fun _=>?_) (fun _=>hnx _ _ ⟨[some (ag,la),o],pwh,hCh,OlAt.two etl9 ⟨t5,rfl,d9⟩ ho9,rfl,ob',_,_,_,_,_,rfl⟩)
    refine⟨_,rfl,.inl ⟨rfl,_,SqL.of etl9⟩,tl,_,rfl,rfl,etl9,?_⟩
    have mr:Mv [tl] H9 (upd H9 tl (.lst [v,.ref t5])):=Mv.upd1
    have nr:NT [tl] H9:=NT.one etl9 trivial
    have fl0:H tl=none:=(pwf.same v5).fresh htl
    refine hnx _ _ ⟨[o,some (ag,la)],pwh.out mr nr (qR ntb'.symm) (qR ntp.symm) (fun i x hx z hz w=>ntl i x hx (List.mem_singleton.mp w▸hz)) (fun z hz=>by rw[List.mem_singleton.mp hz];exact fl0),hCh.mv mr nr,OlAt.two qc (ho9.mv mr nr) ⟨t5,rfl,mr.tup nr d9⟩,rfl,fun a l h=>ob' a l (by
     simp only[List.mem_cons,List.not_mem_nil,or_false]at h⊢
     exact h.symm),_,_,_,_,_,rfl⟩
   rintro _ H9 ⟨os,pwh,hCh,hol,los,hos,oa,ob,oc,od,oe,rfl⟩
   have pre:∀(i:Nat) (x:En),xs[i]? =some x->(DpOk t kss ba x.2.1/\x.2.1.least=0/\(∀z∈x.2.1.kn.map (·.1),z∈nms.take j)/\x.2.1.kn.length<=j/\x.2.1.kn.lookup nm=none)/\x.2.2.length<=2*j:=fun i x hx=>by
    obtain⟨⟨h1,h2,h3,h4⟩,h5⟩:=hxs i x hx
    exact⟨⟨h1,h2,h3,h4,ko fun z=>mB ok.nd en (h3 nm z)⟩,h5⟩
   refine⟨_,rfl,_,rfl,_,rfl,_,rfl,cd,tb,kt,pl,tl,b,_,H,t,kss,xs,nm,os,ba,rfl,pwh,lx,hCh,hnm,hol,los,ntl,fun i x hx=>?_,fun a l h=>?_,fun Hn xs' pwn hCn st=>?_⟩
   ·obtain⟨⟨h1,h2,h3,h4,h6⟩,h5⟩:=pre i x hx
    exact⟨h1,h2,h6,by omega,by omega⟩
   ·obtain⟨h1,h2,h3,h4,_⟩:=hos a l h
    exact⟨h1,h2,h3,h4⟩
   ·refine⟨xs',pwn.mono (by omega),st.1.trans lx,?_,hCn,_,_,_,_,_,_,_,rfl⟩
    have:=st.all (p:=fun D=>DpOk t kss ba D/\D.least=0/\(∀z∈D.kn.map (·.1),z∈nms.take j)/\D.kn.length<=j/\D.kn.lookup nm=none) (q:=fun D=>DpOk t kss ba D/\D.least=0/\(∀z∈D.kn.map (·.1),z∈nms.take (j+1))/\D.kn.length<=j+1) pre (fun i D hD=>?_)
    ·intro i x hx
     obtain⟨h1,h2⟩:=this i x hx
     exact⟨h1,by omega⟩
    ·obtain⟨h1,h2,h3,h4,h6⟩:=hD
     have sub:∀z∈nms.take j,z∈nms.take (j+1):=fun z hz=>List.take_subset_take_left nms (Nat.le_succ j) hz
     cases eo:os.getD i none with
     |none=>exact⟨h1,h2,fun z hz=>sub z (h3 z hz),by show D.kn.length<=j+1;omega⟩
     |some al=>
      obtain⟨a,l⟩:=al
      have hm:some (a,l)∈os:=by
       rw[List.getD_eq_getElem?_getD]at eo
       cases q:os[i]? with
       |none=>rw[q]at eo;cases eo
       |some y=>rw[q]at eo;have:y=some (a,l):=eo;rw[this]at q;exact List.mem_of_getElem? q
      obtain⟨q1,q2,q3,q4,q5,q6⟩:=hos a l hm
      refine⟨h1.learn hnm (by omega) q1 q2 q3 q4 q5 q6,h2,fun z hz=>?_,Nat.le_trans (iC _ _ _) (by omega)⟩
      have hz:z∈(za D.kn nm ⟨a,l,none⟩).map (·.1):=hz
      rw[ZO]at hz
      split at hz
      ·exact sub z (h3 z hz)
      ·rcases List.mem_append.mp hz with hz|hz
       ·exact sub z (h3 z hz)
       ·rw[List.mem_singleton.mp hz,List.take_add_one,en];simp
  rintro σ Hz ⟨xs,pw,lx,hxs,hCz,o9,oa,ob,oc,od,oe,og,rfl⟩
  have l9:(nms.map V.str).length<=9:=by rw[List.length_map];exact ok.l9
  have lnm:(nms.map V.str).length=nms.length:=List.length_map _
  have hxs2:∀(i:Nat) (x:En),xs[i]? =some x->DpOk t kss ba x.2.1/\x.2.2.length<=18:=fun i x hx=>by
   obtain⟨⟨h1,_⟩,h2⟩:=hxs i x hx
   exact⟨h1,by omega⟩
  generalize hC0:c+16+9*kss.length+7+7*(nms.map V.str).length=C0 at *
  have C0b:C0<=c+170:=by omega
  refine⟨_,rfl,b,4,_,rfl,pw.bx,by omega,by decide,by decide,fun rn Hh rn0 rn1 gh=>⟨_,rfl,by omega,by omega,?_⟩⟩
  have pwx:=pw.grc gh
  have mh:Mv [b] Hz Hh:=fun c o h e=>gh.kp c o (fun z=>h (List.mem_singleton.mpr z)) e
  have hCx:=hCz.mv mh (zz pw.bx)
  refine QM (n:=rn.toNat) (Pv:=fun j σ Hx=>∃xs,Pw K C H Hx b (C0+1+4*j) pl xs/\xs.length=2/\(∀(i:Nat) (x:En),xs[i]? =some x->DpOk t kss ba x.2.1/\x.2.2.length<=18+2*j)/\CdAt Hx cd tb kt t kss/\∃o9 oa og oh,σ=[some (.ref b),some (.ref dr),some (.ref nl),some (.int (kss.length:Int)),some (.int ba),some (.ref cd),some (.ref pl),o7,o8,o9,oa,ob,oc,od,oe,og,oh,none,none,none]\/∃oi,σ=[some (.ref b),some (.ref dr),some (.ref nl),some (.int (kss.length:Int)),some (.int ba),some (.ref cd),some (.ref pl),o7,o8,o9,oa,ob,oc,od,oe,og,oh,oi,none,none]) ⟨xs,pwx,lx,hxs2,hCx,_,_,_,_,.inl rfl⟩ ?_ ?_
  ·rintro j σ Hx hj ⟨xs,pw,lx,hxs,hCy,p9,pa,pg,ph,hσ⟩
   obtain⟨pi,rfl⟩:∃pi,σ=[some (.ref b),some (.ref dr),some (.ref nl),some (.int (kss.length:Int)),some (.int ba),some (.ref cd),some (.ref pl),o7,o8,p9,pa,ob,oc,od,oe,pg,ph,pi,none,none]:=by
    rcases hσ with rfl|⟨oi,rfl⟩
    ·exact⟨none,rfl⟩
    ·exact⟨oi,rfl⟩
   have j3:j<3:=by omega
   have enl:=pw.s _ _ (qR nlb) hnl
   refine⟨_,rfl,_,rfl,_,rfl,nl,_,rfl,.inl (SqL.of enl),b,_,_,rfl,pw.bx,by omega,by have:=ok.l1;omega,by omega,fun r H2 r0 r1 g2=>?_⟩
   have pw2:=pw.grc g2
   obtain⟨nm,hat,hnm⟩:=sN r0 r1 ok.nm
   refine⟨nl,_,_,_,rfl,rfl,SqL.of (pw2.s _ _ (qR nlb) hnl),hat,?_⟩
   refine⟨_,rfl,_,rfl,b,_,_,rfl,pw2.bx,by omega,by omega,by omega,fun ag H3' ag0 ag1 g3=>?_⟩
   have pw3:=pw2.grc g3
   refine⟨_,rfl,_,rfl,_,rfl,_,rfl,b,24,_,rfl,pw3.bx,by omega,by decide,by decide,fun r4 H4' r40 r41 g4=>⟨_,_,rfl,rfl,_,_,rfl,by show 3<=sizeLine;decide,fun p hp=>?_⟩⟩
   obtain⟨n,en⟩:∃n,n=(if ba+r4<4095 then ba+r4 else 4095):=⟨_,rfl⟩
   have n0:0<=n/\n<4096/\n<=ba+23:=by rw[en];split<;>omega
   rw[<- en]
   have pw4:=pw3.grc g4
   have v0:=Same.upd (o:= .tup [.str nm,.int ag,.int n]) hp
   have M4:Mv [b] Hx H4':=fun c o h e=>by
    have nb:c≠b:=fun z=>h (List.mem_singleton.mpr z)
    exact g4.kp _ _ nb (g3.kp _ _ nb (g2.kp _ _ nb e))
   have hC4:=(hCy.mv M4 (zz pw.bx)).same v0
   have pw5:=pw4.same v0
   have ep:(upd H4' p (.tup [.str nm,.int ag,.int n])) p=some (.tup [.str nm,.int ag,.int n]):=qc
   generalize upd H4' p (.tup [.str nm,.int ag,.int n])=H5' at *
   refine⟨_,rfl,_,rfl,_,rfl,by show 2<=sizeLine;decide,fun q1 hq1=>⟨by show 2<=sizeLine;decide,fun q2 hq2=>⟨by show 1<=sizeLine;decide,fun q3 hq3=>⟨by show 1<=sizeLine;decide,fun q4 hq4=>⟨by show 4<=sizeLine;decide,fun l5 hl5=>?_⟩⟩⟩⟩⟩
   have w1:=Same.upd (o:= .tup [.int 0,.int 1]) hq1
   have w2:=Same.upd (o:= .tup [.int 0,.int 1]) hq2
   have w3:=Same.upd (o:= .tup [.int 0]) hq3
   have w4:=Same.upd (o:= .tup [.int 1]) hq4
   have w5:=Same.upd (o:= .lst [.ref q1,.ref q2,.ref q3,.ref q4]) hl5
   have z1:=w5 _ _ (w4 _ _ (w3 _ _ (w2 _ _ (show(upd H5' q1 (.tup [.int 0,.int 1])) q1=some (.tup [.int 0,.int 1])from qc))))
   have z2:=w5 _ _ (w4 _ _ (w3 _ _ (show(upd (upd H5' q1 (.tup [.int 0,.int 1])) q2 (.tup [.int 0,.int 1])) q2=some (.tup [.int 0,.int 1])from qc)))
   have z3:=w5 _ _ (w4 _ _ (show(upd (upd (upd H5' q1 (.tup [.int 0,.int 1])) q2 (.tup [.int 0,.int 1])) q3 (.tup [.int 0])) q3=some (.tup [.int 0])from qc))
   have z4:=w5 _ _ (show(upd (upd (upd (upd H5' q1 (.tup [.int 0,.int 1])) q2 (.tup [.int 0,.int 1])) q3 (.tup [.int 0])) q4 (.tup [.int 1])) q4=some (.tup [.int 1])from qc)
   have z5:(upd (upd (upd (upd (upd H5' q1 (.tup [.int 0,.int 1])) q2 (.tup [.int 0,.int 1])) q3 (.tup [.int 0])) q4 (.tup [.int 1])) l5 (.lst [.ref q1,.ref q2,.ref q3,.ref q4])) l5=some (.lst [.ref q1,.ref q2,.ref q3,.ref q4]):=qc
   have SW:=(((w1.trans w2).trans w3).trans w4).trans w5
   have pw6:=pw5.same SW
   have hC6:=hC4.same SW
   have ep6:=SW _ _ ep
   have nl5:=zf ((pw5.same (((w1.trans w2).trans w3).trans w4)).bx) hl5
   generalize upd (upd (upd (upd (upd H5' q1 (.tup [.int 0,.int 1])) q2 (.tup [.int 0,.int 1])) q3 (.tup [.int 0])) q4 (.tup [.int 1])) l5 (.lst [.ref q1,.ref q2,.ref q3,.ref q4])=H6' at *
   refine⟨_,rfl,b,4,_,rfl,pw6.bx,by omega,by decide,by decide,fun r7 H7' r70 r71 g7=>?_⟩
   have pw7:=pw6.grc g7
   have M7:Mv [b] H6' H7':=fun c o h e=>g7.kp c o (fun z=>h (List.mem_singleton.mpr z)) e
   have N6:=zz pw6.bx
   obtain⟨v,hv,hvm⟩:=QL (xs:=[V.ref q1,.ref q2,.ref q3,.ref q4]) r70 r71
   obtain⟨ps,is,rfl,eps,ndi,hi2⟩:∃(ps:Addr) (is:List Nat),v= .ref ps/\H6' ps=some (.tup (is.map fun i:Nat=>V.int (i:Int)))/\is.Nodup/\∀i∈is,i<2:=by
    simp only[List.mem_cons,List.not_mem_nil,or_false]at hvm
    rcases hvm with rfl|rfl|rfl|rfl
    ·exact⟨q1,[0,1],rfl,z1,by decide,by decide⟩
    ·exact⟨q2,[0,1],rfl,z2,by decide,by decide⟩
    ·exact⟨q3,[0],rfl,z3,by decide,by decide⟩
    ·exact⟨q4,[1],rfl,z4,by decide,by decide⟩
   refine⟨l5,_,_,_,rfl,rfl,SqL.of (g7.kp _ _ nl5 z5),hv,?_⟩
   refine⟨cd,tb,kt,pl,p,ps,b,_,H,t,kss,xs,nm,ag,n,is,ba,rfl,pw7,lx,hC6.mv M7 N6,hnm,ag0,ag1,n0.1,n0.2.1,M7.tup N6 ep6,.inl (M7.tup N6 eps),ndi,hi2,fun i x hx=>?_,fun Hn xs' pwn hCn st=>?_⟩
   ·obtain⟨h1,h2⟩:=hxs i x hx
    exact⟨h1,by omega⟩
   ·refine⟨xs',pwn.mono (by omega),st.1.trans lx,?_,hCn,_,_,_,_,.inr ⟨_,rfl⟩⟩
    have:=st.all (p:=DpOk t kss ba) (q:=DpOk t kss ba) hxs (fun i D hD=>?_)
    ·intro i x hx
     obtain⟨h1,h2⟩:=this i x hx
     exact⟨h1,by omega⟩
    ·show DpOk t kss ba (if i∈is then _ else _)
     split
     ·exact(hD.hear n0.1 n0.2.1 n0.2.2).1
     ·exact hD
  rintro σ Hx ⟨xs,pw,lx,hxs,hCy,p9,pa,pg,ph,hσ⟩
  obtain⟨pi,rfl⟩:∃pi,σ=[some (.ref b),some (.ref dr),some (.ref nl),some (.int (kss.length:Int)),some (.int ba),some (.ref cd),some (.ref pl),o7,o8,p9,pa,ob,oc,od,oe,pg,ph,pi,none,none]:=by
   rcases hσ with rfl|⟨oi,rfl⟩
   ·exact⟨none,rfl⟩
   ·exact⟨oi,rfl⟩
  have rn3:rn.toNat<=3:=by omega
  obtain⟨es,ees⟩:∃es:List V,es=xs.map fun x=>V.ref x.1.e:=⟨_,rfl⟩
  have les:es.length=2:=by rw[ees,List.length_map];exact lx
  refine⟨_,rfl,pl,rfl,⟨_,SqL.of pw.pe⟩,?_⟩
  refine zY (K:=K) (a:=pl) (xs:=es) (fun j σ Hx=>∃xs,Pw K C H Hx b (C0+1+4*rn.toNat+2*j) pl xs/\(xs.map fun x=>V.ref x.1.e)=es/\xs.length=2/\(∀(i:Nat) (x:En),xs[i]? =some x->DpOk t kss ba x.2.1/\x.2.2.length<=24+j)/\CdAt Hx cd tb kt t kss/\∃oa oj ok',σ=[some (.ref b),some (.ref dr),some (.ref nl),some (.int (kss.length:Int)),some (.int ba),some (.ref cd),some (.ref pl),o7,o8,p9,oa,ob,oc,od,oe,pg,ph,pi,oj,ok']) ⟨xs,pw,ees.symm,lx,fun i x hx=>?_,hCy,_,_,_,rfl⟩ (fun j σ Hx _ h=>let⟨_,p,e,_⟩:=h;SqL.of (by rw[<- e];exact p.pe)) ?_ ?_
  ·obtain⟨h1,h2⟩:=hxs i x hx
   exact⟨h1,by omega⟩
  ·rintro j z σ Hx' hz ⟨xs,pw,exs,lx,hxs,hCy,qa,qj,qk,rfl⟩
   have j2:j<2:=by rw[<- les];exact(List.getElem?_eq_some_iff.mp hz).1
   have ex:=List.getElem?_eq_getElem (show j<xs.length by rw[lx];exact j2)
   obtain⟨x,rx⟩:∃x,x=xs[j]:=⟨_,rfl⟩
   rw[<- rx]at ex
   obtain rfl:z= .ref x.1.e:=by
    rw[<- exs,List.getElem?_map,ex]at hz
    injection hz with hz;exact hz.symm
   have en:=pw.en j x ex
   obtain⟨dp,hl⟩:=hxs j x ex
   refine⟨x.1.e,_,rfl,.tup en.tu,rfl,_,_,rfl,_,_,rfl,rfl,?_⟩
   refine⟨_,rfl,b,5,_,rfl,pw.bx,by omega,by decide,by decide,fun r H2 r0 r1 g2=>⟨rfl,_,rfl,?_⟩⟩
   have pw2:=pw.grc g2
   have M2:Mv [b] Hx' H2:=fun c o h e=>g2.kp c o (fun z=>h (List.mem_singleton.mpr z)) e
   have hC2:=hCy.mv M2 (zz pw.bx)
   refine qX (fun _=>?_) (fun _=>⟨xs,pw2.mono (by omega),exs,lx,fun i y hy=>?_,hC2,_,_,_,rfl⟩)
   case refine_2=>obtain⟨h1,h2⟩:=hxs i y hy;exact⟨h1,by omega⟩
   refine⟨_,rfl,_,rfl,b,_,_,rfl,pw2.bx,by omega,by omega,by omega,fun ag H3' ag0 ag1 g3=>?_⟩
   have pw3:=pw2.grc g3
   have M3:Mv [b] H2 H3':=fun c o h e=>g3.kp c o (fun z=>h (List.mem_singleton.mpr z)) e
   have hC3:=hC2.mv M3 (zz pw2.bx)
   have en3:=pw3.en j x ex
   refine⟨_,rfl,x.1.a.p,rfl,en3.dl.dr.no,_,rfl,x.1.a,x.2.1,x.2.2,ag,rfl,en3.dl,by omega,fun D' rw' hd Hs ms ds=>?_⟩
   cases hd
   have ms':=wN ms
   have es':=en3.door ms' ds
   have pes:Mv (eS x.1) H3' Hs:=eV ms'
   have md3:=es'.md
   obtain⟨H4',dp4,m4,md4⟩:=md3.close (if ag>x.2.1.least then ag else x.2.1.least)
   refine⟨_,rfl,x.1.m,_,rfl,md3.g_closed,_,rfl,_,_,rfl,_,rfl,x.1.m,H4',rfl,dp4,?_⟩
   have m4':Mv [x.1.m,x.1.kd] Hs H4':=m4.mono (fun c h z=>h (by rw[List.mem_singleton.mp z];simp))
   have en4:=es'.model m4' md4
   have Mall:Mv (eS x.1) H3' H4':=pes.trans (ef m4')
   have N3:=en3.nt
   refine⟨_,(pw3.step ex Mall en4).mono (by omega),?_,by rw[List.length_set];exact lx,fun i y hy=>?_,hC3.mv Mall N3,_,_,_,rfl⟩
   ·rw[<- exs]
    refine List.ext_getElem? fun k=>?_
    rw[List.getElem?_map,List.getElem?_map,List.getElem?_set]
    split
    ·rename_i z
     subst z
     rw[if_pos (by rw[lx];exact j2),ex];rfl
    ·rfl
   ·rw[List.getElem?_set]at hy
    split at hy
    ·rename_i z
     subst z
     rw[if_pos (by rw[lx];exact j2)]at hy
     cases hy
     refine⟨dp.close ag1,?_⟩
     show(x.2.2++[_]).length<=24+(j+1)
     rw[List.length_append];simp;omega
    ·obtain⟨h1,h2⟩:=hxs i y hy
     exact⟨h1,by omega⟩
  rintro σ Hx' ⟨xs,pw,exs,lx,hxs,hCy,qa,qj,qk,rfl⟩
  refine⟨_,rfl,_,rfl,by show 2<=sizeLine;decide,fun t1 ht1=>?_⟩
  have u:=Same.upd (o:= .tup [.ref cd,.ref pl]) ht1
  refine q t1 cd tb kt pl t kss xs _ ((pw.same u).mono (by rw[les];omega)) lx qc (hCy.same u) rfl fun i x hx=>?_
  obtain⟨h1,h2⟩:=hxs i x hx
  exact⟨h1,by rw[les]at h2;omega⟩
end
section
variable{P:Program}{w:World}{K:Frag}{mg:Str->Option Value}{base:Heap}{tk:Nat->Tok}
theorem aX(a:At K mg "_law_alike" Z1 ["_law_found","_law_due_here"])(T:Txt K mg tk):∀n:Nat,n<=8->Df P w K mg base "_law_alike" ["_law_found","_law_due_here"] (n+1) (vm n)
 |0,_=>by
  refine a.dq bw (fun vs H Q E h=>?_) (fun f cdv A outer s H vs Q E hr h=>?_)
  ·obtain⟨x,y,rfl,_⟩:=h
   rfl
  ·obtain⟨x,y,rfl,e,q⟩:=h
   refine⟨_,(qe (qF (q9 (qm QK (by rfl) T.b_isinstance PyProof.Rows.boot_isinstance (qd (qv 1) (qd (qx (qd (qE (v:= .ty "list") rfl T.b_list PyProof.Rows.boot_list rfl) (qd (qE (v:= .ty "tuple") rfl T.b_tuple PyProof.Rows.boot_tuple rfl) qb))) qb)))) zW qy)
   (qe (qF (QW.pt (zP (q9 (qm qG (by rfl) T.b_isinstance PyProof.Rows.boot_isinstance (qd (qv 1) (qd (qE (v:= .ty "str") rfl T.b_str PyProof.Rows.boot_str rfl) qb)))) (zD (qB zZ (qv 1) zm (qw _))))) (qg (qq (zb zd (qv 0) (qv 1) (qw _)))) qy)
   (qg (qq (zx (qm qG (by rfl) T.b_isinstance PyProof.Rows.boot_isinstance (qd (qv 0) (qd (qE (v:= .ty "int") rfl T.b_int PyProof.Rows.boot_int rfl) qb))) (zx (Zx (qm qG (by rfl) T.b_isinstance PyProof.Rows.boot_isinstance (qd (qv 0) (qd (qE (v:= .ty "bool") rfl T.b_bool PyProof.Rows.boot_bool rfl) qb)))) (Qk (zb zd (qv 0) (qv 1) (qw _))))))))),?_⟩
   cases e with
   |int _ i=>
    refine⟨_,rfl,by show 2<=sizeLine;decide,fun p hp=>⟨_,p,["list","tuple"],"int",rfl,qc,.int i,by simp,_,rfl,?_⟩⟩
    rw[show(["list","tuple"].any (zk "int"))=false from by decide]
    refine zi ⟨_,rfl,_,"str","int",rfl,.int i,by simp,_,rfl,?_⟩
    rw[show zk "int" "str"=false from by decide]
    refine zi ⟨_,rfl,rfl,_,rfl,?_⟩
    refine qX (fun z=>nomatch (of_decide_eq_true z)) (fun _=>⟨_,rfl,_,"int","int",rfl,.int i,by simp,_,rfl,?_⟩)
    rw[show zk "int" "int"=true from by decide]
    refine zq ⟨_,rfl,_,"bool","int",rfl,.int i,by simp,_,rfl,?_⟩
    rw[show zk "int" "bool"=false from by decide]
    refine⟨_,rfl,zq ⟨_,rfl,_,rfl,rfl,?_⟩⟩
    rw[decide_eq_true rfl]
    exact q _ (Same.upd hp)
   |str _ z=>
    refine⟨_,rfl,by show 2<=sizeLine;decide,fun p hp=>⟨_,p,["list","tuple"],"str",rfl,qc,.str z,by simp,_,rfl,?_⟩⟩
    rw[show(["list","tuple"].any (zk "str"))=false from by decide]
    refine zi ⟨_,rfl,_,"str","str",rfl,.str z,by simp,_,rfl,?_⟩
    rw[show zk "str" "str"=true from by decide]
    refine zq (zq ⟨_,rfl,_,rfl,rfl,?_⟩)
    rw[decide_eq_true rfl]
    exact q _ (Same.upd hp)
   |non _=>
    refine⟨_,rfl,by show 2<=sizeLine;decide,fun p hp=>⟨_,p,["list","tuple"],"NoneType",rfl,qc,.non,by simp,_,rfl,?_⟩⟩
    rw[show(["list","tuple"].any (zk "NoneType"))=false from by decide]
    refine zi ⟨_,rfl,_,"str","NoneType",rfl,.non,by simp,_,rfl,?_⟩
    rw[show zk "NoneType" "str"=false from by decide]
    refine zi ⟨_,rfl,rfl,_,rfl,?_⟩
    refine qX (fun _=>⟨_,rfl,_,rfl,rfl,?_⟩) (fun z=>absurd (decide_eq_true rfl) z)
    rw[decide_eq_true rfl]
    exact q _ (Same.upd hp)
 |n+1,hn=>by
  have dO:=aX a T n (by omega)
  refine a.dq bw (fun vs H Q E h=>?_) (fun f cdv A outer s H vs Q E hr h=>?_)
  ·obtain⟨x,y,rfl,_⟩:=h
   rfl
  ·obtain⟨x,y,rfl,e,q⟩:=h
   cases e with
   |int _ i=>
    refine⟨_,(qe (qF (q9 (qm QK (by rfl) T.b_isinstance PyProof.Rows.boot_isinstance (qd (qv 1) (qd (qx (qd (qE (v:= .ty "list") rfl T.b_list PyProof.Rows.boot_list rfl) (qd (qE (v:= .ty "tuple") rfl T.b_tuple PyProof.Rows.boot_tuple rfl) qb))) qb)))) zW qy)
   (qe (qF (QW.pt (zP (q9 (qm qG (by rfl) T.b_isinstance PyProof.Rows.boot_isinstance (qd (qv 1) (qd (qE (v:= .ty "str") rfl T.b_str PyProof.Rows.boot_str rfl) qb)))) (zD (qB zZ (qv 1) zm (qw _))))) (qg (qq (zb zd (qv 0) (qv 1) (qw _)))) qy)
   (qg (qq (zx (qm qG (by rfl) T.b_isinstance PyProof.Rows.boot_isinstance (qd (qv 0) (qd (qE (v:= .ty "int") rfl T.b_int PyProof.Rows.boot_int rfl) qb))) (zx (Zx (qm qG (by rfl) T.b_isinstance PyProof.Rows.boot_isinstance (qd (qv 0) (qd (qE (v:= .ty "bool") rfl T.b_bool PyProof.Rows.boot_bool rfl) qb)))) (Qk (zb zd (qv 0) (qv 1) (qw _))))))))),?_⟩
    refine⟨_,rfl,by show 2<=sizeLine;decide,fun p hp=>⟨_,p,["list","tuple"],"int",rfl,qc,.int i,by simp,_,rfl,?_⟩⟩
    rw[show(["list","tuple"].any (zk "int"))=false from by decide]
    refine zi ⟨_,rfl,_,"str","int",rfl,.int i,by simp,_,rfl,?_⟩
    rw[show zk "int" "str"=false from by decide]
    refine zi ⟨_,rfl,rfl,_,rfl,?_⟩
    refine qX (fun z=>nomatch (of_decide_eq_true z)) (fun _=>⟨_,rfl,_,"int","int",rfl,.int i,by simp,_,rfl,?_⟩)
    rw[show zk "int" "int"=true from by decide]
    refine zq ⟨_,rfl,_,"bool","int",rfl,.int i,by simp,_,rfl,?_⟩
    rw[show zk "int" "bool"=false from by decide]
    refine⟨_,rfl,zq ⟨_,rfl,_,rfl,rfl,?_⟩⟩
    rw[decide_eq_true rfl]
    exact q _ (Same.upd hp)
   |str _ z=>
    refine⟨_,(qe (qF (q9 (qm QK (by rfl) T.b_isinstance PyProof.Rows.boot_isinstance (qd (qv 1) (qd (qx (qd (qE (v:= .ty "list") rfl T.b_list PyProof.Rows.boot_list rfl) (qd (qE (v:= .ty "tuple") rfl T.b_tuple PyProof.Rows.boot_tuple rfl) qb))) qb)))) zW qy)
   (qe (qF (QW.pt (zP (q9 (qm qG (by rfl) T.b_isinstance PyProof.Rows.boot_isinstance (qd (qv 1) (qd (qE (v:= .ty "str") rfl T.b_str PyProof.Rows.boot_str rfl) qb)))) (zD (qB zZ (qv 1) zm (qw _))))) (qg (qq (zb zd (qv 0) (qv 1) (qw _)))) qy)
   (qg (qq (zx (qm qG (by rfl) T.b_isinstance PyProof.Rows.boot_isinstance (qd (qv 0) (qd (qE (v:= .ty "int") rfl T.b_int PyProof.Rows.boot_int rfl) qb))) (zx (Zx (qm qG (by rfl) T.b_isinstance PyProof.Rows.boot_isinstance (qd (qv 0) (qd (qE (v:= .ty "bool") rfl T.b_bool PyProof.Rows.boot_bool rfl) qb)))) (Qk (zb zd (qv 0) (qv 1) (qw _))))))))),?_⟩
    refine⟨_,rfl,by show 2<=sizeLine;decide,fun p hp=>⟨_,p,["list","tuple"],"str",rfl,qc,.str z,by simp,_,rfl,?_⟩⟩
    rw[show(["list","tuple"].any (zk "str"))=false from by decide]
    refine zi ⟨_,rfl,_,"str","str",rfl,.str z,by simp,_,rfl,?_⟩
    rw[show zk "str" "str"=true from by decide]
    refine zq (zq ⟨_,rfl,_,rfl,rfl,?_⟩)
    rw[decide_eq_true rfl]
    exact q _ (Same.upd hp)
   |non _=>
    refine⟨_,(qe (qF (q9 (qm QK (by rfl) T.b_isinstance PyProof.Rows.boot_isinstance (qd (qv 1) (qd (qx (qd (qE (v:= .ty "list") rfl T.b_list PyProof.Rows.boot_list rfl) (qd (qE (v:= .ty "tuple") rfl T.b_tuple PyProof.Rows.boot_tuple rfl) qb))) qb)))) zW qy)
   (qe (qF (QW.pt (zP (q9 (qm qG (by rfl) T.b_isinstance PyProof.Rows.boot_isinstance (qd (qv 1) (qd (qE (v:= .ty "str") rfl T.b_str PyProof.Rows.boot_str rfl) qb)))) (zD (qB zZ (qv 1) zm (qw _))))) (qg (qq (zb zd (qv 0) (qv 1) (qw _)))) qy)
   (qg (qq (zx (qm qG (by rfl) T.b_isinstance PyProof.Rows.boot_isinstance (qd (qv 0) (qd (qE (v:= .ty "int") rfl T.b_int PyProof.Rows.boot_int rfl) qb))) (zx (Zx (qm qG (by rfl) T.b_isinstance PyProof.Rows.boot_isinstance (qd (qv 0) (qd (qE (v:= .ty "bool") rfl T.b_bool PyProof.Rows.boot_bool rfl) qb)))) (Qk (zb zd (qv 0) (qv 1) (qw _))))))))),?_⟩
    refine⟨_,rfl,by show 2<=sizeLine;decide,fun p hp=>⟨_,p,["list","tuple"],"NoneType",rfl,qc,.non,by simp,_,rfl,?_⟩⟩
    rw[show(["list","tuple"].any (zk "NoneType"))=false from by decide]
    refine zi ⟨_,rfl,_,"str","NoneType",rfl,.non,by simp,_,rfl,?_⟩
    rw[show zk "NoneType" "str"=false from by decide]
    refine zi ⟨_,rfl,rfl,_,rfl,?_⟩
    refine qX (fun _=>⟨_,rfl,_,rfl,rfl,?_⟩) (fun z=>absurd (decide_eq_true rfl) z)
    rw[decide_eq_true rfl]
    exact q _ (Same.upd hp)
   | @tup _ c d xs ys h1 h2 hl hz hi=>
    refine⟨_,(qe (qF (q9 (qm QK (by rfl) T.b_isinstance PyProof.Rows.boot_isinstance (qd (qv 1) (qd (qx (qd (qE (v:= .ty "list") rfl T.b_list PyProof.Rows.boot_list rfl) (qd (qE (v:= .ty "tuple") rfl T.b_tuple PyProof.Rows.boot_tuple rfl) qb))) qb)))) (qe (qF (QW.pt (zP (qB Zj (qm qG (by rfl) T.b_isinstance PyProof.Rows.boot_isinstance (qd (qv 0) (qd (qE (v:= .ty "list") rfl T.b_list PyProof.Rows.boot_list rfl) qb))) (qm qG (by rfl) T.b_isinstance PyProof.Rows.boot_isinstance (qd (qv 1) (qd (qE (v:= .ty "list") rfl T.b_list PyProof.Rows.boot_list rfl) qb))) (qw _)) (zD (qB Zj (qm qG (by rfl) T.b_isinstance PyProof.Rows.boot_isinstance (qd (qv 0) (qd (qE (v:= .ty "tuple") rfl T.b_tuple PyProof.Rows.boot_tuple rfl) qb))) (qm qG (by rfl) T.b_isinstance PyProof.Rows.boot_isinstance (qd (qv 1) (qd (qE (v:= .ty "tuple") rfl T.b_tuple PyProof.Rows.boot_tuple rfl) qb))) (qw _))))) (qg (qq QR)) qy)
   (qe (qF (qB Zj (qm qT (by rfl) T.b_len PySem.boot_len (qd (qv 0) qb)) (qm qT (by rfl) T.b_len PySem.boot_len (qd (qv 1) qb)) (qw _)) (qg (qq QR)) qy)
   (qg (qq (qm (ZJ rfl) (by rfl) T.b_all PyProof.Rows.boot_all (qd (zK (own:=["_law_part","_law_more"]) (fr:=[]) (js:=[]) rfl (vw rfl T.b_zip (qd (qv 0) (qd (qv 1) qb))) rfl (fun _ _ h=>nomatch h) rfl (cp rfl (by decide +kernel) (by decide +kernel) (by decide +kernel)) (fun _ _ _ _=>eT (K:=K) rfl 2 rfl (qp (qi (i:=0) (show List.Nodup (["_law_part","_law_more"]:List Str)from by decide +kernel) rfl (Or.inl rfl) (.inr rfl)) (qp (qi (i:=1) (show List.Nodup (["_law_part","_law_more"]:List Str)from by decide +kernel) rfl (Or.inl rfl) (.inr rfl)) qP))) (fun _ _ _ _=>(qr dO hr.mo (qd (qv 0) (qd (qv 1) qb))))) qb)))))) qy)
   (qe (qF (QW.pt (zP (q9 (qm qG (by rfl) T.b_isinstance PyProof.Rows.boot_isinstance (qd (qv 1) (qd (qE (v:= .ty "str") rfl T.b_str PyProof.Rows.boot_str rfl) qb)))) (zD (qB zZ (qv 1) zm (qw _))))) (qg (qq (zb zd (qv 0) (qv 1) (qw _)))) qy)
   (qg (qq (zx (qm qG (by rfl) T.b_isinstance PyProof.Rows.boot_isinstance (qd (qv 0) (qd (qE (v:= .ty "int") rfl T.b_int PyProof.Rows.boot_int rfl) qb))) (zx (Zx (qm qG (by rfl) T.b_isinstance PyProof.Rows.boot_isinstance (qd (qv 0) (qd (qE (v:= .ty "bool") rfl T.b_bool PyProof.Rows.boot_bool rfl) qb)))) (Qk (zb zd (qv 0) (qv 1) (qw _))))))))),?_⟩
    refine⟨_,rfl,by show 2<=sizeLine;decide,fun p hp=>⟨_,p,["list","tuple"],"tuple",rfl,qc,.tup (Rd.same (Same.upd hp) h2),by simp,_,rfl,?_⟩⟩
    rw[show(["list","tuple"].any (zk "tuple"))=true from by decide]
    have s1:Same H _:=Same.upd (o:= .tup (["list","tuple"].map V.ty)) hp
    have k1:=Rd.same s1 h1
    have k2:=Rd.same s1 h2
    refine zq ⟨_,rfl,_,"list","tuple",rfl,.tup k1,by simp,_,rfl,_,"list","tuple",rfl,.tup k2,by simp,rfl,_,rfl,?_⟩
    refine Zl rfl ⟨_,rfl,_,"tuple","tuple",rfl,.tup k1,by simp,_,rfl,_,"tuple","tuple",rfl,.tup k2,by simp,rfl,_,rfl,?_⟩
    refine Zl rfl ?_
    refine⟨_,rfl,c,_,rfl,.inr (.inl k1),_,rfl,d,_,rfl,.inr (.inl k2),rfl,_,rfl,?_⟩
    refine Zl (by rw[hl]) ?_
    refine⟨_,rfl,_,rfl,c,d,xs,ys,rfl,k1,k2,oq hl hz (fun i zs H2=>zs=(List.replicate i true).map V.bl/\Same H H2) ⟨rfl,s1⟩ (fun i zs H2 ⟨_,s2⟩=>⟨Rd.same s2 h1,Rd.same s2 h2⟩) ?_ ?_⟩
    ·rintro i zs H2 pp x y hx hy hzl ⟨rfl,s2⟩ hpp
     have s3:=s2.trans (Same.upd (o:= .tup [x,y]) hpp)
     refine⟨_,rfl,_,rfl,x,y,rfl,(hi i x y hx hy).same s3,fun H4 s4=>⟨?_,s3.trans s4⟩⟩
     rw[List.replicate_succ',List.map_append];rfl
    ·rintro zs H2 hzl ⟨rfl,s2⟩ p2 hp2
     refine⟨p2,_,rfl,SqL.of qc,?_⟩
     rw[show(List.replicate xs.length true).all id=true from by simp]
     exact q _ (s2.trans (Same.upd hp2))
   | @lst _ c d xs ys h1 h2 hl hz hi=>
    refine⟨_,(qe (qF (q9 (qm QK (by rfl) T.b_isinstance PyProof.Rows.boot_isinstance (qd (qv 1) (qd (qx (qd (qE (v:= .ty "list") rfl T.b_list PyProof.Rows.boot_list rfl) (qd (qE (v:= .ty "tuple") rfl T.b_tuple PyProof.Rows.boot_tuple rfl) qb))) qb)))) (qe (qF (QW.pt (zP (qB Zj (qm qG (by rfl) T.b_isinstance PyProof.Rows.boot_isinstance (qd (qv 0) (qd (qE (v:= .ty "list") rfl T.b_list PyProof.Rows.boot_list rfl) qb))) (qm qG (by rfl) T.b_isinstance PyProof.Rows.boot_isinstance (qd (qv 1) (qd (qE (v:= .ty "list") rfl T.b_list PyProof.Rows.boot_list rfl) qb))) (qw _)) (zD (qB Zj (qm qG (by rfl) T.b_isinstance PyProof.Rows.boot_isinstance (qd (qv 0) (qd (qE (v:= .ty "tuple") rfl T.b_tuple PyProof.Rows.boot_tuple rfl) qb))) (qm qG (by rfl) T.b_isinstance PyProof.Rows.boot_isinstance (qd (qv 1) (qd (qE (v:= .ty "tuple") rfl T.b_tuple PyProof.Rows.boot_tuple rfl) qb))) (qw _))))) (qg (qq QR)) qy)
   (qe (qF (qB Zj (qm qT (by rfl) T.b_len PySem.boot_len (qd (qv 0) qb)) (qm qT (by rfl) T.b_len PySem.boot_len (qd (qv 1) qb)) (qw _)) (qg (qq QR)) qy)
   (qg (qq (qm (ZJ rfl) (by rfl) T.b_all PyProof.Rows.boot_all (qd (zK (own:=["_law_part","_law_more"]) (fr:=[]) (js:=[]) rfl (rQ rfl T.b_zip (qd (qv 0) (qd (qv 1) qb))) rfl (fun _ _ h=>nomatch h) rfl (cp rfl (by decide +kernel) (by decide +kernel) (by decide +kernel)) (fun _ _ _ _=>eT (K:=K) rfl 2 rfl (qp (qi (i:=0) (show List.Nodup (["_law_part","_law_more"]:List Str)from by decide +kernel) rfl (Or.inl rfl) (.inr rfl)) (qp (qi (i:=1) (show List.Nodup (["_law_part","_law_more"]:List Str)from by decide +kernel) rfl (Or.inl rfl) (.inr rfl)) qP))) (fun _ _ _ _=>(qr dO hr.mo (qd (qv 0) (qd (qv 1) qb))))) qb)))))) qy)
   (qe (qF (QW.pt (zP (q9 (qm qG (by rfl) T.b_isinstance PyProof.Rows.boot_isinstance (qd (qv 1) (qd (qE (v:= .ty "str") rfl T.b_str PyProof.Rows.boot_str rfl) qb)))) (zD (qB zZ (qv 1) zm (qw _))))) (qg (qq (zb zd (qv 0) (qv 1) (qw _)))) qy)
   (qg (qq (zx (qm qG (by rfl) T.b_isinstance PyProof.Rows.boot_isinstance (qd (qv 0) (qd (qE (v:= .ty "int") rfl T.b_int PyProof.Rows.boot_int rfl) qb))) (zx (Zx (qm qG (by rfl) T.b_isinstance PyProof.Rows.boot_isinstance (qd (qv 0) (qd (qE (v:= .ty "bool") rfl T.b_bool PyProof.Rows.boot_bool rfl) qb)))) (Qk (zb zd (qv 0) (qv 1) (qw _))))))))),?_⟩
    refine⟨_,rfl,by show 2<=sizeLine;decide,fun p hp=>⟨_,p,["list","tuple"],"list",rfl,qc,.lst (Same.upd hp _ _ h2),by simp,_,rfl,?_⟩⟩
    rw[show(["list","tuple"].any (zk "list"))=true from by decide]
    have s1:Same H _:=Same.upd (o:= .tup (["list","tuple"].map V.ty)) hp
    have k1:=s1 _ _ h1
    have k2:=s1 _ _ h2
    refine zq ⟨_,rfl,_,"list","list",rfl,.lst k1,by simp,_,rfl,_,"list","list",rfl,.lst k2,by simp,rfl,_,rfl,?_⟩
    refine Zl rfl ⟨_,rfl,_,"tuple","list",rfl,.lst k1,by simp,_,rfl,_,"tuple","list",rfl,.lst k2,by simp,rfl,_,rfl,?_⟩
    refine Zl rfl ?_
    refine⟨_,rfl,c,_,rfl,.inl (SqL.of k1),_,rfl,d,_,rfl,.inl (SqL.of k2),rfl,_,rfl,?_⟩
    refine Zl (by rw[hl]) ?_
    refine⟨_,rfl,_,rfl,c,d,xs,ys,rfl,.inl k1,.inl k2,mL hl hz (fun i zs H2=>zs=(List.replicate i true).map V.bl/\Same H H2) ⟨rfl,s1⟩ (fun i zs H2 ⟨_,s2⟩=>⟨.inl (s2 _ _ h1),.inl (s2 _ _ h2)⟩) ?_ ?_⟩
    ·rintro i zs H2 pp x y hx hy hzl ⟨rfl,s2⟩ hpp
     have s3:=s2.trans (Same.upd (o:= .tup [x,y]) hpp)
     refine⟨_,rfl,_,rfl,x,y,rfl,(hi i x y hx hy).same s3,fun H4 s4=>⟨?_,s3.trans s4⟩⟩
     rw[List.replicate_succ',List.map_append];rfl
    ·rintro zs H2 hzl ⟨rfl,s2⟩ p2 hp2
     refine⟨p2,_,rfl,SqL.of qc,?_⟩
     rw[show(List.replicate xs.length true).all id=true from by simp]
     exact q _ (s2.trans (Same.upd hp2))
end
section
variable{P:Program}{w:World}{K:Frag}{mg:Str->Option Value}{base:Heap}{tk:Nat->Tok}{C:Addr}
theorem kW(a:At K mg "_law_due" br ["_law_own","_law_name","_law_age","_law_base"])(T:Txt K mg tk)(dU:Df P w K mg base "_law_word" ["_law_own","_law_plain"] 1 eY)(xM:Df P w K mg base "_law_window" ["_law_base"] 1 fJ):Df P w K mg base "_law_due" ["_law_own","_law_name","_law_age","_law_base"] 2 mQ:=by
 refine a.dq sc_law_due (fun vs H Q E h=>?_) (fun f cdv A outer s H vs Q E hr h=>?_)
 ·obtain⟨_,_,_,_,_,_,_,_,rfl,_⟩:=h
  rfl
 ·obtain⟨m,kd,D,t,kss,nm,age,ba,rfl,md,dp,b0,b1,q⟩:=h
  refine⟨_,(qe (qC (i:=4) sc_law_due.nd rfl (Or.inl rfl) (q8 qb))
   (qe (zn PassesOwn.never rfl (Qb (qr xM hr.mo (qd (qv 3) qb))) (qi (i:=5) sc_law_due.nd rfl (Or.inl rfl))
   (qg (qF (qB zd (qr dU hr.mo (qd (qv 0) (qd (qx (qd (qv 1) (qd (qv 2) (qd (qv 5) qb)))) qb))) qz (qw _)) (qg (qF (QW.pt (gR (qB (tV hr) (qv 4) (q8 qb) (qw _)) (eB (qB zd (qA qK (qA qI (qv 4) (gm cO qf) (fun _ _=>rfl)) qf (fun _ _=>rfl)) (qu zH (qv 5) qf) (qw _))))) (qg (qZ (qx (qd (qA qK (qA qI (qv 4) (gm cO qf) (fun _ _=>rfl)) qf (fun _ _=>rfl)) (qd (qv 5) qb))) (ac (qv 4) (gm cO qf) QD))) (qg (zw (Za PySem.F.plainAttrs_list PySem.F.slot_list_append PySem.F.type_list_append zQ (qv 4) (qd (qx (qd (qv 5) (qd (qv 5) qb))) qb)))))) qy)))
   (qg (qq (qL qS (by rfl) T.b_tuple PyProof.Rows.boot_tuple (qd (qv 4) qb)))))),?_⟩
  refine⟨by show 0<=sizeLine;decide,fun fl hfl=>?_⟩
  have u0:=Same.upd (o:= .lst []) hfl
  obtain⟨S,eS'⟩:∃S,S=zj D nm age:=⟨_,rfl⟩
  have two:=eW dp nm age
  have bd:=t9 dp nm age
  rw[<- eS']at two bd q
  refine⟨_,rfl,ba,rfl,b0,b1,fun wl H1 s1 ewl=>⟨wl,rfl,⟨_,SqL.of ewl⟩,?_⟩⟩
  have N40:((if ba+40<4095 then ba+40 else 4095)-ba+1).toNat<=41:=by split<;>omega
  have S1:=u0.trans s1
  refine zY (K:=K) (a:=wl) (xs:=Ze ba ((if ba+40<4095 then ba+40 else 4095)-ba+1).toNat) (fun j σ Hx=>Same H Hx/\Hx wl=some (.lst (Ze ba ((if ba+40<4095 then ba+40 else 4095)-ba+1).toNat))/\PrL Hx fl (Qd (ba+(j:Int)) S)/\fl≠wl/\∃o5,σ=[some (.ref m),some (.str nm),some (.int age),some (.int ba),some (.ref fl),o5]) ⟨S1,ewl,?_,?_,_,rfl⟩ (fun j σ Hx _ h=>SqL.of h.2.1) ?_ ?_
  ·rw[show ba+((0:Nat):Int)=ba from Int.add_zero _,mH (fun p hp=>by have:=(bd p hp).1;omega)]
   exact⟨[],s1 _ _ qc,rfl,fun i a z h=>by cases h⟩
  ·intro z
   rw[<- z,s1 _ _ qc]at ewl
   injection ewl with ewl;injection ewl with ewl
   have:=congrArg List.length ewl
   rw[hW]at this
   have:1<=((if ba+40<4095 then ba+40 else 4095)-ba+1).toNat:=by split<;>omega
   simp at *
   omega
  ·rintro j x σ Hx hx ⟨sx,ew,pr,nfw,o5,rfl⟩
   obtain⟨rfl,hj⟩:=rP hx
   have hn:ba+(j:Int)<=4095:=by split at hj<;>omega
   have mdx:=md.same sx
   refine⟨_,rfl,_,rfl,_,rfl,_,rfl,by show 3<=sizeLine;decide,fun p hp=>?_⟩
   have up:=Same.upd (o:= .tup [.str nm,.int age,.int (ba+(j:Int))]) hp
   refine⟨m,kd,p,D,nm,age,ba+(j:Int),rfl,mdx.same up,qc,fun H2 s2=>⟨rfl,_,rfl,?_⟩⟩
   have S2:=up.trans s2
   have SX:=sx.trans S2
   have ew2:=S2 _ _ ew
   have pr2:=pr.same S2
   have step:=mT two (ba+(j:Int))
   rw[show ba+(j:Int)+1=ba+((j+1:Nat):Int) by omega]at step
   have wi:=jI dp nm age hn
   rw[<- eS']at wi
   have lS:=two.len
   have lc:=nL (ba+(j:Int)) S
   by_cases ho:qN D nm age (ba+(j:Int))="open"
   case neg=>
    refine zJ (decide_eq_false (by intro z;injection z with z;exact ho z)) ⟨SX,ew2,?_,nfw,_,rfl⟩
    rw[step,if_neg (fun z=>ho (wi.mpr z))];exact pr2
   rw[if_pos (wi.mp ho)]at step
   refine zE (decide_eq_true (by rw[ho])) ?_
   obtain⟨as,eas,las,has⟩:=pr2
   refine⟨_,rfl,by show 0<=sizeLine;decide,fun el hel=>⟨fl,el,_,rfl,rfl,SqL.of (Same.upd hel _ _ eas),SqL.of qc,_,rfl,?_⟩⟩
   have ue:=Same.upd (o:= .lst []) hel
   have SE:=SX.trans ue
   have ewe:=ue _ _ ew2
   have easE:=ue _ _ eas
   have hasE:∀(i:Nat) (a:Addr) (z:Int×Int),as[i]? =some a->(Qd (ba+(j:Int)) S)[i]? =some z->(upd H2 el (.lst [])) a=some (.tup [.int z.1,.int z.2]):=fun i a z e1 e2=>ue _ _ (has i a z e1 e2)
   have fl0:∀{c:Addr} {o:HO},H c=some o->c≠fl:=fun e=>qo e hfl
   generalize upd H2 el (.lst [])=H3 at *
   have more:bj (Qd (ba+(j:Int)) S) (ba+(j:Int))=Qd (ba+(j:Int)) S++[(ba+(j:Int),ba+(j:Int))]->∀y,H3 y=none->Same H (upd (upd H3 y (.tup [.int (ba+(j:Int)),.int (ba+(j:Int))])) fl (.lst (as.map V.ref++[.ref y])))/\(upd (upd H3 y (.tup [.int (ba+(j:Int)),.int (ba+(j:Int))])) fl (.lst (as.map V.ref++[.ref y]))) wl=some (.lst (Ze ba ((if ba+40<4095 then ba+40 else 4095)-ba+1).toNat))/\PrL (upd (upd H3 y (.tup [.int (ba+(j:Int)),.int (ba+(j:Int))])) fl (.lst (as.map V.ref++[.ref y]))) fl (Qd (ba+((j+1:Nat):Int)) S):=fun e y hy=>by
    have uy:=Same.upd (o:= .tup [.int (ba+(j:Int)),.int (ba+(j:Int))]) hy
    refine⟨fun c o ec=>by rw[qh (fl0 ec)];exact uy _ _ (SE _ _ ec),by rw[qh nfw.symm];exact uy _ _ ewe,?_⟩
    rw[step,e]
    exact PrL.add (uy _ _ easE) las (fun i a z e1 e2=>uy _ _ (hasE i a z e1 e2)) qc
   rcases List.eq_nil_or_concat as with rfl|⟨as',a',rfl⟩
   ·have e0:Qd (ba+(j:Int)) S=[]:=List.length_eq_zero_iff.mp las.symm
    refine zJ rfl ?_
    refine⟨_,rfl,.inl ⟨rfl,_,SqL.of easE⟩,_,rfl,_,rfl,by show 2<=sizeLine;decide,fun y hy=>⟨fl,_,_,rfl,rfl,(Same.upd hy) _ _ easE,by show 0<sizeLine;decide,?_⟩⟩
    obtain⟨q1,q2,q3⟩:=more (by rw[e0];rfl) y hy
    exact⟨q1,q2,q3,nfw,_,rfl⟩
   ·rw[List.concat_eq_append]at *
    have ne:Qd (ba+(j:Int)) S≠[]:=fun z=>by rw[z]at las;simp at las
    obtain⟨F,z,eF⟩:∃F z,Qd (ba+(j:Int)) S=F++[z]:=⟨_,_,(List.dropLast_concat_getLast ne).symm⟩
    rw[eF]at las hasE lc more step
    have lF:as'.length=F.length:=by simpa using las
    have hz:H3 a'=some (.tup [.int z.1,.int z.2]):=hasE as'.length a' z (by simp) (by rw[lF];simp)
    have em:(as'++[a']).map V.ref=as'.map V.ref++[V.ref a']:=by simp
    rw[em]at easE
    refine zE (by rw[em];simp) ?_
    refine⟨_,rfl,_,rfl,fl,_,_,_,rfl,rfl,SqL.of easE,dy.1,a',_,_,_,rfl,rfl,SqT.of hz,rfl,_,rfl,_,_,rfl,rfl,rfl,_,rfl,?_⟩
    have gl:(F++[z]).getLast? =some z:=by simp
    have dl:(F++[z]).dropLast=F:=by simp
    by_cases hl:z.2=ba+(j:Int)-1
    ·refine zE (decide_eq_true (by rw[hl])) ?_
     have ea:bj (F++[z]) (ba+(j:Int))=F++[(z.1,ba+(j:Int))]:=by unfold bj;rw[gl];simp only;rw[if_pos hl,dl]
     refine⟨_,rfl,_,rfl,fl,_,_,_,rfl,rfl,SqL.of easE,dy.1,a',_,_,_,rfl,rfl,SqT.of hz,rfl,_,rfl,by show 2<=sizeLine;decide,fun y hy=>?_⟩
     have uy:=Same.upd (o:= .tup [.int z.1,.int (ba+(j:Int))]) hy
     refine⟨_,rfl,_,rfl,fl,_,_,_,rfl,rfl,uy _ _ easE,dy.2,?_⟩
     rw[List.length_map]
     have sl:(as'.map V.ref++[V.ref a']).set as'.length (.ref y)=as'.map V.ref++[.ref y]:=by
      have:=n5 (xs:=as'.map V.ref) (x:=V.ref a') (y:=V.ref y)
      rwa [List.length_map]at this
     rw[sl]
     refine⟨fun c o ec=>by rw[qh (fl0 ec)];exact uy _ _ (SE _ _ ec),by rw[qh nfw.symm];exact uy _ _ ewe,?_,nfw,_,rfl⟩
     rw[step,ea]
     have nt:NT [fl] (upd H3 y (.tup [.int z.1,.int (ba+(j:Int))])):=NT.one (uy _ _ easE) trivial
     refine⟨as'++[y],by rw[qc];simp,by simp [lF],fun i b w e1 e2=>(Mv.upd1 (a:=fl)).tup nt ?_⟩
     by_cases hi:i<as'.length
     ·rw[List.getElem?_append_left hi]at e1
      rw[List.getElem?_append_left (by omega)]at e2
      exact uy _ _ (hasE i b w (by rw[List.getElem?_append_left hi];exact e1) (by rw[List.getElem?_append_left (by omega)];exact e2))
     ·rw[List.getElem?_append_right (by omega)]at e1
      rw[List.getElem?_append_right (by omega),<- lF]at e2
      cases q:i-as'.length with
      |zero=>rw[q]at e1 e2;cases e1;cases e2;exact qc
      |succ k=>rw[q]at e1;cases e1
    ·refine zJ (decide_eq_false (by intro w;injection w with w;exact hl w)) ?_
     have ea:bj (F++[z]) (ba+(j:Int))=F++[z]++[(ba+(j:Int),ba+(j:Int))]:=by unfold bj;rw[gl];simp only;rw[if_neg hl]
     refine⟨_,rfl,.inl ⟨rfl,_,SqL.of easE⟩,_,rfl,_,rfl,by show 2<=sizeLine;decide,fun y hy=>⟨fl,_,_,rfl,rfl,(Same.upd hy) _ _ easE,by rw[List.length_append,List.length_map,sizeLine_eq];rw[List.length_append]at lc;simp at lc⊢;omega,?_⟩⟩
     obtain⟨q1,q2,q3⟩:=more ea y hy
     rw[em]at q1 q2 q3
     exact⟨q1,q2,q3,nfw,_,rfl⟩
  ·rintro σ Hx ⟨sx,ew,pr,nfw,o5,rfl⟩
   rw[hW,nU (fun p hp=>by
    have:=bd p hp
    refine⟨this.2.1,?_⟩
    rw[Int.toNat_of_nonneg (by split<;>omega)]
    split<;>omega)]at pr
   obtain⟨as,eas,las,has⟩:=pr
   exact⟨_,rfl,fl,_,rfl,.inl ⟨SqL.of eas,fun t ht=>q t _ (sx.trans (Same.upd ht)) ⟨as,qc,las,fun i a z e1 e2=>Same.upd ht _ _ (has i a z e1 e2)⟩⟩⟩
end
section
variable{P:Program}{w:World}{K:Frag}{mg:Str->Option Value}{base:Heap}{tk:Nat->Tok}{C:Addr}
theorem gE(a:At K mg "_law_right" ZS ["_law_box_here","_law_code","_law_entry","_law_drawn_here","_law_name"])(T:Txt K mg tk)(U:DCx K C)(dY:Mf P w K mg base C "twin_door" ["self"] 3 (jr K C))(dL:Mf P w K mg base C "hear" ["self","thing"] 6 (eM K C))(xA:Df P w K mg base "opens_at" ["door","name","age"] 4 (jC K C))(dA:Df P w K mg base "_law_take" ["_law_box_here","_law_many"] 1 Q7)(dE:Df P w K mg base "_law_press" ["_law_code","_law_plain","_law_deed"] 4 ai)(xX:Df P w K mg base "_law_due" ["_law_own","_law_name","_law_age","_law_base"] 2 mQ)(yC:∀n:Nat,n<=8->Df P w K mg base "_law_alike" ["_law_found","_law_due_here"] (n+1) (vm n)):Df P w K mg base "_law_right" ["_law_box_here","_law_code","_law_entry","_law_drawn_here","_law_name"] 7 (iJ K C):=by
 have dO:=yC 3 (by decide)
 refine a.dq sc_law_right (fun vs H Q E h=>?_) (fun f cdv A outer s H vs Q E hr h=>?_)
 ·obtain⟨_,_,_,_,_,_,_,_,_,_,_,_,_,_,_,_,rfl,_⟩:=h
  rfl
 ·obtain⟨b,cd,tb,kt,pl,dr,nl,c,H0,t,kss,xs,i,x,nm,ba,rfl,pw,hx,hc,hC,hdr,dp,hL,hn,b0,b1,q⟩:=h
  refine⟨_,(qe (qZ (qv 2) (zu rfl (qp (qi (i:=5) sc_law_right.nd rfl (Or.inl rfl)) (qp (qi (i:=6) sc_law_right.nd rfl (Or.inl rfl)) qP))))
   (qe (zn PassesOwn.never rfl (l7 rfl T.b_range (qd (gm cO qf) (qd (qu qH (qA qK (qv 3) qf (fun _ _=>rfl)) qf) qb))) (qi (i:=7) sc_law_right.nd rfl (Or.inl rfl))
   (qe (qC (i:=8) sc_law_right.nd rfl (Or.inl rfl) (qr xX hr.mo (qd (qv 6) (qd (qv 4) (qd (qv 7) (qd (qA qK (qv 3) qf (fun _ _=>rfl)) qb))))))
   (qg (qF (zT (q9 (qr dO hr.mo (qd (q8 (qd (qr xA hr.mo (qd (qv 5) (qd (qv 4) (qd (qv 7) qb)))) (qd (qr xA hr.mo (qd (qv 5) (qd (qv 4) (qd (qv 7) qb)))) qb))) (qd (q8 (qd (qv 8) (qd (qv 8) qb))) qb))))) (qg (qq QR)) qy))))
   (qe (qC (i:=9) sc_law_right.nd rfl (Or.inr rfl) (qx (qd (qv 4) (qd (qr dA hr.mo (qd (qv 0) (qd (qA qK (qv 3) qf (fun _ _=>rfl)) qb))) (qd (qm (Qi rfl) (by rfl) T.b_min PyProof.Rows.boot_min (qd qf (qd (qu qH (qA qK (qv 3) qf (fun _ _=>rfl)) (qr dA hr.mo (qd (qv 0) (qd qf qb)))) qb))) qb)))))
   (qe (qC (i:=10) sc_law_right.nd rfl (Or.inl rfl) (zb zd (qA qK (zy dL U.cl hr.mo (Qz dY U.cl hr.mo (qv 5)) (qd (qr dE hr.mo (qd (qv 1) (qd (qv 9) (qd qf qb)))) qb)) qf (fun _ _=>rfl)) qz (qw _)))
   (qg (qq (zb zd (qv 10) (qm (ng rfl) (by rfl) T.b_any PyProof.Rows.boot_any (qd (zK (own:=["_law_first","_law_last"]) (fr:=["_law_plain"]) (js:=[9]) rfl (bH (qr xA hr.mo (qd (qv 5) (qd (qv 4) (qd (qA qK (qv 9) qf (fun _ _=>rfl)) qb))))) rfl (kT rfl) rfl (j5 rfl (by decide +kernel) (by decide +kernel) (by decide +kernel) rfl rfl rfl) (fun _ _ _ _=>eT (K:=K) rfl 2 rfl (qp (qi (i:=0) (show List.Nodup (["_law_first","_law_last","_law_plain"]:List Str)from by decide +kernel) rfl (Or.inl rfl) (.inr rfl)) (qp (qi (i:=1) (show List.Nodup (["_law_first","_law_last","_law_plain"]:List Str)from by decide +kernel) rfl (Or.inl rfl) (.inr rfl)) qP))) (fun _ _ _ _=>(aF Qv Qv (qv 0) (qA (sk (K:=K) rfl) (qv 2) qf (fun _ _=>rfl)) (qv 1)))) qb)) (qw _)))))))),?_⟩
  have en:=pw.en i x hx
  have k8:=dp.ok.kl
  have k1:=dp.k1
  rw[dp.ks]at k8
  refine⟨_,rfl,x.1.e,_,rfl,.tup en.tu,rfl,_,_,rfl,_,_,rfl,rfl,?_⟩
  refine⟨_,rfl,_,rfl,dr,_,_,_,rfl,rfl,SqT.of hdr,rfl,_,_,rfl,rfl,_,_,rfl,⟨by decide,by decide,by omega,by omega⟩,?_⟩
  refine QM (Pv:=fun j σ Hx=>Same H Hx/\∃o7 o8,σ=[some (.ref b),some (.ref cd),some (.ref x.1.e),some (.ref dr),some (.str nm),some (.ref x.1.a.p),some (.ref x.1.m),o7,o8,none,none]) ⟨Same.refl _,_,_,rfl⟩ ?_ ?_
  ·rintro j σ Hx hj ⟨sx,o7,o8,rfl⟩
   have enx:=en.same sx
   refine⟨_,rfl,_,rfl,_,rfl,_,rfl,dr,_,_,_,rfl,rfl,SqT.of (sx _ _ hdr),rfl,x.1.m,x.1.kd,x.2.1,t,kss,nm,_,ba,rfl,enx.md,dp,b0,b1,fun du H1 s1 pd=>?_⟩
   have en1:=enx.same s1
   refine⟨_,rfl,_,rfl,_,rfl,x.1.a.p,x.1.a.ta,x.1.a.hk,x.1.a.bd,x.1.a.lg,x.2.2.length,x.2.1,nm,_,rfl,en1.dl.dr,fun q1 H2 s2 p1=>?_⟩
   have en2:=en1.same s2
   refine⟨_,rfl,_,rfl,_,rfl,x.1.a.p,x.1.a.ta,x.1.a.hk,x.1.a.bd,x.1.a.lg,x.2.2.length,x.2.1,nm,_,rfl,en2.dl.dr,fun q2 H3 s3 p2=>⟨by show 2<=sizeLine;decide,fun l1 hl1=>⟨_,rfl,_,rfl,by show 2<=sizeLine;decide,fun l2 hl2=>?_⟩⟩⟩
   have u1:=Same.upd (o:= .lst [.ref q1,.ref q2]) hl1
   have u2:=Same.upd (o:= .lst [.ref du,.ref du]) hl2
   have U12:=u1.trans u2
   have e1:=u2 _ _ (show(upd H3 l1 (.lst [.ref q1,.ref q2])) l1=some (.lst [.ref q1,.ref q2])from qc)
   have pd3:=(((pd.same s2).same s3).same U12)
   have p13:=((p1.same s3).same U12)
   have p23:=p2.same U12
   have l2':(zj x.2.1 nm (-1+(j:Int))).length<=100:=by have:=(eW dp nm (-1+(j:Int))).len;omega
   refine⟨.ref l1,.ref l2,rfl,.lst (n:=2) e1 qc rfl (by show 2<=sizeLine;decide) (fun k y z ey ez=>?_),fun H4 s4=>⟨_,rfl,zi ⟨(((sx.trans s1).trans s2).trans s3).trans (U12.trans s4),_,_,rfl⟩⟩⟩
   match k,ey,ez with
   |0,ey,ez=>cases ey;cases ez;exact p13.eqw pd3 l2'
   |1,ey,ez=>cases ey;cases ez;exact p23.eqw pd3 l2'
   |k+2,ey,ez=>cases ey
  rintro σ Hx ⟨sx,o7,o8,rfl⟩
  have pwx:=pw.same sx
  refine⟨_,rfl,_,rfl,_,rfl,dr,_,_,_,rfl,rfl,SqT.of (sx _ _ hdr),rfl,b,_,c,rfl,pwx.bx,by omega,by omega,by omega,fun ag H1 ag0 ag1 g1=>?_⟩
  have pw1:=pwx.grc g1
  have ndb:dr≠b:=fun z=>by obtain⟨_,_,_,e,_⟩:=pw.bx;rw[z,e]at hdr;cases hdr
  have hdr1:=g1.kp _ _ ndb (sx _ _ hdr)
  refine⟨_,rfl,dr,_,_,_,rfl,rfl,SqT.of hdr1,rfl,_,rfl,b,24,_,rfl,pw1.bx,by omega,by decide,by decide,fun r2 H2 r20 r21 g2=>⟨_,_,rfl,rfl,_,_,rfl,by show 3<=sizeLine;decide,fun p hp=>?_⟩⟩
  obtain⟨n,en'⟩:∃n,n=(if ba+r2<4095 then ba+r2 else 4095):=⟨_,rfl⟩
  have n0:0<=n/\n<4096:=by rw[en'];split<;>omega
  rw[<- en']
  have up:=Same.upd (o:= .tup [.str nm,.int ag,.int n]) hp
  have ep:(upd H2 p (.tup [.str nm,.int ag,.int n])) p=some (.tup [.str nm,.int ag,.int n]):=qc
  have G2:GrC b (c+2) H H2:=((sx.grc pw.bx).trans g1).trans g2
  have G3:=G2.same up
  have M2:Mv [b] H H2:=fun c o h e=>G2.kp c o (fun z=>h (List.mem_singleton.mpr z)) e
  have hC3:=(hC.mv M2 (zz pw.bx)).same up
  have pw3:=(pw1.grc g2).same up
  generalize upd H2 p (.tup [.str nm,.int ag,.int n])=H3 at *
  have en3:=pw3.en i x hx
  have tp:t.Perm digs:=dp.t▸dp.ok.tp
  refine⟨_,rfl,x.1.a.p,rfl,en3.dl.dr.no,x.1.a,x.2.1,x.2.2,rfl,en3.dl,dp.ok.kl,fun a' H4 s4 h1 h2 h3 h4 d4=>?_⟩
  refine⟨a'.p,rfl,d4.dr.no,_,rfl,_,rfl,cd,tb,kt,p,t,kss,nm,ag,n,1,rfl,hC3.same s4,s4 _ _ ep,tp,hn,ag0,ag1,n0.1,n0.2,⟨by decide,by decide⟩,fun pr H5 s5 hpr=>?_⟩
  have okP:=ZP (kss:=kss) (age:=ag) tp hn n0.1 n0.2 (d:=1) ⟨by decide,by decide⟩
  refine⟨a',x.2.1,x.2.2,.ref pr,some (zR t kss nm ag n 1),rfl,d4.same s5,by omega,dp.ok,⟨pr,rfl,hpr,okP⟩,(fun z=>by cases z),fun PP hP pr' qa H6 hpr' m6 _ hqa d6=>?_⟩
  cases hP
  rw[bo dp n0.1 n0.2 ⟨by decide,by decide⟩]at hqa
  have fz:∀z∈dS a',H3 z=none:=fun z hz=>by
   rcases nw hz with rfl|rfl|rfl|rfl
   ·exact h1
   ·exact h2
   ·exact h3
   ·exact h4
  have S6:Same H3 H6:=oI (s4.trans s5) (iQ m6) fz
  obtain⟨hw1,hw2⟩:=nB x.2.1 nm ag n 1 dp.f0
  have wi:=jI dp nm ag (show n<=4095 by omega)
  have fin:∀(g:Bool),(g=true↔qN x.2.1 nm ag n="open")->∀zs:List (Int×Int),zs=zj x.2.1 nm ag->V.bl g=V.bl ((zs.map fun z=>decide (z.1<=n)&&decide (n<=z.2)).any id):=fun g hg zs hz=>by
   subst hz
   congr 1
   rw[Bool.eq_iff_iff,hg,wi]
   unfold fG
   rw[List.any_map];rfl
  have key:∀(z:Str) (g:Bool),zV (qQ x.2.1 nm ag (some (n,1))).1 0=some (.str z)->decide (V.str z=V.str "open")=g->(g=true↔qN x.2.1 nm ag n="open")->∃v,zV (qQ x.2.1 nm ag (some (n,1))).1 0=some v/\v= .str z:=fun z g h1 h2 h3=>⟨_,h1,rfl⟩
  have en6:=en3.same S6
  obtain⟨z,g,hz,hg,hgw,hs⟩:∃(z:Str) (g:Bool),zV (qQ x.2.1 nm ag (some (n,1))).1 0=some (.str z)/\decide (V.str z=V.str "open")=g/\(g=true↔qN x.2.1 nm ag n="open")/\True:=by
   by_cases ho:qN x.2.1 nm ag n="open"
   ·exact⟨"open",true,Qm (j:=0) (hw1 ho),decide_eq_true rfl,⟨fun _=>ho,fun _=>rfl⟩,trivial⟩
   ·exact⟨"held",false,Qm (j:=0) (hw2 ho),decide_eq_false (by intro z;injection z with z;exact absurd z (by decide)),⟨(fun z=>by cases z),fun z=>absurd z ho⟩,trivial⟩
  refine⟨qa,_,_,_,rfl,rfl,SqT.of hqa,hz,rfl,?_⟩
  rw[hg]
  have ep6:=S6 _ _ ep
  refine⟨_,rfl,_,rfl,_,rfl,_,rfl,p,_,_,_,rfl,rfl,SqT.of ep6,rfl,x.1.a.p,x.1.a.ta,x.1.a.hk,x.1.a.bd,x.1.a.lg,x.2.2.length,x.2.1,nm,ag,rfl,en6.dl.dr,fun tq H7 s7 ptq=>?_⟩
  obtain⟨as,eas,las,has⟩:=ptq
  have S7:=S6.trans s7
  have lS:=(eW dp nm ag).len
  refine⟨tq,rfl,⟨_,SqT.of eas⟩,nJ (K:=K) (xs:=as.map V.ref) (by rw[List.length_map,las,sizeLine_eq];omega) (fun k ys Hy=>Hy=H7/\ys=((zj x.2.1 nm ag).take k).map fun z=>V.bl (decide (z.1<=n)&&decide (n<=z.2))) ⟨rfl,rfl⟩ (fun k ys Hy h=>by rw[h.1];exact SqT.of eas) ?_ ?_⟩
  ·rintro k ys Hy y hy hyl ⟨rfl,rfl⟩
   rw[List.getElem?_map]at hy
   cases ea:as[k]? with
   |none=>rw[ea]at hy;cases hy
   |some a0=>
   rw[ea]at hy
   cases hy
   have hk:k<(zj x.2.1 nm ag).length:=by rw[<- las];exact(List.getElem?_eq_some_iff.mp ea).1
   have hk':=List.getElem?_eq_getElem hk
   have e0:=has k a0 _ ea hk'
   refine⟨a0,_,_,rfl,SqT.of e0,_,rfl,_,rfl,p,_,_,_,rfl,rfl,SqT.of (s7 _ _ ep6),rfl,_,_,rfl,rfl,_,rfl,?_⟩
   have tk1:((zj x.2.1 nm ag).take (k+1)).map (fun z=>V.bl (decide (z.1<=n)&&decide (n<=z.2)))=((zj x.2.1 nm ag).take k).map (fun z=>V.bl (decide (z.1<=n)&&decide (n<=z.2)))++[V.bl (decide ((zj x.2.1 nm ag)[k].1<=n)&&decide (n<=(zj x.2.1 nm ag)[k].2))]:=by rw[List.take_add_one,hk',List.map_append];rfl
   by_cases h1':(zj x.2.1 nm ag)[k].1<=n
   ·refine zE (decide_eq_true h1') ⟨_,rfl,_,_,rfl,rfl,rfl,?_⟩
    rw[tk1,decide_eq_true h1',Bool.true_and]
   ·refine zJ (decide_eq_false h1') ⟨rfl,?_⟩
    rw[tk1,decide_eq_false h1',Bool.false_and]
  rintro ys Hy hyl ⟨rfl,rfl⟩ l9 hl9
  rw[List.length_map,las,List.take_length]
  have u9:=Same.upd (o:= .lst ((zj x.2.1 nm ag).map fun z=>V.bl (decide (z.1<=n)&&decide (n<=z.2)))) hl9
  have em:((zj x.2.1 nm ag).map fun z=>V.bl (decide (z.1<=n)&&decide (n<=z.2)))=((zj x.2.1 nm ag).map fun z=>decide (z.1<=n)&&decide (n<=z.2)).map V.bl:=by rw[List.map_map];rfl
  rw[em]at u9⊢
  refine⟨l9,_,rfl,SqL.of qc,rfl,?_⟩
  rw[decide_eq_true (fin g hgw _ rfl)]
  exact q _ ((G3.same S7).same u9)
end
section
variable{P:Program}{w:World}{K:Frag}{mg:Str->Option Value}{base:Heap}{tk:Nat->Tok}{C:Addr}
theorem tU{f:Addr}{fd:FuncData}(F:Fun K "law" "law" Zk f fd)(T:Txt K mg tk)(U:DCx K C)(dJ:Mf P w K mg base C "known_now" ["self"] 1 (iR K C))(dW:Mf P w K mg base C "log_now" ["self"] 1 (l6 K C))(xY:Df P w K mg base "_law_box" ["_law_script","_law_k"] 1 (mN K))(xP:Df P w K mg base "_law_drawn" ["_law_box_here"] 2 ik)(xU:Df P w K mg base "_law_pair" ["_law_box_here","_law_drawn_here"] 9 (jJ K C))(xQ:Df P w K mg base "_law_right" ["_law_box_here","_law_code","_law_entry","_law_drawn_here","_law_name"] 7 (iJ K C)):FnOk P w K mg base ZF 10 f fd ["_law_script"] (gj K):=by
 refine F.dq sc_law (fun vs H Q E h=>?_) (fun cdv A outer s H vs Q E hr h=>?_)
 ·obtain⟨x,ns,rfl,_⟩:=h
  rfl
 ·obtain⟨sc,ns,rfl,hS,hlen,q⟩:=h
  refine⟨_,(qe (zn PassesOwn.never rfl (zN rfl T.b_range (qd (qu qH qf (qm qT (by rfl) T.b_len PySem.boot_len (qd (Q0 jW (qv 0) Zq (Zo qf)) qb))) qb)) (qi (i:=1) sc_law.nd rfl (Or.inl rfl))
   (qe (qC (i:=2) sc_law.nd rfl (Or.inl rfl) (qr xY hr.mo (qd (qv 0) (qd (qv 1) qb))))
   (qe (qC (i:=3) sc_law.nd rfl (Or.inl rfl) (qr xP hr.mo (qd (qv 2) qb)))
   (qe (qZ (qr xU hr.mo (qd (qv 2) (qd (qv 3) qb))) (zu rfl (qp (qi (i:=4) sc_law.nd rfl (Or.inl rfl)) (qp (qi (i:=5) sc_law.nd rfl (Or.inl rfl)) qP))))
   (qg (zn PassesOwn.never rfl (Qb (qv 5)) (qi (i:=6) sc_law.nd rfl (Or.inl rfl))
   (qe (qC (i:=7) sc_law.nd rfl (Or.inl rfl) (qx (qd (Qz dJ U.cl hr.mo (qA qK (qv 6) qf (fun _ _=>rfl))) (qd (Qz dW U.cl hr.mo (qA qK (qv 6) qf (fun _ _=>rfl))) qb))))
   (qe (zn PassesOwn.never rfl (Qb (qu uc (qA qK (qv 3) qf (fun _ _=>rfl)) (q8 (qd qz qb)))) (qi (i:=8) sc_law.nd rfl (Or.inl rfl))
   (qg (qF (zT (q9 (qr xQ hr.mo (qd (qv 2) (qd (qv 4) (qd (qv 6) (qd (qv 3) (qd (qv 8) qb)))))))) (qg (qq QR)) qy)))
   (qg (qF (qB (tG hr) (qx (qd (Qz dJ U.cl hr.mo (qA qK (qv 6) qf (fun _ _=>rfl))) (qd (Qz dW U.cl hr.mo (qA qK (qv 6) qf (fun _ _=>rfl))) qb))) (qv 7) (qw _)) (qg (qq QR)) qy))))))))))
   (qg (qq QR))),?_⟩
  refine⟨_,rfl,_,rfl,sc,_,rfl,hS,fun l0 hl0=>⟨l0,_,rfl,.inl (SqL.of qc),_,_,rfl,rfl,_,rfl,?_,?_,?_⟩⟩
  ·omega
  ·rw[am,List.length_map]
   have:(Zz ns none (some 2)).length<=ns.length:=by unfold Zz;rw[List.length_take,List.length_drop];omega
   omega
  have u0:=Same.upd (o:= .lst (Q5 (ns.map V.int) none (some 2))) hl0
  have hS0:=u0.seq hS
  generalize upd H l0 (.lst (Q5 (ns.map V.int) none (some 2)))=Ha at *
  refine QM (Pv:=fun k σ Hx=>Same Ha Hx/\∃(o1 o2 o3 o4 o5 o6 o7 o8:Option V),σ=[some (.ref sc),o1,o2,o3,o4,o5,o6,o7,o8]) ⟨Same.refl _,none,none,none,none,none,none,none,none,rfl⟩ ?_ ?_
  ·rintro k σ H1 hk ⟨s1,o1,o2,o3,o4,o5,o6,o7,o8,rfl⟩
   refine⟨_,rfl,_,rfl,sc,ns,k,by simp,s1.seq hS0,fun b H2 fb s2 bx2=>?_⟩
   refine⟨_,rfl,b,0,rfl,bx2,by decide,fun dr nl nms many ba H3 g3 edr enl fnl ok=>?_⟩
   have nlb:nl≠b:=fun z=>by obtain⟨_,_,_,e,_⟩:=bx2;rw[z,e]at fnl;cases fnl
   refine⟨_,rfl,_,rfl,b,dr,nl,_,nms,many,ba,rfl,g3.bx,by decide,edr,enl,nlb,ok,fun qt cd tb kt pl t kss xs H4 pw lx eqt hC hkm hxs=>⟨qt,_,rfl,.tup eqt,rfl,_,_,rfl,_,_,rfl,rfl,?_⟩⟩
   have nqb:∀{x:Addr} {ys:List V},H3 x=some (.tup ys)->x≠b:=fun{x ys} e z=>by obtain⟨_,_,_,e',_⟩:=g3.bx;rw[z,e']at e;cases e
   refine⟨_,rfl,pl,rfl,⟨_,SqL.of pw.pe⟩,?_⟩
   refine zY (K:=K) (a:=pl) (xs:=xs.map fun x=>V.ref x.1.e) (fun j σ Hx=>Pw K C H3 Hx b (0+20+300+100*j) pl xs/\CdAt Hx cd tb kt t kss/\∃(o6 o7 o8:Option V),σ=[some (.ref sc),some (.int (0+(k:Int))),some (.ref b),some (.ref dr),some (.ref cd),some (.ref pl),o6,o7,o8]) ⟨pw,hC,_,_,_,rfl⟩ (fun j σ Hx _ h=>SqL.of h.1.pe) ?_ ?_
   ·rintro j z σ H5 hz ⟨pw5,hC5,p6,p7,p8,rfl⟩
    rw[List.getElem?_map]at hz
    cases ex:xs[j]? with
    |none=>rw[ex]at hz;cases hz
    |some x=>
    rw[ex]at hz
    cases hz
    have j2:j<2:=by rw[<- lx];exact(List.getElem?_eq_some_iff.mp ex).1
    obtain⟨dp,hl⟩:=hxs j x ex
    have en:=pw5.en j x ex
    refine⟨_,rfl,x.1.e,_,_,_,rfl,rfl,SqT.of en.tu,rfl,x.1.a.p,rfl,en.dl.dr.no,x.1.a.p,x.1.a.ta,x.1.a.hk,x.1.a.bd,x.1.a.lg,x.2.2.length,x.2.1,rfl,en.dl.dr,dp.ok,fun k1 ss H6 s6 pm so sh=>?_⟩
    have en6:=en.same s6
    refine⟨_,rfl,x.1.e,_,_,_,rfl,rfl,SqT.of en6.tu,rfl,x.1.a.p,rfl,en6.dl.dr.no,x.1.a,x.2.1,x.2.2,rfl,en6.dl,fun t1 H7 s7 lt1=>⟨by show 2<=sizeLine;decide,fun hd hhd=>?_⟩⟩
    have u8:=Same.upd (o:= .tup [.ref k1,.ref t1]) hhd
    have S8:=(s6.trans s7).trans u8
    have pw8:=pw5.same S8
    have hC8:=hC5.same S8
    have sh8:=(sh.same s7).same u8
    have lt8:=lt1.same u8
    have ehd:(upd H7 hd (.tup [.ref k1,.ref t1])) hd=some (.tup [.ref k1,.ref t1]):=qc
    generalize upd H7 hd (.tup [.ref k1,.ref t1])=H8 at *
    have kp:∀{x:Addr} {o:HO},x≠b->H3 x=some o->H8 x=some o:=fun n e=>pw8.s _ _ (qR n) e
    refine⟨_,rfl,dr,_,_,_,rfl,rfl,SqT.of (kp (nqb edr) edr),rfl,by show 1<=sizeLine;decide,fun l9 hl9=>?_⟩
    have u9:=Same.upd (o:= .lst [.str "none"]) hl9
    have enl9:=u9 _ _ (kp nlb enl)
    have ln:=ok.l9
    refine⟨nl,l9,_,_,rfl,rfl,enl9,qc,by rw[List.length_map];show _+1<=sizeLine;rw[sizeLine_eq];omega,fun la hla=>?_⟩
    have ua:=Same.upd (o:= .lst (nms.map V.str++[.str "none"])) hla
    have Sa:=u9.trans ua
    have pwa:=pw8.same Sa
    have hCa:=hC8.same Sa
    have sha:=sh8.same Sa
    have lta:=lt8.same Sa
    have ehda:=Sa _ _ ehd
    have nlab:la≠b:=zf (pw8.same u9).bx hla
    refine⟨la,rfl,⟨_,SqL.of qc⟩,?_⟩
    have ela:(upd (upd H8 l9 (.lst [.str "none"])) la (.lst (nms.map V.str++[.str "none"]))) la=some (.lst ((nms++[("none":Str)]).map V.str)):=by rw[qc,List.map_append];rfl
    have elist:nms.map V.str++[V.str "none"]=(nms++[("none":Str)]).map V.str:=by rw[List.map_append];rfl
    generalize upd (upd H8 l9 (.lst [.str "none"])) la (.lst (nms.map V.str++[.str "none"]))=Hb at *
    refine zY (K:=K) (a:=la) (xs:=(nms++[("none":Str)]).map V.str) (fun i σ Hx=>GrC b (0+20+300+100*j+2*i) Hb Hx/\∃(o8:Option V),σ=[some (.ref sc),some (.int (0+(k:Int))),some (.ref b),some (.ref dr),some (.ref cd),some (.ref pl),some (.ref x.1.e),some (.ref hd),o8]) ⟨GrC.refl pwa.bx,_,rfl⟩ (fun i σ Hx _ h=>SqL.of (h.1.kp _ _ nlab ela)) ?_ ?_
    ·rintro i z σ Hx hz ⟨gx,p8',rfl⟩
     rw[List.getElem?_map]at hz
     cases en1:(nms++[("none":Str)])[i]? with
     |none=>rw[en1]at hz;cases hz
     |some nm=>
     rw[en1]at hz
     cases hz
     have i10:i<10:=by have:=(List.getElem?_eq_some_iff.mp en1).1;rw[List.length_append]at this;simp at this;omega
     have hnm:zU nm:=by
      rcases List.mem_append.mp (List.mem_of_getElem? en1)with h|h
      ·exact ok.nm nm h
      ·rw[List.mem_singleton.mp h];exact⟨by decide +kernel,by decide +kernel,by decide +kernel⟩
     have pwx:=pwa.grc gx
     have M:Mv [b] Hb Hx:=fun c o h e=>gx.kp c o (fun z=>h (List.mem_singleton.mpr z)) e
     have hCx:=hCa.mv M (zz pwa.bx)
     have edrx:=pwx.s _ _ (qR (nqb edr)) edr
     rw[<- hkm]at edrx
     refine⟨_,rfl,_,rfl,_,rfl,_,rfl,_,rfl,b,cd,tb,kt,pl,dr,nl,_,H3,t,kss,xs,j,x,nm,ba,rfl,pwx,ex,by omega,hCx,edrx,dp,by omega,hnm,ok.b0,ok.b1,fun Hy gy=>⟨_,rfl,zi ⟨(gx.trans gy).mono (by omega),_,rfl⟩⟩⟩
    rintro σ Hx ⟨gx,p8',rfl⟩
    have pwx:=pwa.grc gx
    have M:Mv [b] Hb Hx:=fun c o h e=>gx.kp c o (fun z=>h (List.mem_singleton.mpr z)) e
    have Nb:=zz pwa.bx
    have enx:=pwx.en j x ex
    refine⟨_,rfl,x.1.e,_,_,_,rfl,rfl,SqT.of enx.tu,rfl,x.1.a.p,rfl,enx.dl.dr.no,x.1.a.p,x.1.a.ta,x.1.a.hk,x.1.a.bd,x.1.a.lg,x.2.2.length,x.2.1,rfl,enx.dl.dr,dp.ok,fun k2 ss2 Hy sy pm2 so2 sh2=>?_⟩
    have eny:=enx.same sy
    refine⟨_,rfl,x.1.e,_,_,_,rfl,rfl,SqT.of eny.tu,rfl,x.1.a.p,rfl,eny.dl.dr.no,x.1.a,x.2.1,x.2.2,rfl,eny.dl,fun t2 Hz sz lt2=>⟨by show 2<=sizeLine;decide,fun h2 hh2=>?_⟩⟩
    have uz:=Same.upd (o:= .tup [.ref k2,.ref t2]) hh2
    have SZ:=(sy.trans sz).trans uz
    obtain rfl:ss=ss2:=iY pm so pm2 so2
    have sh1':=(sha.mv M Nb).same SZ
    have lt1':=(lta.mv M Nb).same SZ
    have ehd':=SZ _ _ (M.tup Nb ehda)
    refine⟨_,rfl,5,by decide,.tup (n:=4) (SqT.of qc) (SqT.of ehd') rfl (fun i y z ey ez=>?_),_,rfl,zi ⟨(pwx.same SZ).mono ?_,(hCa.mv M Nb).same SZ,_,_,_,rfl⟩⟩
    ·match i,ey,ez with
     |0,ey,ez=>cases ey;cases ez;exact(me ((sh2.same sz).same uz) sh1' (fun nm h=>pm.mem_iff.mp h) (fun nm=>rfl)).up
     |1,ey,ez=>cases ey;cases ez;exact((lt2.same uz).eqv lt1' (by omega)).eqk
     |i+2,ey,ez=>cases ey
    ·rw[List.length_map,List.length_append];simp;omega
   rintro σ H5 ⟨pw5,hC5,p6,p7,p8,rfl⟩
   refine⟨fun c o e=>?_,_,_,_,_,_,_,_,_,rfl⟩
   have nb:c≠b:=fun z=>by rw[z]at e;rw[s1 _ _ e]at fb;cases fb
   exact pw5.s c o (qR nb) (g3.kp c o nb (s2 _ _ (s1 _ _ e)))
  rintro σ Hx ⟨_,o1,o2,o3,o4,o5,o6,o7,o8,rfl⟩
  exact q _
end
theorem tJ{l:W.OpenLaw}{w:World}{K:Frag}{h:Heap}{mg:Str->Option Value}{fa:Addr}(X:K.In h)(G:h.Ns mainGlobals mg)(hfa:mg "law"=some (.ref fa))
  {C:Addr}
  (aCD:W.nsIn K mainGlobals "Door"=some (some (.ref C)))
  (pgD:W.plainGet K C Str.empty=true)
  (hdD:W.hasDictIn K C=true)
  (poD:W.plainOver K C=true)
  (saD:W.findIn K (.ref C) "__setattr__"=some (some (.builtin "object.__setattr__")))
  (mkD:W.makesIn K C=true)
  (kcD:W.keepIn K (.ref C)=true)
  (n_D_table:W.findIn K (.ref C) "table"=some none)
  (n_D_house_keys:W.findIn K (.ref C) "house_keys"=some none)
  (n_D_near:W.findIn K (.ref C) "near"=some none)
  (n_D_far:W.findIn K (.ref C) "far"=some none)
  (n_D_most:W.findIn K (.ref C) "most"=some none)
  (n_D_least_age:W.findIn K (.ref C) "least_age"=some none)
  (n_D_buttons:W.findIn K (.ref C) "buttons"=some none)
  (n_D_log:W.findIn K (.ref C) "log"=some none)
  (A0:Ac K mg "is_number" ZU)
  (A1:Ac K mg "is_digit" aj)
  (A2:Ac K mg "are_digits" ZH)
  (A3:Ac K mg "back_table" Zy)
  (A4:Ac K mg "coded" dw)
  (A5:Ac K mg "decoded" bh)
  (A6:Ac K mg "is_name" a9)
  (A7:Ac K mg "is_code" bA)
  (A8:Ac K mg "is_press" aH)
  (A9:Ac K mg "letter_digits" QZ)
  (A10:Ac K mg "key_of" cy)
  (A11:Ac K mg "count_digits" Q4)
  (A12:Ac K mg "press_of" az)
  (A13:Ac K mg "read_press" Zs)
  (A14:Ac K mg "word_of" aW)
  (A15:Ac K mg "step_by" bF)
  (A16:Acm K C "__init__" "Door.__init__" Qx)
  (A17:Acm K C "is_full" "Door.is_full" Q6)
  (A18:Acm K C "button_of" "Door.button_of" Qy)
  (A19:Acm K C "takes_age" "Door.takes_age" QC)
  (A20:Acm K C "takes_from" "Door.takes_from" Qo)
  (A21:Acm K C "plain_step" "Door.plain_step" Qp)
  (A22:Acm K C "answer_to" "Door.answer_to" QF)
  (A23:Acm K C "hear" "Door.hear" ZX)
  (A24:Acm K C "read_right" "Door.read_right" Qq)
  (A25:Acm K C "learn" "Door.learn" Zw)
  (A26:Acm K C "close_below" "Door.close_below" Qj)
  (A27:Acm K C "known_now" "Door.known_now" QH)
  (A28:Acm K C "bounds_told" "Door.bounds_told" Ql)
  (A29:Acm K C "log_now" "Door.log_now" Q2)
  (A30:Acm K C "twin_door" "Door.twin_door" QB)
  (A31:Ac K mg "stretches_of" Q3)
  (A32:Ac K mg "opens_at" ay)
  (A33:Ac K mg "_law_box" a6)
  (A34:Ac K mg "_law_take" aE)
  (A35:Ac K mg "_law_table" Z0)
  (A36:Ac K mg "_law_key" bz)
  (A37:Ac K mg "_law_model" Z2)
  (A38:Ac K mg "_law_word" aC)
  (A39:Ac K mg "_law_hear" av)
  (A40:Ac K mg "_law_press" ZV)
  (A41:Ac K mg "_law_learnt" Zu)
  (A42:Ac K mg "_law_heard" ZT)
  (A43:Ac K mg "_law_bounds" ZD)
  (A44:Ac K mg "_law_pair" aD)
  (A45:Ac K mg "_law_drawn" ZZ)
  (A46:Ac K mg "_law_window" ZG)
  (A47:Ac K mg "_law_alike" Z1)
  (A48:Ac K mg "_law_due" br)
  (A49:Ac K mg "_law_right" ZS)
  {f50:Addr}{od50 an50:Option Addr}{sl50:Array (Option Value)}{oc50 kV50 dc50 pm50 cd50 ct50:Value}
  (a50:W.nsIn K mainGlobals "law"=some (some (.ref f50)))
  (l50:K.lookup f50=some ⟨oc50,od50,.func (W.fnOf "law" "law" (Qa Zk) (zA Zk) (ql Zk) .none kV50 dc50 pm50 an50 cd50 ct50),sl50⟩)
  (c50:W.codeIn K cd50 "law"=true)
  (k50:W.keepIn K (.ref f50)=true)
  {t0:Tok}
  (yg0:W.nsIn K mainGlobals "DIGITS"=some (some (.int 16 t0)))
  {t1:Tok}
  (yg1:W.nsIn K mainGlobals "KEY_PLACES"=some (some (.int 4 t1)))
  {t2:Tok}
  (yg2:W.nsIn K mainGlobals "LONGEST_NAME"=some (some (.int 8 t2)))
  {t3:Tok}
  (yg3:W.nsIn K mainGlobals "CODE_DIGITS"=some (some (.int 5 t3)))
  {t4:Tok}
  (yg4:W.nsIn K mainGlobals "COUNTS"=some (some (.int 4096 t4)))
  (z0:W.nsIn K mainGlobals "isinstance"=some none)
  (z1:W.nsIn K mainGlobals "bool"=some none)
  (z2:W.nsIn K mainGlobals "int"=some none)
  (z3:W.nsIn K mainGlobals "tuple"=some none)
  (z4:W.nsIn K mainGlobals "all"=some none)
  (z5:W.nsIn K mainGlobals "any"=some none)
  (z6:W.nsIn K mainGlobals "len"=some none)
  (z7:W.nsIn K mainGlobals "abs"=some none)
  (z8:W.nsIn K mainGlobals "list"=some none)
  (z9:W.nsIn K mainGlobals "enumerate"=some none)
  (z10:W.nsIn K mainGlobals "range"=some none)
  (z11:W.nsIn K mainGlobals "max"=some none)
  (z12:W.nsIn K mainGlobals "min"=some none)
  (z13:W.nsIn K mainGlobals "str"=some none)
  (z14:W.nsIn K mainGlobals "zip"=some none)
  (z15:W.nsIn K mainGlobals "ord"=some none)
  (z16:W.nsIn K mainGlobals "sum"=some none)
  (z17:W.nsIn K mainGlobals "reversed"=some none)
  (z18:W.nsIn K mainGlobals "sorted"=some none)
  (z19:W.nsIn K mainGlobals "dict"=some none):
  ∃fd:FuncData,(∀(s:Shared) (v:Value),BindsTo s fd ⟨[v],[]⟩ [("_law_script",v)])/\∀base:Heap,K.In base->base.Ns mainGlobals mg->FnOk l.prog w K mg base ZF 10 fa fd ["_law_script"] (gj K):=by
 have e:=hfa.symm.trans (W.mg_of X G a50)
 cases e
 have T:Txt K mg (fun i=>if i=0 then t0 else if i=1 then t1 else if i=2 then t2 else if i=3 then t3 else if i=4 then t4 else 0):=⟨W.mg_of X G yg0,W.mg_of X G yg1,W.mg_of X G yg2,W.mg_of X G yg3,W.mg_of X G yg4,W.mg_none_of X G z0,W.mg_none_of X G z1,W.mg_none_of X G z2,W.mg_none_of X G z3,W.mg_none_of X G z4,W.mg_none_of X G z5,W.mg_none_of X G z6,W.mg_none_of X G z7,W.mg_none_of X G z8,W.mg_none_of X G z9,W.mg_none_of X G z10,W.mg_none_of X G z11,W.mg_none_of X G z12,W.mg_none_of X G z13,W.mg_none_of X G z14,W.mg_none_of X G z15,W.mg_none_of X G z16,W.mg_none_of X G z17,W.mg_none_of X G z18,W.mg_none_of X G z19⟩
 refine⟨W.fnOf "law" "law" (Qa Zk) (zA Zk) (ql Zk) .none kV50 dc50 pm50 an50 cd50 ct50,fun s v=> .of_eq rfl,fun base _ _=>?_⟩
 have U:DCx K C:=⟨⟨pgD,hdD,poD,saD⟩,n_D_table,n_D_house_keys,n_D_near,n_D_far,n_D_most,n_D_least_age,n_D_buttons,n_D_log⟩
 have dM:=hX (P:=l.prog) (w:=w) (base:=base) (A0.at fun _ _ _ _ _ _=>QQ fun _=>rfl) T
 have xS:=iU (A1.at fun _ _ _ _ _ _=>QQ fun _=>rfl) T dM
 have xI:=f9 (A2.at fun _ _ _ _ _ _=>QQ fun _=>rfl) T xS
 have xH:=gd (P:=l.prog) (w:=w) (base:=base) (A3.at fun _ _ _ _ _ _=>QQ fun _=>rfl) T
 have xF:=oz (P:=l.prog) (w:=w) (base:=base) (A4.at fun _ _ _ _ _ _=>cg fun _ _ _=>rfl) T
 have x8:=kK (A5.at fun _ _ _ _ _ _=>cg fun _ _ _=>rfl) T xH
 have xV:=kF (P:=l.prog) (w:=w) (base:=base) (A6.at fun _ _ _ _ _ _=>QQ fun _=>rfl) T
 have xZ:=kM (A7.at fun _ _ _ _ _ _=>QQ fun _=>rfl) T xI
 have dR:=i4 (A8.at fun _ _ _ _ _ _=>QQ fun _=>rfl) T xV dM xZ
 have d0:=cq (P:=l.prog) (w:=w) (base:=base) (A9.at fun _ _ _ _ _ _=>QQ fun _=>rfl) T
 have xB:=lG (A10.at fun _ _ _ _ _ _=>cg fun _ _ _=>rfl) T d0 xF
 have xE:=c8 (P:=l.prog) (w:=w) (base:=base) (A11.at fun _ _ _ _ _ _=>QQ fun _=>rfl) T
 have xT:=iX (A12.at fun _ _ _ _ _ _=>wc fun _ _ _ _ _ _=>rfl) T xE xB xF
 have dH:=f7 (A13.at fun _ _ _ _ _ _=>cg fun _ _ _=>rfl) T xB x8
 have xW:=kg (P:=l.prog) (w:=w) (base:=base) (A14.at fun _ _ _ _ _ _=>mK fun _ _ _ _=>rfl) T
 have x6:=kB (A15.at fun _ _ _ _ _ _=>v9 fun _ _ _ _ _=>rfl) T xW
 have A16:=A16.at (ps:=["self","table","keys","near","far","most"]) fun _ _ _ _ _ _=>wc fun _ _ _ _ _ _=>rfl
 have yA:=eu (P:=l.prog) (w:=w) (base:=base) A16 T U
 have xL:=yA.mi mkD kcD (W.mg_of X G aCD)
 have yB:=(dc (P:=l.prog) (w:=w) (base:=base) A16 T U).mi mkD kcD (W.mg_of X G aCD)
 have xD:=c7 (P:=l.prog) (w:=w) (base:=base) (A17.at fun _ _ _ _ _ _=>QQ fun _=>rfl) T U
 have dC:=bW (P:=l.prog) (w:=w) (base:=base) (A18.at fun _ _ _ _ _ _=>aO fun _ _=>rfl) T U
 have dD:=b8 (P:=l.prog) (w:=w) (base:=base) (A19.at fun _ _ _ _ _ _=>aO fun _ _=>rfl) T U
 have dB:=bp (A20.at fun _ _ _ _ _ _=>cg fun _ _ _=>rfl) T U dD
 have dX:=bg (A21.at fun _ _ _ _ _ _=>mK fun _ _ _ _=>rfl) T U dB x6
 have dZ:=b9 (A22.at fun _ _ _ _ _ _=>aO fun _ _=>rfl) T U dC dB dX dH
 have dL:=ip (A23.at fun _ _ _ _ _ _=>aO fun _ _=>rfl) T U dR dZ
 have dG:=a8 (A24.at fun _ _ _ _ _ _=>aO fun _ _=>rfl) T U dR dD dH
 have xG:=gb (A25.at fun _ _ _ _ _ _=>cg fun _ _ _=>rfl) T U dG xD
 have dP:=aR (P:=l.prog) (w:=w) (base:=base) (A26.at fun _ _ _ _ _ _=>aO fun _ _=>rfl) T U
 have dJ:=bX (P:=l.prog) (w:=w) (base:=base) (A27.at fun _ _ _ _ _ _=>QQ fun _=>rfl) T U
 have dQ:=aU (P:=l.prog) (w:=w) (base:=base) (A28.at fun _ _ _ _ _ _=>QQ fun _=>rfl) T U
 have dW:=cU (P:=l.prog) (w:=w) (base:=base) (A29.at fun _ _ _ _ _ _=>QQ fun _=>rfl) T U
 have dY:=cb (A30.at fun _ _ _ _ _ _=>QQ fun _=>rfl) T U xL
 have xC:=cP (A31.at fun _ _ _ _ _ _=>cg fun _ _ _=>rfl) T U dB dQ
 have xA:=i7 (A32.at fun _ _ _ _ _ _=>cg fun _ _ _=>rfl) T U dC xC
 have xY:=kU (P:=l.prog) (w:=w) (base:=base) (A33.at fun _ _ _ _ _ _=>aO fun _ _=>rfl) T
 have dA:=jb (P:=l.prog) (w:=w) (base:=base) (A34.at fun _ _ _ _ _ _=>aO fun _ _=>rfl) T
 have xR:=iG (A35.at fun _ _ _ _ _ _=>QQ fun _=>rfl) T dA
 have x9:=jZ (A36.at fun _ _ _ _ _ _=>QQ fun _=>rfl) T dA
 have xO:=g0 (P:=l.prog) (w:=w) (base:=base) (A37.at fun _ _ _ _ _ _=>cg fun _ _ _=>rfl) T
 have dU:=i5 (P:=l.prog) (w:=w) (base:=base) (A38.at fun _ _ _ _ _ _=>aO fun _ _=>rfl) T
 have dI:=jd (A39.at fun _ _ _ _ _ _=>aO fun _ _=>rfl) T dU
 have dE:=iy (A40.at fun _ _ _ _ _ _=>cg fun _ _ _=>rfl) T xT
 have xJ:=gf (A41.at fun _ _ _ _ _ _=>mK fun _ _ _ _=>rfl) T U xG dE
 have xN:=gw (A42.at fun _ _ _ _ _ _=>mK fun _ _ _ _=>rfl) T U dL dE dI
 have xK:=gc (A43.at fun _ _ _ _ _ _=>QQ fun _=>rfl) T dA
 have xU:=i6 (A44.at fun _ _ _ _ _ _=>aO fun _ _=>rfl) T U yB dP dA xR x9 xK xO xJ xN
 have xP:=gO (A45.at fun _ _ _ _ _ _=>QQ fun _=>rfl) T dA
 have xM:=ga (P:=l.prog) (w:=w) (base:=base) (A46.at fun _ _ _ _ _ _=>QQ fun _=>rfl) T
 have dO:=aX (P:=l.prog) (w:=w) (base:=base) (A47.at fun _ _ _ _ _ _=>aO fun _ _=>rfl) T
 have xX:=kW (A48.at fun _ _ _ _ _ _=>mK fun _ _ _ _=>rfl) T dU xM
 have xQ:=gE (A49.at fun _ _ _ _ _ _=>v9 fun _ _ _ _ _=>rfl) T U dY dL xA dA dE xX dO
 exact tU (gz (st:=Zk) l50 c50 k50) T U dJ dW xY xP xU xQ
theorem wq{l:W.OpenLaw}{q:Program}{loose:List Str}{XP:(Str->Option Value)->Heap->Prop}{YP:World->Heap->Prop}{d:DefRec}{K:Params->Frag}(hn:l.most=some 63)(hdf:d.params.defaults=[])
  (hY:∀(w:World) (h:Heap),YP w h->(K w.params).In h)
  (F:∀(w:World) (mg:Str->Option Value) (fa:Addr) (h:Heap),(K w.params).In h->h.Ns mainGlobals mg->mg d.name=some (.ref fa)->
   ∃fd:FuncData,(∀(s:Shared) (u:Value),BindsTo s fd ⟨[u],[]⟩ [("_law_script",u)])/\∀base:Heap,(K w.params).In base->base.Ns mainGlobals mg->FnOk l.prog w (K w.params) mg base ZF 10 fa fd ["_law_script"] (gj (K w.params))):
  W.WalkO q loose XP YP l.row.toRowW d [] (fun f vs=>PySem.call f vs):=
 L2.sw (n:=63) (k:=10) (x:="_law_script") (CX:=fun _=>ZF) (sp:=fun w=>gj (K w.params)) hn (by decide) hdf ⟨rfl,by decide,by decide⟩ hY F (fun _ _ a ns hl _ hS=>⟨a,ns,rfl,hS,hl,fun _=>rfl⟩) fun _ _ _ _ _ z=>z
end Lw
namespace PySem.W.Fast
def tw17384084627393859647:=()
def tw9095521940615270217:=()
def tw15439319230356189237:=()
def tw1714549460418844004:=()
def tw4225203943519138878:=()
def tw15873883831363496870:=()
def tw9553336453576465021:=()
def tw9313974748370017665:=()
def tw10899507755578194848:=()
def tw1100132911158660734:=()
def tw13938023191874418419:=()
def tw18199436714419401495:=()
def tw11905920311145829937:=()
def tw17282776527115546279:=()
def tw6488289915930957408:=()
def tw6665785411218533399:=()
def tw15001370567982074227:=()
def tw9938094817724757822:=()
def tw734392012620636621:=()
def tw15362201824696314947:=()
def tw10659925460560788754:=()
def tw7325102720597223426:=()
def tw11782281972492775117:=()
def tw1021733274194926754:=()
def tw16908816589024142293:=()
def tw16593812204793663954:=()
def tw8280687940395636722:=()
def tw3820256047293376439:=()
def tw15160858343572695483:=()
def tw12339025529623026369:=()
def tw13517135942581183652:=()
def tw514876114455386023:=()
def tw14946296537947706656:=()
def tw8515887640804301996:=()
def tw3575269810436860040:=()
def tw13937600504551451383:=()
def tw8054122459627865762:=()
def tw18417159992656950403:=()
def tw15689856689384206115:=()
def tw17705368106225575951:=()
def tw6180905434650122447:=()
def tw17727742375008262967:=()
def tw10932049244006024507:=()
def tw5363338691469274331:=()
def tw8445264203604234927:=()
def tw1189135582401971972:=()
def tw14361975628688238262:=()
def tw8147221368555986296:=()
def tw226969854913651281:=()
def tw15138168203583069143:=()
def tw4328811341411873413:=()
def tw3109443812694984389:=()
def tw716594853789549067:=()
def tw6120490164372746266:=()
def tw1317333714998411372:=()
def tw12723833158519574884:=()
def tw18161307155981266100:=()
def tw10633794621880663002:=()
def tw17147629260893603334:=()
def tw17242573415933546944:=()
def tw10729853059474528364:=()
def tw16731226781047767169:=()
def tw14596715692268064596:=()
def tw11196793479319905138:=()
def tw11504710724901411062:=()
def tw13633749450545400269:=()
def tw4668950696427875200:=()
def tw13035027164934501947:=()
def tw10879511839269027092:=()
def tw17874754196564855069:=()
def tw13093760733258434977:=()
def tw2970271215605915419:=()
def tw4142490762011865329:=()
def tw16826685583938512244:=()
def tw6281653219088102266:=()
def tw11184296647807496156:=()
def tw9092004582808413578:=()
def tw12092182075107591529:=()
def tw10668961689067846725:=()
def tw931049822544361597:=()
def tw2819718030708282927:=()
def tw15295611547010178422:=()
def tw13371461121072994896:=()
def tw4305991515986844023:=()
def tw5269750429544961369:=()
def tw17808639287926767469:=()
def tw5651659827867883008:=()
def tw8518511481384236567:=()
def tw18202849777946113445:=()
def tw3964590755263205157:=()
def tw15179797822363698244:=()
def tw10255154436066004249:=()
def tw8912861988609379961:=()
def tw10641958290055443669:=()
def tw16011387778242595754:=()
def tw17945716734267061258:=()
def tw17292868972021150267:=()
def tw15265300515073230859:=()
def tw9674670455599355861:=()
def tw2939372503878714701:=()
def tw2614882669429247615:=()
def tw15615569660500285721:=()
def tw15044149740962328905:=()
def tw15344645827977308421:=()
def tw4087670036566483429:=()
def tw12079503096173321492:=()
def tw9804765734138768585:=()
def tw7334194972660832271:=()
def tw12013636088251013674:=()
def tw11893765426175072457:=()
def tw5692238517326667295:=()
def tw4879475063717438839:=()
def tw13605189892174192130:=()
def tw14569549456908794191:=()
def tw15071301018949316314:=()
def tw14295300165402060758:=()
def tw11338113502229182951:=()
def tw4198515770563310383:=()
def tw17066680396269212952:=()
def tw8920262516600879439:=()
def tw5145432191498302774:=()
def tw11146762078592053680:=()
def tw5987630686981852109:=()
def tw31666755497400469:=()
def tw16294983029547032559:=()
def tw2615461817327570975:=()
def tw4612394753015059147:=()
def tw13956578063659658230:=()
def tw12320329599848483228:=()
def tw11324635974415488716:=()
end PySem.W.Fast
open PySem PySem.W PyProof.Rows
set_option maxRecDepth 100000 in
set_option maxHeartbeats 0 in
theorem PySem.Challenge.cw_rollcode_k31_what_opens_now_holds : PySem.Challenge.rw_rollcode_k31_what_opens_now.Holds := by
 w_on;o_law;k_head;(case hw=>w_witness2)
 k_fill
 refine Lw.wq (l:=PySem.Challenge.rw_rollcode_k31_what_opens_now) rfl rfl (fun w h Y=>PySem.W.kIn_of Y) ?F
 case F=>
  intro w mg fa h KX G hmg
  refine' Lw.tJ KX G hmg ?aCD ?pgD ?hdD ?poD ?saD ?mkD ?kcD ?n_D_table ?n_D_house_keys ?n_D_near ?n_D_far ?n_D_most ?n_D_least_age ?n_D_buttons ?n_D_log ?A0 ?A1 ?A2 ?A3 ?A4 ?A5 ?A6 ?A7 ?A8 ?A9 ?A10 ?A11 ?A12 ?A13 ?A14 ?A15 ?A16 ?A17 ?A18 ?A19 ?A20 ?A21 ?A22 ?A23 ?A24 ?A25 ?A26 ?A27 ?A28 ?A29 ?A30 ?A31 ?A32 ?A33 ?A34 ?A35 ?A36 ?A37 ?A38 ?A39 ?A40 ?A41 ?A42 ?A43 ?A44 ?A45 ?A46 ?A47 ?A48 ?A49 ?a50 ?l50 ?c50 ?k50 ?yg0 ?yg1 ?yg2 ?yg3 ?yg4 ?z0 ?z1 ?z2 ?z3 ?z4 ?z5 ?z6 ?z7 ?z8 ?z9 ?z10 ?z11 ?z12 ?z13 ?z14 ?z15 ?z16 ?z17 ?z18 ?z19
  (case aCD|pgD|hdD|poD|saD|mkD|kcD|n_D_table|n_D_house_keys|n_D_near|n_D_far|n_D_most|n_D_least_age|n_D_buttons|n_D_log=>k_is)
  (case A0|A1|A2|A3|A4|A5|A6|A7|A8|A9|A10|A11|A12|A13|A14|A15=>refine' L3.rC KX G ?ya ?yl ?yc ?yk;case ya|yl|yc|yk=>k_is)
  (case A16|A17|A18|A19|A20|A21|A22|A23|A24|A25|A26|A27|A28|A29|A30=>refine' L3.uH ?ya ?yi ?yl ?yc ?yk;case ya|yi|yl|yc|yk=>k_is)
  (case A31|A32|A33|A34|A35|A36|A37|A38|A39|A40|A41|A42|A43|A44|A45|A46|A47|A48|A49=>refine' L3.rC KX G ?ya ?yl ?yc ?yk;case ya|yl|yc|yk=>k_is)
  (case a50|l50|c50|k50|yg0|yg1|yg2|yg3|yg4|z0|z1|z2|z3|z4|z5|z6|z7|z8|z9|z10|z11|z12|z13|z14|z15|z16|z17|z18|z19=>k_is)
