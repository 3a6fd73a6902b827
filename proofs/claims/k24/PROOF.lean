import PyProof.Rows.All
import Wide.All
import OpenK.AllK
import Wide.FinOn
import Lean
import PyProof.EqAt
import PyProof.EqKinds
import PyProof.TupleCall
import PySem.Challenge.RW_rollcode_k24_what_is_heard
import PyProof.AttrMissHeap
import PyProof.Rows.SetFrom
import KE.KDictOf
import PyProof.DictWalks
import PyProof.Rows.DictUnroll
import PyProof.StationsW
import PyProof.ExcClass2
import OpenK.KOwn
import PyProof.ExcBaseAll.ValueError
import PyProof.RulesAs
import PyProof.NsDelKeeps
import PyProof.Rows.Catch
import KE.KIsAll
import PyProof.ExcArgsOwn
import PyProof.Rows.CatchOwn
import PyProof.ExcAttrAll.ValueError
import PyProof.ExcInit
import PyProof.InstStoreFacts
import PyProof.FString
import OpenK.KCls
import PyProof.ListMulRoad
import PyProof.FactsAll.tuple_2
import PyProof.AutoSeq1
import PyProof.FactsAll.list_3
set_option Elab.async false
set_option maxRecDepth 100000
set_option maxHeartbeats 4000000
set_option linter.unusedVariables false
set_option linter.all false
open PySem.W (Frag)
namespace L2
open PySem PySem.Spec PyProof.Rows
abbrev qt:=Sum Int Str
def aM:qt->Value->Bool
 | .inl k,v=>Value.isInt k v
 | .inr x,v=>Value.isStrOf x v
def wm(w:World):qt->Int
 | .inl k=>hashInt k
 | .inr x=>hashStr w x
theorem zh:∀{k:qt} {v:Value},aM k v=true->(∃i t,k=Sum.inl i/\v=Value.int i t)\/(∃x t,k=Sum.inr x/\v=Value.str x t)
 | .inl i,v,h=>by
  obtain⟨t,e⟩:=Value.isInt_shape (k:=i) (v:=v) h
  exact .inl ⟨i,t,rfl,e⟩
 | .inr x,v,h=>by
  obtain⟨t,e⟩:=Value.isStrOf_shape (x:=x) (v:=v) h
  exact .inr ⟨x,t,rfl,e⟩
theorem mQ(i:Int)(t:Tok):aM (.inl i) (.int i t)=true:=by simp [aM,Value.isInt]
theorem lR(x:Str)(t:Tok):aM (.inr x) (.str x t)=true:=by simp [aM,Value.isStrOf]
theorem uv(a b:Int):decide ((Sum.inl a:qt)=Sum.inl b)=(a==b):=by
 by_cases e:a=b
 ·subst e;simp
 ·have h:¬(Sum.inl a:qt)=Sum.inl b:=fun q=>e (Sum.inl.inj q)
  rw[decide_eq_false h]
  exact(beq_eq_false_iff_ne.mpr e).symm
theorem vi(a b:Str):decide ((Sum.inr a:qt)=Sum.inr b)=decide (a=b):=by
 by_cases e:a=b
 ·subst e;simp
 ·have h:¬(Sum.inr a:qt)=Sum.inr b:=fun q=>e (Sum.inr.inj q)
  rw[decide_eq_false h,decide_eq_false e]
theorem uB(a:Int)(b:Str):decide ((Sum.inl a:qt)=Sum.inr b)=false:=decide_eq_false (fun q=>nomatch q)
theorem uT(a:Str)(b:Int):decide ((Sum.inr a:qt)=Sum.inl b)=false:=decide_eq_false (fun q=>nomatch q)
def qN(prog:Program)(w:World):PySem.KeyKind prog w qt where
 is:=aM
 hash:=wm w
 inj:=fun v a b ha hb=>by
  rcases zh ha with⟨i,t,rfl,rfl⟩|⟨x,t,rfl,rfl⟩
  ·rcases zh hb with⟨j,u,rfl,e⟩|⟨y,u,rfl,e⟩
   ·injection e with e1 _;rw[e1]
   ·exact nomatch e
  ·rcases zh hb with⟨j,u,rfl,e⟩|⟨y,u,rfl,e⟩
   ·exact nomatch e
   ·injection e with e1 _;rw[e1]
 byValue:=fun k v h=>by
  rcases zh h with⟨i,t,rfl,rfl⟩|⟨x,t,rfl,rfl⟩<;>rfl
 pyHash:=fun hv h=>by
  rcases zh hv with⟨i,t,rfl,rfl⟩|⟨x,t,rfl,rfl⟩
  ·exact wpAny_pyHash_int h
  ·exact wpAny_pyHash_str h
 eqBool:=fun hu hv h=>by
  rcases zh hu with⟨i,t,rfl,rfl⟩|⟨x,t,rfl,rfl⟩
  ·rcases zh hv with⟨j,u,rfl,rfl⟩|⟨y,u,rfl,rfl⟩
   ·rw[uv]at h;exact wpAny_eqBool_int h
   ·rw[uB]at h;exact SeqAt.EqAt.int_str i t y u _ _ _ _ h
  ·rcases zh hv with⟨j,u,rfl,rfl⟩|⟨y,u,rfl,rfl⟩
   ·rw[uT]at h;exact SeqAt.EqAt.str_int x t j u _ _ _ _ h
   ·rw[vi]at h;exact wpAny_eqBool_str h
 «strs»:=fun k x t v h=>by
  rcases zh h with⟨i,u,rfl,e⟩|⟨y,u,rfl,e⟩
  ·exact nomatch e
  ·injection e with e1 _
   subst e1
   cases v<;>rfl
theorem jp(prog:Program)(w:World)(i:Int)(t:Tok):(qN prog w).is (.inl i) (.int i t)=true:=mQ i t
theorem jt(prog:Program)(w:World)(x:Str)(t:Tok):(qN prog w).is (.inr x) (.str x t)=true:=lR x t
inductive V where
 |non|bl (b:Bool)|int (i:Int)|str (x:Str)|byt (b:Array UInt8)|flt (b:UInt64)|ref (a:Addr)|ty (n:String)
 deriving DecidableEq
def RelV:V->Value->Prop
 | .non,u=>u=Value.none
 | .bl b,u=>u=Value.bool b
 | .int i,u=>∃t,u=Value.int i t
 | .str x,u=>∃t,u=Value.str x t
 | .byt b,u=>∃t,u=Value.bytes b t
 | .flt b,u=>∃t,u=Value.float b t
 | .ref a,u=>u=Value.ref a
 | .ty n,u=>u=Value.type n
abbrev Vals:List V->List Value->Prop:=Paired RelV
theorem Vals.length{xs:List V}{us:List Value}(r:Vals xs us):xs.length=us.length:=Paired.length r
theorem Vals.get:∀{xs:List V} {us:List Value} {i:Nat} {x:V},Vals xs us->xs[i]? =some x->∃u,us[i]? =some u/\RelV x u
 |_,_,_,_,.nil,e=>by simp at e
 |_,_,0,_,.cons r _,e=>by simp at e;subst e;exact⟨_,rfl,r⟩
 |_,_,i+1,x,.cons _ t,e=>by
  obtain⟨u,h1,h2⟩:=Vals.get (i:=i) (x:=x) t (by simpa using e)
  exact⟨u,by simpa using h1,h2⟩
theorem Vals.set{x:V}{u:Value}(r:RelV x u):∀{xs:List V} {us:List Value} (i:Nat),Vals xs us->Vals (xs.set i x) (us.set i u)
 |_,_,_,.nil=> .nil
 |_,_,0,.cons _ t=> .cons r t
 |_,_,i+1,.cons q t=> .cons q (Vals.set r i t)
theorem Vals.append:∀{xs ys:List V} {us ws:List Value},Vals xs us->Vals ys ws->Vals (xs++ys) (us++ws)
 |_,_,_,_,.nil,s=>s
 |_,_,_,_,.cons r t,s=> .cons r (Vals.append t s)
theorem Vals.take:∀{xs:List V} {us:List Value} (n:Nat),Vals xs us->Vals (xs.take n) (us.take n)
 |_,_,0,_=> .nil
 |_,_,_+1,.nil=> .nil
 |_,_,n+1,.cons r t=> .cons r (Vals.take n t)
theorem Vals.drop:∀{xs:List V} {us:List Value} (n:Nat),Vals xs us->Vals (xs.drop n) (us.drop n)
 |_,_,0,r=>r
 |_,_,_+1,.nil=> .nil
 |_,_,n+1,.cons _ t=>Vals.drop n t
def RelO:Option V->Option Value->Prop
 |some v,some u=>RelV v u
 |none,none=>True
 |_,_=>False
def KV{κ:Type}:List (κ×V)->List (κ×Value)->Prop:=Paired fun(p:κ×V) (q:κ×Value)=>p.1=q.1/\RelV p.2 q.2
def kV:qt->V
 | .inl i=> .int i
 | .inr x=> .str x
inductive HO where
 |lst (xs:List V)
 |tup (xs:List V)
 |dK (kvs:List (qt×V))|dT (kvs:List (List qt×V))
 |set (S:Int->Bool) (n:Nat)
 |ins (C dx:Addr) (fs:List (Str×V))
 |own (x:Addr)
 |xd (fs:List (Str×V))
 |met (f x:Addr)
 |rng (lo hi:Int)
 |frz (o:Obj) (u:HO)
 |tbl (ps:Array Value)
 |ext (φ:Heap->Prop)
abbrev Hp:=Addr->Option HO
def upd(H:Hp)(a:Addr)(o:HO):Hp:=fun b=>if b=a then some o else H b
theorem qb{H:Hp}{a:Addr}{o:HO}:upd H a o a=some o:=by unfold upd;rw[if_pos rfl]
theorem qh{H:Hp}{a b:Addr}{o:HO}(h:b≠a):upd H a o b=H b:=by unfold upd;rw[if_neg h]
theorem qC{H:Hp}{a b:Addr}{o u:HO}(h:H a=some o)(h':H b=some u)(d:o≠u):a≠b:=by
 intro e;subst e;rw[h]at h';exact d (Option.some.inj h')
theorem ql{H:Hp}{a b:Addr}{o:HO}(h:H a=some o)(h':H b=none):a≠b:=by
 intro e;subst e;rw[h]at h';cases h'
section
variable(P:Program)(w:World)
def ObjOk(H:Hp)(h:Heap)(a:Addr):HO->Prop
 | .lst xs=>xs.length<=sizeLine/\∃(its:List Value) (n:Nat),Vals xs its/\h.get? a=some {cls:= .type "list",data:= .seq its.toArray n}
 | .tup xs=>xs.length<=sizeLine/\∃its:List Value,Vals xs its/\IsTup h a its.toArray
 | .dK kvs=>kvs.length<=sizeLine/\(a==sysModules)=false/\∃vs,KV kvs vs/\h.DictOf (qN P w) a vs
 | .dT kvs=>kvs.length<=sizeLine/\(a==sysModules)=false/\∃xs:List (List qt×Addr×Value),
   Paired (fun(p:List qt×V) (q:List qt×Addr×Value)=>p.1=q.1/\H q.2.1=some (.tup (p.1.map kV))/\RelV p.2 q.2.2) kvs xs/\
   ∃o es ep,h.get? a=some o/\o.ExactDict/\o.data= .dict es ep/\es.toList=xs.map (entryOfKey (tupleKind (qN P w)))/\(xs.map (·.1)).Nodup
 | .set S n=>h.SetOf (intKind P w) a S n
 | .ins C dx fs=>H dx=some (.own a)/\fs.length<=1000/\dx≠a/\h.get? a=some (PySem.W.instObj C dx)/\
   ∃mA,h.Ns1 dx mA/\(∀f,RelO (fs.lookup f) (mA f))/\PySem.Within mA (fs.map (·.1))
 | .own _=>∃o,h.get? a=some o
 | .xd fs=>∃mA,h.Ns1 a mA/\∀f,RelO (fs.lookup f) (mA f)
 | .rng lo hi=>∃t u v,h.get? a=some {cls:= .type "range",data:= .fields #[.int lo t,.int hi u,.int 1 v]}
 | .frz o u=>h.get? a=some o/\ObjOk H h a u
 | .tbl ps=>h.get? a=some {cls:= .none,data:= .fields ps}
 | .met f x=>h.get? a=some (PySem.W.methodObj (.ref f) (.ref x))
 | .ext φ=>φ h/\(∃o,h.get? a=some o)/\∀h1 h2:Heap,φ h1->(∀o,h1.get? a=some o->h2.get? a=some o)->φ h2
def HOk(H:Hp)(h:Heap):Prop:=∀a o,H a=some o->ObjOk P w H h a o
end
section
variable{P:Program}{w:World}{H H':Hp}{h h':Heap}{a:Addr}{o:HO}
theorem ObjOk.lt(x:ObjOk P w H h a o):a<h.objs.size:=by
 cases o with
 |lst xs=>obtain⟨_,_,_,_,e⟩:=x;exact Heap.lt_size e
 |tup xs=>obtain⟨_,_,_,p⟩:=x;exact p.lt
 |dK kvs=>obtain⟨_,_,_,_,o,_,_,e,_⟩:=x;exact Heap.lt_size e
 |dT kvs=>obtain⟨_,_,_,_,o,_,_,e,_⟩:=x;exact Heap.lt_size e
 |set S n=>obtain⟨o,_,_,_,e,_⟩:=x;exact Heap.lt_size e
 |ins C dx fs=>obtain⟨_,_,_,e,_⟩:=x;exact Heap.lt_size e
 |own y=>obtain⟨_,e⟩:=x;exact Heap.lt_size e
 |xd fs=>obtain⟨_,⟨_,_,_,e,_⟩,_⟩:=x;exact Heap.lt_size e
 |rng lo hi=>obtain⟨_,_,_,e⟩:=x;exact Heap.lt_size e
 |frz ob u=>obtain⟨e,_⟩:=x;exact Heap.lt_size e
 |tbl ps=>exact Heap.lt_size (show h.get? a=some _ from x)
 |met f y=>exact Heap.lt_size (show h.get? a=some _ from x)
 |ext φ=>obtain⟨_,⟨_,e⟩,_⟩:=x;exact Heap.lt_size e
theorem Paired.mapP{α β:Type}{F G:α->β->Prop}:∀{l₁:List α} {l₂:List β},Paired F l₁ l₂->(∀a b,F a b->G a b)->Paired G l₁ l₂
 |_,_,.nil,_=> .nil
 |_,_,.cons r t,f=> .cons (f _ _ r) (Paired.mapP t f)
theorem ObjOk.stay(x:ObjOk P w H h a o)(k:∀b u,(b=a\/H b=some (.own a))->h.get? b=some u->h'.get? b=some u)
  (ho:∀b,H b=some (.own a)->H' b=some (.own a))(ht:∀b xs,H b=some (.tup xs)->H' b=some (.tup xs)):ObjOk P w H' h' a o:=by
 induction o with
 |lst xs=>obtain⟨z,its,n,r,e⟩:=x;exact⟨z,its,n,r,k _ _ (.inl rfl) e⟩
 |tup xs=>obtain⟨z,its,r,ob,e,c⟩:=x;exact⟨z,its,r,ob,k _ _ (.inl rfl) e,c⟩
 |dK kvs=>obtain⟨z,y,vs,r,ob,es,ep,e,c⟩:=x;exact⟨z,y,vs,r,ob,es,ep,k _ _ (.inl rfl) e,c⟩
 |dT kvs=>
  obtain⟨z,y,xs,r,ob,es,ep,e,c⟩:=x
  exact⟨z,y,xs,Paired.mapP r fun p q z=>⟨z.1,ht _ _ z.2.1,z.2.2⟩,ob,es,ep,k _ _ (.inl rfl) e,c⟩
 |set S n=>obtain⟨ob,es,ep,t,e,c⟩:=x;exact⟨ob,es,ep,t,k _ _ (.inl rfl) e,c⟩
 |ins C dx fs=>
  obtain⟨d,z,ne,e,mA,⟨od,es,ep,e2,c⟩,r⟩:=x
  exact⟨ho _ d,z,ne,k _ _ (.inl rfl) e,mA,⟨od,es,ep,k _ _ (.inr d) e2,c⟩,r⟩
 |own y=>obtain⟨ob,e⟩:=x;exact⟨ob,k _ _ (.inl rfl) e⟩
 |xd fs=>obtain⟨mA,⟨od,es,ep,e,c⟩,r⟩:=x;exact⟨mA,⟨od,es,ep,k _ _ (.inl rfl) e,c⟩,r⟩
 |rng lo hi=>obtain⟨t,u,v,e⟩:=x;exact⟨t,u,v,k _ _ (.inl rfl) e⟩
 |frz ob u ih=>obtain⟨e,q⟩:=x;exact⟨k _ _ (.inl rfl) e,ih q⟩
 |tbl ps=>
  have e:h.get? a=some {cls:= .none,data:= .fields ps}:=x
  show h'.get? a=some {cls:= .none,data:= .fields ps}
  exact k a _ (.inl rfl) e
 |met f y=>
  have e:h.get? a=some (W.methodObj (.ref f) (.ref y)):=x
  show h'.get? a=some (W.methodObj (.ref f) (.ref y))
  exact k a _ (.inl rfl) e
 |ext φ=>obtain⟨p,⟨o,e⟩,st⟩:=x;exact⟨st _ _ p fun o q=>k _ _ (.inl rfl) q,⟨o,k _ _ (.inl rfl) e⟩,st⟩
theorem HOk.lt(x:HOk P w H h)(e:H a=some o):a<h.objs.size:=(x a o e).lt
theorem HOk.fresh(x:HOk P w H h)(e:h.objs.size<=a):H a=none:=by
 cases q:H a with
 |none=>rfl
 |some u=>exact absurd (Nat.lt_of_lt_of_le (x.lt q) e) (Nat.lt_irrefl _)
theorem HOk.kept(x:HOk P w H h)(k:∀b u,h.get? b=some u->h'.get? b=some u):HOk P w H h':=fun a o e=>
 (x a o e).stay (fun b u _ q=>k b u q) (fun _ q=>q) fun _ _ q=>q
theorem HOk.laid(x:HOk P w H h)(k:∀b u,h.get? b=some u->h'.get? b=some u)(hp:h.objs.size<=a)(new:ObjOk P w (upd H a o) h' a o):HOk P w (upd H a o) h':=fun b u e=>by
 have hn:=x.fresh hp
 by_cases hb:b=a
 ·subst hb;rw[qb]at e;cases e;exact new
 ·rw[qh hb]at e
  exact(x b u e).stay (fun c v _ q=>k c v q) (fun c q=>by rw[qh (ql q hn)];exact q) fun c xs q=>by rw[qh (ql q hn)];exact q
end
def Rd(H:Hp)(a:Addr)(u:HO):Prop:=H a=some u\/∃o,H a=some (.frz o u)
theorem Rd.ok{P:Program}{w:World}{H:Hp}{h:Heap}{a:Addr}{u:HO}(r:Rd H a u)(x:HOk P w H h):ObjOk P w H h a u:=by
 rcases r with r|⟨o,r⟩
 ·exact x a u r
 ·obtain⟨_,q⟩:=x a _ r
  exact q
def mO:Option HO->Prop
 |some (.lst _)=>True
 |some (.dK _)=>True
 |some (.dT _)=>True
 |some (.set _ _)=>True
 |some (.ins _ _ _)=>True
 |some (.ext _)=>True
 |_=>False
section
variable{P:Program}{w:World}{H:Hp}{h h':Heap}{x e:Addr}{o':HO}
theorem HOk.write(ok:HOk P w H h)(mu:mO (H x))(he:e=x\/H e=some (.own x))(k:∀b u,b≠e->h.get? b=some u->h'.get? b=some u)(heo:∃u,h'.get? e=some u)
  (new:ObjOk P w (upd H x o') h' x o'):HOk P w (upd H x o') h':=fun b u q=>by
 have nown:∀c y,H c=some (.own y)->c≠x:=fun c y r z=>by subst z;rw[r]at mu;exact mu
 have ntup:∀c xs,H c=some (.tup xs)->c≠x:=fun c xs r z=>by subst z;rw[r]at mu;exact mu
 by_cases hb:b=x
 ·subst hb;rw[qb]at q;cases q;exact new
 ·rw[qh hb]at q
  by_cases hbe:b=e
  ·have q':H b=some (.own x):=by
    rcases he with z|z
    ·exact absurd (hbe.trans z) hb
    ·rw[hbe];exact z
   rw[q]at q';cases q'
   obtain⟨v,hv⟩:=heo
   exact⟨v,by rw[hbe];exact hv⟩
  ·refine(ok b u q).stay (fun c v hc r=>k c v ?_ r) (fun c r=>by rw[qh (nown c b r)];exact r) fun c xs r=>by rw[qh (ntup c xs r)];exact r
   rcases hc with rfl|hc
   ·exact hbe
   ·rintro rfl
    rcases he with z|z
    ·exact nown c b hc z
    ·rw[hc]at z;cases z;exact hb rfl
end
structure Un(fs ex:List Addr)(H H':Hp)(h h':Heap):Prop where
 keep:∀b o,h.get? b=some o->H b=none->b∉fs->b∉ex->h'.get? b=some o
 slot:∀b o,h.get? b=some o->H b=none->b∈fs->b∉ex->∃sl,h'.get? b=some {o with slots:=sl}
 free:∀b o,h.get? b=some o->H b=none->b∉ex->H' b=none
 there:∀b o,h.get? b=some o->b∉ex->∃o',h'.get? b=some o'
 tups:∀b xs,H b=some (.tup xs)->H' b=some (.tup xs)
 frzs:∀b o u,H b=some (.frz o u)->H' b=some (.frz o u)
 tbls:∀b ps,H b=some (.tbl ps)->∃more,H' b=some (.tbl (ps++more))
section
variable{fs fs' ex ex':List Addr}{H H1 H2:Hp}{h h1 h2 h':Heap}{a x e:Addr}{o:HO}
theorem Un.any(u:Un fs ex H H1 h h1){b:Addr}{ob:Obj}(q:h.get? b=some ob)(n:H b=none)(hx:b∉ex):∃sl,h1.get? b=some {ob with slots:=sl}:=by
 by_cases hb:b∈fs
 ·exact u.slot b ob q n hb hx
 ·exact⟨ob.slots,u.keep b ob q n hb hx⟩
theorem Un.kept(k:∀b u,h.get? b=some u->h'.get? b=some u):Un fs ex H H h h':=
 ⟨fun b ob q _ _ _=>k b ob q,fun b ob q _ _ _=>⟨ob.slots,k b ob q⟩,fun _ _ _ n _=>n,fun b ob q _=>⟨ob,k b ob q⟩,fun _ _ q=>q,fun _ _ _ q=>q,fun _ ps q=>⟨#[],by rw[q];simp⟩⟩
theorem Un.refl:Un fs ex H H h h:=Un.kept fun _ _ q=>q
theorem Un.laid(k:∀b u,h.get? b=some u->h'.get? b=some u)(hp:h.objs.size<=a)(hn:H a=none):Un fs ex H (upd H a o) h h' where
 keep:=fun b u q _ _ _=>k b u q
 slot:=fun b u q _ _ _=>⟨u.slots,k b u q⟩
 free:=fun b u q n _=>by rw[qh (Nat.ne_of_lt (Nat.lt_of_lt_of_le (Heap.lt_size q) hp))];exact n
 there:=fun b u q _=>⟨u,k b u q⟩
 tups:=fun b xs q=>by rw[qh (ql q hn)];exact q
 frzs:=fun b u xs q=>by rw[qh (ql q hn)];exact q
 tbls:=fun b ps q=>⟨#[],by rw[qh (ql q hn),q];simp⟩
theorem Un.write(mu:mO (H x))(he:e=x\/H e=some (.own x))(k:∀b u,b≠e->h.get? b=some u->h'.get? b=some u)(heo:∃u,h'.get? e=some u):Un fs ex H (upd H x o) h h':=by
 have hx:∀b,H b=none->b≠x:=fun b n z=>by subst z;rw[n]at mu;exact mu
 have hb:∀b,H b=none->b≠e:=fun b n z=>by
  subst z
  rcases he with r|r
  ·exact hx b n r
  ·rw[n]at r;cases r
 have hm:∀b u,H b=some u->¬mO (some u)->b≠x:=fun b u q nm z=>by subst z;rw[q]at mu;exact nm mu
 refine⟨fun b u q n _ _=>k b u (hb b n) q,fun b u q n _ _=>⟨u.slots,k b u (hb b n) q⟩,fun b u q n _=>by rw[qh (hx b n)];exact n,fun b u q _=>?_,
  fun b xs q=>by rw[qh (hm b _ q fun z=>z)];exact q,fun b u xs q=>by rw[qh (hm b _ q fun z=>z)];exact q,fun b ps q=>⟨#[],by rw[qh (hm b _ q fun z=>z),q];simp⟩⟩
 by_cases hbe:b=e
 ·subst hbe;exact heo
 ·exact⟨u,k b u hbe q⟩
end
def rc(h:Heap)(H:Hp):List Addr:=(List.range h.objs.size).filter fun a=>(H a).isSome
def ay(h:Heap)(H:Hp):Heap:=PySem.W.hideAll h (rc h H)
theorem mM(h:Heap)(H:Hp):(ay h H).objs.size=h.objs.size:=W.hideAll_size _ _
theorem nZ{h:Heap}{H:Hp}{b:Addr}{o:Obj}(e:h.get? b=some o)(n:H b=none):(ay h H).get? b=some o:=
 W.hideAll_get _ e fun hm=>by
  have q:(H b).isSome=true:=(List.mem_filter.mp hm).2
  rw[n]at q;simp at q
theorem sT{h:Heap}{H:Hp}{b:Addr}{o:Obj}(e:(ay h H).get? b=some o):h.get? b=some o/\H b=none:=by
 have e':h.get? b=some o:=W.of_hideAll (rc h H) e
 refine⟨e',?_⟩
 cases q:H b with
 |none=>rfl
 |some x=>
  have hm:b∈rc h H:=List.mem_filter.mpr ⟨List.mem_range.mpr (Heap.lt_size e'),by simp [q]⟩
  have z:(ay h H).get? b=none:=W.hideAll_none (rc h H) hm
  rw[z]at e;cases e
structure Mod(K:Frag)(mg:Str->Option Value)(base:Heap):Prop where
 kin:K.In base
 glob:base.Ns mainGlobals mg
 blt:∃mb,base.Ns builtinsNs mb/\∀x:Str,x≠"__name__"->mb x=bootBuiltins x
 nolimit:base.NoLimit
structure Cx where
 prog:Program
 w:World
 K:Frag
 mg:Str->Option Value
 base:Heap
 A:Around
 N:List Str
 s₀:Shared
 H₀:Hp
 env:Env
 outer:List Env
 stack:List Env
 ex:List Addr
 fn:Str->Bool
 calm:Bool
 pn:List (Addr×Obj)
 xe:Value->Shared->Prop
def aT(l:List Env):List Addr:=l.filterMap (·.frame)
abbrev Cx.fs(X:Cx):List Addr:=aT X.outer
def uH(sc:Scope)(x:Str):Prop:=sc.names.lookup x=some .local\/sc.names.lookup x=some .cell\/sc.names.lookup x=some .free
def fK(sc:Scope)(x:Str):Prop:=sc.names.lookup x=some .local\/sc.names.lookup x=some .cell
def wA(env:Env)(h:Heap)(m:Str->Option Value)(x:Str)(u:Value):Prop:=
 (env.kindOf x=some .local/\m x=some u)\/((env.kindOf x=some .cell\/env.kindOf x=some .free)/\∃c,env.cells.lookup x=some c/\h.IsCell c (some u))
structure Cx.Ok(X:Cx):Prop where
 mod:Mod X.K X.mg X.base
 kind:X.env.scope.kind= .function
 glob:X.env.globals=mainGlobals
 blt:X.env.builtins=builtinsNs
 above:X.s₀.heap.objs.size<=X.env.locals
 inj:∀x y c,X.env.cells.lookup x=some c->X.env.cells.lookup y=some c->x=y
 has:∀x,(X.env.kindOf x=some .cell\/X.env.kindOf x=some .free)->∃c,X.env.cells.lookup x=some c
 cab:∀x c,X.fn x=true->X.env.cells.lookup x=some c->X.s₀.heap.objs.size<=c
 hd:X.calm=true->X.A.handled=none
 frames:X.A.frames=some X.stack
 stk:X.stack=X.outer\/(X.stack=X.env::X.outer/\X.env.frame=some X.env.locals)
 exf:∀b∈X.ex,b≠X.env.locals/\∀x c,X.env.cells.lookup x=some c->c≠b
 bs:∀b o,X.base.get? b=some o->X.s₀.heap.get? b=some o/\X.H₀ b=none
 bsz:X.base.objs.size<=X.s₀.heap.objs.size
 noex:∀b o,X.base.get? b=some o->b∉X.ex
 exfs:∀b∈X.ex,b∉X.fs
 funs:X.s₀.heap.FunFrames X.base X.outer
 frf:∀b∈X.fs,X.H₀ b=none
structure Inv(X:Cx)(pins:List (Addr×Obj))(σ:List (Option V))(H:Hp)(s:Shared):Prop where
 ok:X.Ok
 os:s.os=X.s₀.os
 bare:AllBare s.gens
 base:Un X.fs X.ex X.H₀ H X.s₀.heap s.heap
 loc:∃m,s.heap.Ns X.env.locals m/\∀(i:Nat) (x:Str) (v:V),X.N[i]? =some x->σ[i]? =some (some v)->uH X.env.scope x->∃u,RelV v u/\wA X.env s.heap m x u
 cell:∀x c,X.env.cells.lookup x=some c->∃v,s.heap.IsCell c v
 free:H X.env.locals=none
 freeC:∀x c,X.env.cells.lookup x=some c->H c=none
 pin:∀p∈X.pn++pins,s.heap.get? p.1=some p.2/\H p.1=none/\p.1≠X.env.locals/\p.1∉X.fs/\∀v,p.2.data≠ .cell v
 hok:HOk X.prog X.w H s.heap
 len:σ.length=X.N.length
section
variable{X:Cx}{pins:List (Addr×Obj)}{σ:List (Option V)}{H H':Hp}{s:Shared}{h':Heap}
theorem Cx.Ok.nofr(ok:X.Ok){b:Addr}{o:Obj}(e:X.base.get? b=some o):b∉X.fs:=fun hb=>by
 have:=(ok.funs.mem hb).1
 rw[e]at this;cases this
theorem Inv.bs(I:Inv X pins σ H s):∀b o,X.base.get? b=some o->s.heap.get? b=some o/\H b=none:=fun b o e=>
 ⟨I.base.keep b o (I.ok.bs b o e).1 (I.ok.bs b o e).2 (I.ok.nofr e) (I.ok.noex b o e),I.base.free b o (I.ok.bs b o e).1 (I.ok.bs b o e).2 (I.ok.noex b o e)⟩
theorem Inv.bk(I:Inv X pins σ H s):∀b o,X.base.get? b=some o->s.heap.get? b=some o:=fun b o e=>(I.bs b o e).1
theorem Inv.mod(I:Inv X pins σ H s):Mod X.K X.mg X.base:=I.ok.mod
theorem Inv.kIn(I:Inv X pins σ H s):X.K.In s.heap:=I.ok.mod.kin.keeps I.bk
theorem Inv.lt(I:Inv X pins σ H s):X.env.locals<s.heap.objs.size:=let⟨_,hn,_⟩:=I.loc;hn.lt
theorem Inv.sz(I:Inv X pins σ H s):X.s₀.heap.objs.size<=s.heap.objs.size:=Nat.le_trans I.ok.above (Nat.le_of_lt I.lt)
theorem Inv.nofs(I:Inv X pins σ H s){a:Addr}(h:s.heap.objs.size<=a):a∉X.fs:=fun hb=>by
 obtain⟨_,o,ho,_⟩:=I.ok.funs.mem hb
 exact absurd (Nat.lt_of_lt_of_le (Heap.lt_size ho) (Nat.le_trans I.sz h)) (Nat.lt_irrefl _)
theorem Inv.cne(I:Inv X pins σ H s):∀x c,X.env.cells.lookup x=some c->c≠X.env.locals:=fun x c e z=>by
 obtain⟨v,o,ho,hd⟩:=I.cell x c e
 obtain⟨m,⟨o',es,ep,ho',hd',_⟩,_⟩:=I.loc
 rw[z,ho']at ho;cases ho;rw[hd']at hd;cases hd
theorem Inv.funs(I:Inv X pins σ H s):s.heap.FunFrames X.base X.outer:=by
 have all:∀(l:List Env),(∀b∈aT l,b∈X.fs)->X.s₀.heap.FunFrames X.base l->s.heap.FunFrames X.base l:=by
  intro l
  induction l with
  |nil=>intro _ _;trivial
  |cons env r ih=>
   intro hs hl
   obtain⟨hk,⟨L,o,hf,hn,ho,hd⟩,hr⟩:=hl
   have hL:L∈X.fs:=hs L (by unfold aT;rw[List.filterMap_cons,hf];exact List.mem_cons_self)
   obtain⟨sl,e⟩:=I.base.slot L o ho (I.ok.frf L hL) hL fun z=>I.ok.exfs L z hL
   exact⟨hk,⟨L,_,hf,hn,e,hd⟩,ih (fun b hb=>hs b (by unfold aT;rw[List.filterMap_cons,hf];exact List.mem_cons_of_mem _ hb)) hr⟩
 exact all X.outer (fun _ hb=>hb) I.ok.funs
theorem Inv.stack(I:Inv X pins σ H s):s.heap.FunFrames X.base X.stack:=by
 rcases I.ok.stk with e|⟨e,hf⟩
 ·rw[e];exact I.funs
 ·rw[e]
  obtain⟨m,hn,_⟩:=I.loc
  refine .cons (by rw[I.ok.kind];decide) hf hn ?_ I.funs
  exact Heap.get?_none_of_le (Nat.le_trans I.ok.bsz I.ok.above)
theorem Inv.stkSub(I:Inv X pins σ H s):∀b∈aT X.stack,b∈X.env.locals::X.fs:=fun b hb=>by
 rcases I.ok.stk with e|⟨e,hf⟩
 ·rw[e]at hb;exact List.mem_cons_of_mem _ hb
 ·rw[e]at hb
  unfold aT at hb
  rw[List.filterMap_cons,hf]at hb
  exact hb
theorem Inv.stkFree(I:Inv X pins σ H s):∀b∈aT X.stack,H b=none:=fun b hb=>by
 rcases List.mem_cons.mp (I.stkSub b hb)with e|hb
 ·rw[e];exact I.free
 ·obtain⟨_,o,ho,_⟩:=I.ok.funs.mem hb
  exact I.base.free b o ho (I.ok.frf b hb) fun z=>I.ok.exfs b z hb
theorem Inv.step{g':Array GenState}{t':Nat}{d':Drawn}{ch:List Addr}(I:Inv X pins σ H s)
  (hch:∀b∈ch,(b∈X.ex\/X.s₀.heap.objs.size<=b)/\b≠X.env.locals/\(∀x c,X.env.cells.lookup x=some c->c≠b)/\∀p∈X.pn++pins,p.1≠b)
  (keep:∀b o,b≠X.env.locals->b∉X.fs->b∉ch->s.heap.get? b=some o->H b=none->h'.get? b=some o)
  (slot:∀b o,b≠X.env.locals->b∈X.fs->b∉ch->s.heap.get? b=some o->H b=none->∃sl,h'.get? b=some {o with slots:=sl})(free:∀b o,b∉ch->s.heap.get? b=some o->H b=none->H' b=none)
  (there:∀b o,b∉ch->s.heap.get? b=some o->∃o',h'.get? b=some o')
  (tups:∀b xs,H b=some (.tup xs)->H' b=some (.tup xs))(frzs:∀b o u,H b=some (.frz o u)->H' b=some (.frz o u))(tbls:∀b ps,H b=some (.tbl ps)->∃more,H' b=some (.tbl (ps++more)))
  (ns:∀m,s.heap.Ns X.env.locals m->h'.Ns X.env.locals m)(hok:HOk X.prog X.w H' h')(hg:AllBare g'):
  Inv X pins σ H' {s with heap:=h',gens:=g',drawn:=d',toks:=t'}:=by
 have neL:∀b o,X.s₀.heap.get? b=some o->b≠X.env.locals:=fun b o e=>Nat.ne_of_lt (Nat.lt_of_lt_of_le (Heap.lt_size e) I.ok.above)
 have neC:∀b o,X.s₀.heap.get? b=some o->b∉X.ex->b∉ch:=fun b o e hx hb=>by
  rcases(hch b hb).1 with z|z
  ·exact hx z
  ·exact absurd (Nat.lt_of_lt_of_le (Heap.lt_size e) z) (Nat.lt_irrefl _)
 have cellK:∀x c,X.env.cells.lookup x=some c->∀v,s.heap.IsCell c v->h'.IsCell c v:=fun x c e v ⟨o,ho,hd⟩=>by
  have nch:c∉ch:=fun z=>(hch c z).2.2.1 x c e rfl
  by_cases hc:c∈X.fs
  ·obtain⟨sl,q⟩:=slot c o (I.cne x c e) hc nch ho (I.freeC x c e)
   exact⟨_,q,hd⟩
  ·exact⟨o,keep c o (I.cne x c e) hc nch ho (I.freeC x c e),hd⟩
 refine⟨I.ok,I.os,hg,⟨fun b o e n hb hx=>?_,fun b o e n hb hx=>?_,fun b o e n hx=>?_,fun b o e hx=>?_,fun b xs e=>tups b xs (I.base.tups b xs e),fun b o xs e=>frzs b o xs (I.base.frzs b o xs e),fun b ps e=>?_⟩,?_,fun x c e=>?_,?_,fun x c e=>?_,fun p hp=>?_,hok,I.len⟩
 ·exact keep b o (neL b o e) hb (neC b o e hx) (I.base.keep b o e n hb hx) (I.base.free b o e n hx)
 ·obtain⟨sl,e1⟩:=I.base.slot b o e n hb hx
  obtain⟨sl',e2⟩:=slot b _ (neL b o e) hb (neC b o e hx) e1 (I.base.free b o e n hx)
  exact⟨sl',e2⟩
 ·obtain⟨o',e1⟩:=I.base.there b o e hx
  exact free b o' (neC b o e hx) e1 (I.base.free b o e n hx)
 ·obtain⟨o',e1⟩:=I.base.there b o e hx
  exact there b o' (neC b o e hx) e1
 ·obtain⟨m1,e1⟩:=I.base.tbls b ps e
  obtain⟨m2,e2⟩:=tbls b _ e1
  exact⟨m1++m2,by rw[e2,Array.append_assoc]⟩
 ·obtain⟨m,hn,hl⟩:=I.loc
  refine⟨m,ns m hn,fun i x v e1 e2 e3=>?_⟩
  obtain⟨u,r,l⟩:=hl i x v e1 e2 e3
  refine⟨u,r,?_⟩
  rcases l with l|⟨k,c,e,z⟩
  ·exact .inl l
  ·exact .inr ⟨k,c,e,cellK x c e _ z⟩
 ·obtain⟨v,z⟩:=I.cell x c e
  exact⟨v,cellK x c e v z⟩
 ·obtain⟨m,⟨o,_,_,ho,_⟩,_⟩:=I.loc
  exact free _ o (fun z=>(hch _ z).2.1 rfl) ho I.free
 ·obtain⟨v,o,ho,hd⟩:=I.cell x c e
  exact free c o (fun z=>(hch c z).2.2.1 x c e rfl) ho (I.freeC x c e)
 ·obtain⟨e,n,ne,nf,d⟩:=I.pin p hp
  have nch:p.1∉ch:=fun z=>(hch p.1 z).2.2.2 p hp rfl
  exact⟨keep p.1 p.2 ne nf nch e n,free p.1 p.2 nch e n,ne,nf,d⟩
theorem Inv.un{t':Nat}(I:Inv X pins σ H s)(u:Un X.fs [] H H' s.heap h')(hok:HOk X.prog X.w H' h'):Inv X pins σ H' {s with heap:=h',toks:=t'}:=by
 obtain⟨m,⟨o,es,ep,ho,r⟩,_⟩:=id I.loc
 obtain⟨sl,hL⟩:=u.any ho I.free (by simp)
 exact I.step (g':=s.gens) (d':=s.drawn) (ch:=[]) (fun _ z=>nomatch z) (fun b o _ hb _ e n=>u.keep b o e n hb (by simp)) (fun b o _ hb _ e n=>u.slot b o e n hb (by simp)) (fun b o _ e n=>u.free b o e n (by simp)) (fun b o _ e=>u.there b o e (by simp)) u.tups u.frzs u.tbls (fun m' hm=>by
  obtain⟨o',es',ep',ho',r'⟩:=hm
  rw[ho]at ho';cases ho'
  exact⟨_,es',ep',hL,r'⟩) hok I.bare
theorem Inv.call{g':Array GenState}{t':Nat}{d':Drawn}{ch:List Addr}(I:Inv X pins σ H s)(u:Un (aT X.stack) ch H H' s.heap h')(hok:HOk X.prog X.w H' h')(hg:AllBare g')
  (hch:∀b∈ch,(b∈X.ex\/X.s₀.heap.objs.size<=b)/\b≠X.env.locals/\(∀x c,X.env.cells.lookup x=some c->c≠b)/\∀p∈X.pn++pins,p.1≠b):
  Inv X pins σ H' {s with heap:=h',gens:=g',drawn:=d',toks:=t'}:=by
 obtain⟨m,⟨o,es,ep,ho,r⟩,_⟩:=id I.loc
 obtain⟨sl,hL⟩:=u.any ho I.free fun z=>(hch _ z).2.1 rfl
 exact I.step (ch:=ch) hch (fun b o hL hb hc e n=>u.keep b o e n (fun z=>(List.mem_cons.mp (I.stkSub b z)).elim hL hb) hc) (fun b o _ _ hc e n=>u.any e n hc) (fun b o hc e n=>u.free b o e n hc) (fun b o hc e=>u.there b o e hc) u.tups u.frzs u.tbls (fun m' hm=>by
  obtain⟨o',es',ep',ho',r'⟩:=hm
  rw[ho]at ho';cases ho'
  exact⟨_,es',ep',hL,r'⟩) hok hg
theorem Inv.turned{t':Nat}{it:Addr}(I:Inv X pins σ H s)(k:∀b o,b≠it->s.heap.get? b=some o->h'.get? b=some o)(hn:H it=none)(hL:it≠X.env.locals)
  (h1:it∈X.ex\/X.s₀.heap.objs.size<=it)(h2:∀x c,X.env.cells.lookup x=some c->c≠it)(h3:∀p∈X.pn++pins,p.1≠it):Inv X pins σ H {s with heap:=h',toks:=t'}:=by
 have nit:∀b u,H b=some u->b≠it:=fun b u e z=>by rw[z,hn]at e;cases e
 refine I.step (g':=s.gens) (d':=s.drawn) (ch:=[it]) (fun b hb=>?_) (fun b o _ _ hc e _=>k b o (fun z=>hc (by simp [z])) e) (fun b o _ _ hc e _=>⟨o.slots,k b o (fun z=>hc (by simp [z])) e⟩) (fun _ _ _ _ n=>n)
  (fun b o hc e=>⟨o,k b o (fun z=>hc (by simp [z])) e⟩) (fun _ _ e=>e) (fun _ _ _ e=>e) (fun b ps e=>⟨#[],by rw[e];simp⟩) (fun m hm=>?_) (fun b u e=>?_) I.bare
 ·have e:b=it:=by simpa using hb
  subst e
  exact⟨h1,hL,h2,h3⟩
 ·obtain⟨o,es,ep,ho,r⟩:=hm
  exact⟨o,es,ep,k _ o (Ne.symm hL) ho,r⟩
 ·refine(I.hok b u e).stay (fun c v hc q=>k c v ?_ q) (fun _ q=>q) fun _ _ q=>q
  rcases hc with z|z
  ·rw[z];exact nit b u e
  ·exact nit c _ z
theorem Inv.tok(I:Inv X pins σ H s)(t:Nat):Inv X pins σ H {s with toks:=t}:=I.un (h':=s.heap) (t':=t) Un.refl I.hok
theorem Inv.kept{t':Nat}(I:Inv X pins σ H s)(k:∀b u,s.heap.get? b=some u->h'.get? b=some u):Inv X pins σ H {s with heap:=h',toks:=t'}:=I.un (Un.kept k) (I.hok.kept k)
theorem Inv.laid{a:Addr}{o:HO}{t':Nat}(I:Inv X pins σ H s)(k:∀b u,s.heap.get? b=some u->h'.get? b=some u)(hp:s.heap.objs.size<=a)(new:ObjOk X.prog X.w (upd H a o) h' a o):
  Inv X pins σ (upd H a o) {s with heap:=h',toks:=t'}:=I.un (Un.laid k hp (I.hok.fresh hp)) (I.hok.laid k hp new)
theorem Inv.write{x e:Addr}{o:HO}{t':Nat}(I:Inv X pins σ H s)(mu:mO (H x))(he:e=x\/H e=some (.own x))(k:∀b u,b≠e->s.heap.get? b=some u->h'.get? b=some u)(heo:∃u,h'.get? e=some u)
  (new:ObjOk X.prog X.w (upd H x o) h' x o):Inv X pins σ (upd H x o) {s with heap:=h',toks:=t'}:=I.un (Un.write mu he k heo) (I.hok.write mu he k heo new)
theorem Inv.pins_of{pins':List (Addr×Obj)}(I:Inv X pins σ H s)(h:∀p∈pins',s.heap.get? p.1=some p.2/\H p.1=none/\p.1≠X.env.locals/\p.1∉X.fs/\∀v,p.2.data≠ .cell v):Inv X pins' σ H s:=
 ⟨I.ok,I.os,I.bare,I.base,I.loc,I.cell,I.free,I.freeC,fun p hp=>(List.mem_append.mp hp).elim (fun z=>I.pin p (List.mem_append_left _ z)) (h p),I.hok,I.len⟩
theorem iC{N:List Str}(hN:N.Nodup){i j:Nat}{x:Str}(a:N[i]? =some x)(b:N[j]? =some x):i=j:=by
 obtain⟨h1,e1⟩:=List.getElem?_eq_some_iff.mp a
 obtain⟨h2,e2⟩:=List.getElem?_eq_some_iff.mp b
 exact(List.getElem_inj hN).mp (e1.trans e2.symm)
theorem gm{M:Model}{A:Around}{E:Value->Shared->Prop}{i:Nat}{x:Str}{v:V}{u:Value}{Q:Unit->Shared->Prop}(I:Inv X pins σ H s)(hN:X.N.Nodup)(hi:X.N[i]? =some x)(hx:fK X.env.scope x)(r:RelV v u)
  (h:∀s',Inv X pins (σ.set i (some v)) H s'->(∃a,Heap.SameBut a s.heap s'.heap/\(a=X.env.locals\/X.env.cells.lookup x=some a))->Q () s')(hf:X.fn x=true\/X.env.scope.names.lookup x=some .local:=by first|exact .inl rfl|exact .inr rfl|assumption):wpAny M A (storeName X.env x u) Q E s:=by
 obtain⟨m,hn,hl⟩:=id I.loc
 have hcls:(X.env.scope.kind== .class||(X.env.scope.kind== .module&&X.env.locals != X.env.globals))=false:=by rw[I.ok.kind];rfl
 have hiσ:i<σ.length:=by rw[I.len];exact(List.getElem?_eq_some_iff.mp hi).1
 have cne:=I.cne
 have tracked:∀{a:Addr} {h':Heap},(∃o,s.heap.get? a=some o/\H a=none)->Heap.SameBut a s.heap h'->HOk X.prog X.w H h':=fun{a h'} ha hs b ob e=>by
  obtain⟨_,_,hfree⟩:=ha
  refine(I.hok b ob e).stay (fun c w' hc q=>(hs.2 c ?_).trans q) (fun _ q=>q) fun _ _ q=>q
  rintro rfl
  rcases hc with rfl|hc
  ·rw[hfree]at e;cases e
  ·rw[hfree]at hc;cases hc
 rcases hx with hk|hk
 ·refine wpAny_storeName_local hk hn (fun h' hn' hs=>?_) hcls
  obtain⟨oL,_,_,hoL,_⟩:=id hn
  refine h _ ⟨I.ok,I.os,I.bare,⟨fun b o e n hb hx=>?_,fun b o e n hb hx=>?_,I.base.free,fun b o e hx=>?_,I.base.tups,I.base.frzs,I.base.tbls⟩,⟨_,hn',fun j y v' e1 e2 e3=>?_⟩,fun y c e=>?_,I.free,I.freeC,fun p hp=>?_,tracked ⟨oL,hoL,I.free⟩ hs,by simpa using I.len⟩ ⟨_,hs,.inl rfl⟩
  ·exact(hs.2 b (Nat.ne_of_lt (Nat.lt_of_lt_of_le (Heap.lt_size e) I.ok.above))).trans (I.base.keep b o e n hb hx)
  ·obtain⟨sl,e1⟩:=I.base.slot b o e n hb hx
   exact⟨sl,(hs.2 b (Nat.ne_of_lt (Nat.lt_of_lt_of_le (Heap.lt_size e) I.ok.above))).trans e1⟩
  ·obtain⟨o',e1⟩:=I.base.there b o e hx
   exact⟨o',(hs.2 b (Nat.ne_of_lt (Nat.lt_of_lt_of_le (Heap.lt_size e) I.ok.above))).trans e1⟩
  ·by_cases hj:j=i
   ·subst hj
    rw[hi]at e1;cases e1
    rw[List.getElem?_set_self hiσ]at e2
    cases e2
    exact⟨u,r,.inl ⟨hk,by simp⟩⟩
   ·rw[List.getElem?_set_ne (Ne.symm hj)]at e2
    obtain⟨u',r',q⟩:=hl j y v' e1 e2 e3
    refine⟨u',r',?_⟩
    rcases q with⟨k,e⟩|⟨k,c,e,z⟩
    ·refine .inl ⟨k,?_⟩
     have:y≠x:=fun e=>hj (iC hN e1 (e▸hi))
     simp [this,e]
    ·exact .inr ⟨k,c,e,z.sameBut hs (cne y c e)⟩
  ·obtain⟨w',z⟩:=I.cell y c e
   exact⟨w',z.sameBut hs (cne y c e)⟩
  ·obtain⟨e,n,ne,nf,d⟩:=I.pin p hp
   exact⟨(hs.2 p.1 ne).trans e,n,ne,nf,d⟩
 ·have hfn:X.fn x=true:=by
   rcases hf with z|z
   ·exact z
   ·rw[z]at hk;cases hk
  obtain⟨c,hc⟩:=I.ok.has x (.inl hk)
  obtain⟨w',z⟩:=I.cell x c hc
  refine wpAny_storeName_cell I.ok.kind hk hc z (fun h' hc' hs=>?_)
  obtain⟨oc,hoc,hocd⟩:=id z
  refine h {s with heap:=h'} ⟨I.ok,I.os,I.bare,⟨fun b o e n hb hx=>?_,fun b o e n hb hx=>?_,I.base.free,fun b o e hx=>?_,I.base.tups,I.base.frzs,I.base.tbls⟩,⟨m,hn.sameBut hs (Ne.symm (cne x c hc)),fun j y v' e1 e2 e3=>?_⟩,fun y c' e=>?_,I.free,I.freeC,fun p hp=>?_,tracked ⟨oc,hoc,I.freeC x c hc⟩ hs,by simpa using I.len⟩ ⟨c,hs,.inr hc⟩
  ·exact(hs.2 b (Nat.ne_of_lt (Nat.lt_of_lt_of_le (Heap.lt_size e) (I.ok.cab x c hfn hc)))).trans (I.base.keep b o e n hb hx)
  ·obtain⟨sl,e1⟩:=I.base.slot b o e n hb hx
   exact⟨sl,(hs.2 b (Nat.ne_of_lt (Nat.lt_of_lt_of_le (Heap.lt_size e) (I.ok.cab x c hfn hc)))).trans e1⟩
  ·obtain⟨o',e1⟩:=I.base.there b o e hx
   exact⟨o',(hs.2 b (Nat.ne_of_lt (Nat.lt_of_lt_of_le (Heap.lt_size e) (I.ok.cab x c hfn hc)))).trans e1⟩
  ·by_cases hj:j=i
   ·subst hj
    rw[hi]at e1;cases e1
    rw[List.getElem?_set_self hiσ]at e2
    cases e2
    exact⟨u,r,.inr ⟨.inl hk,c,hc,hc'⟩⟩
   ·rw[List.getElem?_set_ne (Ne.symm hj)]at e2
    obtain⟨u',r',q⟩:=hl j y v' e1 e2 e3
    refine⟨u',r',?_⟩
    rcases q with q|⟨k,c',e,z'⟩
    ·exact .inl q
    ·refine .inr ⟨k,c',e,z'.sameBut hs ?_⟩
     rintro rfl
     exact hj (iC hN e1 (I.ok.inj _ _ _ e hc▸hi))
  ·by_cases hcc:c'=c
   ·subst hcc;exact⟨_,hc'⟩
   ·obtain⟨w2,z2⟩:=I.cell y c' e
    exact⟨w2,z2.sameBut hs hcc⟩
  ·obtain⟨e,n,ne,nf,d⟩:=I.pin p hp
   refine⟨(hs.2 p.1 ?_).trans e,n,ne,nf,d⟩
   intro q
   rw[q,hoc]at e
   have q':oc=p.2:=Option.some.inj e
   exact d w' (by rw[<- q'];exact hocd)
theorem iI{M:Model}{A:Around}{E:Value->Shared->Prop}{i:Nat}{x:Str}{v:V}{u:Value}{Q:Unit->Shared->Prop}(I:Inv X pins σ H s)(hN:X.N.Nodup)(hi:X.N[i]? =some x)(hx:fK X.env.scope x)(r:RelV v u)
  (h:∀s',Inv X pins (σ.set i (some v)) H s'->Q () s')(hf:X.fn x=true\/X.env.scope.names.lookup x=some .local:=by first|exact .inl rfl|exact .inr rfl|assumption):wpAny M A (storeName X.env x u) Q E s:=
 gm I hN hi hx r (fun s' I' _=>h s' I') hf
theorem Inv.call'{s':Shared}{ch:List Addr}(I:Inv X pins σ H s)(ho:s'.os=s.os)(u:Un (aT X.stack) ch H H' s.heap s'.heap)(hok:HOk X.prog X.w H' s'.heap)(hg:AllBare s'.gens)
  (hch:∀b∈ch,(b∈X.ex\/X.s₀.heap.objs.size<=b)/\b≠X.env.locals/\(∀x c,X.env.cells.lookup x=some c->c≠b)/\∀p∈X.pn++pins,p.1≠b):Inv X pins σ H' s':=by
 obtain⟨h',g',d',t',o'⟩:=s'
 have e:o'=s.os:=ho
 subst e
 exact I.call (g':=g') (t':=t') (d':=d') u hok hg hch
end
abbrev XK:=Value->Option Addr->Hp->Prop
abbrev St:=List (Option V)
abbrev VK:=V->Hp->Prop
abbrev TE:=St->Hp->VK->Prop
abbrev TT:=St->Hp->(Bool->Hp->Prop)->Prop
abbrev TA:=St->Hp->(List V->Hp->Prop)->Prop
structure Ends where
 nx:St->Hp->Prop
 rt:VK
 bk:St->Hp->Prop:=fun _ _=>False
 ct:St->Hp->Prop:=fun _ _=>False
abbrev TS:=Ends->St->Hp->Prop
def EP(X:Cx)(pins:List (Addr×Obj))(σ:St)(Q:VK)(u:Value)(s':Shared):Prop:=∃v H',Inv X pins σ H' s'/\RelV v u/\Q v H'
def TP(X:Cx)(pins:List (Addr×Obj))(σ:St)(Q:Bool->Hp->Prop)(b:Bool)(s':Shared):Prop:=∃H',Inv X pins σ H' s'/\Q b H'
def AP(X:Cx)(pins:List (Addr×Obj))(σ:St)(Q:List V->Hp->Prop)(us:List Value)(s':Shared):Prop:=∃vs H',Inv X pins σ H' s'/\Vals vs us/\Q vs H'
def SP(X:Cx)(pins:List (Addr×Obj))(D:Ends)(f:Flow)(s':Shared):Prop:=
 match f with
 | .next=>∃σ' H',Inv X pins σ' H' s'/\D.nx σ' H'
 | .brk=>∃σ' H',Inv X pins σ' H' s'/\D.bk σ' H'
 | .cont=>∃σ' H',Inv X pins σ' H' s'/\D.ct σ' H'
 | .ret u=>∃v σ' H',Inv X pins σ' H' s'/\RelV v u/\D.rt v H'
def PE(X:Cx)(e:Expr)(t:TE):Prop:=
 ∀(pins:List (Addr×Obj)) (s:Shared) (σ:St) (H:Hp) (Q:VK),Inv X pins σ H s->t σ H Q->wpAny (model X.prog X.w) X.A (eval e X.env) (EP X pins σ Q) X.xe s
def PT(X:Cx)(e:Expr)(t:TT):Prop:=
 ∀(pins:List (Addr×Obj)) (s:Shared) (σ:St) (H:Hp) (Q:Bool->Hp->Prop),Inv X pins σ H s->t σ H Q->wpAny (model X.prog X.w) X.A (isTrue e X.env (eval e X.env)) (TP X pins σ Q) X.xe s
def PW(X:Cx)(e:Expr)(t:TT):Prop:=
 ∀(whole:Sem Value) (pins:List (Addr×Obj)) (s:Shared) (σ:St) (H:Hp) (Q:Bool->Hp->Prop),Inv X pins σ H s->t σ H Q->wpAny (model X.prog X.w) X.A (isTrue e X.env whole) (TP X pins σ Q) X.xe s
theorem PW.pt{X:Cx}{e:Expr}{t:TT}(h:PW X e t):PT X e t:=h _
def PA(X:Cx)(es:List Expr)(t:TA):Prop:=
 ∀(pos:Pos) (pins:List (Addr×Obj)) (s:Shared) (σ:St) (H:Hp) (Q:List V->Hp->Prop),Inv X pins σ H s->t σ H Q->wpAny (model X.prog X.w) X.A (spliced (backTo pos (starEach es X.env))) (AP X pins σ Q) X.xe s
def PS(X:Cx)(st:Stmt)(t:TS):Prop:=
 ∀(pins:List (Addr×Obj)) (s:Shared) (σ:St) (H:Hp) (D:Ends),Inv X pins σ H s->t D σ H->wpAny (model X.prog X.w) X.A (exec st X.env) (SP X pins D) X.xe s
def PSs(X:Cx)(st:List Stmt)(t:TS):Prop:=
 ∀(pins:List (Addr×Obj)) (s:Shared) (σ:St) (H:Hp) (D:Ends),Inv X pins σ H s->t D σ H->wpAny (model X.prog X.w) X.A (execs st X.env) (SP X pins D) X.xe s
theorem qB{α:Type}{t:Sem α}{Q Q':α->Shared->Prop}{M:Model}{A:Around}{E:Value->Shared->Prop}{s:Shared}(h:wpAny M A t Q E s)(hQ:∀a s,Q a s->Q' a s):wpAny M A t Q' E s:=wpAny_mono h hQ fun _ _ x=>x
section
variable{X:Cx}
def tV(i:Nat):TE:=fun σ H Q=>∃v,σ[i]? =some (some v)/\Q v H
def tC(v:V):TE:=fun _ H Q=>Q v H
theorem vB{i:Nat}{x:Str}{pos:Pos}(hN:X.N[i]? =some x)(hv:uH X.env.scope x)(hd:(x==("__debug__":Str))=false:=by decide)(hcd:(x==("__classdict__":Str))=false:=by decide):PE X (.Name x pos) (tV i):=by
 intro pins s σ H Q I h
 obtain⟨v,e,h⟩:=h
 obtain⟨m,hn,hl⟩:=I.loc
 obtain⟨u,r,l⟩:=hl i x v hN e hv
 have fin:EP X pins σ Q u s:=⟨v,H,I,r,h⟩
 rcases l with⟨hk,hm⟩|⟨hk,c,hc,hcell⟩
 ·exact wpAny_Name (wpAny_loadName_local I.ok.kind hk hn hm fin) hd
 ·rcases hk with hk|hk
  ·exact wpAny_Name (wpAny_loadName_cell I.ok.kind hk hc hcell fin) hd
  ·exact wpAny_Name (wpAny_loadName_free I.ok.kind hk hc hcell fin hcd) hd
theorem vE{i j pos}:PE X (.Constant (.int i) j pos) (tC (.int i)):=fun _ _ _ H _ I h=>wpAny_Constant_int ⟨.int i,H,I.tok _,⟨_,rfl⟩,h⟩
theorem vH{b j pos}:PE X (.Constant (.bool b) j pos) (tC (.bl b)):=fun _ _ _ H _ I h=>Constant_bool ⟨.bl b,H,I,rfl,h⟩
theorem tR{j pos}:PE X (.Constant .none j pos) (tC .non):=fun _ _ _ H _ I h=>Constant_none ⟨.non,H,I,rfl,h⟩
theorem tN{x j pos}:PE X (.Constant (.str x) j pos) (tC (.str x)):=fun _ _ _ H _ I h=>Calls.Constant_str ⟨.str x,H,I.tok _,⟨_,rfl⟩,h⟩
def Gl(X:Cx)(x:Str):Prop:=X.env.kindOf x=some .globalImplicit
theorem eK{E:Value->Shared->Prop}{pins:List (Addr×Obj)}{s:Shared}{σ:St}{H:Hp}{x:Str}{u:Value}{pos:Pos}{Q:Value->Shared->Prop}(I:Inv X pins σ H s)(hg:Gl X x)(hm:X.mg x=some u)(h:Q u s)
  (hd:(x==("__debug__":Str))=false:=by decide):wpAny (model X.prog X.w) X.A (eval (.Name x pos) X.env) Q E s:=
 Calls.Name_function_global I.ok.kind hg (Calls.loadGlobal_global (by rw[I.ok.glob];exact I.mod.glob.keeps I.bk) hm h) hd
theorem Zd{E:Value->Shared->Prop}{pins:List (Addr×Obj)}{s:Shared}{σ:St}{H:Hp}{x:Str}{u:Value}{pos:Pos}{Q:Value->Shared->Prop}(I:Inv X pins σ H s)(hg:Gl X x)(hm:X.mg x=none)(hv:bootBuiltins x=some u)(h:Q u s)
  (hn:x≠"__name__":=by decide)(hd:(x==("__debug__":Str))=false:=by decide):wpAny (model X.prog X.w) X.A (eval (.Name x pos) X.env) Q E s:=by
 obtain⟨mb,h1,h2⟩:=I.mod.blt
 exact Calls.Name_function_global I.ok.kind hg (Calls.loadGlobal_builtin (by rw[I.ok.glob];exact I.mod.glob.keeps I.bk) hm (by rw[I.ok.blt];exact h1.keeps I.bk) ((h2 x hn).trans hv) h) hd
theorem rL{x:Str}{v:V}{u:Value}{pos:Pos}(hg:Gl X x)(hm:X.mg x=some u)(r:RelV v u)(hd:(x==("__debug__":Str))=false:=by decide):PE X (.Name x pos) (tC v):=
 fun _ _ _ H _ I h=>eK I hg hm ⟨v,H,I,r,h⟩ hd
theorem tH{x:Str}{v:V}{u:Value}{pos:Pos}(hg:Gl X x)(hm:X.mg x=none)(hv:bootBuiltins x=some u)(r:RelV v u)(hn:x≠"__name__":=by decide)(hd:(x==("__debug__":Str))=false:=by decide):PE X (.Name x pos) (tC v):=
 fun _ _ _ H _ I h=>Zd I hg hm hv ⟨v,H,I,r,h⟩ hn hd
variable{a b:Expr}{ta tb:TE}{pos:Pos}
def PC(X:Cx)(op:CmpOp)(a b:Expr)(t:TE):Prop:=
 ∀(pins:List (Addr×Obj)) (s:Shared) (σ:St) (H:Hp) (Q:VK),Inv X pins σ H s->t σ H Q->
  wpAny (model X.prog X.w) X.A (eval a X.env) (fun v s₁=>wpAny (model X.prog X.w) X.A (eval b X.env) (fun u s₂=>wpAny (model X.prog X.w) X.A (compareOp op v u) (EP X pins σ Q) X.xe s₂) X.xe s₁) X.xe s
def tB(t:TE):TT:=fun σ H Q=>t σ H fun x H1=>∃c,x= .bl c/\Q c H1
theorem m8{op:CmpOp}{t:TE}(h:PC X op a b t)(h1:behindInMarks op b=false:=by first|exact nobehind _ (by decide) (by decide)|rfl):PT X (.Compare a [op] [b] pos) (tB t):=by
 intro pins s σ H Q I hw
 refine wpAny_isTrue_Compare1 (qB (h pins s σ H _ I hw) fun v s1 h1=>qB h1 fun u s2 h2=>qB h2 fun c s3 ⟨x,H1,I1,r1,q1⟩=>?_) h1
 obtain⟨d,rfl,q⟩:=q1
 cases r1
 exact wpAny_truthy_bool ⟨H1,I1,q⟩
theorem uJ{e:Expr}{t:TE}(h:PE X e t)(he:∀whole,isTrue e X.env whole=(do let v <- whole;standAt e.pos;holding [v] (truthy v)):=by intro _;rfl):PT X e (tB t):=by
 intro pins s σ H Q I hw
 refine isTrue_plain (qB (h pins s σ H _ I hw) fun v s1 ⟨x,H1,I1,r1,q1⟩=>?_) (he _)
 obtain⟨d,rfl,q⟩:=q1
 cases r1
 exact wpAny_truthy_bool ⟨H1,I1,q⟩
variable{tA tB':TT}{rest:List Expr}
def tK(t u:TT):TT:=fun σ H Q=>t σ H fun c H1=>if c=true then u σ H1 Q else Q false H1
def wf(t u:TT):TT:=fun σ H Q=>t σ H fun c H1=>if c=true then Q true H1 else u σ H1 Q
def uN(t:TT):TT:=fun σ H Q=>t σ H fun c H1=>Q (!c) H1
theorem tD(ha:PT X a tA):PW X (.BoolOp .And [a] pos) tA:=by
 intro wh pins s σ H Q I h
 refine isTrue_and (qB (ha pins s σ H Q I h) fun c s1 e=>?_)
 cases c with
 |true=>exact isTrue_and_nil e
 |false=>exact e
theorem vp(ha:PT X a tA):PW X (.BoolOp .Or [a] pos) tA:=by
 intro wh pins s σ H Q I h
 refine isTrue_or (qB (ha pins s σ H Q I h) fun c s1 e=>?_)
 cases c with
 |false=>exact isTrue_or_nil e
 |true=>exact e
theorem tY(ha:PT X a tA)(hb:PW X (.BoolOp .And (b::rest) pos) tB'):PW X (.BoolOp .And (a::b::rest) pos) (tK tA tB'):=by
 intro wh pins s σ H Q I h
 refine isTrue_and (qB (ha pins s σ H _ I h) fun c s1 ⟨H1,I1,q1⟩=>?_)
 cases c with
 |true=>exact hb wh pins s1 σ H1 Q I1 q1
 |false=>exact⟨H1,I1,q1⟩
theorem vO(ha:PT X a tA)(hb:PW X (.BoolOp .Or (b::rest) pos) tB'):PW X (.BoolOp .Or (a::b::rest) pos) (wf tA tB'):=by
 intro wh pins s σ H Q I h
 refine isTrue_or (qB (ha pins s σ H _ I h) fun c s1 ⟨H1,I1,q1⟩=>?_)
 cases c with
 |true=>exact⟨H1,I1,q1⟩
 |false=>exact hb wh pins s1 σ H1 Q I1 q1
theorem uf(ha:PT X a tA):PT X (.UnaryOp .Not a pos) (uN tA):=by
 intro pins s σ H Q I h
 exact isTrue_not (ha pins s σ H (fun c H1=>Q (!c) H1) I h)
def lj(ta tb:TE):TE:=fun σ H Q=>ta σ H fun x H1=>∃c,x= .bl c/\if c=true then tb σ H1 Q else Q (.bl false) H1
def rg(ta:TE):TE:=fun σ H Q=>ta σ H fun x H1=>∃c,x= .bl c/\Q (.bl (!c)) H1
theorem tZ{op}{t:TE}(h:PE X a t):PE X (.BoolOp op [a] pos) t:=fun pins s σ H Q I hw=>BoolOp_one (h pins s σ H Q I hw)
theorem vf(ha:PE X a ta)(hb:PE X (.BoolOp .And (b::rest) pos) tb):PE X (.BoolOp .And (a::b::rest) pos) (lj ta tb):=by
 intro pins s σ H Q I h
 refine BoolOp_and (qB (ha pins s σ H _ I h) fun v s1 ⟨x,H1,I1,r1,q1⟩=>?_)
 obtain⟨c,rfl,q1⟩:=q1
 cases r1
 refine wpAny_truthy_bool ?_
 cases c with
 |true=>exact hb pins s1 σ H1 Q I1 q1
 |false=>exact⟨.bl false,H1,I1,rfl,q1⟩
theorem uO(ha:PE X a ta):PE X (.UnaryOp .Not a pos) (rg ta):=by
 intro pins s σ H Q I h
 refine UnaryOp_ (qB (ha pins s σ H _ I h) fun v s1 ⟨x,H1,I1,r1,q1⟩=>?_)
 obtain⟨c,rfl,q1⟩:=q1
 cases r1
 exact not_of (wpAny_truthy_bool ⟨.bl (!c),H1,I1,rfl,q1⟩)
def rz(t:TT)(ta tb:TE):TE:=fun σ H Q=>t σ H fun c H1=>if c=true then ta σ H1 Q else tb σ H1 Q
theorem ou{c:Expr}(hc:PT X c tA)(ha:PE X a ta)(hb:PE X b tb):PE X (.IfExp c a b pos) (rz tA ta tb):=by
 intro pins s σ H Q I h
 refine wpAny_IfExp (qB (hc pins s σ H _ I h) fun d s1 ⟨H1,I1,q1⟩=>?_)
 cases d with
 |true=>exact ha pins s1 σ H1 Q I1 q1
 |false=>exact hb pins s1 σ H1 Q I1 q1
end
def SqL(K:Frag)(H:Hp)(a:Addr)(xs:List V):Prop:=
 Rd H a (.lst xs)\/
  ∃(o:Obj) (its:Array Value) (n:Nat),K.lookup a=some o/\o.cls= .type "list"/\o.dict=none/\o.data= .seq its n/\its.size<=sizeLine/\Vals xs its.toList
def SqT(K:Frag)(H:Hp)(a:Addr)(xs:List V):Prop:=
 Rd H a (.tup xs)\/
  ∃(o:Obj) (its:Array Value) (n:Nat),K.lookup a=some o/\o.cls= .type "tuple"/\o.data= .seq its n/\its.size<=sizeLine/\Vals xs its.toList
def wB:Value->Option V
 | .none=>some .non
 | .bool b=>some (.bl b)
 | .int i _=>some (.int i)
 | .str x _=>some (.str x)
 | .bytes b _=>some (.byt b)
 | .float b _=>some (.flt b)
 | .ref a=>some (.ref a)
 | .type n=>some (.ty n)
 |_=>none
theorem RelV.abs{x:V}{u:Value}(r:RelV x u):wB u=some x:=by
 cases x with
 |non=>cases r;rfl
 |bl _=>cases r;rfl
 |int _=>obtain⟨t,rfl⟩:=r;rfl
 |str _=>obtain⟨t,rfl⟩:=r;rfl
 |byt _=>obtain⟨t,rfl⟩:=r;rfl
 |flt _=>obtain⟨t,rfl⟩:=r;rfl
 |ref _=>cases r;rfl
 |ty _=>cases r;rfl
theorem RelV.inj{x y:V}{u:Value}(r:RelV x u)(q:RelV y u):x=y:=Option.some.inj (r.abs.symm.trans q.abs)
theorem Vals.inj:∀{xs ys:List V} {us:List Value},Vals xs us->Vals ys us->xs=ys
 |_,_,_,.nil,.nil=>rfl
 |_,_,_,.cons r t,.cons r' t'=>by rw[r.inj r',Vals.inj t t']
section
variable{X:Cx}{pins:List (Addr×Obj)}{σ:St}{H:Hp}{s:Shared}{a:Addr}{xs ys:List V}
theorem SqL.of{K:Frag}(h:H a=some (.lst xs)):SqL K H a xs:= .inl (.inl h)
theorem SqT.of{K:Frag}(h:H a=some (.tup xs)):SqT K H a xs:= .inl (.inl h)
theorem Inv.list(I:Inv X pins σ H s)(h:SqL X.K H a xs):∃its:List Value,Vals xs its/\PlainL s.heap a its.toArray/\xs.length<=sizeLine:=by
 rcases h with h|⟨o,its,n,hk,hc,hd,hs,hz,r⟩
 ·obtain⟨z,its,n,r,e⟩:=h.ok I.hok
  exact⟨its,r,⟨_,n,e,rfl,rfl,rfl⟩,z⟩
 ·refine⟨its.toList,r,⟨o,n,I.kIn a o hk,hc,hd,by simpa using hs⟩,?_⟩
  have e:=r.length
  simp only[Array.length_toList]at e
  omega
theorem Inv.tuple(I:Inv X pins σ H s)(h:SqT X.K H a xs):∃its:List Value,Vals xs its/\IsTup s.heap a its.toArray/\xs.length<=sizeLine:=by
 rcases h with h|⟨o,its,n,hk,hc,hs,hz,r⟩
 ·obtain⟨z,its,r,p⟩:=h.ok I.hok
  exact⟨its,r,p,z⟩
 ·refine⟨its.toList,r,⟨o,I.kIn a o hk,hc,n,by simpa using hs⟩,?_⟩
  have e:=r.length
  simp only[Array.length_toList]at e
  omega
theorem Inv.list_inj(I:Inv X pins σ H s)(h:SqL X.K H a xs)(h':SqL X.K H a ys):xs=ys:=by
 obtain⟨its,r,⟨o,n,e,_,_,d⟩,_⟩:=I.list h
 obtain⟨its',r',⟨o',n',e',_,_,d'⟩,_⟩:=I.list h'
 rw[e]at e';cases e'
 rw[d]at d'
 injection d' with d1 _
 have:its=its':=by simpa using congrArg Array.toList d1
 subst this
 exact r.inj r'
theorem Inv.tuple_inj(I:Inv X pins σ H s)(h:SqT X.K H a xs)(h':SqT X.K H a ys):xs=ys:=by
 obtain⟨its,r,⟨o,e,_,n,d⟩,_⟩:=I.tuple h
 obtain⟨its',r',⟨o',e',_,n',d'⟩,_⟩:=I.tuple h'
 rw[e]at e';cases e'
 rw[d]at d'
 injection d' with d1 _
 have:its=its':=by simpa using congrArg Array.toList d1
 subst this
 exact r.inj r'
end
abbrev Cx.wish(X:Cx)(E:Value->Shared->Prop):Cx:={X with xe:=E}
abbrev Cx.nox(X:Cx):Cx:=X.wish fun _ _=>False
theorem Cx.Ok.wish{X:Cx}(ok:X.Ok)(E:Value->Shared->Prop):(X.wish E).Ok:=
 ⟨ok.mod,ok.kind,ok.glob,ok.blt,ok.above,ok.inj,ok.has,ok.cab,ok.hd,ok.frames,ok.stk,ok.exf,ok.bs,ok.bsz,ok.noex,ok.exfs,ok.funs,ok.frf⟩
theorem Cx.Ok.unwish{X:Cx}{E:Value->Shared->Prop}(ok:(X.wish E).Ok):X.Ok:=
 ⟨ok.mod,ok.kind,ok.glob,ok.blt,ok.above,ok.inj,ok.has,ok.cab,ok.hd,ok.frames,ok.stk,ok.exf,ok.bs,ok.bsz,ok.noex,ok.exfs,ok.funs,ok.frf⟩
section
variable{X:Cx}{pins:List (Addr×Obj)}{σ:St}{H:Hp}{s:Shared}{E:Value->Shared->Prop}
theorem Inv.wish(I:Inv X pins σ H s)(E:Value->Shared->Prop):Inv (X.wish E) pins σ H s:=⟨I.ok.wish E,I.os,I.bare,I.base,I.loc,I.cell,I.free,I.freeC,I.pin,I.hok,I.len⟩
theorem Inv.unwish(I:Inv (X.wish E) pins σ H s):Inv X pins σ H s:=⟨I.ok.unwish,I.os,I.bare,I.base,I.loc,I.cell,I.free,I.freeC,I.pin,I.hok,I.len⟩
theorem SP.unwish{D:Ends}{f:Flow}{s':Shared}(h:SP (X.wish E) pins D f s'):SP X pins D f s':=by
 cases f with
 |next=>obtain⟨σ',H',I,q⟩:=h;exact⟨σ',H',I.unwish,q⟩
 |brk=>obtain⟨σ',H',I,q⟩:=h;exact⟨σ',H',I.unwish,q⟩
 |cont=>obtain⟨σ',H',I,q⟩:=h;exact⟨σ',H',I.unwish,q⟩
 |ret u=>obtain⟨v,σ',H',I,r,q⟩:=h;exact⟨v,σ',H',I.unwish,r,q⟩
theorem PSs.nox{st:List Stmt}{t:TS}(h:PSs X.nox st t):PSs X st t:=fun pins s σ H D I hw=>
 wpAny_mono (h pins s σ H D (I.wish _) hw) (fun _ _ q=>q.unwish) fun _ _ z=>False.elim z
end
section
variable{X:Cx}{st:Stmt}{rest:List Stmt}{t u:TS}{e:Expr}{te:TE}{pos:Pos}
def km:TS:=fun D σ H=>D.nx σ H
def cE(t u:TS):TS:=fun D σ H=>t {D with nx:=u D} σ H
theorem rG:PSs X [] km:=fun _ _ σ H _ I h=>wpAny_execs_nil ⟨σ,H,I,h⟩
theorem oX(h1:PS X st t)(h2:PSs X rest u):PSs X (st::rest) (cE t u):=by
 intro pins s σ H D I h
 refine wpAny_execs_cons (qB (h1 pins s σ H {D with nx:=u D} I h) fun f s1 q=>?_)
 cases f with
 |next=>
  obtain⟨σ',H',I',q⟩:=q
  exact h2 pins s1 σ' H' D I' q
 |ret v=>exact q
 |brk=>exact q
 |cont=>exact q
theorem rT(h1:PS X st t):PSs X [st] t:=by
 intro pins s σ H D I h
 refine wpAny_execs_cons (qB (h1 pins s σ H D I h) fun f s1 q=>?_)
 cases f with
 |next=>exact wpAny_execs_nil q
 |ret v=>exact q
 |brk=>exact q
 |cont=>exact q
theorem Inv.quiet{pins:List (Addr×Obj)}{σ:St}{H:Hp}{s:Shared}(I:Inv X pins σ H s):interactive X.env=false:=by simp [interactive,I.ok.kind]
def pR(te:TE):TS:=fun D σ H=>te σ H fun _ H1=>D.nx σ H1
theorem sv(he:PE X e te)(hs:swapsWith e none pos.line X.env=pure false:=by rfl):PS X (.Expr e pos) (pR te):=by
 intro pins s σ H D I h
 exact wpAny_Expr_any (qB (he pins s σ H _ I h) fun v s1 ⟨x,H1,I1,r1,q1⟩=>⟨σ,H1,I1,q1⟩) I.quiet hs
def ve(te:TE):TS:=fun D σ H=>te σ H D.rt
theorem uI(he:PE X e te):PS X (.Return (some e) pos) (ve te):=by
 intro pins s σ H D I h
 exact wpAny_Return_some (qB (he pins s σ H _ I h) fun v s1 ⟨x,H1,I1,r1,q1⟩=>⟨x,σ,H1,I1,r1,q1⟩)
def ip(c:TT)(t u:TS):TS:=fun D σ H=>c σ H fun b H1=>if b=true then t D σ H1 else u D σ H1
theorem vU{c:Expr}{a b:List Stmt}{tc:TT}(hc:PT X c tc)(ha:PSs X a t)(hb:PSs X b u):PS X (.If c a b pos) (ip tc t u):=by
 intro pins s σ H D I h
 refine wpAny_If (qB (hc pins s σ H _ I h) fun d s1 ⟨H1,I1,q1⟩=>?_)
 cases d with
 |true=>exact ha pins s1 σ H1 D I1 q1
 |false=>exact hb pins s1 σ H1 D I1 q1
def mH:TS:=fun _ _ _=>False
theorem mY{sts:List Stmt}:PSs X sts mH:=fun _ _ _ _ _ _ h=>h.elim
end
abbrev TG:=V->St->Hp->(St->Hp->Prop)->Prop
abbrev ZJ:=List V->St->Hp->(St->Hp->Prop)->Prop
def PG(X:Cx)(target:Expr)(t:TG):Prop:=
 ∀(pins:List (Addr×Obj)) (s:Shared) (σ:St) (H:Hp) (v:V) (u:Value) (Q:St->Hp->Prop),Inv X pins σ H s->RelV v u->t v σ H Q->
  wpAny (model X.prog X.w) X.A (assign target X.env u) (fun _ s'=>∃σ' H',Inv X pins σ' H' s'/\Q σ' H') X.xe s
def kh(X:Cx)(ts:List Expr)(t:ZJ):Prop:=
 ∀(pins:List (Addr×Obj)) (s:Shared) (σ:St) (H:Hp) (vs:List V) (us:List Value) (Q:St->Hp->Prop),Inv X pins σ H s->Vals vs us->t vs σ H Q->
  wpAny (model X.prog X.w) X.A (assignInOrder ((assignEach ts X.env).map (·.2)) us) (fun _ s'=>∃σ' H',Inv X pins σ' H' s'/\Q σ' H') X.xe s
abbrev cQ:=V->V->V->Hp->(Hp->Prop)->Prop
def jb(X:Cx)(t:cQ):Prop:=
 ∀(pins:List (Addr×Obj)) (s:Shared) (σ:St) (H:Hp) (o i v:V) (ov iv u:Value) (Q:Hp->Prop),Inv X pins σ H s->RelV o ov->RelV i iv->RelV v u->t o i v H Q->
  wpAny (model X.prog X.w) X.A (setItem ov iv u) (fun _ s'=>∃H',Inv X pins σ H' s'/\Q H') X.xe s
abbrev mE:=V->V->Hp->VK->Prop
def ui(X:Cx)(op:Operator)(t:mE):Prop:=
 ∀(pins:List (Addr×Obj)) (s:Shared) (σ:St) (H:Hp) (x y:V) (v u:Value) (Q:VK),Inv X pins σ H s->RelV x v->RelV y u->t x y H Q->
  wpAny (model X.prog X.w) X.A (inplaceOp op v u) (EP X pins σ Q) X.xe s
section
variable{X:Cx}{pos:Pos}
def Q8(i:Nat):TG:=fun v σ H Q=>Q (σ.set i (some v)) H
theorem rM{i:Nat}{x:Str}(hN:X.N.Nodup)(hi:X.N[i]? =some x)(hx:fK X.env.scope x)(hf:X.fn x=true\/X.env.scope.names.lookup x=some .local:=by first|exact .inl rfl|exact .inr rfl|assumption):PG X (.Name x pos) (Q8 i):=by
 intro pins s σ H v u Q I r h
 exact wpAny_assign_Name (iI I hN hi hx r (fun s' I'=>⟨_,H,I',h⟩) hf)
def oh:ZJ:=fun vs σ H Q=>vs=[]/\Q σ H
def gK(t:TG)(u:ZJ):ZJ:=fun vs σ H Q=>∃v r,vs=v::r/\t v σ H fun σ' H'=>u r σ' H' Q
theorem tz:kh X [] oh:=by
 intro pins s σ H vs us Q I r h
 obtain⟨e,h⟩:=h
 subst e
 cases r
 exact assignInOrder_nil ⟨σ,H,I,h⟩
theorem oj{e:Expr}{es:List Expr}{t:TG}{u:ZJ}(h1:PG X e t)(h2:kh X es u)
  (hs:(assignEach (e::es) X.env).map (·.2)=assign e X.env::(assignEach es X.env).map (·.2):=by rfl):kh X (e::es) (gK t u):=by
 intro pins s σ H vs us Q I r h
 obtain⟨v,vr,e1,h⟩:=h
 subst e1
 cases r with
 |cons r rr=>
  rw[hs]
  refine assignInOrder_cons (qB (h1 pins s σ H _ _ _ I r h) fun _ s1 ⟨σ1,H1,I1,q1⟩=>?_)
  exact h2 pins s1 σ1 H1 _ _ Q I1 rr q1
def kE(K:Frag)(n:Nat)(t:ZJ):TG:=fun v σ H Q=>∃a xs,v= .ref a/\SqT K H a xs/\xs.length=n/\t xs σ H Q
theorem iM{es:List Expr}{k:Nat}{t:ZJ}{n:Nat}(hc:X.calm=true)(h:kh X es t)
  (hn:(assignEach es X.env).length=n:=by rfl)(hst:(assignEach es X.env).findIdx? (·.1)=none:=by rfl):PG X (.Tuple es k pos) (kE X.K n t):=by
 intro pins s σ H v u Q I r hw
 obtain⟨a,xs,e1,hq,hl,hw⟩:=hw
 subst e1
 cases r
 obtain⟨its,rv,ht,hz⟩:=I.tuple hq
 refine assign_Tuple_tuple (I.ok.hd hc) ht (by simp [hn,<- hl,rv.length]) hst fun h' hx=>?_
 have I1:Inv X pins σ H {s with heap:=h'}:=I.kept (t':=s.toks) fun b o e=>hx b o (Nat.ne_of_lt (Heap.lt_size e)) e
 exact h pins _ σ H xs _ Q I1 (by simpa using rv) hw
def ux(to ti:TE)(t:cQ):TG:=fun v σ H Q=>to σ H fun o H1=>ti σ H1 fun i H2=>t o i v H2 fun H3=>Q σ H3
theorem vd{o i:Expr}{to ti:TE}{t:cQ}(ho:PE X o to)(hi:PE X i ti)(hs:jb X t)
  (ha:∀v,assign (.Subscript o i pos) X.env v=(do
   let ov <- holding [v] (eval o X.env)
   let iv <- holding [v,ov] (eval i X.env)
   standAt pos
   holding [v,ov,iv] (setItem ov iv v)
   release [v,ov,iv] []):=by intro _;rfl):PG X (.Subscript o i pos) (ux to ti t):=by
 intro pins s σ H v u Q I r h
 rw[ha]
 refine wpAny_bind (wpAny_holding (qB (ho pins s σ H _ I h) fun ov s1 ⟨x,H1,I1,r1,q1⟩=>?_))
 refine wpAny_bind (wpAny_holding (qB (hi pins s1 σ H1 _ I1 q1) fun iv s2 ⟨y,H2,I2,r2,q2⟩=>?_))
 refine wpAny_bind (wpAny_standAt (wpAny_bind (wpAny_holding (qB (hs pins s2 σ H2 x y v ov iv u _ I2 r1 r2 r q2) fun _ s3 ⟨H3,I3,q3⟩=>?_))))
 exact wpAny_release ⟨σ,H3,I3,q3⟩
def ff(te:TE)(g:TG):TS:=fun D σ H=>te σ H fun x H1=>g x σ H1 D.nx
theorem vt{tg e:Expr}{te:TE}{g:TG}(he:PE X e te)(hg:PG X tg g)(hs:swapsWithSole [tg] e pos.line X.env=pure false:=by rfl)(hw:swappedStores [tg] e X.env=pure none:=by rfl)
  (h1:(assignEach [tg] X.env).map (·.2)=[assign tg X.env]:=by rfl):PS X (.Assign [tg] e pos) (ff te g):=by
 intro pins s σ H D I h
 refine wpAny_Assign_stores (qB (he pins s σ H _ I h) fun v s1 ⟨x,H1,I1,r1,q1⟩=>?_) hs hw
 rw[h1]
 exact qB (hg pins s1 σ H1 x v _ I1 r1 q1) fun _ s2 q=>q
theorem uF{i:Nat}{x:Str}{e:Expr}{te:TE}{pos':Pos}(hN:X.N.Nodup)(hi:X.N[i]? =some x)(hx:fK X.env.scope x)(he:PE X e te)(hs:swapsWith e (some (.Name x pos')) pos.line X.env=pure false:=by rfl)(hf:X.fn x=true\/X.env.scope.names.lookup x=some .local:=by first|exact .inl rfl|exact .inr rfl|assumption):
  PS X (.Assign [.Name x pos'] e pos) (ff te (Q8 i)):=by
 intro pins s σ H D I h
 refine wpAny_Assign_Name (qB (he pins s σ H _ I h) fun v s1 ⟨y,H1,I1,r1,q1⟩=>?_) hs
 exact iI I1 hN hi hx r1 (fun s2 I2=>⟨_,H1,I2,q1⟩) hf
def pZ(to ti te:TE)(tget:V->V->Hp->VK->Prop)(tip:mE)(tset:cQ):TS:=fun D σ H=>to σ H fun o H1=>ti σ H1 fun i H2=>tget o i H2 fun x H3=>te σ H3 fun y H4=>tip x y H4 fun z H5=>tset o i z H5 fun H6=>D.nx σ H6
def n3(X:Cx)(t:V->V->Hp->VK->Prop):Prop:=
 ∀(pins:List (Addr×Obj)) (s:Shared) (σ:St) (H:Hp) (o i:V) (ov iv:Value) (Q:VK),Inv X pins σ H s->RelV o ov->RelV i iv->t o i H Q->
  wpAny (model X.prog X.w) X.A (getItem ov iv) (EP X pins σ Q) X.xe s
theorem sK{o i e:Expr}{to ti te:TE}{tget:V->V->Hp->VK->Prop}{tip:mE}{tset:cQ}{op:Operator}{tpos:Pos}(ho:PE X o to)(hi:PE X i ti)(hg:n3 X tget)(he:PE X e te)(hp:ui X op tip)(hs:jb X tset)
  (ha:∀ov iv new,augStore i ov iv new=(do holding [new,ov,iv] (setItem ov iv new);release [new,ov,iv] [];pure .next):=by intros;rfl):PS X (.AugAssign (.Subscript o i tpos) op e pos) (pZ to ti te tget tip tset):=by
 intro pins s σ H D I h
 refine wpAny_AugAssign_SubscriptAny (qB (ho pins s σ H _ I h) fun ov s1 ⟨x1,H1,I1,r1,q1⟩=>?_) ha
 refine qB (hi pins s1 σ H1 _ I1 q1) fun iv s2 ⟨x2,H2,I2,r2,q2⟩=>?_
 refine qB (hg pins s2 σ H2 x1 x2 ov iv _ I2 r1 r2 q2) fun old s3 ⟨x3,H3,I3,r3,q3⟩=>?_
 refine qB (he pins s3 σ H3 _ I3 q3) fun v s4 ⟨x4,H4,I4,r4,q4⟩=>?_
 refine qB (hp pins s4 σ H4 x3 x4 old v _ I4 r3 r4 q4) fun new s5 ⟨x5,H5,I5,r5,q5⟩=>?_
 exact qB (hs pins s5 σ H5 x1 x2 x5 ov iv new _ I5 r1 r2 r5 q5) fun _ s6 ⟨H6,I6,q6⟩=>⟨σ,H6,I6,q6⟩
def wO(f:Int->Int->Int):mE:=fun x y H Q=>∃i j,x= .int i/\y= .int j/\Q (.int (f i j)) H
theorem tP:ui X .Add (wO fun i j=>i+j):=by
 intro pins s σ H x y v u Q I r1 r2 h
 obtain⟨i,j,e1,e2,q⟩:=h
 subst e1;subst e2
 obtain⟨t,rfl⟩:=r1
 obtain⟨t',rfl⟩:=r2
 exact iadd_int ⟨.int _,H,I.tok _,⟨_,rfl⟩,q⟩
end
structure It where
 go:Nat->Hp->Prop
 yld:Nat->Hp->V->Hp->Prop
 stop:Nat->Hp->Prop
def Ze(X:Cx)(pins:List (Addr×Obj))(H:Hp)(b:Addr):Prop:=
 H b=none/\b≠X.env.locals/\b∉X.fs/\(b∈X.ex\/X.s₀.heap.objs.size<=b)/\(∀x c,X.env.cells.lookup x=some c->c≠b)/\∀p∈X.pn++pins,p.1≠b
theorem Inv.fpOk{X:Cx}{pins:List (Addr×Obj)}{σ:St}{H H':Hp}{s:Shared}{b:Addr}(I:Inv X pins σ H s)(hb:s.heap.objs.size<=b)(hn:H' b=none):Ze X pins H' b:=by
 refine⟨hn,Nat.ne_of_gt (Nat.lt_of_lt_of_le I.lt hb),I.nofs hb,.inr (Nat.le_trans I.sz hb),fun x c e z=>?_,fun p hp z=>?_⟩
 ·obtain⟨v,q⟩:=I.cell x c e
  exact absurd (Nat.lt_of_lt_of_le q.lt (by rw[z];exact hb)) (Nat.lt_irrefl _)
 ·exact absurd (Nat.lt_of_lt_of_le (Heap.lt_size (I.pin p hp).1) (by rw[z];exact hb)) (Nat.lt_irrefl _)
structure Turn(P:Program)(w:World)(K:Frag)(tg:Expr)(J:It)(fp:List Addr)(it:Addr)(tn:Nat->Heap->Prop):Prop where
 mem:it∈fp
 obj:∀i h,tn i h->∀b∈fp,∃o,h.get? b=some o/\∀v,o.data≠ .cell v
 keep:∀i h h',tn i h->(∀b∈fp,∀o,h.get? b=some o->h'.get? b=some o)->tn i h'
 item:∀(X:Cx),X.prog=P->X.w=w->X.K=K->X.calm=true->∀(i:Nat) (pins:List (Addr×Obj)) (s:Shared) (σ:St) (H:Hp) (E:Value->Shared->Prop),Inv X pins σ H s->(∀b∈fp,Ze X pins H b)->tn i s.heap->J.go i H->
  wpAny (model P w) X.A (pyNext (.ref it)) (fun r s1=>∃u,r=some u/\
   wpAny (model P w) X.A (letOwnedTupleGo tg (.ref it) u) (fun _ s2=>∃x H',Inv X pins σ H' s2/\RelV x u/\J.yld i H x H'/\tn (i+1) s2.heap/\∀b∈fp,H' b=none) E s1) E s
 done:∀(X:Cx),X.prog=P->X.w=w->X.K=K->X.calm=true->∀(i:Nat) (pins:List (Addr×Obj)) (s:Shared) (σ:St) (H:Hp) (E:Value->Shared->Prop),Inv X pins σ H s->(∀b∈fp,Ze X pins H b)->tn i s.heap->J.stop i H->
  wpAny (model P w) X.A (pyNext (.ref it)) (fun r s1=>r=none/\Inv X pins σ H s1) E s
 self:∀(A:Around) (i:Nat) (s:Shared) (Q:Value->Shared->Prop) (E:Value->Shared->Prop),tn i s.heap->Q (.ref it) s->wpAny (model P w) A (pyIter (.ref it)) Q E s
abbrev TI:=St->Hp->(It->Hp->Prop)->Prop
def v7(X:Cx)(pins:List (Addr×Obj))(σ:St)(tg:Expr)(R:It->Hp->Prop)(itv:Value)(s2:Shared):Prop:=
 ∃(it:Addr) (fp:List Addr) (tn:Nat->Heap->Prop) (J:It) (H':Hp),itv= .ref it/\Inv X pins σ H' s2/\Turn X.prog X.w X.K tg J fp it tn/\tn 0 s2.heap/\(∀b∈fp,Ze X pins H' b)/\R J H'
def PI(X:Cx)(tg iter:Expr)(wi:TI):Prop:=
 ∀(pins:List (Addr×Obj)) (s:Shared) (σ:St) (H:Hp) (R:It->Hp->Prop),Inv X pins σ H s->wi σ H R->
  wpAny (model X.prog X.w) X.A (eval iter X.env) (fun v s1=>wpAny (model X.prog X.w) X.A (pyIter v) (v7 X pins σ tg R) X.xe s1) X.xe s
theorem av{M:Model}{A:Around}{E:Value->Shared->Prop}{s:Shared}{tg:Expr}{it:Addr}{u:Value}{o:Obj}{n:String}{vs:Array Value}{Q:Unit->Shared->Prop}(ho:s.heap.get? it=some o)(hc:o.cls= .type n)(hd:o.data= .fields vs)
    (hn:["enumerate","zip","dict_itemiterator","dict_reverseitemiterator","odict_iterator","itertools.zip_longest","itertools.pairwise"].contains n=false)(hQ:Q () s):wpAny M A (letOwnedTupleGo tg (.ref it) u) Q E s:=by
  unfold letOwnedTupleGo
  cases tg<;>first
    |exact wpAny_pure hQ
    |(cases u<;>first
        |exact wpAny_pure hQ
        | (refine wpAny_bind (wpAny_load ho ?_)
           rw[hc,hd]
           show wpAny M A (if(["enumerate","zip","dict_itemiterator","dict_reverseitemiterator","odict_iterator","itertools.zip_longest","itertools.pairwise"].contains n&&vs[0]? ==some (rawInt _))=true then _ else _) Q E s
           rw[if_neg (by intro h;rw[hn,Bool.false_and]at h;cases h)]
           exact wpAny_pure hQ))
def cf(K:Frag)(a:Addr):It:=
 ⟨fun i H=>∃xs x,SqL K H a xs/\xs[i]? =some x,fun i H x H'=>H'=H/\∀xs,SqL K H a xs->xs[i]? =some x,fun i H=>∃xs,SqL K H a xs/\xs.length<=i⟩
def et(K:Frag)(a:Addr):It:=
 ⟨fun i H=>∃xs x,SqT K H a xs/\xs[i]? =some x,fun i H x H'=>H'=H/\∀xs,SqT K H a xs->xs[i]? =some x,fun i H=>∃xs,SqT K H a xs/\xs.length<=i⟩
def jd(lo:Int)(n:Nat):It:=⟨fun i _=>i<n,fun i H x H'=>H'=H/\x= .int (lo+i),fun i _=>n<=i⟩
theorem gi{P:Program}{w:World}{K:Frag}{tg:Expr}(a it:Addr):Turn P w K tg (cf K a) [it] it (fun i h=>h.IsListIter it a i) where
 mem:=by simp
 obj:=fun i h st b hb=>by
  have e:b=it:=by simpa using hb
  subst e
  obtain⟨o,e,c,d⟩:=st
  exact⟨o,e,fun v z=>by rw[d]at z;cases z⟩
 keep:=fun i h h' st k=>st.at fun o e=>k it (by simp) o e
 item:=by
  intro X hP hw hK hc i pins s σ H E I hf st hg
  subst hP hw hK
  obtain⟨xs,x,hq,hx⟩:=hg
  obtain⟨its,rv,p,hz⟩:=I.list hq
  obtain⟨u,hu,ru⟩:=rv.get hx
  obtain⟨f0,f1,f2,f3,f4,f5⟩:=hf it (by simp)
  refine wpAny_pyNext_list_item st p.isList (x:=u) (by simpa using hu) fun h' st' sb=>?_
  have I1:Inv X pins σ H {s with heap:=h'}:=I.turned (t':=s.toks) (fun b o hb e=>(sb.2 b hb).trans e) f0 f1 f3 f4 f5
  obtain⟨o,e,c,d⟩:=id st'
  exact⟨u,rfl,av (s:={s with heap:=h'}) e c d (by decide) ⟨x,H,I1,ru,⟨rfl,fun ys hy=>by rw[I.list_inj hy hq];exact hx⟩,st',fun b hb=>(hf b hb).1⟩⟩
 done:=by
  intro X hP hw hK hc i pins s σ H E I hf st hg
  subst hP hw hK
  obtain⟨xs,hq,hx⟩:=hg
  obtain⟨its,rv,p,hz⟩:=I.list hq
  obtain⟨f0,f1,f2,f3,f4,f5⟩:=hf it (by simp)
  have hl:=rv.length
  exact wpAny_pyNext_list_end (I.ok.hd hc) st p.isList (by simp;omega) fun h' eb=>⟨rfl,I.turned (t':=s.toks) (fun b o hb e=>eb b o hb e) f0 f1 f3 f4 f5⟩
 self:=fun _ _ _ _ _ st h=>wpAny_pyIter_listiter st h
theorem c5{P:Program}{w:World}{K:Frag}{tg:Expr}(a it:Addr):Turn P w K tg (et K a) [it] it (fun i h=>h.IsTupleIter it a i) where
 mem:=by simp
 obj:=fun i h st b hb=>by
  have e:b=it:=by simpa using hb
  subst e
  obtain⟨o,e,c,d⟩:=st
  exact⟨o,e,fun v z=>by rw[d]at z;cases z⟩
 keep:=fun i h h' st k=>st.at fun o e=>k it (by simp) o e
 item:=by
  intro X hP hw hK hc i pins s σ H E I hf st hg
  subst hP hw hK
  obtain⟨xs,x,hq,hx⟩:=hg
  obtain⟨its,rv,p,hz⟩:=I.tuple hq
  obtain⟨u,hu,ru⟩:=rv.get hx
  obtain⟨f0,f1,f2,f3,f4,f5⟩:=hf it (by simp)
  refine wpAny_pyNext_tuple_item st (show s.heap.IsTuple a its.toArray from p) (x:=u) (by simpa using hu) fun h' st' sb=>?_
  have I1:Inv X pins σ H {s with heap:=h'}:=I.turned (t':=s.toks) (fun b o hb e=>(sb.2 b hb).trans e) f0 f1 f3 f4 f5
  obtain⟨o,e,c,d⟩:=id st'
  exact⟨u,rfl,av (s:={s with heap:=h'}) e c d (by decide) ⟨x,H,I1,ru,⟨rfl,fun ys hy=>by rw[I.tuple_inj hy hq];exact hx⟩,st',fun b hb=>(hf b hb).1⟩⟩
 done:=by
  intro X hP hw hK hc i pins s σ H E I hf st hg
  subst hP hw hK
  obtain⟨xs,hq,hx⟩:=hg
  obtain⟨its,rv,p,hz⟩:=I.tuple hq
  obtain⟨f0,f1,f2,f3,f4,f5⟩:=hf it (by simp)
  have hl:=rv.length
  exact wpAny_pyNext_tuple_end (I.ok.hd hc) st (show s.heap.IsTuple a its.toArray from p) (by simp;omega) fun h' eb=>⟨rfl,I.turned (t':=s.toks) (fun b o hb e=>eb b o hb e) f0 f1 f3 f4 f5⟩
 self:=fun _ _ _ _ _ st h=>wpAny_pyIter_tupleiter st h
theorem kH{P:Program}{w:World}{K:Frag}{tg:Expr}(it:Addr)(lo:Int)(n:Nat):Turn P w K tg (jd lo n) [it] it (fun i h=>IsRangeIter h it (lo+(i:Nat)*1) ((n:Int)-(i:Nat)) 1) where
 mem:=by simp
 obj:=fun i h st b hb=>by
  have e:b=it:=by simpa using hb
  subst e
  exact⟨_,st,fun v z=>by
   have z':Data.fields _=Data.cell v:=z
   cases z'⟩
 keep:=fun i h h' st k=>k it (by simp) _ st
 item:=by
  intro X hP hw hK hc i pins s σ H E I hf st hg
  subst hP hw hK
  obtain⟨f0,f1,f2,f3,f4,f5⟩:=hf it (by simp)
  have W:=Walks.range (prog:=X.prog) (w:=X.w) (I.ok.hd hc) it lo 1 n
  refine W.item i s _ _ hg st fun v h' tk hv st' kk=>?_
  obtain⟨t,rfl⟩:=hv
  have I1:Inv X pins σ H {s with heap:=h',toks:=tk}:=I.turned (fun b o hb e=>kk b o (by simpa using hb) e) f0 f1 f3 f4 f5
  refine⟨_,rfl,av (s:={s with heap:=h',toks:=tk}) (n:="range_iterator") st' rfl rfl (by decide) ⟨.int (lo+i),H,I1,⟨t,?_⟩,⟨rfl,rfl⟩,st',fun b hb=>(hf b hb).1⟩⟩
  rw[Int.mul_one]
 done:=by
  intro X hP hw hK hc i pins s σ H E I hf st hg
  subst hP hw hK
  obtain⟨f0,f1,f2,f3,f4,f5⟩:=hf it (by simp)
  exact wpAny_pyNext_range_end (I.ok.hd hc) st (by have:n<=i:=hg;omega) fun h' eb=>⟨rfl,I.turned (t':=s.toks) (fun b o hb e=>eb b o hb e) f0 f1 f3 f4 f5⟩
 self:=fun _ _ _ _ _ st h=>wpAny_pyIter_rangeiter st h
section
variable{X:Cx}{tg:Expr}
def pQ(K:Frag)(tl:TE):TI:=fun σ H R=>tl σ H fun x H1=>∃a,x= .ref a/\(∃xs,SqL K H1 a xs)/\R (cf K a) H1
def uE(K:Frag)(tl:TE):TI:=fun σ H R=>tl σ H fun x H1=>∃a,x= .ref a/\(∃xs,SqT K H1 a xs)/\R (et K a) H1
theorem si{l:Expr}{tl:TE}(hl:PE X l tl):PI X tg l (pQ X.K tl):=by
 intro pins s σ H R I h
 refine qB (hl pins s σ H _ I h) fun v s1 ⟨x,H1,I1,r1,q1⟩=>?_
 obtain⟨a,e,⟨xs,hq⟩,q⟩:=q1
 subst e
 cases r1
 obtain⟨its,rv,p,hz⟩:=I1.list hq
 refine wpAny_pyIter_list p.isList ?_
 refine⟨s1.heap.objs.size,[s1.heap.objs.size],_,_,H1,rfl,I1.kept (t':=s1.toks) fun b o e=>Heap.get?_push_of_some _ e,gi a _,⟨_,Heap.get?_push_size _ rfl,rfl,rfl⟩,fun b hb=>?_,q⟩
 have e:b=s1.heap.objs.size:=by simpa using hb
 subst e
 exact I1.fpOk (Nat.le_refl _) (I1.hok.fresh (Nat.le_refl _))
theorem uj{l:Expr}{tl:TE}(hl:PE X l tl):PI X tg l (uE X.K tl):=by
 intro pins s σ H R I h
 refine qB (hl pins s σ H _ I h) fun v s1 ⟨x,H1,I1,r1,q1⟩=>?_
 obtain⟨a,e,⟨xs,hq⟩,q⟩:=q1
 subst e
 cases r1
 obtain⟨its,rv,p,hz⟩:=I1.tuple hq
 refine wpAny_pyIter_tuple (show s1.heap.IsTuple a its.toArray from p) ?_
 refine⟨s1.heap.objs.size,[s1.heap.objs.size],_,_,H1,rfl,I1.kept (t':=s1.toks) fun b o e=>Heap.get?_push_of_some _ e,c5 a _,⟨_,Heap.get?_push_size _ rfl,rfl,rfl⟩,fun b hb=>?_,q⟩
 have e:b=s1.heap.objs.size:=by simpa using hb
 subst e
 exact I1.fpOk (Nat.le_refl _) (I1.hok.fresh (Nat.le_refl _))
theorem oZ{pins:List (Addr×Obj)}{σ:St}{H:Hp}{s:Shared}{R:It->Hp->Prop}{E:Value->Shared->Prop}{lo hi:Int}{t u v:Tok}{tk:Nat}(I:Inv X pins σ H s)(h1: -(2 ^ 62)<=lo)(h2:lo<2 ^ 62)(h3: -(2 ^ 62)<=hi)(h4:hi<2 ^ 62)
  (q:R (jd lo (hi-lo).toNat) H):wpAny (model X.prog X.w) X.A (pyIter (.ref s.heap.objs.size)) (v7 X pins σ tg R) E {s with heap:=s.heap.push {cls:= .type "range",data:= .fields #[.int lo t,.int hi u,.int 1 v]},toks:=tk}:=by
 refine wpAny_pyIter_range (IsRange.new ..) (small_one h1 h2 h3 h4) ?_
 have I1:Inv X pins σ H {s with heap:=s.heap.push {cls:= .type "range",data:= .fields #[.int lo t,.int hi u,.int 1 v]},toks:=tk}:=I.kept fun b o e=>Heap.get?_push_of_some _ e
 refine⟨(s.heap.push {cls:= .type "range",data:= .fields #[.int lo t,.int hi u,.int 1 v]}).objs.size,[(s.heap.push {cls:= .type "range",data:= .fields #[.int lo t,.int hi u,.int 1 v]}).objs.size],_,_,H,rfl,
  I1.kept (t':=tk) fun b o e=>Heap.get?_push_of_some _ e,kH _ lo (hi-lo).toNat,?_,fun b hb=>?_,q⟩
 ·have e1:lo+((0:Nat):Int)*1=lo:=by simp
  have e2:(((hi-lo).toNat:Nat):Int)-((0:Nat):Int)=Builtin.Range.rangeSize lo hi 1:=by rw[rangeSize_one];split<;>omega
  show IsRangeIter _ _ (lo+((0:Nat):Int)*1) ((((hi-lo).toNat:Nat):Int)-((0:Nat):Int)) 1
  rw[e1,e2]
  exact Heap.get?_push_size _ rfl
 ·have e:b=(s.heap.push {cls:= .type "range",data:= .fields #[.int lo t,.int hi u,.int 1 v]}).objs.size:=by simpa using hb
  subst e
  exact I1.fpOk (Nat.le_refl _) (I1.hok.fresh (Nat.le_refl _))
def rB(ta:TA):TI:=fun σ H R=>ta σ H fun vs H1=>∃j:Int,vs=[.int j]/\ -(2 ^ 62)<=j/\j<2 ^ 62/\R (jd 0 j.toNat) H1
theorem mJ{a:Expr}{ta:TA}{p pos:Pos}(hg:Gl X "range")(hm:X.mg "range"=none)(ha:PA X [a] ta)(hs:starEach [a] X.env=[(false,eval a X.env)]:=by rfl):PI X tg (.Call (.Name "range" p) [a] [] pos) (rB ta):=by
 intro pins s σ H R I h
 refine Call_ (Zd I hg hm boot_range (PyProof.Rows.callWith_type1 (qB (ha pos pins s σ H _ I h) fun us s1 ⟨vs,H1,I1,r1,q1⟩=>?_) hs rfl))
 obtain⟨j,e,q1,q2,q⟩:=q1
 subst e
 cases r1 with
 |cons r rr=>
  cases rr
  obtain⟨t,rfl⟩:=r
  exact call_range_1 (oZ I1 (by omega) (by omega) q1 q2 (by simpa using q))
def uw(wi:TI)(g:TG)(tb:TS):TS:=fun D σ H=>wi σ H fun J H1=>∃W:Nat->Nat->St->Hp->Prop,(∃m,W 0 m σ H1)/\∀i m σ H,W i m σ H->
 (J.stop i H/\D.nx σ H)\/(J.go i H/\∃N:St->Hp->Prop,(∀σ' H',N σ' H'->∃m',m'<m/\W (i+1) m' σ' H')/\∀x H',J.yld i H x H'->g x σ H' fun σ2 H2=>tb {D with nx:=N,ct:=N,bk:=D.nx} σ2 H2)
def eF(fp:List Addr)(h:Heap):List (Addr×Obj):=fp.filterMap fun b=>(h.get? b).map fun o=>(b,o)
theorem aQ{fp:List Addr}{h:Heap}{b:Addr}{o:Obj}(hb:b∈fp)(e:h.get? b=some o):(b,o)∈eF fp h:=List.mem_filterMap.mpr ⟨b,hb,by rw[e];rfl⟩
theorem lH{fp:List Addr}{h:Heap}{p:Addr×Obj}(hp:p∈eF fp h):p.1∈fp/\h.get? p.1=some p.2:=by
 obtain⟨b,hb,e⟩:=List.mem_filterMap.mp hp
 cases q:h.get? b with
 |none=>rw[q]at e;cases e
 |some o=>
  rw[q]at e
  have e':(b,o)=p:=Option.some.inj e
  subst e'
  exact⟨hb,q⟩
theorem Inv.pinned{pins:List (Addr×Obj)}{σ:St}{H:Hp}{s:Shared}{fp:List Addr}(I:Inv X pins σ H s)(hf:∀b∈fp,Ze X pins H b)(ho:∀b∈fp,∃o,s.heap.get? b=some o/\∀v,o.data≠ .cell v):Inv X (pins++eF fp s.heap) σ H s:=
 I.pins_of fun p hp=>(List.mem_append.mp hp).elim (fun z=>I.pin p (List.mem_append_right _ z)) fun z=>by
  obtain⟨hb,e⟩:=lH z
  obtain⟨f0,f1,f2,_⟩:=hf p.1 hb
  obtain⟨o,e',d⟩:=ho p.1 hb
  rw[e]at e';cases e'
  exact⟨e,f0,f1,f2,d⟩
theorem Inv.unpinned{pins pl:List (Addr×Obj)}{σ:St}{H:Hp}{s:Shared}(I:Inv X (pins++pl) σ H s):Inv X pins σ H s:=I.pins_of fun p hp=>I.pin p (List.mem_append_right _ (List.mem_append_left _ hp))
theorem uW{iter:Expr}{body:List Stmt}{wi:TI}{g:TG}{tb:TS}{pos:Pos}(hp:PassesOwn (model X.prog X.w) X.A X.env X.xe)(hc:X.calm=true)(hi:PI X tg iter wi)(hg:PG X tg g)(hb:PSs X body tb)
  (hs:∀x,foldedSetIterable iter X.env x=pure x:=by intro _;rfl):PS X (.For tg iter body [] pos) (uw wi g tb):=by
 intro pins s σ H D I h
 refine wpAny_For (qB (hi pins s σ H _ I h) fun v s1 h1=>qB h1 fun itv s2 h2=>?_) hs
 obtain⟨it,fp,tn,J,H2,e,I2,T,st2,f2,W,⟨m0,w0⟩,turn⟩:=h2
 subst e
 have stat:∀{H':Hp},(∀b∈fp,H' b=none)->∀b∈fp,Ze X pins H' b:=fun hn b hb=>⟨hn b hb,(f2 b hb).2⟩
 refine codeAny_forLoop_any (fun n s'=>∃i σ' H',Inv X pins σ' H' s'/\tn i s'.heap/\(∀b∈fp,H' b=none)/\W i n σ' H') ?_ m0 ⟨0,σ,H2,I2,st2,fun b hb=>(f2 b hb).1,w0⟩
 rintro n s3 ⟨i,σ3,H3,I3,st3,fr3,w3⟩
 rcases turn i n σ3 H3 w3 with⟨stop,qn⟩|⟨go,N,hN,step⟩
 ·refine wpAny_passesOwn hp (qB (T.done X rfl rfl rfl hc i pins s3 σ3 H3 X.xe I3 (stat fr3) st3 stop) fun r s4 ⟨hr,I4⟩=>?_)
  subst hr
  exact wpAny_execs_nil ⟨σ3,H3,I4,qn⟩
 ·refine wpAny_passesOwn hp (qB (T.item X rfl rfl rfl hc i pins s3 σ3 H3 X.xe I3 (stat fr3) st3 go) fun r s4 ⟨u,hr,h4⟩=>?_)
  subst hr
  refine wpAny_passesOwn hp (qB h4 fun _ s5 ⟨x,H5,I5,r5,y5,st5,fr5⟩=>?_)
  have I5':=I5.pinned (stat fr5) (T.obj _ _ st5)
  refine wpAny_passesOwn hp (qB (hg _ s5 σ3 H5 x u _ I5' r5 (step x H5 y5)) fun _ s6 ⟨σ6,H6,I6,q6⟩=>?_)
  refine wpAny_passesOwn hp (qB (hb _ s6 σ6 H6 _ I6 q6) fun f s7 q7=>?_)
  have again:∀{σ7:St} {H7:Hp},Inv X (pins++eF fp s5.heap) σ7 H7 s7->N σ7 H7->∃m,m<n/\∃i σ' H',Inv X pins σ' H' s7/\tn i s7.heap/\(∀b∈fp,H' b=none)/\W i m σ' H':=fun{σ7 H7} I7 n7=>by
   obtain⟨m',hm,w7⟩:=hN σ7 H7 n7
   refine⟨m',hm,i+1,σ7,H7,I7.unpinned,T.keep _ _ _ st5 fun b hb o e=>(I7.pin (b,o) (List.mem_append_right _ (List.mem_append_right _ (aQ hb e)))).1,fun b hb=>?_,w7⟩
   obtain⟨o,e,d⟩:=T.obj _ _ st5 b hb
   exact(I7.pin (b,o) (List.mem_append_right _ (List.mem_append_right _ (aQ hb e)))).2.1
  cases f with
  |next=>obtain⟨σ7,H7,I7,n7⟩:=q7;exact again I7 n7
  |cont=>obtain⟨σ7,H7,I7,n7⟩:=q7;exact again I7 n7
  |brk=>obtain⟨σ7,H7,I7,q7⟩:=q7;exact⟨σ7,H7,I7.unpinned,q7⟩
  |ret v=>obtain⟨x7,σ7,H7,I7,r7,q7⟩:=q7;exact⟨x7,σ7,H7,I7.unpinned,r7,q7⟩
end
theorem ZI{K:Frag}{a:Addr}{xs:List V}{g:TG}{tb:TS}{D:Ends}{σ:St}{H:Hp}(Pv:Nat->St->Hp->Prop)(h0:Pv 0 σ H)(hl:∀i σ H,i<=xs.length->Pv i σ H->SqL K H a xs)
  (hs:∀i x σ H,xs[i]? =some x->Pv i σ H->g x σ H fun σ2 H2=>tb {D with nx:=Pv (i+1),ct:=Pv (i+1),bk:=D.nx} σ2 H2)(hd:∀σ H,Pv xs.length σ H->D.nx σ H):
  ∃W:Nat->Nat->St->Hp->Prop,(∃m,W 0 m σ H)/\∀i m σ H,W i m σ H->
   ((cf K a).stop i H/\D.nx σ H)\/((cf K a).go i H/\∃N:St->Hp->Prop,(∀σ' H',N σ' H'->∃m',m'<m/\W (i+1) m' σ' H')/\∀x H',(cf K a).yld i H x H'->g x σ H' fun σ2 H2=>tb {D with nx:=N,ct:=N,bk:=D.nx} σ2 H2):=by
 refine⟨fun i m σ H=>m=xs.length-i/\i<=xs.length/\Pv i σ H,⟨xs.length,by simp,Nat.zero_le _,h0⟩,?_⟩
 rintro i m σ H ⟨rfl,hi,p⟩
 have q:=hl i σ H hi p
 by_cases hlt:i<xs.length
 ·refine .inr ⟨⟨xs,xs[i],q,by simp [hlt]⟩,Pv (i+1),fun σ' H' p'=>⟨xs.length-(i+1),by omega,rfl,hlt,p'⟩,fun x H' y=>?_⟩
  obtain⟨e,y⟩:=y
  subst e
  exact hs i x σ _ (y xs q) p
 ·have e:i=xs.length:=by omega
  subst e
  exact .inl ⟨⟨xs,q,Nat.le_refl _⟩,hd σ H p⟩
theorem rO{K:Frag}{a:Addr}{xs:List V}{g:TG}{tb:TS}{D:Ends}{σ:St}{H:Hp}(Pv:Nat->St->Hp->Prop)(h0:Pv 0 σ H)(hl:∀i σ H,i<=xs.length->Pv i σ H->SqT K H a xs)
  (hs:∀i x σ H,xs[i]? =some x->Pv i σ H->g x σ H fun σ2 H2=>tb {D with nx:=Pv (i+1),ct:=Pv (i+1),bk:=D.nx} σ2 H2)(hd:∀σ H,Pv xs.length σ H->D.nx σ H):
  ∃W:Nat->Nat->St->Hp->Prop,(∃m,W 0 m σ H)/\∀i m σ H,W i m σ H->
   ((et K a).stop i H/\D.nx σ H)\/((et K a).go i H/\∃N:St->Hp->Prop,(∀σ' H',N σ' H'->∃m',m'<m/\W (i+1) m' σ' H')/\∀x H',(et K a).yld i H x H'->g x σ H' fun σ2 H2=>tb {D with nx:=N,ct:=N,bk:=D.nx} σ2 H2):=by
 refine⟨fun i m σ H=>m=xs.length-i/\i<=xs.length/\Pv i σ H,⟨xs.length,by simp,Nat.zero_le _,h0⟩,?_⟩
 rintro i m σ H ⟨rfl,hi,p⟩
 have q:=hl i σ H hi p
 by_cases hlt:i<xs.length
 ·refine .inr ⟨⟨xs,xs[i],q,by simp [hlt]⟩,Pv (i+1),fun σ' H' p'=>⟨xs.length-(i+1),by omega,rfl,hlt,p'⟩,fun x H' y=>?_⟩
  obtain⟨e,y⟩:=y
  subst e
  exact hs i x σ _ (y xs q) p
 ·have e:i=xs.length:=by omega
  subst e
  exact .inl ⟨⟨xs,q,Nat.le_refl _⟩,hd σ H p⟩
theorem QM{lo:Int}{n:Nat}{g:TG}{tb:TS}{D:Ends}{σ:St}{H:Hp}(Pv:Nat->St->Hp->Prop)(h0:Pv 0 σ H)
  (hs:∀i σ H,i<n->Pv i σ H->g (.int (lo+i)) σ H fun σ2 H2=>tb {D with nx:=Pv (i+1),ct:=Pv (i+1),bk:=D.nx} σ2 H2)(hd:∀σ H,Pv n σ H->D.nx σ H):
  ∃W:Nat->Nat->St->Hp->Prop,(∃m,W 0 m σ H)/\∀i m σ H,W i m σ H->
   ((jd lo n).stop i H/\D.nx σ H)\/((jd lo n).go i H/\∃N:St->Hp->Prop,(∀σ' H',N σ' H'->∃m',m'<m/\W (i+1) m' σ' H')/\∀x H',(jd lo n).yld i H x H'->g x σ H' fun σ2 H2=>tb {D with nx:=N,ct:=N,bk:=D.nx} σ2 H2):=by
 refine⟨fun i m σ H=>m=n-i/\i<=n/\Pv i σ H,⟨n,by simp,Nat.zero_le _,h0⟩,?_⟩
 rintro i m σ H ⟨rfl,hi,p⟩
 by_cases hlt:i<n
 ·refine .inr ⟨hlt,Pv (i+1),fun σ' H' p'=>⟨n-(i+1),by omega,rfl,hlt,p'⟩,fun x H' y=>?_⟩
  obtain⟨e,y⟩:=y
  subst e y
  exact hs i σ _ hlt p
 ·have e:i=n:=by omega
  subst e
  exact .inl ⟨Nat.le_refl _,hd σ H p⟩
abbrev R2:=V->V->Hp->VK->Prop
def zc(X:Cx)(f:Value->Value->Sem Value)(r:R2):Prop:=
 ∀(pins:List (Addr×Obj)) (s:Shared) (σ:St) (H:Hp) (x y:V) (v u:Value) (Q:VK),Inv X pins σ H s->RelV x v->RelV y u->r x y H Q->
  wpAny (model X.prog X.w) X.A (f v u) (EP X pins σ Q) X.xe s
def pJ(X:Cx)(f:Value->Sem Value)(r:V->Hp->VK->Prop):Prop:=
 ∀(pins:List (Addr×Obj)) (s:Shared) (σ:St) (H:Hp) (x:V) (v:Value) (Q:VK),Inv X pins σ H s->RelV x v->r x H Q->
  wpAny (model X.prog X.w) X.A (f v) (EP X pins σ Q) X.xe s
def qW(X:Cx)(f:Value)(r:List V->Hp->VK->Prop):Prop:=
 ∀(pins:List (Addr×Obj)) (s:Shared) (σ:St) (H:Hp) (xs:List V) (us:List Value) (Q:VK),Inv X pins σ H s->Vals xs us->r xs H Q->
  wpAny (model X.prog X.w) X.A (call f us) (EP X pins σ Q) X.xe s
def fR(r:R2)(ta tb:TE):TE:=fun σ H Q=>ta σ H fun x H1=>tb σ H1 fun y H2=>r x y H2 Q
def v8(r:V->Hp->VK->Prop)(ta:TE):TE:=fun σ H Q=>ta σ H fun x H1=>r x H1 Q
def rI(C:Int->Int->Prop)(g:Int->Int->V):R2:=fun x y H Q=>∃i j,x= .int i/\y= .int j/\C i j/\Q (g i j) H
def ge(g:Int->Int->V):R2:=fun x y H Q=>∃i j,x= .int i/\y= .int j/\Q (g i j) H
def rU(g:Int->V):V->Hp->VK->Prop:=fun x H Q=>∃i,x= .int i/\Q (g i) H
section
variable{X:Cx}{a b c:Expr}{ta tb tc:TE}{pos:Pos}
theorem pD(ha:PE X a ta)(hb:PE X b tb){pins:List (Addr×Obj)}{s:Shared}{σ:St}{H:Hp}{R:V->V->Hp->Prop}(I:Inv X pins σ H s)
  (h:ta σ H fun x H1=>tb σ H1 fun y H2=>R x y H2){Q:Value->Shared->Prop}{f:Value->Value->Sem Value}
  (hf:∀v u s2 x y H2,Inv X pins σ H2 s2->RelV x v->RelV y u->R x y H2->wpAny (model X.prog X.w) X.A (f v u) Q X.xe s2):
  wpAny (model X.prog X.w) X.A (eval a X.env) (fun v s₁=>wpAny (model X.prog X.w) X.A (eval b X.env) (fun u s₂=>wpAny (model X.prog X.w) X.A (f v u) Q X.xe s₂) X.xe s₁) X.xe s:=by
 refine qB (ha pins s σ H _ I h) fun v s1 ⟨x,H1,I1,r1,q1⟩=>?_
 refine qB (hb pins s1 σ H1 _ I1 q1) fun u s2 ⟨y,H2,I2,r2,q2⟩=>?_
 exact hf v u s2 x y H2 I2 r1 r2 q2
theorem vQ{op:Operator}{r:R2}(ho:zc X (binaryOp op) r)(ha:PE X a ta)(hb:PE X b tb):PE X (.BinOp a op b pos) (fR r ta tb):=by
 intro pins s σ H Q I h
 exact wpAny_BinOp (pD ha hb I h fun v u s2 x y H2 I2 rx ry q=>ho pins s2 σ H2 x y v u Q I2 rx ry q)
theorem vM{op:UnaryOp}{r:V->Hp->VK->Prop}(ho:pJ X (unaryOp op) r)(ha:PE X a ta):PE X (.UnaryOp op a pos) (v8 r ta):=by
 intro pins s σ H Q I h
 exact UnaryOp_ (qB (ha pins s σ H _ I h) fun v s1 ⟨x,H1,I1,r1,q1⟩=>ho pins s1 σ H1 x v Q I1 r1 q1)
theorem pP{f:Value->Value->Sem Value}{C:Int->Int->Prop}{g:Int->Int->Int}
  (rule:∀(i j:Int) (t u:Tok) (s:Shared) (Q:Value->Shared->Prop) (E:Value->Shared->Prop),C i j->Q (.int (g i j) s.toks) {s with toks:=s.toks+1}->wpAny (model X.prog X.w) X.A (f (.int i t) (.int j u)) Q E s):
  zc X f (rI C fun i j=> .int (g i j)):=by
 intro pins s σ H x y v u Q I rx ry h
 obtain⟨i,j,rfl,rfl,hc,q⟩:=h
 obtain⟨t,rfl⟩:=rx
 obtain⟨t',rfl⟩:=ry
 exact rule i j t t' s _ _ hc ⟨.int (g i j),H,I.tok _,⟨_,rfl⟩,q⟩
theorem vk{f:Value->Value->Sem Value}{g:Int->Int->Int}
  (rule:∀(i j:Int) (t u:Tok) (s:Shared) (Q:Value->Shared->Prop) (E:Value->Shared->Prop),Q (.int (g i j) s.toks) {s with toks:=s.toks+1}->wpAny (model X.prog X.w) X.A (f (.int i t) (.int j u)) Q E s):
  zc X f (ge fun i j=> .int (g i j)):=by
 intro pins s σ H x y v u Q I rx ry h
 obtain⟨i,j,rfl,rfl,q⟩:=h
 obtain⟨t,rfl⟩:=rx
 obtain⟨t',rfl⟩:=ry
 exact rule i j t t' s _ _ ⟨.int (g i j),H,I.tok _,⟨_,rfl⟩,q⟩
theorem k7{f:Value->Value->Sem Value}{g:Int->Int->Bool}
  (rule:∀(i j:Int) (t u:Tok) (s:Shared) (Q:Value->Shared->Prop) (E:Value->Shared->Prop),Q (.bool (g i j)) s->wpAny (model X.prog X.w) X.A (f (.int i t) (.int j u)) Q E s):
  zc X f (ge fun i j=> .bl (g i j)):=by
 intro pins s σ H x y v u Q I rx ry h
 obtain⟨i,j,rfl,rfl,q⟩:=h
 obtain⟨t,rfl⟩:=rx
 obtain⟨t',rfl⟩:=ry
 exact rule i j t t' s _ _ ⟨.bl (g i j),H,I,rfl,q⟩
def wE(i j:Int):Prop:=0<j/\j<1073741824
def ww(i j:Int):Prop:=0<=j/\j<=1000000/\i.natAbs<2 ^ 64
def CMul(i j:Int):Prop:=(-(2 ^ 64)<i/\i<2 ^ 64)\/(-(2 ^ 64)<j/\j<2 ^ 64)
theorem CMul.ok{i j:Int}(h:CMul i j):IntMulOk i j:=by
 rcases h with⟨h1,h2⟩|⟨h1,h2⟩
 ·exact .of_left (intBits_le_64 h1 h2)
 ·exact .of_right (intBits_le_64 h1 h2)
theorem qH:zc X (binaryOp .Add) (ge fun i j=> .int (i+j)):=vk fun _ _ _ _ _ _ _ q=>add_int q
theorem zO:zc X (binaryOp .Sub) (ge fun i j=> .int (i-j)):=vk fun _ _ _ _ _ _ _ q=>sub_int q
theorem Qg:zc X (binaryOp .Mult) (rI CMul fun i j=> .int (i*j)):=pP fun _ _ _ _ _ _ _ hc q=>mul_int q hc.ok
theorem Q5:zc X (binaryOp .FloorDiv) (rI wE fun i j=> .int (i/j)):=pP fun i j _ _ _ _ _ hc q=>by
 have h1:(0:Int)<j:=hc.1
 have h2:j<1073741824:=hc.2
 exact floordiv_int (by omega) (by rw[Int.fdiv_eq_ediv_of_nonneg i (by omega)];exact q) (.inl (PyProof.noPylong_small (by omega)))
theorem ze:zc X (binaryOp .Mod) (rI (fun _ j=>0<j) fun i j=> .int (i%j)):=pP fun i j _ _ _ _ _ hc q=>by
 have h1:(0:Int)<j:=hc
 exact mod_int' (by omega) (by rw[Int.fmod_eq_emod_of_nonneg i (by omega)];exact q)
theorem mV:zc X (binaryOp .Pow) (rI ww fun i j=> .int (i ^ j.toNat)):=pP fun _ _ _ _ _ _ _ hc q=>pow_int_small hc.1 hc.2.1 hc.2.2 q
theorem wV{f:Value->Sem Value}{g:Int->Int}
  (rule:∀(i:Int) (t:Tok) (s:Shared) (Q:Value->Shared->Prop) (E:Value->Shared->Prop),Q (.int (g i) s.toks) {s with toks:=s.toks+1}->wpAny (model X.prog X.w) X.A (f (.int i t)) Q E s):
  pJ X f (rU fun i=> .int (g i)):=by
 intro pins s σ H x v Q I rx h
 obtain⟨i,rfl,q⟩:=h
 obtain⟨t,rfl⟩:=rx
 exact rule i t s _ _ ⟨.int (g i),H,I.tok _,⟨_,rfl⟩,q⟩
theorem lT:pJ X (unaryOp .USub) (rU fun i=> .int (-i)):=wV fun _ _ _ _ _ q=>neg_int q
end
def tU:V->V->Bool
 | .non,.non=>true| .non,.int _=>true| .int _,.non=>true| .non,.bl _=>true| .bl _,.non=>true| .non,.str _=>true| .str _,.non=>true
 | .int _,.int _=>true| .bl _,.bl _=>true| .str _,.str _=>true| .byt _,.byt _=>true
 | .int _,.str _=>true| .str _,.int _=>true| .bl _,.str _=>true| .str _,.bl _=>true
 |_,_=>false
def wQ:R2:=fun x y H Q=>tU x y=true/\Q (.bl (decide (x=y))) H
def wU:R2:=fun x y H Q=>tU x y=true/\Q (.bl (!decide (x=y))) H
theorem jM{i j:Int}:decide (V.int i=V.int j)=(i==j):=by
 rw[Bool.eq_iff_iff]
 simp
theorem nq{i j:Bool}:decide (V.bl i=V.bl j)=(i==j):=by
 rw[Bool.eq_iff_iff]
 simp
theorem jR{i j:Str}:decide (V.str i=V.str j)=(i==j):=by
 rw[Bool.eq_iff_iff]
 simp
theorem j9{i j:Array UInt8}:decide (V.byt i=V.byt j)=(i.toList==j.toList):=by
 rw[Bool.eq_iff_iff]
 cases i
 cases j
 simp
section
variable{X:Cx}{a b c:Expr}{ta tb tc:TE}{pos:Pos}
theorem qM{pins:List (Addr×Obj)}{σ:St}{H:Hp}{s:Shared}{Q:VK}{k k':Bool}(I:Inv X pins σ H s)(q:Q (.bl k) H)(e:k=k'):EP X pins σ Q (.bool k') s:=by
 subst e
 exact⟨.bl k,H,I,rfl,q⟩
theorem zj:zc X (compareOp .Eq) wQ:=by
 intro pins s σ H x y v u Q I rx ry h
 obtain⟨hs,q⟩:=h
 cases x with
 |non=>
  cases rx
  cases y with
  |non=>cases ry;exact PySem.EqNone.eq_none_none (qM I q (by simp))
  |bl j=>cases ry;exact PySem.EqNone.eq_none_bool (qM I q (by simp))
  |int j=>obtain⟨t',rfl⟩:=ry;exact PySem.EqNone.eq_none_int (qM I q (by simp))
  |str j=>obtain⟨t',rfl⟩:=ry;exact PySem.EqNone.eq_none_str (qM I q (by simp))
  |_=>exact absurd (show false=true from hs) Bool.false_ne_true
 |bl i=>
  cases rx
  cases y with
  |non=>cases ry;exact PySem.EqNone.eq_bool_none (qM I q (by simp))
  |bl j=>cases ry;exact eq_bool (qM I q nq)
  |str j=>obtain⟨t',rfl⟩:=ry;exact PySem.EqMixed.eq_bool_str (qM I q (by simp))
  |_=>exact absurd (show false=true from hs) Bool.false_ne_true
 |int i=>
  obtain⟨t,rfl⟩:=rx
  cases y with
  |non=>cases ry;exact PySem.EqNone.eq_int_none (qM I q (by simp))
  |int j=>obtain⟨t',rfl⟩:=ry;exact eq_int (qM I q jM)
  |str j=>obtain⟨t',rfl⟩:=ry;exact PySem.EqMixed.eq_int_str (qM I q (by simp))
  |_=>exact absurd (show false=true from hs) Bool.false_ne_true
 |str i=>
  obtain⟨t,rfl⟩:=rx
  cases y with
  |non=>cases ry;exact PySem.EqNone.eq_str_none (qM I q (by simp))
  |bl j=>cases ry;exact PySem.EqMixed.eq_str_bool (qM I q (by simp))
  |int j=>obtain⟨t',rfl⟩:=ry;exact PySem.EqMixed.eq_str_int (qM I q (by simp))
  |str j=>obtain⟨t',rfl⟩:=ry;exact eq_str (qM I q jR)
  |_=>exact absurd (show false=true from hs) Bool.false_ne_true
 |byt i=>
  obtain⟨t,rfl⟩:=rx
  cases y with
  |byt j=>obtain⟨t',rfl⟩:=ry;exact W.eq_bytes (qM I q j9)
  |_=>exact absurd (show false=true from hs) Bool.false_ne_true
 |_=>cases y<;>exact absurd (show false=true from hs) Bool.false_ne_true
theorem cW:zc X (compareOp .NotEq) wU:=by
 intro pins s σ H x y v u Q I rx ry h
 obtain⟨hs,q⟩:=h
 cases x with
 |non=>
  cases rx
  cases y with
  |non=>cases ry;exact PySem.EqNone.ne_none_none (qM I q (by simp))
  |bl j=>cases ry;exact PySem.EqNone.ne_none_bool (qM I q (by simp))
  |int j=>obtain⟨t',rfl⟩:=ry;exact PySem.EqNone.ne_none_int (qM I q (by simp))
  |str j=>obtain⟨t',rfl⟩:=ry;exact PySem.EqNone.ne_none_str (qM I q (by simp))
  |_=>exact absurd (show false=true from hs) Bool.false_ne_true
 |bl i=>
  cases rx
  cases y with
  |non=>cases ry;exact PySem.EqNone.ne_bool_none (qM I q (by simp))
  |bl j=>cases ry;exact ne_bool (qM I q (congrArg not nq))
  |str j=>obtain⟨t',rfl⟩:=ry;exact PySem.EqMixed.ne_bool_str (qM I q (by simp))
  |_=>exact absurd (show false=true from hs) Bool.false_ne_true
 |int i=>
  obtain⟨t,rfl⟩:=rx
  cases y with
  |non=>cases ry;exact PySem.EqNone.ne_int_none (qM I q (by simp))
  |int j=>obtain⟨t',rfl⟩:=ry;exact ne_int (qM I q (congrArg not jM))
  |str j=>obtain⟨t',rfl⟩:=ry;exact PySem.EqMixed.ne_int_str (qM I q (by simp))
  |_=>exact absurd (show false=true from hs) Bool.false_ne_true
 |str i=>
  obtain⟨t,rfl⟩:=rx
  cases y with
  |non=>cases ry;exact PySem.EqNone.ne_str_none (qM I q (by simp))
  |bl j=>cases ry;exact PySem.EqMixed.ne_str_bool (qM I q (by simp))
  |int j=>obtain⟨t',rfl⟩:=ry;exact PySem.EqMixed.ne_str_int (qM I q (by simp))
  |str j=>obtain⟨t',rfl⟩:=ry;exact ne_str (qM I q (congrArg not jR))
  |_=>exact absurd (show false=true from hs) Bool.false_ne_true
 |byt i=>
  obtain⟨t,rfl⟩:=rx
  cases y with
  |byt j=>obtain⟨t',rfl⟩:=ry;exact W.ne_bytes (qM I q (congrArg not j9))
  |_=>exact absurd (show false=true from hs) Bool.false_ne_true
 |_=>cases y<;>exact absurd (show false=true from hs) Bool.false_ne_true
theorem dz:zc X (compareOp .Lt) (ge fun i j=> .bl (decide (i<j))):=k7 fun _ _ _ _ _ _ _ q=>lt_int q
theorem ZN:zc X (compareOp .LtE) (ge fun i j=> .bl (decide (i<=j))):=k7 fun _ _ _ _ _ _ _ q=>le_int q
theorem bK:zc X (compareOp .Gt) (ge fun i j=> .bl (decide (j<i))):=k7 fun _ _ _ _ _ _ _ q=>gt_int q
theorem kF:zc X (compareOp .GtE) (ge fun i j=> .bl (decide (j<=i))):=k7 fun _ _ _ _ _ _ _ q=>ge_int q
theorem Z8:zc X (compareOp .Is) (fun x y H Q=>y= .non/\Q (.bl (decide (x= .non))) H):=by
 intro pins s σ H x y v u Q I rx ry h
 obtain⟨rfl,q⟩:=h
 cases ry
 refine is_none_gen (qM I q ?_)
 cases x<;>first
  |(cases rx;rfl)
  |(obtain⟨t,rfl⟩:=rx;rfl)
theorem ki:zc X (compareOp .IsNot) (fun x y H Q=>y= .non/\Q (.bl (!decide (x= .non))) H):=by
 intro pins s σ H x y v u Q I rx ry h
 obtain⟨rfl,q⟩:=h
 cases ry
 refine isnot_none_gen (qM I q ?_)
 cases x<;>first
  |(cases rx;rfl)
  |(obtain⟨t,rfl⟩:=rx;rfl)
theorem qx(b:Expr){op:CmpOp}(h:op≠ .In:=by decide)(h2:op≠ .NotIn:=by decide):behindInMarks op b=false:=by
 have e1:(op==CmpOp.In)=false:=by cases op<;>first|rfl|exact absurd rfl h
 have e2:(op==CmpOp.NotIn)=false:=by cases op<;>first|rfl|exact absurd rfl h2
 cases b<;>simp [behindInMarks,e1,e2]
theorem rY{op:CmpOp}{r:R2}(ho:zc X (compareOp op) r)(ha:PE X a ta)(hb:PE X b tb)(hm:behindInMarks op b=false):PE X (.Compare a [op] [b] pos) (fR r ta tb):=by
 intro pins s σ H Q I h
 exact wpAny_Compare1 (pD ha hb I h fun v u s2 x y H2 I2 rx ry q=>ho pins s2 σ H2 x y v u Q I2 rx ry q) hm
def bU(t:TE):TT:=fun σ H Q=>t σ H fun x H'=>∃k,x= .bl k/\Q k H'
theorem sU{op:CmpOp}{r:R2}(ho:zc X (compareOp op) r)(ha:PE X a ta)(hb:PE X b tb)(hm:behindInMarks op b=false):PT X (.Compare a [op] [b] pos) (bU (fR r ta tb)):=by
 intro pins s σ H Q I h
 refine wpAny_isTrue_Compare1 (qB (ha pins s σ H _ I h) fun v s1 ⟨x,H1,I1,r1,q1⟩=>qB (hb pins s1 σ H1 _ I1 q1) fun u s2 ⟨y,H2,I2,r2,q2⟩=>
  qB (ho pins s2 σ H2 x y v u _ I2 r1 r2 q2) fun c s3 ⟨z,H3,I3,r3,k,e,q3⟩=>?_) hm
 subst e
 cases r3
 exact wpAny_truthy_bool ⟨H3,I3,q3⟩
def dh(r r':R2)(ta tb tc:TE):TE:=fun σ H Q=>ta σ H fun x H1=>tb σ H1 fun y H2=>r x y H2 fun z H3=>∃k,z= .bl k/\
 (if k=true then tc σ H3 fun w' H4=>r' y w' H4 Q else Q (.bl false) H3)
theorem oO{op op':CmpOp}{r r':R2}(ho:zc X (compareOp op) r)(ho':zc X (compareOp op') r')(ha:PE X a ta)(hb:PE X b tb)(hc:PE X c tc)
  (hm:lastMarks [op,op'] [b,c]=false:=by with_unfolding_all rfl):PE X (.Compare a [op,op'] [b,c] pos) (dh r r' ta tb tc):=by
 intro pins s σ H Q I h
 refine Compare_chain (qB (ha pins s σ H _ I h) fun v s1 ⟨x,H1,I1,r1,q1⟩=>chain_link (qB (hb pins s1 σ H1 _ I1 q1) fun u s2 ⟨y,H2,I2,r2,q2⟩=>
  qB (ho pins s2 σ H2 x y v u _ I2 r1 r2 q2) fun d s3 ⟨z,H3,I3,r3,k,e,q3⟩=>?_)) hm
 subst e
 cases r3
 refine wpAny_truthy_bool ?_
 cases k with
 |false=>exact ite_ff ⟨.bl false,H3,I3,rfl,q3⟩
 |true=>exact ite_tt (chain_last (qB (hc pins s3 σ H3 _ I3 q3) fun w' s4 ⟨z',H4,I4,r4,q4⟩=>ho' pins s4 σ H4 y z' u w' Q I4 r2 r4 q4))
theorem oA{op op':CmpOp}{r r':R2}(ho:zc X (compareOp op) r)(ho':zc X (compareOp op') r')(ha:PE X a ta)(hb:PE X b tb)(hc:PE X c tc)
  (hm:lastMarks [op,op'] [b,c]=false:=by with_unfolding_all rfl):PT X (.Compare a [op,op'] [b,c] pos) (bU (dh r r' ta tb tc)):=by
 intro pins s σ H Q I h
 refine isTrue_chain (qB (ha pins s σ H _ I h) fun v s1 ⟨x,H1,I1,r1,q1⟩=>test_link (qB (hb pins s1 σ H1 _ I1 q1) fun u s2 ⟨y,H2,I2,r2,q2⟩=>
  qB (ho pins s2 σ H2 x y v u _ I2 r1 r2 q2) fun d s3 ⟨z,H3,I3,r3,k,e,q3⟩=>?_)) hm
 subst e
 cases r3
 refine wpAny_truthy_bool ?_
 cases k with
 |false=>
  obtain⟨k',e',q'⟩:=q3
  cases e'
  exact ite_ff ⟨H3,I3,q'⟩
 |true=>
  refine ite_tt (test_last (qB (hc pins s3 σ H3 _ I3 q3) fun w' s4 ⟨z',H4,I4,r4,q4⟩=>qB (ho' pins s4 σ H4 y z' u w' _ I4 r2 r4 q4) fun d' s5 ⟨z2,H5,I5,r5,k2,e2,q5⟩=>?_))
  subst e2
  cases r5
  exact wpAny_truthy_bool ⟨H5,I5,q5⟩
theorem Za:(sizeLine:Nat)<2 ^ 63:=by rw[sizeLine_eq];decide
theorem Qb{x:V}{us:List Value}(r:Vals [x] us):∃u,us=[u]/\RelV x u:=by
 cases r with
 |cons r1 r2=>cases r2;exact⟨_,rfl,r1⟩
theorem bL{x y:V}{us:List Value}(r:Vals [x,y] us):∃u w',us=[u,w']/\RelV x u/\RelV y w':=by
 cases r with
 |cons r1 r2=>
  cases r2 with
  |cons r3 r4=>cases r4;exact⟨_,_,rfl,r1,r3⟩
theorem iK:qW X (.builtin "abs") (fun xs H Q=>∃i,xs=[.int i]/\Q (.int (if i<0 then -i else i)) H):=by
 intro pins s σ H xs us Q I r h
 obtain⟨i,rfl,q⟩:=h
 obtain⟨u,rfl,t,rfl⟩:=Qb r
 exact call_abs_int fun u tk=>⟨.int (if i<0 then -i else i),H,I.tok _,⟨_,rfl⟩,q⟩
theorem gu(hc:X.calm=true):qW X (.builtin "max") (fun xs H Q=>∃i j,xs=[.int i,.int j]/\Q (.int (if j>i then j else i)) H):=by
 intro pins s σ H xs us Q I r h
 obtain⟨i,j,rfl,q⟩:=h
 obtain⟨u,w',rfl,⟨t,rfl⟩,⟨t',rfl⟩⟩:=bL r
 refine max_two_ints (I.ok.hd hc) fun h' tk k=>⟨_,H,I.kept k,?_,q⟩
 by_cases hj:j>i
 ·rw[if_pos hj,if_pos hj];exact⟨_,rfl⟩
 ·rw[if_neg hj,if_neg hj];exact⟨_,rfl⟩
theorem ZQ(hc:X.calm=true):qW X (.builtin "min") (fun xs H Q=>∃i j,xs=[.int i,.int j]/\Q (.int (if j<i then j else i)) H):=by
 intro pins s σ H xs us Q I r h
 obtain⟨i,j,rfl,q⟩:=h
 obtain⟨u,w',rfl,⟨t,rfl⟩,⟨t',rfl⟩⟩:=bL r
 refine min_two_ints (I.ok.hd hc) fun h' tk k=>⟨_,H,I.kept k,?_,q⟩
 by_cases hj:j<i
 ·rw[if_pos hj,if_pos hj];exact⟨_,rfl⟩
 ·rw[if_neg hj,if_neg hj];exact⟨_,rfl⟩
theorem fL:qW X (.type "int") (fun xs H Q=>(∃i,xs=[.int i]/\Q (.int i) H)\/∃k,xs=[.bl k]/\Q (.int (if k then 1 else 0)) H):=by
 intro pins s σ H xs us Q I r h
 rcases h with⟨i,rfl,q⟩|⟨k,rfl,q⟩
 ·obtain⟨u,rfl,t,rfl⟩:=Qb r
  exact call_int_int ⟨.int i,H,I,⟨_,rfl⟩,q⟩
 ·obtain⟨u,rfl,r1⟩:=Qb r
  cases r1
  exact call_int_bool ⟨.int (if k then 1 else 0),H,I.tok _,⟨_,rfl⟩,q⟩
theorem iW:qW X (.builtin "ord") (fun xs H Q=>∃x,xs=[.str x]/\x.length=1/\Q (.int (x.cps.getD 0 0:Nat)) H):=by
 intro pins s σ H xs us Q I r h
 obtain⟨x,rfl,hz,q⟩:=h
 obtain⟨u,rfl,t,rfl⟩:=Qb r
 exact ord_of_one hz ⟨.int _,H,I.tok _,⟨_,rfl⟩,q⟩
end
structure ObjM(h:Heap)(x dx C:Addr)(mA:Str->Option Value):Prop where
 obj:h.get? x=some (PySem.W.instObj C dx)
 ns:h.Ns1 dx mA
 ne:dx≠x
theorem nv{h:Heap}{dx:Addr}{mA:Str->Option Value}(n:h.Ns1 dx mA):∃od,h.get? dx=some od/\∀name,W.lookIn name od=some (mA name):=by
 obtain⟨o,es,ep,ho,hd,hk,_,hm⟩:=n
 refine⟨o,ho,fun name=>?_⟩
 have e:=hm name
 unfold nsFind findBy at e
 rw[<- Array.find?_toList]at e
 unfold W.lookIn
 rw[hd]
 dsimp only
 split
 ·rename_i y q
  rw[q]at e
  exact congrArg some e
 ·rename_i q
  rw[q]at e
  have a:es.toList.any (·.refKey)=false:=by
   rw[List.any_eq_false]
   intro y hy
   obtain⟨z,t,hkey⟩:=hk y (Array.mem_toList_iff.mp hy)
   simp [DictEntry.refKey,hkey]
  have a':¬es.toList.any (·.refKey)=true:=by rw[a];exact Bool.false_ne_true
  rw[if_neg a']
  exact congrArg some e
theorem ObjM.look{h:Heap}{x dx C:Addr}{mA:Str->Option Value}(I:ObjM h x dx C mA):∃od,W.InstAt h x (W.instObj C dx) C (some od)/\∀name,W.lookIn name od=some (mA name):=
 let⟨od,ho,hl⟩:=nv I.ns
 ⟨od,⟨I.obj,rfl,rfl,ho⟩,hl⟩
section
variable{prog:Program}{w:World}{A:Around}{E:Value->Shared->Prop}{s:Shared}{K:Frag}{x dx C f:Addr}{mA:Str->Option Value}{name:Str}{v:Value}
theorem sM{expr:Bool}{Q:Value->Shared->Prop}(X:K.In s.heap)(I:ObjM s.heap x dx C mA)(hg:W.plainGet K C name=true)(hh:W.hasDictIn K C=true)
  (ha:W.findIn K (.ref C) name=some none)(hv:mA name=some v)(hv':W.handedIn v=true)(h:Q v {s with toks:=s.toks+1}):
  wpAny (model prog w) A (getAttr (.ref x) name expr) Q E s:=by
 obtain⟨od,J,hl⟩:=I.look
 exact W.get_value X J (W.plainGet_of hg).1 (W.findObj_own hh ha rfl (by rw[hl,hv])) hv' h
theorem pA{pl:Sem Bool}{Q:Value×List Value->Shared->Prop}(X:K.In s.heap)(I:ObjM s.heap x dx C mA)(hg:W.plainGet K C name=true)
  (hf:W.findIn K (.ref C) name=some (some (.ref f)))(ht:W.isFn K (.ref f)=true)(hv:mA name=none)(h:Q (.ref f,[.ref x]) s):
  wpAny (model prog w) A (getMethod (.ref x) name pl) Q E s:=by
 obtain⟨od,J,hl⟩:=I.look
 exact W.method_fn X J (W.plainGet_of hg).1 (W.plainGet_of hg).2 hf (beq_iff_eq.mp ht) (by show(W.lookIn name od).map (·.isSome)=some false;rw[hl,hv];rfl) h
theorem rR{ns:List Str}{Q:Unit->Shared->Prop}(X:K.In s.heap)(I:ObjM s.heap x dx C mA)
  (hs:W.findIn K (.ref C) "__setattr__"=some (some (.builtin "object.__setattr__")))(hp:W.plainOver K C=true)(ht:W.takerIn K C name=some none)(hh:W.hasDictIn K C=true)
  (hw:PySem.Within mA ns)(hsz:ns.length<=sizeLine)
  (h:∀h',ObjM h' x dx C (fun y=>if y=name then some v else mA y)->Heap.SameBut dx s.heap h'->Q () {s with heap:=h',toks:=s.toks+2}):
  wpAny (model prog w) A (setAttr (.ref x) name v) Q E s:=by
 obtain⟨od,J,hl⟩:=I.look
 refine W.set_plain X J hs (W.osa_open (s:={s with toks:=s.toks+1}) (r:=none) X J hp ht fun b=>?_)
 obtain⟨cd,hc,hd'⟩:=W.any_some hh
 have hx:s.heap.get? x=some ⟨.ref C,some dx,.plain,#[]⟩:=I.obj
 refine wpAny_bind (wpAny_pure (wpAny_bind (wpAny_bind (wpAny_loadPart hx (wpAny_bind (W.Looks.here (s:={s with toks:=s.toks+1}) (W.looks_clsIn X hc) ?_))))))
 rw[hd']
 refine wpAny_pure (a:=some dx) (wpAny_bind (wpAny_pure (wpAny_bind ?_)))
 refine wpAny_nsSet1 (s:={s with toks:=s.toks+1}) I.ns fun h' hn2 hs2=>?_
 obtain⟨oD,esD,epD,hoD,hdD,hcD⟩:=hn2.count (PySem.Within.cons name v hw)
 refine wpAny_bind (wpAny_lookBehind hoD (by rw[hdD];exact pastItsLine_dict (Nat.le_trans hcD (by rw[List.length_cons];omega))) ?_)
 exact wpAny_pure (h _ ⟨(hs2.2 _ (Ne.symm I.ne)).trans I.obj,hn2,I.ne⟩ hs2)
theorem oH{R:Result->Shared->Prop}{vs:List Value}{kw:List (Str×Value)}(X:K.In s.heap)(hm:W.makesIn K C=true)
  (hi:W.findIn K (.ref C) "__init__"=some (some (.ref f)))(hf:W.typeIn K (.ref f)=some (.type "function"))
  (h:codeAny (model prog w) (A.under (.builtin "type.__call__" ⟨.ref C::vs,kw⟩)) (.call (.ref f) ⟨.ref (s.heap.objs.size+1)::vs,kw⟩) (W.InitBack (s.heap.objs.size+1) R)
   {s with heap:=(s.heap.push W.emptyDict).push (W.instObj C s.heap.objs.size)}):
  codeAny (model prog w) A (.call (.ref C) ⟨vs,kw⟩) R s:=by
 obtain⟨hh,g,d,t,os⟩:=s
 exact W.make_core (W.makes_of X hm) (W.looks_findIn X hi) (fun self=>W.bind_fn X self hf) (.inl rfl) h
end
def zX(f:Str)(v:V):List (Str×V)->List (Str×V)
 | []=>[(f,v)]
 |(g,x)::r=>if g=f then(g,v)::r else(g,x)::zX f v r
theorem cu(f g:Str)(v:V):∀fs:List (Str×V),(zX f v fs).lookup g=if g=f then some v else fs.lookup g
 | []=>by
  show List.lookup g [(f,v)]=_
  by_cases h:g=f
  ·have hb:(g==f)=true:=beq_iff_eq.mpr h
   simp only[List.lookup,hb,if_pos h]
  ·have hb:(g==f)=false:=beq_eq_false_iff_ne.mpr h
   simp only[List.lookup,hb,if_neg h]
 |(k,x)::r=>by
  have ih:=cu f g v r
  rw[show zX f v ((k,x)::r)=(if k=f then(k,v)::r else(k,x)::zX f v r)from rfl]
  by_cases hk:k=f
  ·rw[if_pos hk]
   by_cases h:g=k
   ·have hb:(g==k)=true:=beq_iff_eq.mpr h
    simp only[List.lookup,hb,if_pos (h.trans hk)]
   ·have hb:(g==k)=false:=beq_eq_false_iff_ne.mpr h
    simp only[List.lookup,hb,if_neg (fun e:g=f=>h (e.trans hk.symm))]
  ·rw[if_neg hk]
   by_cases h:g=k
   ·have hb:(g==k)=true:=beq_iff_eq.mpr h
    simp only[List.lookup,hb,if_neg (fun e:g=f=>hk (h.symm.trans e))]
   ·have hb:(g==k)=false:=beq_eq_false_iff_ne.mpr h
    simp only[List.lookup,hb]
    exact ih
theorem bi(f:Str)(v:V):∀fs:List (Str×V),f∈(zX f v fs).map (·.1)/\∀g,g∈fs.map (·.1)->g∈(zX f v fs).map (·.1)
 | []=>⟨by simp [zX],fun g h=>by simp at h⟩
 |(k,x)::r=>by
  obtain⟨i1,i2⟩:=bi f v r
  rw[show zX f v ((k,x)::r)=(if k=f then(k,v)::r else(k,x)::zX f v r)from rfl]
  by_cases hk:k=f
  ·rw[if_pos hk]
   subst hk
   exact⟨by simp,fun g h=>by simpa using h⟩
  ·rw[if_neg hk]
   refine⟨?_,fun g h=>?_⟩
   ·rw[List.map_cons]
    exact List.mem_cons_of_mem _ i1
   ·rw[List.map_cons]at h⊢
    rcases List.mem_cons.mp h with e|e
    ·exact List.mem_cons.mpr (.inl e)
    ·exact List.mem_cons_of_mem _ (i2 g e)
theorem cq(f:Str)(v:V):∀fs:List (Str×V),(zX f v fs).length<=fs.length+1
 | []=>by simp [zX]
 |(k,x)::r=>by
  have ih:=cq f v r
  rw[show zX f v ((k,x)::r)=(if k=f then(k,v)::r else(k,x)::zX f v r)from rfl]
  by_cases hk:k=f
  ·rw[if_pos hk,List.length_cons,List.length_cons];omega
  ·rw[if_neg hk,List.length_cons,List.length_cons];omega
theorem RelO.some_of{v:V}{o:Option Value}(r:RelO (some v) o):∃u,o=some u/\RelV v u:=by
 cases o with
 |none=>exact(show False from r).elim
 |some u=>exact⟨u,rfl,r⟩
theorem RelO.none_of{o:Option Value}(r:RelO none o):o=none:=by
 cases o with
 |none=>rfl
 |some u=>exact(show False from r).elim
theorem ny{v:V}{u:Value}(r:RelV v u):W.handedIn u=true:=by
 cases v with
 |non=>cases(show u=Value.none from r);rfl
 |bl b=>cases(show u=Value.bool b from r);rfl
 |int i=>obtain⟨t,e⟩:=(show∃t,u=Value.int i t from r);cases e;rfl
 |str x=>obtain⟨t,e⟩:=(show∃t,u=Value.str x t from r);cases e;rfl
 |byt b=>obtain⟨t,e⟩:=(show∃t,u=Value.bytes b t from r);cases e;rfl
 |flt b=>obtain⟨t,e⟩:=(show∃t,u=Value.float b t from r);cases e;rfl
 |ref a=>cases(show u=Value.ref a from r);rfl
 |ty n=>cases(show u=Value.type n from r);rfl
section
variable{P:Program}{w:World}{H H':Hp}{h h':Heap}{a C dx:Addr}{fs fs':List (Str×V)}
theorem bM(hok:HOk P w H h)(e:H a=some (.ins C dx fs)):∃mA,ObjM h a dx C mA/\(∀f,RelO (fs.lookup f) (mA f))/\PySem.Within mA (fs.map (·.1))/\fs.length<=1000/\H dx=some (.own a):=by
 obtain⟨d,z,ne,ob,mA,n,r,q⟩:=(show ObjOk P w H h a (.ins C dx fs)from hok a _ e)
 exact⟨mA,⟨ob,n,ne⟩,r,q,z,d⟩
end
structure Cls(K:Frag)(C:Addr):Prop where
 pg:PySem.W.plainGet K C Str.empty=true
 hd:PySem.W.hasDictIn K C=true
 po:PySem.W.plainOver K C=true
 sa:PySem.W.findIn K (.ref C) "__setattr__"=some (some (.builtin "object.__setattr__"))
theorem Cls.get{K:Frag}{C:Addr}(c:Cls K C)(f:Str):W.plainGet K C f=true:=c.pg
def NoAttr(K:Frag)(C:Addr)(f:Str):Prop:=PySem.W.findIn K (.ref C) f=some none
theorem NoAttr.taker{K:Frag}{C:Addr}{f:Str}(n:NoAttr K C f):W.takerIn K C f=some none:=by
 unfold W.takerIn
 rw[show W.findIn K (.ref C) f=some none from n]
 rfl
structure Meth(K:Frag)(C:Addr)(m:Str)(f:Addr):Prop where
 at_:PySem.W.findIn K (.ref C) m=some (some (.ref f))
 fn:PySem.W.isFn K (.ref f)=true
 kp:PySem.W.keepIn K (.ref f)=true
section
variable{X:Cx}{pins:List (Addr×Obj)}{σ:St}{H:Hp}{s:Shared}{a C dx:Addr}{fs:List (Str×V)}{f:Str}{v:V}{A:Around}{E:Value->Shared->Prop}
theorem kB{b:Bool}{Q:Value->Shared->Prop}(I:Inv X pins σ H s)(e:H a=some (.ins C dx fs))(c:Cls X.K C)(n:NoAttr X.K C f)(l:fs.lookup f=some v)
  (h:∀u s',Inv X pins σ H s'->RelV v u->Q u s'):wpAny (model X.prog X.w) A (getAttr (.ref a) f b) Q E s:=by
 obtain⟨mA,O,r,_,_,_⟩:=bM I.hok e
 obtain⟨u,hu,ru⟩:=RelO.some_of (v:=v) (o:=mA f) (by rw[<- l];exact r f)
 exact sM I.kIn O (c.get f) c.hd n hu (ny ru) (h u _ (I.tok _) ru)
theorem cY{m:Str}{g:Addr}{pl:Sem Bool}{Q:Value×List Value->Shared->Prop}(I:Inv X pins σ H s)(e:H a=some (.ins C dx fs))(c:Cls X.K C)(k:Meth X.K C m g)(l:fs.lookup m=none)
  (h:Q (.ref g,[.ref a]) s):wpAny (model X.prog X.w) A (getMethod (.ref a) m pl) Q E s:=by
 obtain⟨mA,O,r,_,_,_⟩:=bM I.hok e
 have hn:mA m=none:=RelO.none_of (by rw[<- l];exact r m)
 exact pA I.kIn O (c.get m) k.at_ k.fn hn h
theorem lA{y:V}{u:Value}{Q:Unit->Shared->Prop}(I:Inv X pins σ H s)(e:H a=some (.ins C dx fs))(c:Cls X.K C)(n:NoAttr X.K C f)(hl:fs.length<1000)(ry:RelV y u)
  (h:∀s',Inv X pins σ (upd H a (.ins C dx (zX f y fs))) s'->Q () s'):wpAny (model X.prog X.w) A (setAttr (.ref a) f u) Q E s:=by
 obtain⟨mA,O,r,wi,_,ho⟩:=bM I.hok e
 have hz:(fs.map (·.1)).length<=sizeLine:=by rw[List.length_map,sizeLine_eq];omega
 refine rR I.kIn O c.sa c.po n.taker c.hd wi hz fun h' O' sb=>h _ ?_
 have hd:∃o,h'.get? dx=some o:=let⟨o,_,_,e',_⟩:=O'.ns;⟨o,e'⟩
 refine I.write (x:=a) (e:=dx) (by rw[e];exact True.intro) (.inr ho) (fun b q hb z=>(sb.2 b hb).trans z) hd ?_
 refine⟨by rw[qh O.ne];exact ho,?_,O.ne,O'.obj,_,O'.ns,fun g=>?_,fun g hg=>?_⟩
 ·have:=cq f y fs;omega
 ·show RelO ((zX f y fs).lookup g) (if g=f then some u else mA g)
  rw[cu]
  by_cases q:g=f
  ·rw[if_pos q,if_pos q];exact ry
  ·rw[if_neg q,if_neg q];exact r g
 ·by_cases q:g=f
  ·rw[q];exact(bi f y fs).1
  ·refine(bi f y fs).2 g (wi g fun z=>hg ?_)
   show(if g=f then some u else mA g)=none
   rw[if_neg q];exact z
theorem Inv.made(I:Inv X pins σ H s):Inv X pins σ (upd (upd H s.heap.objs.size (.own (s.heap.objs.size+1))) (s.heap.objs.size+1) (.ins C s.heap.objs.size []))
  {s with heap:=(s.heap.push W.emptyDict).push (W.instObj C s.heap.objs.size)}:=by
 have e1:(s.heap.push W.emptyDict).get? s.heap.objs.size=some W.emptyDict:=Heap.get?_push_size s.heap rfl
 have e2:((s.heap.push W.emptyDict).push (W.instObj C s.heap.objs.size)).get? (s.heap.objs.size+1)=some (W.instObj C s.heap.objs.size):=by
  have:=Heap.get?_push_size (s.heap.push W.emptyDict) (o:=W.instObj C s.heap.objs.size) rfl
  rwa [Heap.size_push]at this
 have e3:(s.heap.push W.emptyDict).Ns s.heap.objs.size (fun _=>none):=⟨W.emptyDict,#[],_,e1,rfl,(fun e he=>absurd he (by simp)),fun _=>rfl⟩
 have I1:=I.laid (a:=s.heap.objs.size) (o:= .own (s.heap.objs.size+1)) (h':=s.heap.push W.emptyDict) (t':=s.toks) (fun b u q=>Heap.get?_push_of_some _ q) (Nat.le_refl _) ⟨_,e1⟩
 refine I1.laid (a:=s.heap.objs.size+1) (o:= .ins C s.heap.objs.size []) (t':=s.toks) (fun b u q=>Heap.get?_push_of_some _ q) (Nat.le_of_eq (Heap.size_push _ _)) ?_
 have ne:s.heap.objs.size≠s.heap.objs.size+1:=Nat.ne_of_lt (Nat.lt_succ_self _)
 refine⟨by rw[qh ne,qb],Nat.zero_le _,ne,e2,fun _=>none,(Heap.Ns1.of_empty e3).at fun o q=>Heap.get?_push_of_some _ q,fun _=>True.intro,fun y hy=>absurd rfl hy⟩
theorem sZ{prog:Program}{w:World}{env:Env}{e:Expr}{f:Str}{pos:Pos}{s:Shared}{Q:Value->Shared->Prop}(hb:attributeBase e f env (eval e env)=eval e env)
  (h:wpAny (model prog w) A (eval e env) (fun o s₁=>wpAny (model prog w) A (getAttr o f true) Q E s₁) E s):wpAny (model prog w) A (eval (.Attribute e f pos) env) Q E s:=
 Attribute_any_ h (by rw[arm_eval_Attribute,hb])
end
section
variable{X:Cx}{o e value:Expr}{f:Str}{pos pos' tpos:Pos}{ta tv:TE}
end
section
variable{X:Cx}{pins:List (Addr×Obj)}{σ:St}{H:Hp}{s:Shared}{A:Around}{E:Value->Shared->Prop}{Q:Value->Shared->Prop}{c:Value}{b:Bool}
inductive TyOf (K:Frag) (H:Hp):V->Value->Prop where
 |non:TyOf K H .non (.type "NoneType")
 |bl (x:Bool):TyOf K H (.bl x) (.type "bool")
 |int (i:Int):TyOf K H (.int i) (.type "int")
 |str (x:Str):TyOf K H (.str x) (.type "str")
 |flt (x:UInt64):TyOf K H (.flt x) (.type "float")
 |lst {a:Addr} {xs:List V} (e:H a=some (.lst xs)):TyOf K H (.ref a) (.type "list")
 |frz {a:Addr} {o:Obj} {xs:List V} (e:H a=some (.frz o (.lst xs))):TyOf K H (.ref a) (.type "list")
 |tup {a:Addr} {xs:List V} (e:H a=some (.tup xs)):TyOf K H (.ref a) (.type "tuple")
 |dK {a:Addr} {kvs:List (qt×V)} (e:H a=some (.dK kvs)):TyOf K H (.ref a) (.type "dict")
 |dT {a:Addr} {kvs:List (List qt×V)} (e:H a=some (.dT kvs)):TyOf K H (.ref a) (.type "dict")
 | ins {a C dx:Addr} {fs:List (Str×V)} (e:H a=some (.ins C dx fs)) (cl:Cls K C) (ha:PySem.W.findIn K (.ref C) "__class__"=some (some (.builtin "object.__class__")))
   (hn:PySem.W.specialIn K (.builtin "object.__class__") "__get__"=some (some (.builtin "getset_descriptor.__get__"))) (htk:PySem.W.takesIn K (.builtin "object.__class__")=some true)
   (hm:PySem.W.mroIn K C (.type "object")=some true):TyOf K H (.ref a) (.ref C)
theorem md{x:V}{u t:Value}(I:Inv X pins σ H s)(rx:RelV x u)(ty:TyOf X.K H x t)(e:W.kitOne X.K t c=some b)(h:∀tk,Q (.bool b) {s with toks:=tk}):
  wpAny (model X.prog X.w) A (call (.builtin "isinstance") [u,c]) Q E s:=by
 cases ty with
 |non=>cases(show u=Value.none from rx);exact W.kia_one W.kitx_none I.kIn True.intro e (fun z=>nomatch z) h
 |bl y=>cases(show u=Value.bool y from rx);exact W.kia_one W.kitx_bool I.kIn True.intro e (fun z=>nomatch z) h
 |int i=>obtain⟨t,q⟩:=(show∃t,u=Value.int i t from rx);cases q;exact W.kia_one W.kitx_int I.kIn True.intro e (fun z=>nomatch z) h
 |str y=>obtain⟨t,q⟩:=(show∃t,u=Value.str y t from rx);cases q;exact W.kia_one W.kitx_str I.kIn True.intro e (fun z=>nomatch z) h
 |flt y=>obtain⟨t,q⟩:=(show∃t,u=Value.float y t from rx);cases q;exact W.kia_one W.kitx_float I.kIn True.intro e (fun z=>nomatch z) h
 | @lst a xs ea=>
  cases(show u=Value.ref a from rx)
  obtain⟨_,_,n,_,h1⟩:=(show ObjOk X.prog X.w H s.heap a (.lst xs)from I.hok a _ ea)
  exact W.kia_one W.kitx_list I.kIn ⟨_,h1,rfl⟩ e (fun z=>nomatch z) h
 | @frz a ob xs ea=>
  cases(show u=Value.ref a from rx)
  obtain⟨_,_,_,n,_,h1⟩:=(show ObjOk X.prog X.w H s.heap a (.frz ob (.lst xs))from I.hok a _ ea)
  exact W.kia_one W.kitx_list I.kIn ⟨_,h1,rfl⟩ e (fun z=>nomatch z) h
 | @tup a xs ea=>
  cases(show u=Value.ref a from rx)
  obtain⟨_,_,_,p⟩:=(show ObjOk X.prog X.w H s.heap a (.tup xs)from I.hok a _ ea)
  obtain⟨o,h1,h2,_⟩:=p
  exact W.kia_one W.kitx_tuple I.kIn ⟨o,h1,h2⟩ e (fun z=>nomatch z) h
 | @dK a kvs ea=>
  cases(show u=Value.ref a from rx)
  obtain⟨_,_,vs,_,p⟩:=(show ObjOk X.prog X.w H s.heap a (.dK kvs)from I.hok a _ ea)
  obtain⟨o,es,ep,h1,h2,_⟩:=p
  exact W.kia_one W.kitx_dict I.kIn ⟨o,h1,h2.1⟩ e (fun z=>nomatch z) h
 | @dT a kvs ea=>
  cases(show u=Value.ref a from rx)
  obtain⟨_,_,xs,_,o,es,ep,h1,h2,_⟩:=(show ObjOk X.prog X.w H s.heap a (.dT kvs)from I.hok a _ ea)
  exact W.kia_one W.kitx_dict I.kIn ⟨o,h1,h2.1⟩ e (fun z=>nomatch z) h
 | @ins a C dx fs ea cl ha hn htk hm=>
  cases(show u=Value.ref a from rx)
  obtain⟨mA,O,_⟩:=bM I.hok ea
  obtain⟨od,J,_⟩:=O.look
  exact W.kia_one (W.kitx_own (cl.get _) cl.hd ha hn htk hm) I.kIn J e (fun z=>nomatch z) h
end
structure Room(k:Nat)(A:Around):Prop where
 hd:A.handled=none
 dp:A.depth+3*k+5<recursionLimit
 un:A.units+16*k+200<cLine
theorem Room.mono{j k:Nat}{A:Around}(r:Room k A)(h:j<=k):Room j A:=⟨r.hd,by have:=r.dp;omega,by have:=r.un;omega⟩
theorem Room.mo{j k:Nat}{A:Around}(r:Room k A)(h:j<=k:=by first|decide|omega):Room j A:=r.mono h
theorem Room.deeper{k:Nat}{A:Around}(r:Room (k+1) A)(env:Env):Room k (A.deeper env):=
 ⟨r.hd,by have:=r.dp;show A.depth+1+3*k+5<_;omega,by have:=r.un;show A.units+3+16*k+200<_;omega⟩
theorem kW{A:Around}{C:Addr}{us:List Value}{kw:List (Str×Value)}:(A.under (.builtin "type.__call__" ⟨.ref C::us,kw⟩)).depth=A.depth+1:=by
 first|rfl|simp [Around.under,Code.weight,Code.isCreation,Code.isGuard,Code.isCaller,Code.frames,Code.isFrame,guardIds]
theorem ko{A:Around}{C:Addr}{us:List Value}{kw:List (Str×Value)}:(A.under (.builtin "type.__call__" ⟨.ref C::us,kw⟩)).units=A.units+1:=by
 first|rfl|simp [Around.under,Code.cUnits,Code.frames,Code.isFrame]
theorem Room.make{k:Nat}{A:Around}(r:Room (k+1) A)(C:Addr)(us:List Value)(kw:List (Str×Value)):Room k (A.under (.builtin "type.__call__" ⟨.ref C::us,kw⟩)):=
 ⟨r.hd,by have:=r.dp;rw[kW];omega,by have:=r.un;rw[ko];omega⟩
theorem Room.depth{k:Nat}{A:Around}(r:Room k A):A.depth<recursionLimit:=by have:=r.dp;omega
def oo:TA:=fun _ H Q=>Q [] H
def kG(ta:TE)(tr:TA):TA:=fun σ H Q=>ta σ H fun x H1=>tr σ H1 fun xs H2=>Q (x::xs) H2
section
variable{X:Cx}{e:Expr}{es:List Expr}{te:TE}{t:TA}{pos:Pos}
theorem vA:PA X [] oo:=fun _ _ _ _ H Q I h=>Calls.spliced_nil ⟨[],H,I,.nil,h⟩
theorem rQ(ha:PE X e te)(hr:PA X es t)(hs:starEach (e::es) X.env=(false,eval e X.env)::starEach es X.env:=by rfl):PA X (e::es) (kG te t):=by
 intro pos pins s σ H Q I h
 rw[hs]
 show wpAny _ _ (spliced ((false,eval e X.env)::backTo pos (starEach es X.env))) _ _ s
 refine Calls.spliced_cons (qB (ha pins s σ H _ I h) fun u s1 ⟨x,H1,I1,r1,q1⟩=>?_)
 exact qB (hr pos pins s1 σ H1 _ I1 q1) fun us s2 ⟨xs,H2,I2,r2,q2⟩=>⟨x::xs,H2,I2,.cons r1 r2,q2⟩
def vw(t:TA):TE:=fun σ H Q=>t σ H fun xs H1=>xs.length<=sizeLine/\∀p,H1 p=none->Q (.ref p) (upd H1 p (.tup xs))
def t9(t:TA):TE:=fun σ H Q=>t σ H fun xs H1=>xs.length<=sizeLine/\∀p,H1 p=none->Q (.ref p) (upd H1 p (.lst xs))
theorem t8{x1}(h:PA X es t):PE X (.Tuple es x1 pos) (vw t):=by
 intro pins s σ H Q I hq
 refine wpAny_Tuple_spliced (qB (h pos pins s σ H _ I hq) fun us s1 ⟨xs,H1,I1,r,z,q⟩=>⟨by rw[<- r.length];exact z,?_⟩)
 have hf:H1 s1.heap.objs.size=none:=I1.hok.fresh (Nat.le_refl _)
 refine⟨.ref s1.heap.objs.size,upd H1 s1.heap.objs.size (.tup xs),I1.laid (t':=s1.toks) (fun b u e=>Heap.get?_push_of_some _ e) (Nat.le_refl _) ?_,rfl,q _ hf⟩
 exact⟨z,us,r,⟨_,Heap.get?_push_size _ rfl,rfl,_,rfl⟩⟩
theorem vn(h:PA X es t):PE X (.List es pos) (t9 t):=by
 intro pins s σ H Q I hq
 refine wpAny_List_spliced (qB (h pos pins s σ H _ I hq) fun us s1 ⟨xs,H1,I1,r,z,q⟩=>⟨by rw[<- r.length];exact z,?_⟩)
 have hf:H1 s1.heap.objs.size=none:=I1.hok.fresh (Nat.le_refl _)
 refine⟨.ref s1.heap.objs.size,upd H1 s1.heap.objs.size (.lst xs),I1.laid (t':=s1.toks) (fun b u e=>Heap.get?_push_of_some _ e) (Nat.le_refl _) ?_,rfl,q _ hf⟩
 exact⟨z,us,0,r,Heap.get?_push_size _ rfl⟩
end
abbrev Sp:=List V->Hp->VK->XK->Prop
abbrev bh:=List Env->Hp->Shared->XK->Value->Shared->Prop
structure Env0(P:Program)(w:World)(K:Frag)(mg:Str->Option Value)(base:Heap)(A:Around)(outer:List Env)(s:Shared)(H:Hp):Prop where
 frames:A.frames=some outer
 mod:Mod K mg base
 bs:∀b o,base.get? b=some o->s.heap.get? b=some o/\H b=none
 bsz:base.objs.size<=s.heap.objs.size
 funs:s.heap.FunFrames base outer
 frf:∀b∈aT outer,H b=none
 hok:HOk P w H s.heap
 bare:AllBare s.gens
def CE(outer:List Env)(P:Program)(w:World)(H:Hp)(s:Shared)(Q:VK)(u:Value)(s':Shared):Prop:=
 ∃v H',s'.os=s.os/\AllBare s'.gens/\Un (aT outer) [] H H' s.heap s'.heap/\HOk P w H' s'.heap/\RelV v u/\Q v H'
def CR(CX:bh)(outer:List Env)(P:Program)(w:World)(H:Hp)(s:Shared)(Q:VK)(E:XK)(r:Result)(s':Shared):Prop:=
 match r with
 | .ok (.ret u)=>CE outer P w H s Q u s'
 | .ok _=>False
 | .error e=>CX outer H s E e s'
structure FnOk(P:Program)(w:World)(K:Frag)(mg:Str->Option Value)(base:Heap)(CX:bh)(k:Nat)(f:Addr)(fd:FuncData)(ps:List Str)(sp:Sp):Prop where
 len:∀vs H Q E,sp vs H Q E->vs.length=ps.length
 run:∀(A:Around) (outer:List Env) (s:Shared) (H:Hp) (args:Args) (us:List Value) (vs:List V) (Q:VK) (E:XK),Room k A->Env0 P w K mg base A outer s H->BindsTo s fd args (ps.zip us)->Vals vs us->sp vs H Q E->
  codeAny (model P w) A (.call (.ref f) args) (CR CX outer P w H s Q E) s
theorem Env0.make{P:Program}{w:World}{K:Frag}{mg:Str->Option Value}{base:Heap}{A:Around}{outer:List Env}{s:Shared}{H:Hp}(e:Env0 P w K mg base A outer s H)(C:Addr)(us:List Value)(kw:List (Str×Value)):
  Env0 P w K mg base (A.under (.builtin "type.__call__" ⟨.ref C::us,kw⟩)) outer s H:=⟨by first|exact e.frames|(simpa [Around.under,Code.envs,Code.isFrame,pushEnvs]using e.frames),e.mod,e.bs,e.bsz,e.funs,e.frf,e.hok,e.bare⟩
section
variable{X:Cx}{pins:List (Addr×Obj)}{σ:St}{H:Hp}{s s':Shared}
theorem Inv.env0(I:Inv X pins σ H s):Env0 X.prog X.w X.K X.mg X.base X.A X.stack s H:=
 ⟨I.ok.frames,I.ok.mod,I.bs,Nat.le_trans I.ok.bsz I.sz,I.stack,I.stkFree,I.hok,I.bare⟩
theorem Inv.after{Q:VK}{u:Value}(I:Inv X pins σ H s)(h:CE X.stack X.prog X.w H s Q u s'):EP X pins σ Q u s':=by
 obtain⟨v,H',os,bare,un,hok,r,q⟩:=h
 obtain⟨hh,g,d,t,os'⟩:=s'
 obtain rfl:os'=s.os:=os
 exact⟨v,H',I.call (h':=hh) (g':=g) (d':=d) (t':=t) (ch:=[]) un hok bare (fun b z=>absurd z (by simp)),r,q⟩
end
def kJ(sp:Sp)(dvs:List V)(E:XK)(t:TA):TE:=fun σ H Q=>t σ H fun vs H1=>sp (vs++dvs) H1 Q E
def ra(C:Addr)(sp:Sp)(dvs:List V)(E:XK)(t:TA):TE:=fun σ H Q=>t σ H fun vs H1=>∀x dx,H1 x=none->H1 dx=none->dx≠x->
 sp (.ref x::(vs++dvs)) (upd (upd H1 dx (.own x)) x (.ins C dx [])) (fun v H2=>v= .non/\Q (.ref x) H2) E
def Binds(K:Frag)(fd:FuncData)(ps:List Str)(ds:List Value):Prop:=
 ∀(s:Shared) (us:List Value),K.In s.heap->(us++ds).length=ps.length->BindsTo s fd ⟨us,[]⟩ (ps.zip (us++ds))
theorem Binds.all{K:Frag}{fd:FuncData}{ps:List Str}(h:∀us:List Value,us.length=ps.length->bindArgs fd ⟨us,[]⟩=pure (ps.zip us)):Binds K fd ps []:=fun s us _ hl=>by
 rw[List.append_nil]at hl⊢
 exact .of_eq (h us hl)
def bC(CX:bh)(X:Cx)(E:XK):Prop:=∀(pins:List (Addr×Obj)) (σ:St) (H:Hp) (s:Shared) (e:Value) (s':Shared),Inv X pins σ H s->CX X.stack H s E e s'->X.xe e s'
section
variable{X:Cx}{CX:bh}{k:Nat}{f C:Addr}{fd:FuncData}{ps:List Str}{sp:Sp}{dvs:List V}{ds:List Value}{E:XK}{x m:Str}{p pos apos:Pos}{e o:Expr}{es:List Expr}{ta:TE}{t:TA}
theorem iX{pins:List (Addr×Obj)}{σ:St}{H:Hp}{s:Shared}{Q:VK}{us:List Value}{vs:List V}(F:FnOk X.prog X.w X.K X.mg X.base CX k f fd ps sp)(hr:Room k X.A)(hb:Binds X.K fd ps ds)(hd:Vals dvs ds)(hx:bC CX X E)
  (I:Inv X pins σ H s)(r:Vals vs us)(h:sp (vs++dvs) H Q E):wpAny (model X.prog X.w) X.A (call (.ref f) us) (EP X pins σ Q) X.xe s:=by
 have r2:Vals (vs++dvs) (us++ds):=r.append hd
 have hl:(us++ds).length=ps.length:=by rw[<- r2.length];exact F.len _ _ _ _ h
 refine wpAny_call (codeAny_mono (F.run X.A X.stack s H ⟨us,[]⟩ (us++ds) (vs++dvs) Q E hr I.env0 (hb s us I.kIn hl) r2 h) fun r s' hq=>?_)
 cases r with
 |error e=>exact hx pins σ H s e s' I hq
 |ok fl=>
  cases fl with
  |ret u=>exact I.after hq
  |next=>exact False.elim hq
  |brk=>exact False.elim hq
  |cont=>exact False.elim hq
theorem tG(F:FnOk X.prog X.w X.K X.mg X.base CX k f fd ps sp)(hr:Room k X.A)(hg:Gl X x)(hm:X.mg x=some (.ref f))(hk:W.keepIn X.K (.ref f)=true)(hb:Binds X.K fd ps ds)(hd:Vals dvs ds)(hx:bC CX X E)
  (ha:PA X (e::es) t)(hdb:(x==("__debug__":Str))=false:=by decide)(he:starEach (e::es) X.env=(false,eval e X.env)::starEach es X.env:=by rfl)(hpl:(backTo pos (starEach es X.env)).any (·.1)=false:=by rfl):
  PE X (.Call (.Name x p) (e::es) [] pos) (kJ sp dvs E t):=by
 intro pins s σ H Q I h
 refine wpAny_Call_Name_kw (eK I hg hm ?_ hdb)
 refine W.callWith_K (h₀:=X.base) I.ok.mod.kin hk (qB (ha pos pins s σ H _ I h) fun us s1 ⟨vs,H1,I1,r,q⟩=>⟨I1.kIn,?_⟩) he hpl
 exact iX F hr hb hd hx I1 r q
structure Mk(K:Frag)(C f:Addr):Prop where
 makes:PySem.W.makesIn K C=true
 init:PySem.W.findIn K (.ref C) "__init__"=some (some (.ref f))
 fn:PySem.W.isFn K (.ref f)=true
 kp:PySem.W.keepIn K (.ref C)=true
theorem nP{pins:List (Addr×Obj)}{σ:St}{H:Hp}{s:Shared}{Q:VK}{us:List Value}{vs:List V}(M:Mk X.K C f)(F:FnOk X.prog X.w X.K X.mg X.base CX k f fd ps sp)(hr:Room (k+1) X.A)(hb:Binds X.K fd ps ds)(hd:Vals dvs ds)
  (hx:bC CX X E)(I:Inv X pins σ H s)(r:Vals vs us)
  (h:∀x dx,H x=none->H dx=none->dx≠x->sp (.ref x::(vs++dvs)) (upd (upd H dx (.own x)) x (.ins C dx [])) (fun v H2=>v= .non/\Q (.ref x) H2) E):
  wpAny (model X.prog X.w) X.A (call (.ref C) us) (EP X pins σ Q) X.xe s:=by
 have hq:=h (s.heap.objs.size+1) s.heap.objs.size (I.hok.fresh (Nat.le_succ _)) (I.hok.fresh (Nat.le_refl _)) (Nat.ne_of_lt (Nat.lt_succ_self _))
 have I2:=Inv.made (C:=C) I
 have r2:Vals (V.ref (s.heap.objs.size+1)::(vs++dvs)) (Value.ref (s.heap.objs.size+1)::(us++ds)):= .cons rfl (r.append hd)
 have hl:(Value.ref (s.heap.objs.size+1)::us++ds).length=ps.length:=by
  have e:=r2.length
  rw[F.len _ _ _ _ hq]at e
  exact e.symm
 refine wpAny_call (oH (f:=f) I.kIn M.makes M.init (beq_iff_eq.mp M.fn) (codeAny_mono (F.run _ X.stack _ _ ⟨Value.ref (s.heap.objs.size+1)::us,[]⟩ (Value.ref (s.heap.objs.size+1)::(us++ds)) _ _ E (hr.make C us [])
  (I2.env0.make C us []) (hb _ (Value.ref (s.heap.objs.size+1)::us) I2.kIn hl) r2 hq) fun r s' hq'=>?_))
 cases r with
 |error e=>exact hx pins σ _ _ e s' I2 hq'
 |ok fl=>
  cases fl with
  |ret u=>
   obtain⟨v,H',I3,rv,ev,q3⟩:=I2.after hq'
   subst ev
   exact⟨rv,⟨V.ref (s.heap.objs.size+1),H',I3,rfl,q3⟩⟩
  |next=>exact False.elim hq'
  |brk=>exact False.elim hq'
  |cont=>exact False.elim hq'
theorem sB(M:Mk X.K C f)(F:FnOk X.prog X.w X.K X.mg X.base CX k f fd ps sp)(hr:Room (k+1) X.A)(hg:Gl X x)(hm:X.mg x=some (.ref C))(hb:Binds X.K fd ps ds)(hd:Vals dvs ds)(hx:bC CX X E)
  (ha:PA X (e::es) t)(hdb:(x==("__debug__":Str))=false:=by decide)(he:starEach (e::es) X.env=(false,eval e X.env)::starEach es X.env:=by rfl)(hpl:(backTo pos (starEach es X.env)).any (·.1)=false:=by rfl):
  PE X (.Call (.Name x p) (e::es) [] pos) (ra C sp dvs E t):=by
 intro pins s σ H Q I h
 refine wpAny_Call_Name_kw (eK I hg hm ?_ hdb)
 refine W.callWith_K (h₀:=X.base) I.ok.mod.kin M.kp (qB (ha pos pins s σ H _ I h) fun us s1 ⟨vs,H1,I1,r,q⟩=>⟨I1.kIn,?_⟩) he hpl
 exact nP M F hr hb hd hx I1 r q
end
section
variable{X:Cx}{CX:bh}{k:Nat}{f C:Addr}{fd:FuncData}{ps ks:List Str}{sp:Sp}{E:XK}{x m:Str}{p pos apos kpos:Pos}{e o:Expr}{es:List Expr}{kws:List Keyword}{te ta:TE}{t tk:TA}{nm:Option Str}
variable{g:List Value->List Value->List Value}{gV:List V->List V->List V}
end
structure FnScope(N P:List Str)(sc:Scope):Prop where
 kind:sc.kind= .function
 co:sc.isCoroutine=false
 gen:sc.isGenerator=false
 nd:N.Nodup
 pre:N.take P.length=P
 par:∀x∈P,sc.names.lookup x=some .local\/sc.names.lookup x=some .cell
 nofree:∀y∈sc.names,y.2≠ .free
theorem fX{kindOf:Str->Option NameKind}{x:Str}:∀{binds:List (Str×Value)} {m:Str->Option Value},(∀v,(x,v)∉binds)->bindL kindOf binds m x=m x
 | [],_,_=>rfl
 |(n,v)::r,m,h=>by
  unfold bindL
  rw[fX fun w hw=>h w (List.mem_cons_of_mem _ hw)]
  split
  ·have:x≠n:=by rintro rfl;exact h v List.mem_cons_self
   simp [this]
  ·rfl
theorem gx{kindOf:Str->Option NameKind}{x:Str}:∀{binds:List (Str×Value)} {m:Str->Option Value},(∀v,(x,v)∉binds)->bindC kindOf binds m x=m x
 | [],_,_=>rfl
 |(n,v)::r,m,h=>by
  unfold bindC
  rw[gx fun w hw=>h w (List.mem_cons_of_mem _ hw)]
  split
  ·rfl
  ·have:x≠n:=by rintro rfl;exact h v List.mem_cons_self
   simp [this]
theorem gk{kindOf:Str->Option NameKind}{x:Str}{v:Value}:∀{P:List Str} {vs:List Value} {i:Nat} {m:Str->Option Value},P.Nodup->P[i]? =some x->vs[i]? =some v->kindOf x=some .local->
  bindL kindOf (P.zip vs) m x=some v
 | [],_,_,_,_,h,_,_=>by simp at h
 |_::_,[],_,_,_,_,h,_=>by simp at h
 |p::P,w::vs,0,m,nd,h1,h2,hk=>by
  simp at h1 h2;subst h1;subst h2
  show bindL kindOf ((p,w)::P.zip vs) m p=_
  unfold bindL
  rw[fX fun v hv=>(List.nodup_cons.mp nd).1 (List.of_mem_zip hv).1,if_pos hk]
  simp
 |p::P,w::vs,i+1,m,nd,h1,h2,hk=>by
  show bindL kindOf ((p,w)::P.zip vs) m x=_
  unfold bindL
  exact gk (i:=i) (List.nodup_cons.mp nd).2 (by simpa using h1) (by simpa using h2) hk
theorem gt{kindOf:Str->Option NameKind}{x:Str}{v:Value}:∀{P:List Str} {vs:List Value} {i:Nat} {m:Str->Option Value},P.Nodup->P[i]? =some x->vs[i]? =some v->kindOf x≠some .local->
  bindC kindOf (P.zip vs) m x=some v
 | [],_,_,_,_,h,_,_=>by simp at h
 |_::_,[],_,_,_,_,h,_=>by simp at h
 |p::P,w::vs,0,m,nd,h1,h2,hk=>by
  simp at h1 h2;subst h1;subst h2
  show bindC kindOf ((p,w)::P.zip vs) m p=_
  unfold bindC
  rw[gx fun v hv=>(List.nodup_cons.mp nd).1 (List.of_mem_zip hv).1,if_neg hk]
  simp
 |p::P,w::vs,i+1,m,nd,h1,h2,hk=>by
  show bindC kindOf ((p,w)::P.zip vs) m x=_
  unfold bindC
  exact gt (i:=i) (List.nodup_cons.mp nd).2 (by simpa using h1) (by simpa using h2) hk
def QB(N:List Str)(vs:List V):St:=vs.map some++List.replicate (N.length-vs.length) none
def Z0(CX:bh)(P:Program)(w:World)(K:Frag)(mg:Str->Option Value)(base:Heap)(N:List Str)(qual:Str)(scope:Scope)(f:Addr)(cd:Value)(A:Around)(outer:List Env)(s:Shared)(H:Hp)(E:XK):Cx where
 prog:=P
 w:=w
 K:=K
 mg:=mg
 base:=base
 A:=A.deeper (envOfC qual scope s.heap.objs.size f cd)
 N:=N
 s₀:=s
 H₀:=H
 env:=envOfC qual scope s.heap.objs.size f cd
 outer:=outer
 stack:=envOfC qual scope s.heap.objs.size f cd::outer
 ex:=[]
 calm:=true
 fn:=fun _=>true
 pn:=[]
 xe:=fun e s'=>wpAny (model P w) (A.deeper (envOfC qual scope s.heap.objs.size f cd)) (leaving (envOfC qual scope s.heap.objs.size f cd) e) (fun _ s''=>CX outer H s E e s'') (fun e' s''=>CX outer H s E e' s'') s'
theorem gY{sc:Scope}{n:Nat}{x:Str}(h:sc.names.lookup x=some .cell):∃c,(cellsFrom n sc.names []).lookup x=some c:=by
 have q:=W.cellsFrom_some sc.names n [] (.inl h)
 exact Option.isSome_iff_exists.mp q
theorem mT{CX:bh}{P:Program}{w:World}{K:Frag}{mg:Str->Option Value}{base:Heap}{N ps:List Str}{qual:Str}{scope:Scope}{f:Addr}{cd:Value}{A:Around}{outer:List Env}{s s1:Shared}{H:Hp}{E:XK}{us:List Value}{vs:List V}
  (S:FnScope N ps scope)(hd:A.handled=none)(e0:Env0 P w K mg base A outer s H)(hl:vs.length=ps.length)(r:Vals vs us)
  (x:InCallC s s.heap.objs.size (bindL (envOfC qual scope s.heap.objs.size f cd).kindOf (ps.zip us) fun _=>none) (cellsFrom (s.heap.objs.size+1) scope.names []) (bindC (envOfC qual scope s.heap.objs.size f cd).kindOf (ps.zip us) fun _=>none) s1):
  Inv (Z0 CX P w K mg base N qual scope f cd A outer s H E) [] (QB N vs) H s1:=by
 have hpl:ps.length<=N.length:=by have:=congrArg List.length S.pre;rw[List.length_take]at this;omega
 obtain⟨h1,tk,rfl,hk⟩:=x.done
 have noA:∀b:Addr,b∉(Z0 CX P w K mg base N qual scope f cd A outer s H E).ex:=fun b z=>absurd (show b∈([]:List Addr)from z) (by simp)
 refine⟨⟨e0.mod,S.kind,rfl,rfl,Nat.le_refl _,fun y z c h1 h2=>?_,fun y hy=>?_,fun y c _ h=>?_,fun _=>hd,Around.frames_deeper e0.frames,.inr ⟨rfl,rfl⟩,fun b z=>absurd z (noA b),e0.bs,e0.bsz,fun b _ _=>noA b,fun b z=>absurd z (noA b),e0.funs,e0.frf⟩,
  rfl,e0.bare,Un.kept hk,⟨_,x.toInCall.ns,fun i y v h1 h2 h3=>?_⟩,fun y c h=>⟨_,x.cell y c h⟩,e0.hok.fresh (Nat.le_refl _),fun y c h=>?_,fun p hp=>absurd (show p∈([]:List (Addr×Obj))from hp) (by simp),e0.hok.kept hk,?_⟩
 ·exact name_of_addr x.apart (PySem.mem_of_lookup h1) (PySem.mem_of_lookup h2)
 ·have hy:scope.names.lookup y=some .cell\/scope.names.lookup y=some .free:=hy
  rcases hy with hy|hy
  ·exact gY hy
  ·exact absurd rfl (S.nofree _ (PySem.mem_of_lookup hy))
 ·exact Nat.le_of_lt (x.above y c (PySem.mem_of_lookup h))
 ·have hi:i<vs.length:=by
   unfold QB at h2
   by_cases hi:i<vs.length
   ·exact hi
   ·rw[List.getElem?_append_right (by simpa using hi)]at h2
    rw[List.getElem?_replicate]at h2
    split at h2<;>cases h2
  have ha:vs[i]? =some v:=by
   unfold QB at h2
   rw[List.getElem?_append_left (by simpa using hi),List.getElem?_map]at h2
   cases e:vs[i]? with
   |none=>rw[e]at h2;cases h2
   |some a=>rw[e]at h2;cases h2;rfl
  obtain⟨u,hu,rv⟩:=r.get ha
  have hp:ps[i]? =some y:=by
   rw[<- S.pre,List.getElem?_take_of_lt (by omega)];exact h1
  have ndP:ps.Nodup:=by rw[<- S.pre];exact S.nd.sublist (List.take_sublist _ _)
  refine⟨u,rv,?_⟩
  rcases S.par y (List.mem_of_getElem? hp)with k|k
  ·exact .inl ⟨k,gk ndP hp hu k⟩
  ·obtain⟨c,e⟩:=gY (n:=s.heap.objs.size+1) k
   refine .inr ⟨.inl k,c,e,?_⟩
   have q:=x.cell y c e
   rw[gt ndP hp hu (by show scope.names.lookup y≠_;rw[k];decide)]at q
   exact q
 ·exact e0.hok.fresh (Nat.le_of_lt (x.above y c (PySem.mem_of_lookup h)))
 ·unfold QB
  show _=N.length
  rw[List.length_append,List.length_map,List.length_replicate]
  omega
theorem vR{CX:bh}{P:Program}{w:World}{K:Frag}{mg:Str->Option Value}{base:Heap}{k:Nat}{f:Addr}{name qual:Str}{params:Arguments}{body:List Stmt}{scope:Scope}{dV kV doc pm cdv ct oc:Value}{an od:Option Addr}
  {osl:Array (Option Value)}{N ps:List Str}{sp:Sp}(lk:K.lookup f=some ⟨oc,od,.func (W.fnOf name qual params body scope dV kV doc pm an cdv ct),osl⟩)(hcd:W.codeIn K cdv qual=true)(S:FnScope N ps scope)
  (len:∀vs H Q E,sp vs H Q E->vs.length=ps.length)
  (hbody:∀(A:Around) (outer:List Env) (s:Shared) (H:Hp) (vs:List V) (Q:VK) (E:XK),Room k (A.deeper (envOfC qual scope s.heap.objs.size f cdv))->sp vs H Q E->
   ∃t,PSs (Z0 CX P w K mg base N qual scope f cdv A outer s H E) body t/\t {nx:=fun _ H'=>Q .non H',rt:=Q} (QB N vs) H):
  FnOk P w K mg base CX (k+1) f (W.fnOf name qual params body scope dV kV doc pm an cdv ct) ps sp:=by
 refine⟨len,fun A outer s H args us vs Q E hr e0 hb r hsp=>?_⟩
 have hl:=len _ _ _ _ hsp
 have KX:K.In s.heap:=e0.mod.kin.keeps fun b o e=>(e0.bs b o e).1
 have lim:s.heap.NoLimit:=e0.mod.nolimit.keeps fun b o e=>(e0.bs b o e).1
 have hkind:∀y∈ps.zip us,scope.names.lookup y.1=some .local\/(scope.names.lookup y.1=some .cell/\((cellsFrom (s.heap.objs.size+1) scope.names []).lookup y.1).isSome=true):=fun⟨n,v⟩ hy=>by
  rcases S.par n (List.of_mem_zip hy).1 with q|q
  ·exact .inl q
  ·exact .inr ⟨q,W.cellsFrom_some _ _ _ (.inl q)⟩
 refine codeAny_call_function hr.depth (KX _ _ lk) rfl S.co S.gen rfl (W.codeRec_of KX hcd) (hb _ _ _ _ ?_)
 refine wpAny_newFunctionEnv_cells S.kind hkind fun env he s1 x=>?_
 subst he
 refine⟨lim.keeps x.toInCall.keep,codeAny_func ?_⟩
 obtain⟨t,ht,hq⟩:=hbody A outer s H vs Q E (hr.deeper _) hsp
 have I:Inv (Z0 CX P w K mg base N qual scope f cdv A outer s H E) [] (QB N vs) H s1:=mT S hr.hd e0 hl r x
 refine wpAny_mono (ht [] s1 (QB N vs) H _ I hq) (fun fl s' hs=>?_) fun e s' hs=>hs
 have fin:∀{σ':St} {H':Hp} {v:V} {u:Value},Inv (Z0 CX P w K mg base N qual scope f cdv A outer s H E) [] σ' H' s'->RelV v u->Q v H'->CE outer P w H s Q u s':=
  fun{σ' H' v u} J rv q=>⟨v,H',J.os,J.bare,J.base,J.hok,rv,q⟩
 cases fl with
 |ret u=>
  obtain⟨v,σ',H',J,rv,q⟩:=hs
  exact fin J rv q
 |next=>
  obtain⟨σ',H',J,q⟩:=hs
  exact fin (v:=V.non) (u:=Value.none) J rfl q
 |brk=>
  obtain⟨_,_,_,q⟩:=hs
  exact False.elim q
 |cont=>
  obtain⟨_,_,_,q⟩:=hs
  exact False.elim q
section
variable{X:Cx}{x:Str}{p pos:Pos}{e:Expr}{es:List Expr}{t:TA}{id T:String}{r:List V->Hp->VK->Prop}
def rp(r:List V->Hp->VK->Prop)(t:TA):TE:=fun σ H Q=>t σ H fun vs H1=>r vs H1 Q
theorem n5(hc:qW X (.builtin id) r)(hg:Gl X x)(hm:X.mg x=none)(hv:bootBuiltins x=some (.builtin id))(ha:PA X (e::es) t)(hn:x≠"__name__":=by decide)(hdb:(x==("__debug__":Str))=false:=by decide)
  (he:starEach (e::es) X.env=(false,eval e X.env)::starEach es X.env:=by rfl)(hpl:(backTo pos (starEach es X.env)).any (·.1)=false:=by rfl):PE X (.Call (.Name x p) (e::es) [] pos) (rp r t):=by
 intro pins s σ H Q I h
 refine wpAny_Call_Name_kw (Zd I hg hm hv ?_ hn hdb)
 exact PyProof.Rows.callWith_builtin1 (qB (ha pos pins s σ H _ I h) fun us s1 ⟨vs,H1,I1,r1,q1⟩=>hc pins s1 σ H1 vs us Q I1 r1 q1) he hpl
theorem lJ(hc:qW X (.type T) r)(hg:Gl X x)(hm:X.mg x=none)(hv:bootBuiltins x=some (.type T))(ha:PA X (e::es) t)(hn:x≠"__name__":=by decide)(hdb:(x==("__debug__":Str))=false:=by decide)
  (he:starEach (e::es) X.env=(false,eval e X.env)::starEach es X.env:=by rfl)(hpl:(backTo pos (starEach es X.env)).any (·.1)=false:=by rfl):PE X (.Call (.Name x p) (e::es) [] pos) (rp r t):=by
 intro pins s σ H Q I h
 refine wpAny_Call_Name_kw (Zd I hg hm hv ?_ hn hdb)
 exact PyProof.Rows.callWith_type1 (qB (ha pos pins s σ H _ I h) fun us s1 ⟨vs,H1,I1,r1,q1⟩=>hc pins s1 σ H1 vs us Q I1 r1 q1) he hpl
end
end L2
namespace HT
open PySem PyProof.Rows
section
open PySem.SeqAt
open PySem.AutoSeq1 (wpAny_loadPart')
open PySem.MeetsSeq PySem.MeetsSeq2 PySem.MeetsSeq3
end
section
variable{prog:Program}{w:World}{A:Around}{E:Value->Shared->Prop}{s:Shared}
theorem cat_tup{t b:Addr}{vs ws:List Value}{Q:Value->Shared->Prop}(ht:IsTup s.heap t vs.toArray)(hb:IsTup s.heap b ws.toArray)(hv:vs≠[])
  (h1:ws=[]->Q (.ref t) s)(h2:ws≠[]->Q (.ref s.heap.objs.size) {s with heap:=s.heap.push {cls:= .type "tuple",data:= .seq (vs++ws).toArray}})
  (hsz:vs.length+ws.length<=sizeLine):wpAny (model prog w) A (binaryOp .Add (.ref t) (.ref b)) Q E s:=by
 obtain⟨⟨cls,dd,data,sl⟩,ho,hc,n,hd⟩:=id ht
 obtain⟨⟨cls2,dd2,data2,sl2⟩,ho2,hc2,n2,hd2⟩:=id hb
 simp only at hc hd hc2 hd2
 subst hc hd hc2 hd2
 have e:vs.toArray++ws.toArray=(vs++ws).toArray:=by simp
 by_cases hw:ws=[]
 ·exact concat_meets ⟨_,ho,rfl⟩ ⟨_,ho2,rfl⟩ noFill_tuple_add seq_tuple_add PySem.F.slot_tuple_add PySem.F.entry_tuple_add (PySem.F.args_tuple_add_2 _ _)
   (tuple_addW1 t b vs.toArray ws.toArray n n2 dd dd2 sl sl2 (by simpa using hv) (by simp [hw])) ⟨ho,ho2,h1 hw⟩
 ·refine concat_meets ⟨_,ho,rfl⟩ ⟨_,ho2,rfl⟩ noFill_tuple_add seq_tuple_add PySem.F.slot_tuple_add PySem.F.entry_tuple_add (PySem.F.args_tuple_add_2 _ _)
   (tuple_addW2 t b vs.toArray ws.toArray n n2 dd dd2 sl sl2 (by simpa using hv) (by simpa using hw) (by rw[List.size_toArray,List.size_toArray];exact hsz)) ⟨ho,ho2,?_⟩
  rw[e]
  exact h2 hw
def sIx(n d:Nat):Option Int->Nat
 |none=>d
 |some v=>if v<0 then(v+(n:Int)).toNat else min v.toNat n
theorem uL(n d:Nat)(hd:d<=n)(o:Option Int):sIx n d o<=n:=by
 cases o with
 |none=>exact hd
 |some v=>
  show(if v<0 then(v+(n:Int)).toNat else min v.toNat n)<=n
  by_cases hv:v<0
  ·rw[if_pos hv];omega
  ·rw[if_neg hv];exact Nat.min_le_right _ _
theorem jz(v:Int)(n d:Nat):(if v<0 then max (v+(n:Int)) 0 else min v (n:Int))=((sIx n d (some v):Nat):Int):=by
 show(if v<0 then max (v+(n:Int)) 0 else min v (n:Int))=(((if v<0 then(v+(n:Int)).toNat else min v.toNat n):Nat):Int)
 by_cases hv:v<0
 ·simp only[if_pos hv];omega
 ·simp only[if_neg hv];omega
theorem kM(lo hi:Option Int)(n:Nat):Builtin.Slice.sliceAdjust lo hi 1 (n:Int)=(((sIx n 0 lo:Nat):Int),((sIx n n hi:Nat):Int)):=by
 have h1:¬((1:Int)<0):=by omega
 unfold Builtin.Slice.sliceAdjust
 simp only[h1,if_false]
 refine Prod.ext ?_ ?_
 ·cases lo with
  |none=>rfl
  |some v=>exact jz v n 0
 ·cases hi with
  |none=>rfl
  |some v=>exact jz v n n
theorem kQ(i j:Nat):Builtin.Slice.slicePlaces (i:Int) (j:Int) 1=j-i:=by
 unfold Builtin.Slice.slicePlaces
 have h1:(1:Int)>0:=by omega
 simp only[h1,if_true,Int.ediv_one]
 split<;>omega
theorem c9{v:Value}{o:Option Int}{Q:Option Int->Shared->Prop}(p:IsPart v o)(h:Q o s):wpAny (model prog w) A (Builtin.Slice.slicePartIndex v) Q E s:=by
 cases p with
 |none=>exact slicePart_none h
 |int i t=>exact slicePart_int h
theorem sliceApplied_gen{sl:Addr}{vl vu:Value}{lo hi:Option Int}{n:Nat}{Q:Int×Int×Nat->Shared->Prop}(hs:s.heap.IsSliceOf sl vl vu .none)(pl:IsPart vl lo)(pu:IsPart vu hi)
  (h:Q (((sIx n 0 lo:Nat):Int),1,sIx n n hi-sIx n 0 lo) s):wpAny (model prog w) A (Builtin.Slice.sliceApplied (.ref sl) (pure (n:Int))) Q E s:=by
 obtain⟨os,hos,hcs,hds⟩:=id hs
 unfold Builtin.Slice.sliceApplied Builtin.Slice.sliceFields
 refine wpAny_bind (wpAny_bind (wpAny_field hos hds (x:=vl) rfl (wpAny_bind (wpAny_field hos hds (x:=vu) rfl (wpAny_bind (wpAny_field hos hds (x:= .none) rfl (wpAny_pure ?_)))))))
 refine wpAny_bind (slicePart_none ?_)
 show wpAny _ _ (if((1:Int)==0)=true then _ else _) _ _ s
 rw[if_neg (by decide)]
 refine wpAny_bind (c9 pl (wpAny_bind (c9 pu (wpAny_bind (wpAny_pure ?_)))))
 show wpAny _ _ (match Builtin.Slice.sliceAdjust lo hi 1 (n:Int)with|(lo,hi)=>pure (lo,(1:Int),Builtin.Slice.slicePlaces lo hi 1)) _ _ s
 rw[kM lo hi n]
 show wpAny _ _ (pure (((sIx n 0 lo:Nat):Int),(1:Int),Builtin.Slice.slicePlaces ((sIx n 0 lo:Nat):Int) ((sIx n n hi:Nat):Int) 1)) _ _ s
 rw[kQ]
 exact wpAny_pure h
theorem oM(xs:Array Value)(i k:Nat):((List.range k).filterMap fun(m:Nat)=>xs[((i:Int)+(m:Int)*1).toNat]?).toArray=((xs.toList.drop i).take k).toArray:=by
 have e:(fun(m:Nat)=>xs[((i:Int)+(m:Int)*1).toNat]?)=fun m=>xs[i+m]? :=by
  funext m
  have:((i:Int)+(m:Int)*1).toNat=i+m:=by omega
  rw[this]
 rw[e]
 have:=pick_run xs i k
 rw[List.filterMap_map]at this
 have e2:((fun x=>xs[x]?)∘fun x=>i+x)=fun m=>xs[i+m]? :=rfl
 rw[e2]at this
 rw[this]
theorem getItem_tuple_cut{t sl:Addr}{items:Array Value}{vl vu:Value}{lo hi:Option Int}{Q:Value->Shared->Prop}(ht:IsTup s.heap t items)(hs:s.heap.IsSliceOf sl vl vu .none)(pl:IsPart vl lo)(pu:IsPart vu hi)
  (hw:¬(sIx items.size 0 lo=0/\sIx items.size items.size hi=items.size))
  (h:Q (.ref s.heap.objs.size) {s with heap:=s.heap.push {cls:= .type "tuple",data:= .seq ((items.toList.drop (sIx items.size 0 lo)).take (sIx items.size items.size hi-sIx items.size 0 lo)).toArray}})
  (hsz:items.size<=sizeLine):wpAny (model prog w) A (getItem (.ref t) (.ref sl)) Q E s:=by
 have htake:sizeOk (.seq ((items.toList.drop (sIx items.size 0 lo)).take (sIx items.size items.size hi-sIx items.size 0 lo)).toArray):=by
  show((items.toList.drop (sIx items.size 0 lo)).take (sIx items.size items.size hi-sIx items.size 0 lo)).toArray.size<=sizeLine
  rw[List.size_toArray,List.length_take,List.length_drop,Array.length_toList]
  omega
 have hj:sIx items.size items.size hi<=items.size:=uL _ _ (Nat.le_refl _) hi
 obtain⟨os,hos,hcs,hds⟩:=id hs
 have hTs:s.TypeIs (.ref sl) "slice":=⟨os,hos,hcs⟩
 unfold getItem
 try with_reducible refine wpAny_holding ?_
 first|refine wpAny_bind (wpAny_pure ?_)|skip
 refine wpAny_bind (wpAny_sequenceKey ht.typeIs (by decide) ?_)
 refine wpAny_bind (wpAny_callSpecial?_slot (name:=Str.ofString "__getitem__") ht.typeIs PyProof.Rows.slot_tuple_getitem
  (wpAny_call_entry PyProof.Rows.slot_tuple_getitem ht.typeIs entry_tuple_getitem ?_ (args_tuple_getitem _ _)))
 show wpAny _ _ (Builtin.Tuple.tupleItemsOf (.ref t) >>= _) _ _ s
 refine wpAny_bind (tupleItemsOf_ ht ?_)
 refine wpAny_bind (wpAny_typeOf hTs ?_)
 rw[if_pos (by decide)]
 refine wpAny_bind (sliceApplied_gen hs pl pu ?_)
 have hno:¬((((sIx items.size 0 lo:Nat):Int)==0&&(1:Int)==1&&(sIx items.size items.size hi-sIx items.size 0 lo)==items.size)=true):=by
  intro q
  rw[Bool.and_eq_true,Bool.and_eq_true]at q
  have q1:((sIx items.size 0 lo:Nat):Int)=0:=eq_of_beq q.1.1
  have q2:sIx items.size items.size hi-sIx items.size 0 lo=items.size:=eq_of_beq q.2
  exact hw ⟨by omega,by omega⟩
 show wpAny _ _ (if(((sIx items.size 0 lo:Nat):Int)==0&&(1:Int)==1&&(sIx items.size items.size hi-sIx items.size 0 lo)==items.size)=true then _ else _) _ _ s
 rw[if_neg hno,oM]
 first
  |exact wpAny_bind (m:=Builtin.Tuple.tupleExact _) (wpAny_newObj_type (wpAny_pure ⟨_,rfl,wpAny_pure h⟩) htake)
  |exact wpAny_bind (m:=Builtin.Tuple.tupleExact _) (wpAny_newObj_type (wpAny_bind (wpAny_pure (wpAny_pure ⟨_,rfl,wpAny_pure h⟩))) htake)
  |exact wpAny_bind (wpAny_bind (m:=Builtin.Tuple.tupleExact _) (wpAny_newObj_type (wpAny_pure (wpAny_pure ⟨_,rfl,wpAny_pure h⟩)) htake))
  |exact wpAny_bind (wpAny_bind (m:=Builtin.Tuple.tupleExact _) (wpAny_newObj_type (wpAny_pure ⟨_,rfl,wpAny_pure h⟩) htake))
end
end HT
namespace L2
open PySem PySem.Spec PyProof.Rows
abbrev TO:=St->Hp->(Option Int->Hp->Prop)->Prop
def PO(X:Cx)(e:Option Expr)(t:TO):Prop:=
 ∀(pins:List (Addr×Obj)) (s:Shared) (σ:St) (H:Hp) (Q:Option Int->Hp->Prop),Inv X pins σ H s->t σ H Q->
  wpAny (model X.prog X.w) X.A (evalPart e X.env) (fun u s'=>∃o H',Inv X pins σ H' s'/\IsPart u o/\Q o H') X.xe s
def jJ:TO:=fun _ H Q=>Q none H
def rq(t:TE):TO:=fun σ H Q=>t σ H fun x H1=>∃i,x= .int i/\Q (some i) H1
section
variable{X:Cx}{e:Expr}{te:TE}{lo hi:Option Expr}{tl th:TO}{pos p2:Pos}
theorem sr:PO X none jJ:=by
 intro pins s σ H Q I h
 rw[evalPart_none]
 exact wpAny_pure ⟨none,H,I,.none,h⟩
theorem rH(h:PE X e te):PO X (some e) (rq te):=by
 intro pins s σ H Q I hw
 rw[evalPart_some]
 refine qB (h pins s σ H _ I hw) fun u s1 ⟨x,H1,I1,r1,q1⟩=>?_
 obtain⟨i,rfl,q⟩:=q1
 obtain⟨t,rfl⟩:=r1
 exact⟨some i,H1,I1,.int i t,q⟩
def mI(X:Cx)(r:V->Option Int->Option Int->Hp->VK->Prop):Prop:=
 ∀(pins:List (Addr×Obj)) (s:Shared) (σ:St) (H:Hp) (x:V) (v vl vu:Value) (lo hi:Option Int) (sl:Addr) (Q:VK),Inv X pins σ H s->RelV x v->s.heap.IsSliceOf sl vl vu .none->IsPart vl lo->IsPart vu hi->r x lo hi H Q->
  ∃T id,typeLookup (.type T) "__getitem__"=pure (some (.builtin id))/\s.TypeIs v T/\wpAny (model X.prog X.w) X.A (getItem v (.ref sl)) (EP X pins σ Q) X.xe s
def wg(r:V->Option Int->Option Int->Hp->VK->Prop)(te:TE)(tl th:TO):TE:=fun σ H Q=>te σ H fun x H1=>tl σ H1 fun l H2=>th σ H2 fun u H3=>r x l u H3 Q
theorem oV{r:V->Option Int->Option Int->Hp->VK->Prop}(hr:mI X r)(he:PE X e te)(hl:PO X lo tl)(hu:PO X hi th):PE X (.Subscript e (.Slice lo hi none p2) pos) (wg r te tl th):=by
 intro pins s σ H Q I h
 refine Subscript_ (qB (he pins s σ H _ I h) fun v s1 ⟨x,H1,I1,r1,q1⟩=>?_)
 refine wpAny_Slice (qB (hl pins s1 σ H1 _ I1 q1) fun vl s2 ⟨l,H2,I2,pl,q2⟩=>qB (hu pins s2 σ H2 _ I2 q2) fun vu s3 ⟨u,H3,I3,pu,q3⟩=>?_)
 rw[evalPart_none]
 refine wpAny_pure ?_
 have I4:Inv X pins σ H3 {s3 with heap:=s3.heap.push {cls:= .type "slice",data:= .fields #[vl,vu,.none]}}:=I3.kept (t':=s3.toks) fun b ob q=>Heap.get?_push_of_some _ q
 obtain⟨T,id,hT,ht,hg⟩:=hr pins {s3 with heap:=s3.heap.push {cls:= .type "slice",data:= .fields #[vl,vu,.none]}} σ H3 x v vl vu l u s3.heap.objs.size Q I4 r1 (Heap.IsSliceOf.new ..) pl pu q3
 show wpAny (model X.prog X.w) X.A (subscriptTail e (.Slice lo hi none p2) v (.ref s3.heap.objs.size)) (EP X pins σ Q) X.xe {s3 with heap:=s3.heap.push {cls:= .type "slice",data:= .fields #[vl,vu,.none]}}
 exact tail_any (ops:=[.ref s3.heap.objs.size,v]) ht hT hg (by with_unfolding_all rfl)
def ZA(xs:List V)(lo hi:Option Int):List V:=(xs.drop (HT.sIx xs.length 0 lo)).take (HT.sIx xs.length xs.length hi-HT.sIx xs.length 0 lo)
theorem ci(xs:List V)(lo hi:Option Int):(ZA xs lo hi).length<=xs.length:=by
 unfold ZA
 rw[List.length_take,List.length_drop]
 omega
def wH(K:Frag):V->Option Int->Option Int->Hp->VK->Prop:=fun x lo hi H Q=>∃a xs,x= .ref a/\SqT K H a xs/\
 ¬(HT.sIx xs.length 0 lo=0/\HT.sIx xs.length xs.length hi=xs.length)/\∀p,H p=none->Q (.ref p) (upd H p (.tup (ZA xs lo hi)))
theorem vz:mI X (wH X.K):=by
 intro pins s σ H x v vl vu lo hi sl Q I rx hs pl pu h
 obtain⟨a,xs,rfl,hx,hw,q⟩:=h
 cases rx
 obtain⟨its,r,ht,hz⟩:=I.tuple hx
 have hlen:its.toArray.size=xs.length:=by rw[List.size_toArray];exact r.length.symm
 refine⟨"tuple",_,PyProof.Rows.slot_tuple_getitem.lookup,ht.typeIs,?_⟩
 refine HT.getItem_tuple_cut ht hs pl pu (by rw[hlen];exact hw) ?_ (by rw[hlen];exact hz)
 rw[hlen]
 refine⟨.ref s.heap.objs.size,_,I.laid (t':=s.toks) (o:= .tup (ZA xs lo hi)) (fun b ob q=>Heap.get?_push_of_some _ q) (Nat.le_refl _) ?_,rfl,q _ (I.hok.fresh (Nat.le_refl _))⟩
 exact⟨Nat.le_trans (ci xs lo hi) hz,_,(r.drop (HT.sIx xs.length 0 lo)).take (HT.sIx xs.length xs.length hi-HT.sIx xs.length 0 lo),IsTup.new _ _⟩
def v4(K:Frag):R2:=fun x y H Q=>∃a b xs ys,x= .ref a/\y= .ref b/\SqT K H a xs/\SqT K H b ys/\xs≠[]/\xs.length+ys.length<=sizeLine/\
 (ys=[]->Q (.ref a) H)/\(ys≠[]->∀p,H p=none->Q (.ref p) (upd H p (.tup (xs++ys))))
theorem Vals.nil_iff{xs:List V}{us:List Value}(r:Vals xs us):us=[]↔xs=[]:=by
 cases r with
 |nil=>simp
 |cons _ _=>simp
theorem rF:zc X (binaryOp .Add) (v4 X.K):=by
 intro pins s σ H x y v u Q I rx ry h
 obtain⟨a,b,xs,ys,rfl,rfl,ha,hb,hx,hz,q1,q2⟩:=h
 cases rx
 cases ry
 obtain⟨its,r1,p1,_⟩:=I.tuple ha
 obtain⟨its2,r2,p2,_⟩:=I.tuple hb
 refine HT.cat_tup p1 p2 (fun z=>hx (r1.nil_iff.mp z)) (fun z=>⟨.ref a,H,I,rfl,q1 (r2.nil_iff.mp z)⟩) (fun z=>?_) (by rw[<- r1.length,<- r2.length];exact hz)
 refine⟨.ref s.heap.objs.size,_,I.laid (t':=s.toks) (o:= .tup (xs++ys)) (fun b ob q=>Heap.get?_push_of_some _ q) (Nat.le_refl _) ?_,rfl,q2 (fun w=>z (r2.nil_iff.mpr w)) _ (I.hok.fresh (Nat.le_refl _))⟩
 exact⟨by rw[List.length_append];exact hz,_,r1.append r2,IsTup.new _ _⟩
end
def aS(n:Nat)(i:Int):Option Nat:=if 0<=i then(if i<n then some i.toNat else none)else if -(n:Int)<=i then some (i+n).toNat else none
def Q0{α:Type}(xs:List α)(i:Int):Option α:=(aS xs.length i).bind fun j=>xs[j]?
theorem jQ{n:Nat}{i:Int}{j:Nat}(h:aS n i=some j):seqIndex? i n=some j/\j<n/\ -(n:Int)<=i/\i<n:=by
 unfold aS at h
 by_cases h0:0<=i
 ·rw[if_pos h0]at h
  by_cases h1:i<n
  ·rw[if_pos h1]at h
   have e:i.toNat=j:=Option.some.inj h
   exact⟨by rw[seqIndex_of h0 h1,e],by omega,by omega,h1⟩
  ·rw[if_neg h1]at h;cases h
 ·rw[if_neg h0]at h
  by_cases h1: -(n:Int)<=i
  ·rw[if_pos h1]at h
   have e:(i+n).toNat=j:=Option.some.inj h
   exact⟨by rw[seqIndex_neg (by omega) h1,e],by omega,h1,by omega⟩
  ·rw[if_neg h1]at h;cases h
theorem jA{α:Type}{xs:List α}{i:Int}{v:α}(h:Q0 xs i=some v):∃j,seqIndex? i xs.length=some j/\xs[j]? =some v/\j<xs.length/\ -(xs.length:Int)<=i/\i<xs.length:=by
 unfold Q0 at h
 cases e:aS xs.length i with
 |none=>rw[e]at h;cases h
 |some j=>
  rw[e]at h
  obtain⟨h1,h2,h3,h4⟩:=jQ e
  exact⟨j,h1,h,h2,h3,h4⟩
theorem zY{α:Type}{xs:List α}{j:Nat}{v:α}(h:xs[j]? =some v):Q0 xs (j:Int)=some v:=by
 have hj:j<xs.length:=(List.getElem?_eq_some_iff.mp h).1
 have e:aS xs.length (j:Int)=some j:=by
  unfold aS
  rw[if_pos (by omega),if_pos (by omega)];simp
 unfold Q0;rw[e];exact h
def j4(b:Expr):Prop:=∀o i,subscripted b false o i=operate [o,i] (getItem o i)
def IxR(X:Cx)(r:R2):Prop:=
 ∀(value slice:Expr) (pins:List (Addr×Obj)) (s:Shared) (σ:St) (H:Hp) (x y:V) (v u:Value) (Q:VK),Inv X pins σ H s->RelV x v->RelV y u->r x y H Q->
  subscripted slice false v u=operate [v,u] (getItem v u)->wpAny (model X.prog X.w) X.A (subscriptTail value slice v u) (EP X pins σ Q) X.xe s
def kf(X:Cx)(id:String)(r:V->List V->Hp->VK->Prop):Prop:=
 ∀(pins:List (Addr×Obj)) (s:Shared) (σ:St) (H:Hp) (x:V) (xs:List V) (v:Value) (us:List Value) (Q:VK),Inv X pins σ H s->RelV x v->Vals xs us->r x xs H Q->
  wpAny (model X.prog X.w) X.A (call (.builtin id) (v::us)) (EP X pins σ Q) X.xe s
section
variable{X:Cx}{a b:Expr}{ta tb:TE}{pos:Pos}
theorem IxR.or{r r':R2}(h:IxR X r)(h':IxR X r'):IxR X (fun x y H Q=>r x y H Q\/r' x y H Q):=by
 intro value slice pins s σ H x y v u Q I rx ry q hs
 rcases q with q|q
 ·exact h value slice pins s σ H x y v u Q I rx ry q hs
 ·exact h' value slice pins s σ H x y v u Q I rx ry q hs
theorem vJ{r:R2}(hr:IxR X r)(ha:PE X a ta)(hb:PE X b tb)(hs:j4 b):PE X (.Subscript a b pos) (fR r ta tb):=by
 intro pins s σ H Q I h
 exact Subscript_ (pD ha hb I h fun v u s2 x y H2 I2 rx ry q=>hr a b pins s2 σ H2 x y v u Q I2 rx ry q (hs _ _))
def nL(K:Frag):R2:=fun x y H Q=>∃p xs i v,x= .ref p/\y= .int i/\SqL K H p xs/\Q0 xs i=some v/\Q v H
def pC(K:Frag):R2:=fun x y H Q=>∃p xs i v,x= .ref p/\y= .int i/\SqT K H p xs/\Q0 xs i=some v/\Q v H
theorem qG:IxR X (nL X.K):=by
 intro value slice pins s σ H x y v u Q I rx ry h hs
 obtain⟨p,xs,i,z,rfl,rfl,hq,he,q⟩:=h
 cases rx
 obtain⟨t,rfl⟩:=ry
 obtain⟨its,r,pl,hz⟩:=I.list hq
 obtain⟨j,h1,h2,h3,h4,h5⟩:=jA he
 obtain⟨w,ew,rw'⟩:=r.get h2
 have hl:=r.length
 have hn:=Za
 have fin:EP X pins σ Q w s:=⟨z,H,I,rw',q⟩
 by_cases h0:0<=i
 ·have hj:i.toNat=j:=by
   rw[seqIndex_of h0 h5]at h1
   exact Option.some.inj h1
  exact item_listR pl.isList h0 (by omega) (by rw[hj];simpa using ew) fin hs
 ·have hj:(i+(its.toArray.size:Int)).toNat=j:=by
   rw[seqIndex_neg (by omega) h4]at h1
   rw[List.size_toArray,<- hl]
   exact Option.some.inj h1
  exact subscriptTail_builtinR (x:=w) pl.isList.typeIs slot_list_getitem.lookup
   (wpAny_getItem_list_neg (Q:=fun r s'=>r=w/\EP X pins σ Q r s') pl.isList (by omega) (by rw[List.size_toArray]<;>omega) (by omega) (by rw[hj];simpa using ew) ⟨rfl,fin⟩) hs
theorem Qe:IxR X (pC X.K):=by
 intro value slice pins s σ H x y v u Q I rx ry h hs
 obtain⟨p,xs,i,z,rfl,rfl,hq,he,q⟩:=h
 cases rx
 obtain⟨t,rfl⟩:=ry
 obtain⟨its,r,pl,hz⟩:=I.tuple hq
 obtain⟨j,h1,h2,h3,h4,h5⟩:=jA he
 obtain⟨w,ew,rw'⟩:=r.get h2
 have hl:=r.length
 have hn:=Za
 have fin:EP X pins σ Q w s:=⟨z,H,I,rw',q⟩
 exact subscriptTail_builtinR (x:=w) pl.typeIs slot_tuple_getitem.lookup
  (getItem_tuple (j:=j) (Q:=fun r s'=>r=w/\EP X pins σ Q r s') pl (by omega) (by omega) (by rw[List.size_toArray,<- hl];exact h1) (by simpa using ew) ⟨rfl,fin⟩) hs
theorem lv(its:List Value)(n j:Nat)(u:Value):Obj.mapSeq (·.setIfInBounds j u) {cls:= .type "list",data:= .seq its.toArray n}={cls:= .type "list",data:= .seq (its.set j u).toArray n}:=by
 simp [Obj.mapSeq]
theorem Inv.lst{pins:List (Addr×Obj)}{σ:St}{H:Hp}{s:Shared}{p:Addr}{xs:List V}(I:Inv X pins σ H s)(h:H p=some (.lst xs)):
  ∃(its:List Value) (n:Nat),Vals xs its/\s.heap.get? p=some {cls:= .type "list",data:= .seq its.toArray n}/\xs.length<=sizeLine:=by
 obtain⟨z,its,n,r,e⟩:=I.hok p _ h
 exact⟨its,n,r,e,z⟩
theorem Inv.lstUpd{pins:List (Addr×Obj)}{σ:St}{H:Hp}{s:Shared}{p:Addr}{xs ys:List V}{its its':List Value}{n n':Nat}{f:Obj->Obj}(I:Inv X pins σ H s)(h:H p=some (.lst xs))
  (ho:s.heap.get? p=some {cls:= .type "list",data:= .seq its.toArray n})(hf:f {cls:= .type "list",data:= .seq its.toArray n}={cls:= .type "list",data:= .seq its'.toArray n'})(r:Vals ys its')(hz:ys.length<=sizeLine)(t:Nat):
  Inv X pins σ (upd H p (.lst ys)) {s with heap:=s.heap.update p f,toks:=t}:=by
 have e:(s.heap.update p f).get? p=some {cls:= .type "list",data:= .seq its'.toArray n'}:=by
  rw[Heap.get?_update_self f ho (by rw[hf]<;>rfl),hf]
 refine I.write (x:=p) (e:=p) (by rw[h];trivial) (.inl rfl) (fun b u hb q=>(Heap.get?_update_other _ _ (Ne.symm hb)).trans q) ⟨_,e⟩ ?_
 exact⟨hz,its',n',r,e⟩
def vZ:V->V->V->Hp->(Hp->Prop)->Prop:=fun o i v H Q=>∃p xs k j,o= .ref p/\i= .int k/\H p=some (.lst xs)/\aS xs.length k=some j/\Q (upd H p (.lst (xs.set j v)))
theorem Qj:jb X vZ:=by
 intro pins s σ H o i v ov iv u Q I ro ri rv h
 obtain⟨p,xs,k,j,rfl,rfl,hp,hj,q⟩:=h
 cases ro
 obtain⟨t,rfl⟩:=ri
 obtain⟨its,n,r,ho,hz⟩:=I.lst hp
 obtain⟨h1,h2,h3,h4⟩:=jQ hj
 have hl:=r.length
 have hn:=Za
 have I':Inv X pins σ (upd H p (.lst (xs.set j v))) {s with heap:=s.heap.update p (Obj.mapSeq (·.setIfInBounds j u))}:=
  I.lstUpd hp ho (lv its n j u) (r.set rv j) (by rw[List.length_set];exact hz) s.toks
 by_cases h0:0<=k
 ·have hk:k.toNat=j:=by
   rw[seqIndex_of h0 h4]at h1
   exact Option.some.inj h1
  exact W.ki_setAt ho h0 (by omega) (by rw[List.size_toArray,<- hl];exact h4) (by rw[hk];exact⟨_,I',q⟩)
 ·have hk:(k+(its.toArray.size:Int)).toNat=j:=by
   rw[seqIndex_neg (by omega) h3]at h1
   rw[List.size_toArray,<- hl]
   exact Option.some.inj h1
  exact W.ki_setBack ho (by omega) (by rw[List.size_toArray,<- hl];exact h3) (by omega) (by rw[hk];exact⟨_,I',q⟩)
theorem gW(lo hi:Option Int)(n:Nat):(sliceBounds lo hi none n).1=((HT.sIx n 0 lo:Nat):Int)/\(sliceBounds lo hi none n).2.1=((HT.sIx n n hi:Nat):Int)/\(sliceBounds lo hi none n).2.2=1:=by
 refine⟨?_,?_,rfl⟩
 ·cases lo with
  |none=>simp [sliceBounds,HT.sIx]
  |some i=>
   simp only[sliceBounds,HT.sIx,Option.getD_none,show(1:Int)>0 by decide,if_true]
   by_cases h:i<0
   ·simp only[h,if_true]<;>omega
   ·simp only[h,if_false]<;>omega
 ·cases hi with
  |none=>simp [sliceBounds,HT.sIx]
  |some i=>
   simp only[sliceBounds,HT.sIx,Option.getD_none,show(1:Int)>0 by decide,if_true]
   by_cases h:i<0
   ·simp only[h,if_true]<;>omega
   ·simp only[h,if_false]<;>omega
theorem gD(its:List Value)(lo hi:Option Int):slicePick its.toArray lo hi none=((its.drop (HT.sIx its.length 0 lo)).take (HT.sIx its.length its.length hi-HT.sIx its.length 0 lo)).toArray:=by
 obtain⟨h1,h2,h3⟩:=gW lo hi its.toArray.size
 unfold slicePick
 rw[h1,h2,h3]
 simp only[sliceRange_one,pick_run,List.size_toArray]<;>rfl
def wv(K:Frag):V->Option Int->Option Int->Hp->VK->Prop:=fun x lo hi H Q=>∃a xs,x= .ref a/\SqL K H a xs/\∀p,H p=none->Q (.ref p) (upd H p (.lst (ZA xs lo hi)))
theorem sQ:mI X (wv X.K):=by
 intro pins s σ H x v vl vu lo hi sl Q I rx hs pl pu h
 obtain⟨a,xs,rfl,hx,q⟩:=h
 cases rx
 obtain⟨its,r,ht,hz⟩:=I.list hx
 have hlen:=r.length
 refine⟨"list",_,slot_list_getitem.lookup,ht.isList.typeIs,?_⟩
 refine wpAny_getItem_list_slice ht.isList hs pl pu .none (by simp) ?_ (by rw[List.size_toArray]<;>omega)
 rw[gD,<- hlen]
 refine⟨.ref s.heap.objs.size,_,I.laid (t':=s.toks) (o:= .lst (ZA xs lo hi)) (fun b ob q=>Heap.get?_push_of_some _ q) (Nat.le_refl _) ?_,rfl,q _ (I.hok.fresh (Nat.le_refl _))⟩
 exact⟨Nat.le_trans (ci xs lo hi) hz,_,0,(r.drop (HT.sIx xs.length 0 lo)).take (HT.sIx xs.length xs.length hi-HT.sIx xs.length 0 lo),Heap.get?_push_size _ rfl⟩
theorem qO:qW X (.builtin "len") (fun xs H Q=>∃p ys,xs=[.ref p]/\(SqL X.K H p ys\/SqT X.K H p ys)/\Q (.int ys.length) H):=by
 intro pins s σ H xs us Q I r h
 obtain⟨p,ys,rfl,hq,q⟩:=h
 obtain⟨u,rfl,rx⟩:=Qb r
 cases rx
 have hn:=Za
 rcases hq with hq|hq
 ·obtain⟨its,r',pl,hz⟩:=I.list hq
  have hlen:=r'.length
  exact Calls.call_len_list pl.isList (by simp only[List.size_toArray]<;>omega) ⟨.int ys.length,H,I.tok _,⟨s.toks+1,by rw[List.size_toArray,hlen]⟩,q⟩
 ·obtain⟨its,r',pl,hz⟩:=I.tuple hq
  have hlen:=r'.length
  exact len_tuple pl (by simp only[List.size_toArray]<;>omega) ⟨.int ys.length,H,I.tok _,⟨s.toks+1,by rw[List.size_toArray,hlen]⟩,q⟩
theorem gT:qW X (.builtin "len") (fun xs H Q=>∃z,xs=[.str z]/\z.length<=sizeLine/\Q (.int z.length) H):=by
 intro pins s σ H xs us Q I r h
 obtain⟨z,rfl,hz,q⟩:=h
 obtain⟨u,rfl,t,rfl⟩:=Qb r
 have hn:=Za
 exact len_str (by omega) ⟨.int z.length,H,I.tok _,⟨_,rfl⟩,q⟩
theorem Ql:qW X (.type "list") (fun xs H Q=>∃p ys,xs=[.ref p]/\(SqL X.K H p ys\/SqT X.K H p ys)/\∀l,H l=none->Q (.ref l) (upd H l (.lst ys))):=by
 intro pins s σ H xs us Q I r h
 obtain⟨p,ys,rfl,hq,q⟩:=h
 obtain⟨u,rfl,rx⟩:=Qb r
 cases rx
 have fin:∀(its:List Value),Vals ys its->ys.length<=sizeLine->∀(h':Heap) (c':Nat),(∀b o',s.heap.get? b=some o'->h'.get? b=some o')->
   h'.get? s.heap.objs.size=some {cls:= .type "list",dict:=none,data:= .seq its.toArray c',slots:= #[]}->EP X pins σ Q (.ref s.heap.objs.size) {s with heap:=h'}:=fun its r' hz h' c' kp e=>
  ⟨.ref s.heap.objs.size,_,I.laid (t':=s.toks) kp (Nat.le_refl _) (show ObjOk X.prog X.w _ h' _ (.lst ys)from⟨hz,its,c',r',e⟩),rfl,q _ (I.hok.fresh (Nat.le_refl _))⟩
 rcases hq with hq|hq
 ·obtain⟨its,r',pl,hz⟩:=I.list hq
  have hlen:=r'.length
  obtain⟨o,ho,hc,n,hd⟩:=pl.isList
  exact call_list_seq p (.inl rfl) ho hc hd (fun h' c' kp e=>fin its r' hz h' c' kp e) (by simp only[List.size_toArray]<;>omega)
 ·obtain⟨its,r',pl,hz⟩:=I.tuple hq
  have hlen:=r'.length
  obtain⟨o,ho,hc,n,hd⟩:=pl
  exact call_list_seq p (.inr rfl) ho hc hd (fun h' c' kp e=>fin its r' hz h' c' kp e) (by simp only[List.size_toArray]<;>omega)
theorem qJ:qW X (.type "tuple") (fun xs H Q=>∃p ys,xs=[.ref p]/\((SqL X.K H p ys/\∀l,H l=none->Q (.ref l) (upd H l (.tup ys)))\/(SqT X.K H p ys/\Q (.ref p) H))):=by
 intro pins s σ H xs us Q I r h
 obtain⟨p,ys,rfl,h⟩:=h
 obtain⟨u,rfl,rx⟩:=Qb r
 cases rx
 rcases h with⟨hq,q⟩|⟨hq,q⟩
 ·obtain⟨its,r',pl,hz⟩:=I.list hq
  have hlen:=r'.length
  refine call_tuple_list pl.isList (fun h' kp=>?_) (by simp only[List.size_toArray]<;>omega)
  have I1:Inv X pins σ H {s with heap:=h'}:=I.kept (t':=s.toks) kp
  have I2:Inv X pins σ (upd H h'.objs.size (.tup ys)) {s with heap:=h'.push {cls:= .type "tuple",data:= .seq its.toArray}}:=
   I1.laid (t':=s.toks) (fun b o e=>Heap.get?_push_of_some _ e) (Nat.le_refl _) (show ObjOk X.prog X.w _ _ _ (.tup ys)from⟨hz,its,r',IsTup.new _ _⟩)
  exact⟨.ref h'.objs.size,_,I2,rfl,q _ (I1.hok.fresh (Nat.le_refl _))⟩
 ·obtain⟨its,r',pl,hz⟩:=I.tuple hq
  exact call_tuple_same pl ⟨.ref p,H,I,rfl,q⟩
def wd(K:Frag)(T:String)(x:V)(H:Hp):Prop:=match x with
 | .str _=>T="str"
 | .int _=>T="int"
 | .ref p=>(T="list"/\∃xs,SqL K H p xs)\/(T="tuple"/\∃o,K.lookup p=some o/\o.cls= .type "tuple"/\o.dict=none)\/
   (T="dict"/\((∃kvs,H p=some (.dK kvs))\/∃kvs,H p=some (.dT kvs)))\/(T="set"/\∃S n,H p=some (.set S n))
 |_=>False
theorem tL{pins:List (Addr×Obj)}{σ:St}{H:Hp}{s:Shared}{T:String}{x:V}{v:Value}(I:Inv X pins σ H s)(r:RelV x v)(ty:wd X.K T x H):
  s.TypeIs v T/\∀a,v= .ref a->∃ob,s.heap.get? a=some ob/\ob.dict=none:=by
 cases x with
 |str z=>
  obtain⟨t,rfl⟩:=r
  cases(show T="str" from ty)
  exact⟨typeIs_str s z t,fun _ e=>nomatch e⟩
 |int i=>
  obtain⟨t,rfl⟩:=r
  cases(show T="int" from ty)
  exact⟨typeIs_int s i t,fun _ e=>nomatch e⟩
 |ref p=>
  cases r
  rcases ty with⟨rfl,xs,hq⟩|⟨rfl,o,hk,hc,hd⟩|⟨rfl,hk⟩|⟨rfl,S,n,hk⟩
  ·obtain⟨its,_,pl,_⟩:=I.list hq
   refine⟨pl.isList.typeIs,fun a e=>?_⟩
   cases e
   obtain⟨o,n,e,c,hd,_⟩:=pl
   exact⟨o,e,hd⟩
  ·refine⟨⟨o,I.kIn p o hk,hc⟩,fun a e=>?_⟩
   cases e
   exact⟨o,I.kIn _ o hk,hd⟩
  ·have z:∃o,s.heap.get? p=some o/\o.ExactDict:=by
    rcases hk with⟨kvs,hk⟩|⟨kvs,hk⟩
    ·obtain⟨_,_,_,_,o,_,_,e,ex,_⟩:=I.hok p _ hk
     exact⟨o,e,ex⟩
    ·obtain⟨_,_,_,_,o,_,_,e,ex,_⟩:=I.hok p _ hk
     exact⟨o,e,ex⟩
   obtain⟨o,e,ex⟩:=z
   refine⟨⟨o,e,ex.1⟩,fun a e2=>?_⟩
   cases e2
   exact⟨o,e,ex.2.1⟩
  ·obtain⟨o,_,_,_,e,ex,_⟩:=I.hok p _ hk
   refine⟨⟨o,e,ex.1⟩,fun a e2=>?_⟩
   cases e2
   exact⟨o,e,ex.2.1⟩
 |_=>exact False.elim ty
def uu(K:Frag)(T:String)(r:V->List V->Hp->VK->Prop)(to:TE)(t:TA):TE:=fun σ H Q=>to σ H fun x H1=>wd K T x H1/\t σ H1 fun xs H2=>r x xs H2 Q
variable{o e:Expr}{es:List Expr}{to:TE}{t:TA}{name:Str}{apos cpos:Pos}{T id:String}{r:V->List V->Hp->VK->Prop}
theorem v5(pa:PlainAttrs T)(slot:Slot T name id)(hty:typeOf (.builtin id)=pure (.type "method_descriptor"))(hm:kf X id r)(ho:PE X o to)(ha:PA X (e::es) t)
  (hbase:attributeBase o name X.env (eval o X.env)=eval o X.env:=by rfl)
  (hfew:((backTo cpos (starEach (e::es) X.env)).all (fun x=> !x.1)&&(backToKw cpos (keywordEach [] X.env)).all (fun x=>x.1.isSome)
   &&decide ((e::es).length+([]:List Keyword).length+(if([]:List Keyword).isEmpty then 0 else 1)<30))=true:=by rfl)
  (hline:(apos.endLine==cpos.line)=true:=by rfl)(hs:starEach (e::es) X.env=(false,eval e X.env)::starEach es X.env:=by rfl)(hplain:(backTo cpos (starEach es X.env)).any (·.1)=false:=by rfl):
  PE X (.Call (.Attribute o name apos) (e::es) [] cpos) (uu X.K T r to t):=by
 intro pins s σ H Q I h
 refine wpAny_Call_method_late hbase hfew hline rfl (qB (ho pins s σ H _ I h) fun v s1 ⟨x,H1,I1,r1,ty,q1⟩=>?_)
 obtain⟨h1,h2⟩:=tL I1 r1 ty
 refine⟨T,id,pa,slot,hty,h1,h2,?_⟩
 have hA:=ha cpos pins s1 σ H1 _ I1 q1
 rw[hs]at hA⊢
 refine Calls.callWith_builtin (by show(false||(backTo cpos (starEach es X.env)).any (·.1))=false;rw[hplain]<;>rfl) (Calls.evalArgs_plain ?_)
 exact qB hA fun us s2 ⟨vs,H2,I2,r2,q2⟩=>hm pins s2 σ H2 x vs v us Q I2 r1 r2 q2
end
def v6(X:Cx)(id:String)(r:V->List V->Hp->VK->Prop):Prop:=
 ∀(pins:List (Addr×Obj)) (s:Shared) (σ:St) (H:Hp) (x:V) (xs:List V) (v:Value) (us:List Value) (Q:VK),Inv X pins σ H s->RelV x v->Vals xs us->r x xs H Q->
  wpAny (model X.prog X.w) X.A (call (.builtin id) (v::us)) (EP X pins σ Q) X.xe s
theorem Vals.one:∀{x:V} {us:List Value},Vals [x] us->∃u,us=[u]/\RelV x u
 |_,_,.cons r .nil=>⟨_,rfl,r⟩
theorem Vals.two:∀{x y:V} {us:List Value},Vals [x,y] us->∃u v,us=[u,v]/\RelV x u/\RelV y v
 |_,_,_,.cons r (.cons q .nil)=>⟨_,_,rfl,r,q⟩
theorem Vals.eraseIdx:∀{xs:List V} {us:List Value} (i:Nat),Vals xs us->Vals (xs.eraseIdx i) (us.eraseIdx i)
 |_,_,_,.nil=> .nil
 |_,_,0,.cons _ t=>t
 |_,_,i+1,.cons r t=> .cons r (Vals.eraseIdx i t)
theorem Vals.rep{xs:List V}{us:List Value}(h:Vals xs us):∀k:Nat,Vals (List.replicate k xs).flatten (List.replicate k us).flatten
 |0=> .nil
 |k+1=>by
  rw[List.replicate_succ,List.replicate_succ,List.flatten_cons,List.flatten_cons]
  exact Vals.append h (Vals.rep h k)
theorem fP{α:Type}:∀(l:List α) (i:Nat),(l.eraseIdx i).length<=l.length
 | [],_=>Nat.le_refl _
 |_::_,0=>Nat.le_succ _
 |_::r,i+1=>Nat.succ_le_succ (fP r i)
theorem fF(its:List Value):∀(k:Nat) (acc:List Value),
  List.foldl (fun x1 x2=>x1++x2) acc.toArray (List.replicate k its.toArray)=(acc++(List.replicate k its).flatten).toArray
 |0,acc=>by simp
 |k+1,acc=>by
  have e:acc.toArray++its.toArray=(acc++its).toArray:=by simp
  have e2:(acc++its)++(List.replicate k its).flatten=acc++(List.replicate (k+1) its).flatten:=by
   rw[List.replicate_succ,List.flatten_cons,List.append_assoc]
  rw[<- e2,<- fF its k (acc++its),<- e,List.replicate_succ,List.foldl_cons]
section
variable{X:Cx}{pins:List (Addr×Obj)}{σ:St}{H:Hp}{s:Shared}{l b:Addr}{xs ys zs:List V}
theorem Inv.lset{its its':List Value}{n:Nat}{f:Array Value->Array Value}{t':Nat}(I:Inv X pins σ H s)(hH:H l=some (.lst xs))
  (e:s.heap.get? l=some {cls:= .type "list",data:= .seq its.toArray n})(hf:f its.toArray=its'.toArray)(hv:Vals ys its')(hz:ys.length<=sizeLine):
  Inv X pins σ (upd H l (.lst ys)) {s with heap:=s.heap.update l (Obj.mapSeq f),toks:=t'}:=by
 have q:=PySem.IsL.update e f
 rw[hf]at q
 refine I.write (x:=l) (e:=l) (by rw[hH];exact trivial) (.inl rfl) (fun b' u hb hu=>(Heap.get?_update_other s.heap (Obj.mapSeq f) (Ne.symm hb)).trans hu) ⟨_,q⟩ ?_
 exact⟨hz,its',_,hv,q⟩
theorem Inv.lnew{its:List Value}{t':Nat}(I:Inv X pins σ H s)(hv:Vals ys its)(hz:ys.length<=sizeLine):
  Inv X pins σ (upd H s.heap.objs.size (.lst ys)) {s with heap:=s.heap.push {cls:= .type "list",data:= .seq its.toArray},toks:=t'}:=
 I.laid (fun _ _ q=>Heap.get?_push_of_some _ q) (Nat.le_refl _) ⟨hz,its,0,hv,Heap.get?_push_size _ rfl⟩
theorem Inv.fresh(I:Inv X pins σ H s):H s.heap.objs.size=none:=I.hok.fresh (Nat.le_refl _)
theorem Inv.lstM(I:Inv X pins σ H s)(hH:H l=some (.lst xs)):xs.length<=sizeLine/\∃(its:List Value) (n:Nat),Vals xs its/\xs.length=its.length/\s.heap.get? l=some {cls:= .type "list",data:= .seq its.toArray n}:=by
 obtain⟨z,its,n,r,e⟩:=I.hok l _ hH
 exact⟨z,its,n,r,r.length,e⟩
theorem oF{n:Nat}(h:n<=sizeLine):Builtin.List.listTooLong n=false:=by
 unfold Builtin.List.listTooLong
 exact decide_eq_false (by omega)
end
section
variable{X:Cx}
def jB:V->List V->Hp->VK->Prop:=fun x vs H Q=>∃l xs y,x= .ref l/\vs=[y]/\H l=some (.lst xs)/\xs.length<sizeLine/\Q .non (upd H l (.lst (xs++[y])))
theorem mD:v6 X "list.append" jB:=by
 intro pins s σ H x vs v us Q I rx rv h
 obtain⟨l,xs,y,rfl,rfl,hH,hz,q⟩:=h
 cases rx
 obtain⟨u,rfl,ru⟩:=rv.one
 obtain⟨z,its,n,r,hl,e⟩:=I.lstM hH
 refine call_meets F.slot_list_append ⟨_,e,rfl⟩ F.entry_list_append (F.args_list_append_2 _ _) (PySem.list_append l its.toArray n u (by rw[List.size_toArray];omega)) ⟨e,?_⟩
 refine⟨.non,_,I.lset (its':=its++[u]) hH e (by simp) (r.append (.cons ru .nil)) ?_,rfl,q⟩
 rw[List.length_append,List.length_singleton]
 omega
def lD:V->List V->Hp->VK->Prop:=fun x vs H Q=>∃l xs i k y,x= .ref l/\vs=[.int i]/\H l=some (.lst xs)/\ -(2 ^ 63)<=i/\i<2 ^ 63/\seqIndex? i xs.length=some k/\xs[k]? =some y/\Q y (upd H l (.lst (xs.eraseIdx k)))
theorem nK:v6 X "list.pop" lD:=by
 intro pins s σ H x vs v us Q I rx rv h
 obtain⟨l,xs,i,k,y,rfl,rfl,hH,h1,h2,hk,hy,q⟩:=h
 cases rx
 obtain⟨u,rfl,ru⟩:=rv.one
 obtain⟨t,rfl⟩:=ru
 obtain⟨z,its,n,r,hl,e⟩:=I.lstM hH
 obtain⟨w,hw,rw'⟩:=r.get hy
 refine call_meets F.slot_list_pop ⟨_,e,rfl⟩ F.entry_list_pop (F.args_list_pop_2 _ _)
  (MeetsSeq.list_pop_at l its.toArray n i t k w (fitsIndex_both h1 h2) (by rw[List.size_toArray,<- hl];exact hk) (by rw[<- Array.getElem?_toList];exact hw) (by rw[List.size_toArray];omega)) ⟨e,?_⟩
 refine⟨y,_,I.lset (its':=its.eraseIdx k) hH e ?_ (r.eraseIdx k) ?_,rw',q⟩
 ·show its.toArray.eraseIdxIfInBounds k=(its.eraseIdx k).toArray
  rw[List.eraseIdxIfInBounds_toArray]
 ·have:=fP xs k
  omega
def wJ:R2:=fun x y H Q=>∃l b xs zs,x= .ref l/\y= .ref b/\H l=some (.lst xs)/\H b=some (.lst zs)/\xs.length+zs.length<=sizeLine/\∀p,H p=none->Q (.ref p) (upd H p (.lst (xs++zs)))
theorem vD:zc X (binaryOp .Add) wJ:=by
 intro pins s σ H x y v u Q I rx ry h
 obtain⟨l,b,xs,zs,rfl,rfl,hH,hB,hz,q⟩:=h
 cases rx
 cases ry
 obtain⟨z,its,n,r,hl,e⟩:=I.lstM hH
 obtain⟨z2,its2,n2,r2,hl2,e2⟩:=I.lstM hB
 refine PySem.P.add_list e e2 ?_ (by rw[List.size_toArray,List.size_toArray];omega)
 have ea:its.toArray++its2.toArray=(its++its2).toArray:=by simp
 rw[ea]
 exact⟨.ref _,_,I.lnew (t':=s.toks) (r.append r2) (by rw[List.length_append];omega),rfl,q _ I.fresh⟩
def wL:R2:=fun x y H Q=>∃l k xs,x= .ref l/\y= .int k/\H l=some (.lst xs)/\ -(2 ^ 63)<=k/\k<2 ^ 63/\xs.length*k.toNat<=sizeLine/\
 ∀p,H p=none->Q (.ref p) (upd H p (.lst (List.replicate k.toNat xs).flatten))
theorem sN{α:Type}(xs:List α)(k:Nat):(List.replicate k xs).flatten.length=k*xs.length:=by
 induction k with
 |zero=>simp
 |succ k ih=>rw[List.replicate_succ,List.flatten_cons,List.length_append,ih,Nat.succ_mul,Nat.add_comm]
theorem ir:zc X (binaryOp .Mult) wL:=by
 intro pins s σ H x y v u Q I rx ry h
 obtain⟨l,k,xs,rfl,rfl,hH,h1,h2,hz,q⟩:=h
 cases rx
 obtain⟨t,rfl⟩:=ry
 obtain⟨z,its,n,r,hl,e⟩:=I.lstM hH
 have hlen:its.toArray.size*k.toNat<=sizeLine:=by rw[List.size_toArray,<- hl];exact hz
 have hcap:¬its.toArray.size*k.toNat>(2 ^ 63-1)/8:=by
  have:(sizeLine:Nat)<=(2 ^ 63-1)/8:=by decide
  omega
 have hfit:¬(!Builtin.List.listFitsIndex k)=true:=by
  rw[fitsIndex_both h1 h2]
  exact Bool.false_ne_true
 have hlong:¬Builtin.List.listTooLong (its.toArray.size*k.toNat)=true:=by
  rw[oF hlen]
  exact Bool.false_ne_true
 have hnew:List.foldl (fun x1 x2=>x1++x2) #[] (List.replicate (if its.toArray.isEmpty=true then 0 else k.toNat) its.toArray)=(List.replicate k.toNat its).flatten.toArray:=by
  have f0:∀m:Nat,List.foldl (fun x1 x2=>x1++x2) #[] (List.replicate m its.toArray)=(List.replicate m its).flatten.toArray:=fun m=>by
   have:=fF its m []
   rw[List.nil_append]at this
   exact this
  rw[f0]
  cases its with
  |nil=>simp
  |cons a r'=>rw[if_neg (by simp)]
 refine wpAny_binaryOp_repeat_ref (T:="list") (U:="int") (by decide) ⟨_,e,rfl⟩ (fun s'=>typeIs_int s' k t) noFill_list_mul F.fills_int_mul F.slot_int_rmul repeat_list F.slot_int_index.lookup
  (call_meets F.slot_int_rmul (typeIs_int s k t) F.entry_int_rmul (F.args_int_rmul_2 _ _) (int___rmul___int_list k t l its.toArray n)
   ⟨e,rfl,⟨_,e,rfl⟩,call_meets F.slot_list_mul ⟨_,e,rfl⟩ F.entry_list_mul (F.args_list_mul_2 _ _) (AutoListH.list___mul___list_int_3 l its.toArray n k t hfit hcap hlong) ⟨e,?_⟩⟩)
 rw[hnew]
 exact⟨.ref _,_,I.lnew (t':=s.toks) (r.rep k.toNat) (by rw[sN,Nat.mul_comm];exact hz),rfl,q _ I.fresh⟩
end
section
variable{prog:Program}{w:World}{A:Around}{E:Value->Shared->Prop}{s:Shared}
end
section
variable{X:Cx}
end
end L2
namespace Att
open PySem PySem.W PySem.Calls PyProof.Rows
theorem eC{P:Params}{h:Heap}:∀(ns:List Int) (vs:List Value),WellAll P h vs (ns.map WData.int)->IntsAre vs ns:=by
 intro ns
 induction ns with
 |nil=>
  intro vs w
  rw[List.map_nil]at w
  cases w
  exact .nil
 |cons n ns ih=>
  intro vs w
  rw[List.map_cons]at w
  cases w with
  |cons a b=>
   cases a
   exact .cons _ _ (ih _ b)
theorem mL{l:OpenLaw}{n:Nat}(hn:l.most=some n){P:Params}{h:Heap}{args:List WData}{vals:List Value}
  (hpre:l.row.toRowW.claim.pre args=true)(hwl:WellAll P h vals args):
  ∃a vs ns,vals=[Value.ref a]/\args=[WData.list (ns.map WData.int)]/\h.get? a=some {cls:= .type "list",data:= .seq vs.toArray}/\IntsAre vs ns/\ns.length<=n:=by
 have hsh:WShape.hasAll [] args [.list .int]=true:=(pre_splitW hpre).1
 have hc:l.pre.holds [] {args:=args}=true:=(pre_splitW hpre).2
 obtain⟨d,r,rfl,h1,h2⟩:=hasAllW_cons hsh
 obtain rfl:=hasAllW_nil h2
 obtain⟨xs,rfl,h3⟩:=hasW_list h1
 obtain⟨ns,rfl⟩:=items_int h3
 have hlen:ns.length<=n:=by
  unfold OpenLaw.pre at hc
  have h4:(WTm.not (.lt (.lit (.int (n:Int))) (.len (.arg 0)))).holds [] {args:=[.list (ns.map .int)]}=true:=by
   have h4:=(holds_andW hc).1
   rw[hn]at h4
   exact h4
  have h5:=condW_of h4 (w_not (w_lt w_lit (w_len_list (w_arg rfl))))
  rw[List.length_map]at h5
  refine Nat.le_of_not_lt fun q=>?_
  have q':(n:Int)<((ns.length:Nat):Int):=by omega
  first
   |(rw[decide_eq_true q']at h5;exact absurd h5 (by decide))
   |(simp at h5;omega)
 cases hwl with
 |cons w1 w2=>
  cases w2
  cases w1 with
  |list ho hall=>exact⟨_,_,ns,rfl,rfl,ho,eC ns _ hall,hlen⟩
theorem lM(l:OpenLaw)(args:List WData):l.row.toRowW.claim.post args (.bool true) args=true:=
 postW_of (r:=l.row.toRowW) (X:=(true==true))
  (show WShape.has [] (.bool true) .bool=true by first|rfl|decide|simp [WShape.has,WShape.arms,WShape.armsAll])
  (show(WTm.eq .res (.lit (.bool true))).value [] {args:=args,res:=some (.bool true),after:=args}=some (.bool (true==true))from w_eq_bool (w_res rfl) w_lit) rfl
theorem attach_call{l:OpenLaw}{n:Nat}{q:Program}{loose:List Str}{XP:(Str->Option Value)->Heap->Prop}{YP:World->Heap->Prop}{d:DefRec}
  (hn:l.most=some n)(hdf:d.params.defaults=[])
  (call:∀(w:World) (s₀ s₁:Shared) (mg mb:Str->Option Value) (fa:Addr) (o:Obj) (pm cd doc:Value) (a:Addr) (vs:List Value) (ns:List Int),
   Ground q loose [] XP w s₀ mg mb s₁.heap->YP w s₁.heap->
   s₁.heap.get? fa=some o->o.data= .func (docDef d.name d.params d.body d.scope pm cd doc)->s₁.heap.CodeRec cd d.name->mg d.name=some (.ref fa)->
   s₁.heap.get? a=some {cls:= .type "list",data:= .seq vs.toArray}->IntsAre vs ns->ns.length<=n->s₁.gens= #[]->
   codeAny (model l.prog w) callerA (.call (.ref fa) ⟨[.ref a],[]⟩) (fun r s'=>r= .ok (.ret (.bool true))/\OldK s₁.heap s'.heap/\s'.os=s₁.os/\AllBare s'.gens) s₁):
  WalkO q loose XP YP l.row.toRowW d [] (fun f vs=>PySem.call f vs):=by
 intro w s₀ s₁ mg mb G Y fa o pm cd doc dV kV ho hd hcd hD hmg hg args vals as hpre hlay hrd hwl hlo
 obtain rfl:dV= .none:=Dflts.none hD hdf
 obtain rfl:kV= .none:=Dflts.noKw hD
 obtain⟨a,vs,ns,rfl,rfl,hobj,hints,hlen⟩:=mL hn hpre hwl
 refine enter_call (codeAny_mono (call w s₀ s₁ mg mb fa o pm cd doc a vs ns G Y ho (fd_plain hd) hcd hmg hobj hints hlen hg) fun r s' hq=>?_)
 obtain⟨rfl,h2,h3,h4⟩:=hq
 exact⟨.inl ⟨.bool true,.bool true,[],rfl,fun _=>rfl,.bool true,lM l _,fun _=>⟨List.Pairwise.nil,fun _ hm=>(nomatch hm)⟩⟩,h2,h3,h4⟩
section
variable{prog:Program}{w:World}{A:Around}{E:Value->Shared->Prop}{s:Shared}{K:Frag}
end
end Att
namespace L2
open PySem PySem.Spec PyProof.Rows
theorem fM:∀{vs:List Value} {ns:List Int},IntsAre vs ns->Vals (ns.map V.int) vs
 |_,_,.nil=> .nil
 |_,_,.cons n t h=> .cons ⟨t,rfl⟩ (fM h)
def pE(H:Hp):Prop:=∀b,H b=none\/∃o xs,H b=some (.frz o (.lst xs))
theorem pH{P:Program}{w:World}{K:Frag}{mg mb:Str->Option Value}{CX:bh}{k:Nat}{fa a:Addr}{fd:FuncData}{x:Str}{sp:Sp}{s₁:Shared}{vs:List Value}{ns:List Int}
  (KX:K.In s₁.heap)(hns:s₁.heap.Ns mainGlobals mg)(hb:s₁.heap.Ns builtinsNs mb)(hbb:∀x:Str,x≠"__name__"->mb x=bootBuiltins x)(hlim:s₁.heap.NoLimit)(hg:s₁.gens= #[])
  (ha:s₁.heap.get? a=some {cls:= .type "list",data:= .seq vs.toArray})(hi:IntsAre vs ns)(hl:ns.length<=sizeLine)(hr:Room k callerA)
  (F:∀base:Heap,K.In base->base.Ns mainGlobals mg->FnOk P w K mg base CX k fa fd [x] sp)(hbind:∀(s:Shared) (u:Value),BindsTo s fd ⟨[u],[]⟩ [(x,u)])
  (hsp:∀H:Hp,pE H->SqL K H a (ns.map V.int)->sp [.ref a] H (fun v _=>v= .bl true) fun _ _ _=>False)
  (hCX:∀H e s',CX [] H s₁ (fun _ _ _=>False) e s'->False):
  codeAny (model P w) callerA (.call (.ref fa) ⟨[.ref a],[]⟩) (fun r s'=>r= .ok (.ret (.bool true))/\OldK s₁.heap s'.heap/\s'.os=s₁.os/\AllBare s'.gens) s₁:=by
 have rv:=fM hi
 have lenV:=hi.length
 have core:∀H:Hp,pE H->SqL K H a (ns.map V.int)->HOk P w H s₁.heap->(∀b,H b≠none->b=a)->(H a≠none->K.lookup a=none)->
   codeAny (model P w) callerA (.call (.ref fa) ⟨[.ref a],[]⟩) (fun r s'=>r= .ok (.ret (.bool true))/\OldK s₁.heap s'.heap/\s'.os=s₁.os/\AllBare s'.gens) s₁:=by
  intro H hO hS hok hA hK
  have base_of:∀{b:Addr} {o:Obj},s₁.heap.get? b=some o->H b=none->(ay s₁.heap H).get? b=some o:=fun e n=>nZ e n
  have noA:∀{b:Addr} {o:Obj} {es:Array DictEntry} {ep:Nat},s₁.heap.get? b=some o->o.data= .dict es ep->H b=none:=fun{b o es ep} e d=>by
   cases q:H b with
   |none=>rfl
   |some u=>
    have e':b=a:=hA b (by rw[q];simp)
    subst e'
    rw[ha]at e;cases e
    have d':Data.seq vs.toArray _=Data.dict es ep:=d
    cases d'
  have nsK:∀{b:Addr} {m:Str->Option Value},s₁.heap.Ns b m->(ay s₁.heap H).Ns b m:=fun{b m} ⟨o,es,ep,e,d,r⟩=>⟨o,es,ep,base_of e (noA e d),d,r⟩
  have hKb:K.In (ay s₁.heap H):=fun b o e=>base_of (KX b o e) (by
   cases q:H b with
   |none=>rfl
   |some u=>
    have e':b=a:=hA b (by rw[q];simp)
    subst e'
    rw[hK (by rw[q];simp)]at e;cases e)
  have hM:Mod K mg (ay s₁.heap H):=⟨hKb,nsK hns,⟨mb,nsK hb,hbb⟩,let⟨mc,h1,h2⟩:=hlim;⟨mc,nsK h1,h2⟩⟩
  have e0:Env0 P w K mg (ay s₁.heap H) callerA [] s₁ H:=⟨rfl,hM,fun b o e=>sT e,Nat.le_of_eq (mM _ _),trivial,fun b hb=>absurd (show b∈([]:List Addr)from hb) (by simp),hok,.of_eq hg⟩
  refine codeAny_mono ((F _ hKb (nsK hns)).run callerA [] s₁ H ⟨[.ref a],[]⟩ [.ref a] [.ref a] _ _ hr e0 (hbind s₁ (.ref a)) (.cons rfl .nil) (hsp H hO hS)) fun r s' h=>?_
  cases r with
  |error e=>exact(hCX H e s' h).elim
  |ok fl=>
   cases fl with
   |next=>exact False.elim h
   |brk=>exact False.elim h
   |cont=>exact False.elim h
   |ret u=>
    obtain⟨v,H',os,bare,un,hok',r',q⟩:=h
    have q':v= .bl true:=q
    subst q'
    obtain rfl:u=Value.bool true:=r'
    refine⟨rfl,OldK.of_keep fun b o e=>?_,os,bare⟩
    cases q:H b with
    |none=>exact un.keep b o e q (by intro z;exact absurd (show b∈([]:List Addr)from z) (by simp)) (by simp)
    |some u=>
     rcases hO b with z|⟨ob,xs,z⟩
     ·rw[q]at z;cases z
     ·have z2:=un.frzs b ob _ z
      obtain⟨e1,_⟩:=hok b _ z
      obtain⟨e2,_⟩:=hok' b _ z2
      rw[e]at e1;cases e1
      exact e2
 cases hk:K.lookup a with
 |some o=>
  have e:=KX a o hk
  rw[ha]at e
  cases e
  refine core (fun _=>none) (fun _=> .inl rfl) (.inr ⟨_,vs.toArray,_,hk,rfl,rfl,rfl,by rw[List.size_toArray,lenV];exact hl,by simpa using rv⟩) (fun b u z=>by have z':(none:Option HO)=some u:=z;cases z') (fun b z=>absurd rfl z) fun z=>absurd rfl z
 |none=>
  refine core (fun b=>if b=a then some (.frz {cls:= .type "list",data:= .seq vs.toArray} (.lst (ns.map V.int)))else none) (fun b=>?_) (.inl (.inr ⟨{cls:= .type "list",data:= .seq vs.toArray},if_pos rfl⟩)) (fun b u z=>?_) (fun b z=>?_) fun _=>hk
  ·by_cases hb:b=a
   ·exact .inr ⟨_,_,if_pos hb⟩
   ·exact .inl (if_neg hb)
  ·by_cases hb:b=a
   ·have z':=(if_pos hb).symm.trans z
    cases z'
    subst hb
    exact⟨ha,by rw[List.length_map];exact hl,vs,_,rv,ha⟩
   ·have z':=(if_neg hb).symm.trans z
    cases z'
  ·by_cases hb:b=a
   ·exact hb
   ·exact absurd (if_neg hb) z
theorem rX{l:W.OpenLaw}{n k:Nat}{q:Program}{loose:List Str}{XP:(Str->Option Value)->Heap->Prop}{YP:World->Heap->Prop}{d:DefRec}{K:Params->Frag}{CX:World->bh}{sp:World->Sp}{x:Str}
  (hn:l.most=some n)(hn2:n<=sizeLine)(hdf:d.params.defaults=[])(hr:Room k callerA)
  (hY:∀(w:World) (h:Heap),YP w h->(K w.params).In h)
  (F:∀(w:World) (mg:Str->Option Value) (fa:Addr) (h:Heap),(K w.params).In h->h.Ns mainGlobals mg->mg d.name=some (.ref fa)->
   ∃fd:FuncData,(∀(s:Shared) (u:Value),BindsTo s fd ⟨[u],[]⟩ [(x,u)])/\
    ∀base:Heap,(K w.params).In base->base.Ns mainGlobals mg->FnOk l.prog w (K w.params) mg base (CX w) k fa fd [x] (sp w))
  (hsp:∀(w:World) (H:Hp) (a:Addr) (ns:List Int),ns.length<=n->pE H->SqL (K w.params) H a (ns.map V.int)->sp w [.ref a] H (fun v _=>v= .bl true) fun _ _ _=>False)
  (hCX:∀(w:World) (H:Hp) (s:Shared) (e:Value) (s':Shared),CX w [] H s (fun _ _ _=>False) e s'->False):
  W.WalkO q loose XP YP l.row.toRowW d [] (fun f vs=>PySem.call f vs):=by
 refine Att.attach_call hn hdf fun w s₀ s₁ mg mb fa o pm cd doc a vs ns G Y ho hd hcd hmg hobj hints hlen hg=>?_
 have KX:=hY w _ Y
 obtain⟨fd,hb,hF⟩:=F w mg fa _ KX G.T.g hmg
 exact pH KX G.T.g G.T.b G.T.builtins G.T.nolimit hg hobj hints (Nat.le_trans hlen hn2) hr hF hb (fun H hO hS=>hsp w H a ns hlen hO hS) fun H e s'=>hCX w H s₁ e s'
def zp(s:Stmt)(j:Nat):Stmt:=match s with
 | .ClassDef _ _ _ body _ _ _ _ _ _ _=>body.getD j (.Pass ⟨0,0,0,0⟩)
 |_=> .Pass ⟨0,0,0,0⟩
def Qd(s:Stmt):Arguments:=match s with
 | .FunctionDef _ a _ _ _ _ _ _ _ _=>a
 |_=>{posonlyargs:=[],args:=[],vararg:=none,kwonlyargs:=[],kw_defaults:=[],kwarg:=none,defaults:=[]}
def zv(s:Stmt):List Stmt:=match s with
 | .FunctionDef _ _ b _ _ _ _ _ _ _=>b
 |_=>[]
def qi(s:Stmt):Scope:=match s with
 | .FunctionDef _ _ _ _ _ _ sc _ _ _=>sc
 |_=>{kind:= .function,names:=[],isGenerator:=false,isCoroutine:=false}
abbrev Zr:bh:=fun _ _ _ _ _ _=>False
abbrev E0:XK:=fun _ _ _=>False
theorem gL{X:Cx}:bC Zr X E0:=fun _ _ _ _ _ _ _ h=>h.elim
structure Fun(K:Frag)(x qual:Str)(st:Stmt)(f:Addr)(fd:FuncData):Prop where
 ex:∃(oc:Value) (od:Option Addr) (kV doc pm:Value) (an:Option Addr) (cdv ct:Value) (osl:Array (Option Value)),
  fd=PySem.W.fnOf x qual (Qd st) (zv st) (qi st) .none kV doc pm an cdv ct/\K.lookup f=some ⟨oc,od,.func fd,osl⟩/\PySem.W.codeIn K cdv qual=true
 kp:PySem.W.keepIn K (.ref f)=true
section
variable{P:Program}{w:World}{K:Frag}{mg:Str->Option Value}{base:Heap}
theorem Fun.ok{x qual:Str}{st:Stmt}{f:Addr}{fd:FuncData}{N ps:List Str}{k:Nat}{sp:Sp}(F:Fun K x qual st f fd)(S:FnScope N ps (qi st))(len:∀vs H Q E,sp vs H Q E->vs.length=ps.length)
  (hbody:∀(cdv:Value) (A:Around) (outer:List Env) (s:Shared) (H:Hp) (vs:List V) (Q:VK) (E:XK),Room k (A.deeper (envOfC qual (qi st) s.heap.objs.size f cdv))->sp vs H Q E->
   ∃t,PSs (Z0 Zr P w K mg base N qual (qi st) f cdv A outer s H E).nox (zv st) t/\t {nx:=fun _ H'=>Q .non H',rt:=Q} (QB N vs) H):FnOk P w K mg base Zr (k+1) f fd ps sp:=by
 obtain⟨oc,od,kV,doc,pm,an,cdv,ct,osl,rfl,lk,hcd⟩:=F.ex
 refine vR lk hcd S len fun A outer s H vs Q E hr hsp=>?_
 obtain⟨t,h,q⟩:=hbody cdv A outer s H vs Q E hr hsp
 exact⟨t,h.nox,q⟩
theorem Fun.binds{x qual:Str}{st:Stmt}{f:Addr}{fd:FuncData}{ps:List Str}(F:Fun K x qual st f fd)
  (h:∀(kV doc pm:Value) (an:Option Addr) (cdv ct:Value) (us:List Value),us.length=ps.length->bindArgs (W.fnOf x qual (Qd st) (zv st) (qi st) .none kV doc pm an cdv ct) ⟨us,[]⟩=pure (ps.zip us)):Binds K fd ps []:=by
 obtain⟨oc,od,kV,doc,pm,an,cdv,ct,osl,rfl,lk,hcd⟩:=F.ex
 exact .all (h kV doc pm an cdv ct)
theorem gR{x qual:Str}{st:Stmt}{f:Addr}{oc:Value}{od an:Option Addr}{osl:Array (Option Value)}{kV doc pm cdv ct:Value}(l:K.lookup f=some ⟨oc,od,.func (W.fnOf x qual (Qd st) (zv st) (qi st) .none kV doc pm an cdv ct),osl⟩)
  (c:W.codeIn K cdv qual=true)(k:W.keepIn K (.ref f)=true):Fun K x qual st f (W.fnOf x qual (Qd st) (zv st) (qi st) .none kV doc pm an cdv ct):=⟨⟨oc,od,kV,doc,pm,an,cdv,ct,osl,rfl,l,c⟩,k⟩
end
section
variable{X:Cx}
end
theorem zg{A B:Prop}(h:B):if false=true then A else B:=by
 rw[if_neg Bool.false_ne_true]
 exact h
theorem zM{A B:Prop}(h:A):if true=true then A else B:=by
 rw[if_pos rfl]
 exact h
theorem qL{c A B:Prop} [Decidable c](h1:c->A)(h2:¬c->B):if c then A else B:=by
 by_cases h:c
 ·rw[if_pos h]
  exact h1 h
 ·rw[if_neg h]
  exact h2 h
theorem bJ{c A B:Prop} [Decidable c](hc:c)(h:B):if(!decide c)=true then A else B:=by
 rw[decide_eq_true hc]
 exact zg h
def Same(H H':Hp):Prop:=∀b o,H b=some o->H' b=some o
theorem Same.refl(H:Hp):Same H H:=fun _ _ h=>h
theorem Same.trans{H H1 H2:Hp}(a:Same H H1)(b:Same H1 H2):Same H H2:=fun c o h=>b c o (a c o h)
theorem Same.seq{K:Frag}{H H':Hp}{a:Addr}{xs:List V}(e:Same H H')(h:SqL K H a xs):SqL K H' a xs:=by
 rcases h with(h|⟨o,h⟩)|h
 ·exact .inl (.inl (e _ _ h))
 ·exact .inl (.inr ⟨o,e _ _ h⟩)
 ·exact .inr h
end L2
namespace L3
open PySem PySem.Spec PyProof.Rows L2
def Zi(X:Cx)(N:List Str)(scope:Scope)(cl:List (Str×Addr))(C:Addr)(s:Shared)(H:Hp)(fp:List Addr):Cx:=
 {X with N:=N,s₀:=s,H₀:=H,env:=compEnvC scope cl C X.env,outer:=X.stack,ex:=fp,fn:=fun _=>false,pn:=[],xe:=fun _ _=>False}
structure BScope(X:Cx)(scope:Scope)(fr:List Str)(js:List Nat):Prop where
 kind:scope.kind= .function
 names:∀x∈scope.names,x.2= .local->scope.names.lookup x.1=some .local
 nocell:∀x∈scope.names,x.2≠ .cell
 free:∀x∈scope.names,x.2= .free->x.1∈fr
 len:js.length=fr.length
 at_:∀(i j:Nat) (y:Str),js[i]? =some j->fr[i]? =some y->X.N[j]? =some y/\X.env.kindOf y=some .cell/\(relabel scope X.env).names.lookup y=some .cell
theorem Qt{α:Type}{y:Str}:∀{l:List (Str×α)},y∈l.map (·.1)->∃c,l.lookup y=some c
 | [],h=>by simp at h
 |(n,a)::r,h=>by
  cases e:y==n with
  |true=>exact⟨a,by simp [List.lookup_cons,e]⟩
  |false=>
   have hr:y∈r.map (·.1):=by
    rcases List.mem_cons.mp h with z|z
    ·exact absurd z (by simpa using e)
    ·exact z
   obtain⟨c,hc⟩:=Qt hr
   exact⟨c,by simp [List.lookup_cons,e,hc]⟩
def σ0(k:Nat)(js:List Nat)(σ:L2.St):L2.St:=List.replicate k none++js.map fun j=>(σ[j]?).join
def kX(k:Nat)(js:List Nat)(g:TG)(te:TE)(σ:L2.St)(Q:VK)(J:It)(H1:Hp):Prop:=∃W:Nat->Nat->List V->L2.St->Hp->Prop,(∃m,W 0 m [] (σ0 k js σ) H1)/\∀i m ys τ H,W i m ys τ H->
 (J.stop i H/\∀p,H p=none->Q (.ref p) (upd H p (.lst ys)))\/(J.go i H/\ys.length<sizeLine/\∀x H',J.yld i H x H'->g x τ H' fun τ2 H2=>∃N:V->Hp->Prop,(∀v H3,N v H3->∃m',m'<m/\W (i+1) m' (ys++[v]) τ2 H3)/\te τ2 H2 N)
def cX(k:Nat)(js:List Nat)(wi:TI)(g:TG)(te:TE):TE:=fun σ H Q=>wi σ H (kX k js g te σ Q)
section
variable{prog:Program}{w:World}{A:Around}{R:Result->Shared->Prop}{s:Shared}
theorem iA{elt target iter:Expr}{scope:Scope}{pos:Pos}{it acc:Value}{env:Env}(I:Nat->Shared->Prop)
  (turn:∀n s,I n s->wpAny (model prog w) A (pyNext it) (fun r s₁=>match r with
   |none=>R (.ok .next) s₁
   | some v=>wpAny (model prog w) A (letOwnedTupleGo target it v) (fun _ s₁'=>wpAny (model prog w) A (assign target env v) (fun _ s₂=>wpAny (model prog w) A (eval elt env) (fun x s₃=>
     wpAny (model prog w) A (call (.builtin "list.append") [acc,x]) (fun _ s₄=>∃m,m<n/\I m s₄) (fun _ _=>False) s₃)
     (fun _ _=>False) s₂) (fun _ _=>False) s₁') (fun _ _=>False) s₁) (fun _ _=>False) s)
  (n:Nat)(h:I n s):
  codeAny (model prog w) A (.compLoop (.ListComp elt [⟨target,iter,[],0⟩] scope pos) 0 it acc env) R s:=by
 refine codeAny_loop rfl I (fun n s hI=>?_) n h
 show wpAny _ _ ((compTurn (.ListComp elt [⟨target,iter,[],0⟩] scope pos) 0 it acc env).onRaise (fun x=>do noteFrame x env;theTreesLotGoes x)) _ _ s
 refine wpAny_noted ?_
 rw[compTurn_list1]
 refine wpAny_bind (wpAny_standAt (wpAny_bind (wpAny_mono (turn n s hI) (fun r s₁ h₁=>?_) fun _ _ h'=>h'.elim)))
 cases r with
 |none=>exact wpAny_pure h₁
 |some v=>
  refine wpAny_bind (wpAny_mono h₁ (fun _ s₁' h₁'=>?_) fun _ _ h'=>h'.elim)
  exact wpAny_bind (wpAny_mono h₁' (fun _ s₂ h₂=>wpAny_bind (wpAny_bind (wpAny_mono h₂ (fun x s₃ h₃=>wpAny_bind (wpAny_mono h₃
   (fun _ s₄ h₄=>wpAny_pure (wpAny_pure ⟨rfl,h₄⟩)) fun _ _ h'=>h'.elim)) fun _ _ h'=>h'.elim))) fun _ _ h'=>h'.elim)
end
variable{X:Cx}
structure Away(X:Cx)(pins:List (Addr×Obj))(H:Hp)(C:Addr):Prop where
 free:H C=none
 loc:C≠X.env.locals
 new:X.s₀.heap.objs.size<=C
 cell:∀x c,X.env.cells.lookup x=some c->c≠C
 pin:∀p∈X.pn++pins,p.1≠C
theorem iD{elt tg iter:Expr}{scope:Scope}{cl:List (Str×Addr)}{pos fpos:Pos}{fr own:List Str}{js:List Nat}{wi:TI}{g:TG}{te:TE}{use:Option (Value->Sem Unit)}{Post:Value->Shared->Prop}
  {pins:List (Addr×Obj)}{s:Shared}{σ:L2.St}{H:Hp}{Q:VK}
  (hc:X.calm=true)(hi:PI X tg iter wi)(hclos:closureFor scope X.env=pure cl)(hcl:∀y c,cl.lookup y=some c->X.env.cells.lookup y=some c)(hfr:cl.map (·.1)=fr)
  (S:BScope X scope fr js)
  (hg:∀C s H fp,PG (Zi X (own++fr) scope cl C s H fp) tg g)(he:∀C s H fp,PE (Zi X (own++fr) scope cl C s H fp) elt te)
  (hs:∀x,foldedSetIterable iter X.env x=pure x)
  (I:L2.Inv X pins σ H s)(h:cX own.length js wi g te σ H Q)
  (hfin:∀(acc C:Addr) (s5:Shared) (H':Hp) (m:Str->Option Value),L2.Inv X pins σ H' s5->s5.heap.Ns C m->Away X pins H' C->Q (.ref acc) H'->compPost (model X.prog X.w) X.A X.xe use Post (.ref acc) C (.ok .next) s5):
  wpAny (model X.prog X.w) X.A (comprehension (.ListComp elt [⟨tg,iter,[],0⟩] scope pos) scope X.env fpos (newList []) false (eval iter X.env) use) Post X.xe s:=by
 refine wpAny_comprehension_free (use:=use) rfl hs hclos S.kind S.names (qB (hi pins s σ H _ I h) fun v s1 h1=>qB h1 fun itv s2 h2=>?_)
 obtain⟨it,fp,tn,J,H2,e,I2,T,st2,f2,W,⟨m0,w0⟩,turn⟩:=h2
 subst e
 refine wpAny_newObj_type (wpAny_newFunctionEnv S.nocell (by intro y hy;simp at hy) (fun h₁ hns₁ hsb₁=>?_) S.kind)
 dsimp only at hns₁ hsb₁⊢
 generalize hH2:s2.heap.push {cls:= .type "list",dict:=none,data:= .seq ([]:List Value).toArray}=G at hns₁ hsb₁⊢
 have hC:G.objs.size=s2.heap.objs.size+1:=by rw[<- hH2,Heap.size_push]
 have hDC:s2.heap.objs.size≠G.objs.size:=by rw[hC];exact Nat.ne_of_lt (Nat.lt_succ_self _)
 have below:∀b,b<s2.heap.objs.size->b≠G.objs.size/\b≠s2.heap.objs.size:=fun b hb=>⟨by rw[hC];exact Nat.ne_of_lt (Nat.lt_succ_of_lt hb),Nat.ne_of_lt hb⟩
 have old:∀b o,s2.heap.get? b=some o->h₁.get? b=some o:=fun b o e=>hsb₁.extBut b o (below b (Heap.lt_size e)).1 (Heap.get?_push_of_some _ (hH2▸Heap.get?_push_of_some _ e))
 have hacc:h₁.get? s2.heap.objs.size=some {cls:= .type "list",data:= .seq ([]:List Value).toArray 0}:=hsb₁.extBut _ _ hDC (Heap.get?_push_of_some _ (hH2▸Heap.get?_push_size _ rfl))
 let Y:Cx:=Zi X (own++fr) scope cl G.objs.size s2 H2 fp
 have fplt:∀b∈fp,b<s2.heap.objs.size:=fun b hb=>by obtain⟨o,e,_⟩:=T.obj _ _ st2 b hb;exact Heap.lt_size e
 have okY:Y.Ok:=by
  refine⟨I2.ok.mod,S.kind,I2.ok.glob,I2.ok.blt,by show s2.heap.objs.size<=G.objs.size;omega,?_,?_,?_,I2.ok.hd,I2.ok.frames,.inl rfl,?_,I2.bs,Nat.le_trans I2.ok.bsz I2.sz,?_,?_,I2.stack,I2.stkFree⟩
  ·exact fun x y c e1 e2=>I2.ok.inj x y c (hcl x c e1) (hcl y c e2)
  ·intro x hx
   have hx':(relabel scope X.env).names.lookup x=some .cell\/(relabel scope X.env).names.lookup x=some .free:=hx
   have hm:∃k,(x,k)∈scope.names/\k= .free:=by
    have aux:∀kk:NameKind,(kk= .cell\/kk= .free)->(relabel scope X.env).names.lookup x=some kk->∃k,(x,k)∈scope.names/\k= .free:=by
     intro kk hk el
     obtain⟨⟨n,k⟩,hmem,e⟩:=List.mem_map.mp (PySem.mem_of_lookup el)
     dsimp only at e
     split at e
     ·rename_i hcond
      cases e
      refine⟨k,hmem,?_⟩
      simp only[Bool.and_eq_true,beq_iff_eq]at hcond
      exact hcond.1.1
     ·cases e
      rcases hk with z|z
      ·subst z;exact absurd rfl (S.nocell _ hmem)
      ·exact⟨_,hmem,z⟩
    rcases hx' with z|z
    ·exact aux _ (.inl rfl) z
    ·exact aux _ (.inr rfl) z
   obtain⟨k,hmem,hk⟩:=hm
   exact Qt (l:=cl) (by rw[hfr];exact S.free _ hmem hk)
  ·exact fun x c e _=>nomatch e
  ·refine fun b hb=>⟨?_,fun x c e=>(f2 b hb).2.2.2.2.1 x c (hcl x c e)⟩
   show b≠G.objs.size
   exact(below b (fplt b hb)).1
  ·intro b o e hb
   rcases(f2 b hb).2.2.2.1 with z|z
   ·exact I2.ok.noex b o e z
   ·exact absurd (Nat.lt_of_lt_of_le (Heap.lt_size e) (Nat.le_trans I2.ok.bsz z)) (Nat.lt_irrefl _)
  ·intro b hb hf
   rcases List.mem_cons.mp (I2.stkSub b hf)with z|z
   ·exact(f2 b hb).2.1 z
   ·exact(f2 b hb).2.2.1 z
 have lenσ:(σ0 own.length js σ).length=(own++fr).length:=by unfold σ0;simp [S.len]
 have IY:Inv Y [] (σ0 own.length js σ) H2 {s2 with heap:=h₁,toks:=s2.toks+([]:List (Str×Value)).length}:=by
  refine⟨okY,rfl,I2.bare,Un.kept old,⟨_,hns₁,?_⟩,?_,?_,?_,fun p hp=>absurd (show p∈([]:List (Addr×Obj))from hp) (by simp),I2.hok.kept old,lenσ⟩
  ·intro i x v hN hv _
   have hN':(own++fr)[i]? =some x:=hN
   unfold σ0 at hv
   by_cases hlt:i<own.length
   ·rw[List.getElem?_append_left (by simpa using hlt),List.getElem?_replicate]at hv
    split at hv<;>cases hv
   ·rw[List.getElem?_append_right (by simpa using Nat.le_of_not_lt hlt),List.length_replicate,List.getElem?_map]at hv
    rw[List.getElem?_append_right (Nat.le_of_not_lt hlt)]at hN'
    cases ej:js[i-own.length]? with
    |none=>rw[ej]at hv;cases hv
    |some j=>
     rw[ej]at hv
     have hσ:σ[j]? =some (some v):=by
      have hv':(σ[j]?).join=some v:=Option.some.inj hv
      cases q:σ[j]? with
      |none=>rw[q]at hv';cases hv'
      |some o=>rw[q]at hv';have:o=some v:=hv';rw[this]
     obtain⟨hNj,hk,hkr⟩:=S.at_ _ j x ej hN'
     obtain⟨m,hn,hl⟩:=I2.loc
     obtain⟨u,ru,lk⟩:=hl j x v hNj hσ (.inr (.inl hk))
     refine⟨u,ru,.inr ?_⟩
     rcases lk with⟨k1,_⟩|⟨_,c,ec,ic⟩
     ·rw[hk]at k1;cases k1
     ·obtain⟨c',hc'⟩:=Qt (y:=x) (l:=cl) (by rw[hfr];exact List.mem_of_getElem? hN')
      have:c'=c:=by have:=hcl x c' hc';rw[ec]at this;exact(Option.some.inj this).symm
      subst this
      refine⟨?_,c',hc',?_⟩
      ·show(relabel scope X.env).names.lookup x=some .cell\/(relabel scope X.env).names.lookup x=some .free
       exact .inl hkr
      ·obtain⟨oc,hoc,hd⟩:=ic
       exact⟨oc,old _ _ hoc,hd⟩
  ·intro x c e
   obtain⟨v,oc,hoc,hd⟩:=I2.cell x c (hcl x c e)
   exact⟨v,oc,old _ _ hoc,hd⟩
  ·exact I2.hok.fresh (by show s2.heap.objs.size<=G.objs.size;omega)
  ·exact fun x c e=>I2.freeC x c (hcl x c e)
 have accfs:s2.heap.objs.size∉aT X.stack:=fun hf=>by
  rcases List.mem_cons.mp (I2.stkSub _ hf)with z|z
  ·exact absurd (by rw[<- z];exact Nat.le_refl _:s2.heap.objs.size<=X.env.locals) (Nat.not_le.mpr I2.lt)
  ·exact I2.nofs (Nat.le_refl _) z
 have acccell:∀x c,cl.lookup x=some c->c≠s2.heap.objs.size:=fun x c e z=>by
  obtain⟨v,oc,hoc,_⟩:=I2.cell x c (hcl x c e)
  exact absurd (Heap.lt_size hoc) (by rw[z];exact Nat.lt_irrefl _)
 have fpY:∀{H':Hp} {pl:List (Addr×Obj)},(∀b∈fp,H' b=none)->(∀p∈pl,p.1=s2.heap.objs.size)->∀b∈fp,Ze Y pl H' b:=fun{H' pl} hn hp b hb=>
  ⟨hn b hb,(below b (fplt b hb)).1,okY.exfs b hb,.inl hb,fun x c e=>(f2 b hb).2.2.2.2.1 x c (hcl x c e),fun p hpp=>by
   have hpp':p∈pl:=by simpa [Y,Zi]using hpp
   rw[hp p hpp'];exact Ne.symm (below b (fplt b hb)).2⟩
 have loop:∀s₃:Shared,Inv Y [] (σ0 own.length js σ) H2 s₃->tn 0 s₃.heap->s₃.heap.get? s2.heap.objs.size=some {cls:= .type "list",data:= .seq ([]:List Value).toArray 0}->
   codeAny (model X.prog X.w) X.A (.compLoop (.ListComp elt [⟨tg,iter,[],0⟩] scope pos) 0 (.ref it) (.ref s2.heap.objs.size) (compEnvC scope cl G.objs.size X.env))
    (compPost (model X.prog X.w) X.A X.xe use Post (.ref s2.heap.objs.size) G.objs.size) s₃:=by
  intro s₃ I3 st3 ha3
  refine iA (fun n s'=>∃i ys τ H' its k,Inv Y [(s2.heap.objs.size,{cls:= .type "list",data:= .seq its.toArray k})] τ H' s'/\tn i s'.heap/\(∀b∈fp,H' b=none)/\Vals ys its/\ys.length<=sizeLine/\W i n ys τ H') ?_ m0 ?_
  ·rintro n s4 ⟨i,ys,τ,H4,its,k,I4,st4,fr4,vl,hz,w4⟩
   have pin4:=I4.pin (s2.heap.objs.size,{cls:= .type "list",data:= .seq its.toArray k}) (by simp [Y,Zi])
   rcases turn i n ys τ H4 w4 with⟨stop,qn⟩|⟨go,hlt,step⟩
   ·refine qB (T.done Y rfl rfl rfl hc i _ s4 τ H4 _ I4 (fpY fr4 (by simp)) st4 stop) fun r s5 ⟨hr,I5⟩=>?_
    subst hr
    show compPost _ _ _ _ _ _ _ _ _
    obtain⟨m5,hn5,_⟩:=I5.loc
    have pin5:=I5.pin (s2.heap.objs.size,{cls:= .type "list",data:= .seq its.toArray k}) (by simp [Y,Zi])
    have nacc:H4 s2.heap.objs.size=none:=pin5.2.1
    have B:=I5.base
    have nC:H4 G.objs.size=none:=I5.free
    refine hfin s2.heap.objs.size G.objs.size s5 (upd H4 s2.heap.objs.size (.lst ys)) m5 ?_ hn5 ?_ (qn _ nacc)
    ·refine I2.call' (s':=s5) (ch:=fp) I5.os ⟨B.keep,B.slot,fun b o e n hx=>?_,B.there,fun b xs e=>?_,fun b o u e=>?_,fun b ps e=>?_⟩ ?_ I5.bare ?_
     ·rw[qh (below b (Heap.lt_size e)).2];exact B.free b o e n hx
     ·have e1:=B.tups b xs e
      rw[qh (ql e1 nacc)];exact e1
     ·have e1:=B.frzs b o u e
      rw[qh (ql e1 nacc)];exact e1
     ·obtain⟨more,e1⟩:=B.tbls b ps e
      exact⟨more,by rw[qh (ql e1 nacc)];exact e1⟩
     ·intro b u e
      by_cases hb:b=s2.heap.objs.size
      ·subst hb
       rw[qb]at e;cases e
       exact⟨hz,its,k,vl,pin5.1⟩
      ·rw[qh hb]at e
       exact(I5.hok b u e).stay (fun c v _ q=>q) (fun c q=>by rw[qh (ql q nacc)];exact q) fun c xs q=>by rw[qh (ql q nacc)];exact q
     ·exact fun b hb=>⟨(f2 b hb).2.2.2.1,(f2 b hb).2.1,(f2 b hb).2.2.2.2.1,(f2 b hb).2.2.2.2.2⟩
    ·have hge:s2.heap.objs.size<=G.objs.size:=by omega
     refine⟨by rw[qh (Ne.symm hDC)];exact nC,?_,Nat.le_trans I2.sz hge,fun x c e z=>?_,fun p hp z=>?_⟩
     ·exact Nat.ne_of_gt (Nat.lt_of_lt_of_le I2.lt hge)
     ·obtain⟨v,oc,hoc,_⟩:=I2.cell x c e
      exact absurd (Nat.lt_of_lt_of_le (Heap.lt_size hoc) hge) (by rw[z];exact Nat.lt_irrefl _)
     ·exact absurd (Nat.lt_of_lt_of_le (Heap.lt_size (I2.pin p hp).1) hge) (by rw[z];exact Nat.lt_irrefl _)
   ·refine qB (T.item Y rfl rfl rfl hc i _ s4 τ H4 _ I4 (fpY fr4 (by simp)) st4 go) fun r s5 ⟨u,hr,h5⟩=>?_
    subst hr
    refine qB h5 fun _ s6 ⟨x,H6,I6,r6,y6,st6,fr6⟩=>?_
    have I6':=I6.pinned (fpY fr6 (by simp)) (T.obj _ _ st6)
    refine qB (hg _ _ _ _ _ s6 τ H6 x u _ I6' r6 (step x H6 y6)) fun _ s7 ⟨τ7,H7,I7,N,hN,q7⟩=>?_
    refine qB (he _ _ _ _ _ s7 τ7 H7 _ I7 q7) fun v' s8 ⟨y,H8,I8,r8,n8⟩=>?_
    obtain⟨m',hm',w8⟩:=hN _ _ n8
    have pin8:=I8.pin (s2.heap.objs.size,{cls:= .type "list",data:= .seq its.toArray k}) (by simp [Zi])
    have pinfp:∀b∈fp,∀o,s6.heap.get? b=some o->s8.heap.get? b=some o/\H8 b=none:=fun b hb o e=>by
     have:=I8.pin (b,o) (List.mem_append_right _ (List.mem_append_right _ (aQ hb e)))
     exact⟨this.1,this.2.1⟩
    refine wpAny_list_append_plain (items:=its.toArray) ⟨k,pin8.1⟩ (fun h' ha' hs'=>?_) (by have:=vl.length;simp;omega)
    obtain⟨k',ha'⟩:=ha'
    have I9:Inv Y [] τ7 H8 {s8 with heap:=h'}:=by
     refine(I8.pins_of (pins':=[]) (by simp)).turned (t':=s8.toks) (it:=s2.heap.objs.size) (fun b o hb e=>(hs'.2 b hb).trans e) pin8.2.1 ?_ (.inr (Nat.le_refl _)) (fun x c e=>acccell x c e) (fun p hp=>absurd (show p∈([]:List (Addr×Obj))from by simpa [Y,Zi]using hp) (by simp))
     exact hDC
    have ea:(its.toArray.push v')=(its++[v']).toArray:=by simp
    rw[ea]at ha'
    refine⟨m',hm',i+1,ys++[y],τ7,H8,its++[v'],k',I9.pins_of ?_,T.keep _ _ _ st6 fun b hb o e=>(hs'.2 b (below b (fplt b hb)).2).trans (pinfp b hb o e).1,fun b hb=>?_,vl.append (.cons r8 .nil),?_,w8⟩
    ·intro p hp
     rw[List.mem_singleton.mp hp]
     exact⟨ha',pin8.2.1,hDC,accfs,fun v z=>by cases z⟩
    ·obtain⟨o,e,_⟩:=T.obj _ _ st6 b hb
     exact(pinfp b hb o e).2
    ·rw[List.length_append,List.length_singleton];omega
  ·refine⟨0,[],σ0 own.length js σ,H2,[],0,I3.pins_of ?_,st3,fun b hb=>(f2 b hb).1,.nil,Nat.zero_le _,w0⟩
   intro p hp
   rw[List.mem_singleton.mp hp]
   exact⟨ha3,I2.hok.fresh (Nat.le_refl _),hDC,accfs,fun v z=>by cases z⟩
 have st1:tn 0 h₁:=T.keep _ _ _ st2 fun b _ o e=>old b o e
 exact codeAny_compStart_list (loop _ IY st1 hacc) (T.self _ 0 _ _ _ st1 (loop _ IY st1 hacc))
theorem tE{elt tg iter:Expr}{scope:Scope}{cl:List (Str×Addr)}{pos:Pos}{fr own:List Str}{js:List Nat}{wi:TI}{g:TG}{te:TE}
  (hc:X.calm=true)(hi:PI X tg iter wi)(hclos:closureFor scope X.env=pure cl)(hcl:∀y c,cl.lookup y=some c->X.env.cells.lookup y=some c)(hfr:cl.map (·.1)=fr)
  (S:BScope X scope fr js)
  (hg:∀C s H fp,PG (Zi X (own++fr) scope cl C s H fp) tg g)(he:∀C s H fp,PE (Zi X (own++fr) scope cl C s H fp) elt te)
  (hs:∀x,foldedSetIterable iter X.env x=pure x:=by intro _;rfl):
  PE X (.ListComp elt [⟨tg,iter,[],0⟩] scope pos) (cX own.length js wi g te):=by
 intro pins s σ H Q I h
 rw[eval_ListComp]
 refine iD (use:=none) hc hi hclos hcl hfr S hg he hs I h fun acc C s5 H' m I5 hn aw q=>?_
 exact⟨m,hn,fun h' hs'=>⟨.ref acc,H',I5.turned (t':=s5.toks) (fun b o hb e=>(hs'.2 b hb).trans e) aw.free aw.loc (.inr aw.new) aw.cell aw.pin,rfl,q⟩⟩
theorem rV{elt tg iter:Expr}{scope:Scope}{cl:List (Str×Addr)}{pos spos py:Pos}{fr own:List Str}{js:List Nat}{wi:TI}{g:TG}{te:TE}{i:Nat}{y:Str}
  (hN:X.N.Nodup)(hi':X.N[i]? =some y)(hx:fK X.env.scope y)
  (hc:X.calm=true)(hi:PI X tg iter wi)(hclos:closureFor scope X.env=pure cl)(hcl:∀y c,cl.lookup y=some c->X.env.cells.lookup y=some c)(hfr:cl.map (·.1)=fr)
  (S:BScope X scope fr js)
  (hg:∀C s H fp,PG (Zi X (own++fr) scope cl C s H fp) tg g)(he:∀C s H fp,PE (Zi X (own++fr) scope cl C s H fp) elt te)
  (hs:∀x,foldedSetIterable iter X.env x=pure x:=by intro _;rfl)(hsw:swapsWith (.ListComp elt [⟨tg,iter,[],0⟩] scope pos) (some (.Name y py)) spos.line X.env=pure true:=by rfl)
  (hf:X.fn y=true\/X.env.scope.names.lookup y=some .local:=by first|exact .inl rfl|exact .inr rfl|assumption):
  PS X (.Assign [.Name y py] (.ListComp elt [⟨tg,iter,[],0⟩] scope pos) spos) (ff (cX own.length js wi g te) (Q8 i)):=by
 intro pins s σ H D I h
 rw[exec_Assign_Name_used _ _ _ _ hsw]
 refine wpAny_bind (wpAny_standAt (wpAny_bind ?_))
 show wpAny _ X.A (do let _ <- comprehension (.ListComp elt [⟨tg,iter,[],0⟩] scope pos) scope X.env _ (newList []) false (eval iter X.env) (some (assign (.Name y py) X.env))) _ _ s
 refine wpAny_bind (wpAny_mono (iD (use:=some (assign (.Name y py) X.env)) (Post:=fun _ s'=>SP X pins D .next s') hc hi hclos hcl hfr S hg he hs I h ?_) (fun _ s' hq=>wpAny_pure (wpAny_pure hq)) fun _ _ e=>e)
 intro acc C s5 H' m I5 hn aw q
 show wpAny _ X.A (assign (.Name y py) X.env (.ref acc)) _ _ _
 refine wpAny_assign_Name (gm (v:= .ref acc) I5 hN hi' hx rfl (fun s6 I6 ⟨a,hs6,ha⟩=>?_) hf)
 have hCa:C≠a:=by
  rcases ha with z|z
  ·rw[z];exact aw.loc
  ·exact Ne.symm (aw.cell _ _ z)
 refine⟨m,hn.sameBut hs6 hCa,fun h' hs'=>?_⟩
 exact⟨_,H',I6.turned (t':=s6.toks) (fun b o hb e=>(hs'.2 b hb).trans e) aw.free aw.loc (.inr aw.new) aw.cell aw.pin,q⟩
section
variable{js:List Nat}{te:TE}{σ:L2.St}{H:Hp}{Q:VK}{K:Frag}
abbrev QU(js:List Nat)(σ:L2.St):L2.St:=js.map fun j=>(σ[j]?).join
abbrev Zj(J:It)(js:List Nat)(te:TE)(σ:L2.St)(H1:Hp)(Q:VK):Prop:=kX 1 js (Q8 0) te σ Q J H1
theorem Zt{J:It}{n:Nat}(hn:n<=sizeLine)(item:Nat->V->Prop)(Pv:Nat->List V->Hp->Prop)(h0:Pv 0 [] H)(hgo:∀i ys H,i<n->Pv i ys H->J.go i H)(hst:∀ys H,Pv n ys H->J.stop n H)
  (hy:∀i ys H x H',i<n->Pv i ys H->J.yld i H x H'->H'=H/\item i x)
  (hs:∀i ys H x,i<n->ys.length=i->Pv i ys H->item i x->te (some x::QU js σ) H fun v H3=>Pv (i+1) (ys++[v]) H3)
  (hd:∀ys H,ys.length=n->Pv n ys H->∀p,H p=none->Q (.ref p) (upd H p (.lst ys))):Zj J js te σ H Q:=by
 refine⟨fun i m ys τ H=>m=n-i/\i<=n/\ys.length=i/\Pv i ys H/\∃o,τ=o::QU js σ,⟨n,by simp,Nat.zero_le _,rfl,h0,none,rfl⟩,?_⟩
 rintro i m ys τ H ⟨rfl,hi,hl,p,o,rfl⟩
 by_cases hlt:i<n
 ·refine .inr ⟨hgo i ys H hlt p,by omega,fun x H' y=>?_⟩
  obtain⟨e,hx⟩:=hy i ys H x H' hlt p y
  subst e
  exact⟨fun v H3=>Pv (i+1) (ys++[v]) H3,fun v H3 p3=>⟨n-(i+1),by omega,rfl,hlt,by simp [hl],p3,_,rfl⟩,hs i ys _ x hlt hl p hx⟩
 ·have e:i=n:=by omega
  subst e
  exact .inl ⟨hst ys H p,hd ys H hl p⟩
theorem zx{a:Addr}{xs:List V}(hn:xs.length<=sizeLine)(Pv:Nat->List V->Hp->Prop)(h0:Pv 0 [] H)(hl:∀i ys H,Pv i ys H->SqL K H a xs)
  (hs:∀i ys H x,xs[i]? =some x->ys.length=i->Pv i ys H->te (some x::QU js σ) H fun v H3=>Pv (i+1) (ys++[v]) H3)
  (hd:∀ys H,ys.length=xs.length->Pv xs.length ys H->∀p,H p=none->Q (.ref p) (upd H p (.lst ys))):Zj (cf K a) js te σ H Q:=
 Zt hn (fun i x=>xs[i]? =some x) Pv h0 (fun i ys H hi p=>⟨xs,xs[i],hl _ _ _ p,by simp [hi]⟩) (fun ys H p=>⟨xs,hl _ _ _ p,Nat.le_refl _⟩) (fun i ys H x H' _ p y=>⟨y.1,y.2 xs (hl _ _ _ p)⟩) (fun i ys H x _ hl p hx=>hs i ys H x hx hl p) hd
theorem cy{a:Addr}{xs:List V}(hn:xs.length<=sizeLine)(Pv:Nat->List V->Hp->Prop)(h0:Pv 0 [] H)(hl:∀i ys H,Pv i ys H->SqT K H a xs)
  (hs:∀i ys H x,xs[i]? =some x->ys.length=i->Pv i ys H->te (some x::QU js σ) H fun v H3=>Pv (i+1) (ys++[v]) H3)
  (hd:∀ys H,ys.length=xs.length->Pv xs.length ys H->∀p,H p=none->Q (.ref p) (upd H p (.lst ys))):Zj (et K a) js te σ H Q:=
 Zt hn (fun i x=>xs[i]? =some x) Pv h0 (fun i ys H hi p=>⟨xs,xs[i],hl _ _ _ p,by simp [hi]⟩) (fun ys H p=>⟨xs,hl _ _ _ p,Nat.le_refl _⟩) (fun i ys H x H' _ p y=>⟨y.1,y.2 xs (hl _ _ _ p)⟩) (fun i ys H x _ hl p hx=>hs i ys H x hx hl p) hd
theorem Zp{lo:Int}{n:Nat}(hn:n<=sizeLine)(Pv:Nat->List V->Hp->Prop)(h0:Pv 0 [] H)
  (hs:∀i ys H,i<n->ys.length=i->Pv i ys H->te (some (.int (lo+i))::QU js σ) H fun v H3=>Pv (i+1) (ys++[v]) H3)
  (hd:∀ys H,ys.length=n->Pv n ys H->∀p,H p=none->Q (.ref p) (upd H p (.lst ys))):Zj (jd lo n) js te σ H Q:=
 Zt hn (fun i x=>x= .int (lo+i)) Pv h0 (fun i ys H hi p=>hi) (fun ys H p=>Nat.le_refl _) (fun i ys H x H' _ p y=>y) (fun i ys H x hi hl p hx=>by subst hx;exact hs i ys H hi hl p) hd
end
end L3
namespace L3
open PySem PySem.Spec PyProof.Rows L2
section
variable{X:Cx}{pins:List (Addr×Obj)}{σ:L2.St}{H:Hp}{s:Shared}
theorem fw{h':Heap}{t':Nat}{ch:List Addr}{a:Addr}{xs:List V}{its:List Value}(I:L2.Inv X pins σ H s)(k:∀b o,b∉ch->s.heap.get? b=some o->h'.get? b=some o)(hch:∀b∈ch,Ze X pins H b)
  (ho:∀b∈ch,∃o,h'.get? b=some o)(ha:s.heap.objs.size<=a)(hz:xs.length<=sizeLine)(hv:Vals xs its)(ht:IsTup h' a its.toArray):L2.Inv X pins σ (upd H a (.tup xs)) {s with heap:=h',toks:=t'}:=by
 have na:H a=none:=I.hok.fresh ha
 have nlt:∀b o,s.heap.get? b=some o->b≠a:=fun b o e=>Nat.ne_of_lt (Nat.lt_of_lt_of_le (Heap.lt_size e) ha)
 have nch:∀b u,H b=some u->b∉ch:=fun b u e z=>by rw[(hch b z).1]at e;cases e
 refine I.step (g':=s.gens) (d':=s.drawn) (ch:=ch) (fun b hb=>⟨(hch b hb).2.2.2.1,(hch b hb).2.1,(hch b hb).2.2.2.2.1,(hch b hb).2.2.2.2.2⟩) (fun b o _ _ hc e _=>k b o hc e) (fun b o _ _ hc e _=>⟨o.slots,k b o hc e⟩)
  (fun b o _ e n=>by rw[qh (nlt b o e)];exact n) (fun b o hc e=>⟨o,k b o hc e⟩) (fun b ys e=>by rw[qh (ql e na)];exact e) (fun b o u e=>by rw[qh (ql e na)];exact e)
  (fun b ps e=>⟨#[],by rw[qh (ql e na),e];simp⟩) (fun m hm=>?_) (fun b u e=>?_) I.bare
 ·obtain⟨o,es,ep,ho,r⟩:=hm
  exact⟨o,es,ep,k _ o (fun z=>(hch _ z).2.1 rfl) ho,r⟩
 ·by_cases hb:b=a
  ·subst hb
   rw[qb]at e;cases e
   exact⟨hz,its,hv,ht⟩
  ·rw[qh hb]at e
   refine(I.hok b u e).stay (fun c v hc q=>k c v ?_ q) (fun c q=>by rw[qh (ql q na)];exact q) fun c ys q=>by rw[qh (ql q na)];exact q
   rcases hc with z|z
   ·rw[z];exact nch b u e
   ·exact nch c _ z
def jT(K:Frag)(a:Addr):It:=
 ⟨fun i H=>∃xs x,SqL K H a xs/\xs[i]? =some x,fun i H x H'=>∃p v,H p=none/\x= .ref p/\(∀xs,SqL K H a xs->xs[i]? =some v)/\H'=upd H p (.tup [.int i,v]),fun i H=>∃xs,SqL K H a xs/\xs.length<=i⟩
theorem f9{P:Program}{w:World}{K:Frag}{elts:List Expr}{x1}{pos:Pos}(a e it:Addr)(hei:e≠it):
  Turn P w K (.Tuple elts x1 pos) (jT K a) [e,it] e (fun i h=>(∃old,IsEnum h e it i old)/\h.IsListIter it a i) where
 mem:=by simp
 obj:=fun i h st b hb=>by
  obtain⟨⟨old,he⟩,⟨o,ho,hc,hd⟩⟩:=st
  rcases List.mem_cons.mp hb with z|z
  ·subst z
   refine⟨_,he,fun v z=>?_⟩
   have z':Data.fields _=Data.cell v:=z
   cases z'
  ·rw[List.mem_singleton.mp z]
   exact⟨o,ho,fun v z=>by rw[hd]at z;cases z⟩
 keep:=fun i h h' st k=>⟨let⟨old,he⟩:=st.1;⟨old,k e (by simp) _ he⟩,st.2.at fun o q=>k it (by simp) o q⟩
 item:=by
  intro X hP hw hK hc i pins s σ H E I hf st hg
  subst hP hw hK
  obtain⟨xs,x,hq,hx⟩:=hg
  obtain⟨its,rv,p,hz⟩:=I.list hq
  obtain⟨u,hu,ru⟩:=rv.get hx
  obtain⟨⟨old,he⟩,hit⟩:=st
  refine wpAny_pyNext_enum_item he hit p.isList (x:=u) (by simpa using hu) hei fun h' ho hit' ht hsz hk=>⟨_,rfl,?_⟩
  refine wpAny_letOwnedTupleGo_enum ho fun h'' he'' hs''=>?_
  have helt:e<s.heap.objs.size:=Heap.lt_size he
  have hilt:it<s.heap.objs.size:=by obtain⟨_,y,_⟩:=hit;exact Heap.lt_size y
  refine⟨.ref s.heap.objs.size,upd H s.heap.objs.size (.tup [.int i,x]),?_,rfl,⟨_,x,I.hok.fresh (Nat.le_refl _),rfl,fun ys hy=>by rw[I.list_inj hy hq];exact hx,rfl⟩,⟨⟨_,by simpa using he''⟩,?_⟩,?_⟩
  ·show L2.Inv X pins σ _ {s with heap:=h'',toks:=s.toks+1}
   refine fw (s:=s) (its:=[.int i s.toks,u]) I (ch:=[e,it]) (fun b o hb q=>?_) hf (fun b hb=>?_) (Nat.le_refl _) (by show 2<=sizeLine;decide) (.cons ⟨_,rfl⟩ (.cons ru .nil)) ?_
   ·have hb1:b≠e:=fun z=>hb (by simp [z])
    have hb2:b≠it:=fun z=>hb (by simp [z])
    exact(hs''.2 b hb1).trans (hk b o hb1 hb2 q)
   ·rcases List.mem_cons.mp hb with z|z
    ·subst z;exact⟨_,he''⟩
    ·rw[List.mem_singleton.mp z]
     obtain⟨o,y,_⟩:=hit'
     exact⟨o,(hs''.2 it (Ne.symm hei)).trans y⟩
   ·exact⟨_,(hs''.2 _ (Nat.ne_of_gt helt)).trans ht,rfl,_,rfl⟩
  ·exact hit'.extBut hs''.extBut (Ne.symm hei)
  ·intro b hb
   rw[qh]
   ·exact(hf b hb).1
   ·rcases List.mem_cons.mp hb with z|z
    ·subst z;exact Nat.ne_of_lt helt
    ·rw[List.mem_singleton.mp z];exact Nat.ne_of_lt hilt
 done:=by
  intro X hP hw hK hc i pins s σ H E I hf st hg
  subst hP hw hK
  obtain⟨xs,hq,hx⟩:=hg
  obtain⟨its,rv,p,hz⟩:=I.list hq
  obtain⟨⟨old,he⟩,hit⟩:=st
  obtain⟨f0,f1,f2,f3,f4,f5⟩:=hf it (by simp)
  have hl:=rv.length
  exact wpAny_pyNext_enum_end (I.ok.hd hc) he hit p.isList (by simp;omega) fun h' eb=>⟨rfl,I.turned (t':=s.toks) (fun b o hb e=>eb b o hb e) f0 f1 f3 f4 f5⟩
 self:=fun _ _ _ _ _ st h=>by
  obtain⟨⟨old,he⟩,_⟩:=st
  exact wpAny_pyIter_enum he h
def rn(K:Frag)(ta:TA):TI:=fun σ H R=>ta σ H fun vs H1=>∃a,vs=[.ref a]/\(∃xs,SqL K H1 a xs)/\R (jT K a) H1
theorem se{a:Expr}{ta:TA}{p pos:Pos}{elts:List Expr}{x1}{tpos:Pos}(hg:Gl X "enumerate")(hm:X.mg "enumerate"=none)(ha:PA X [a] ta)(hs:starEach [a] X.env=[(false,eval a X.env)]:=by rfl):
  PI X (.Tuple elts x1 tpos) (.Call (.Name "enumerate" p) [a] [] pos) (rn X.K ta):=by
 intro pins s σ H R I h
 refine Call_ (Zd I hg hm boot_enumerate (PyProof.Rows.callWith_type1 (qB (ha pos pins s σ H _ I h) fun us s1 ⟨vs,H1,I1,r1,q1⟩=>?_) hs rfl))
 obtain⟨l,e,⟨xs,hq⟩,q⟩:=q1
 subst e
 obtain⟨u,rfl,ru⟩:=r1.one
 cases ru
 obtain⟨its,rv,pl,hz⟩:=I1.list hq
 refine call_enumerate_list pl.isList fun h' he hit hsz hk=>wpAny_pyIter_enum he ?_
 have I2:L2.Inv X pins σ H1 {s1 with heap:=h'}:=I1.kept (t':=s1.toks) hk
 refine⟨s1.heap.objs.size+1,[s1.heap.objs.size+1,s1.heap.objs.size],_,_,H1,rfl,I2,f9 l _ _ (Nat.ne_of_gt (Nat.lt_succ_self _)),⟨⟨_,he⟩,hit⟩,fun b hb=>?_,q⟩
 have hb':s1.heap.objs.size<=b:=by
  rcases List.mem_cons.mp hb with z|z
  ·rw[z];exact Nat.le_succ _
  ·rw[List.mem_singleton.mp z];exact Nat.le_refl _
 exact I1.fpOk hb' (I1.hok.fresh hb')
theorem iV{K:Frag}{a:Addr}{xs:List V}{g:TG}{tb:TS}{D:Ends}{σ:L2.St}{H:Hp}(Pv:Nat->L2.St->Hp->Prop)(h0:Pv 0 σ H)(hl:∀i σ H,i<=xs.length->Pv i σ H->SqL K H a xs)
  (hs:∀i x σ H p,xs[i]? =some x->Pv i σ H->H p=none->g (.ref p) σ (upd H p (.tup [.int i,x])) fun σ2 H2=>tb {D with nx:=Pv (i+1),ct:=Pv (i+1),bk:=D.nx} σ2 H2)(hd:∀σ H,Pv xs.length σ H->D.nx σ H):
  ∃W:Nat->Nat->L2.St->Hp->Prop,(∃m,W 0 m σ H)/\∀i m σ H,W i m σ H->
   ((jT K a).stop i H/\D.nx σ H)\/((jT K a).go i H/\∃N:L2.St->Hp->Prop,(∀σ' H',N σ' H'->∃m',m'<m/\W (i+1) m' σ' H')/\∀x H',(jT K a).yld i H x H'->g x σ H' fun σ2 H2=>tb {D with nx:=N,ct:=N,bk:=D.nx} σ2 H2):=by
 refine⟨fun i m σ H=>m=xs.length-i/\i<=xs.length/\Pv i σ H,⟨xs.length,by simp,Nat.zero_le _,h0⟩,?_⟩
 rintro i m σ H ⟨rfl,hi,p⟩
 have q:=hl i σ H hi p
 by_cases hlt:i<xs.length
 ·refine .inr ⟨⟨xs,xs[i],q,by simp [hlt]⟩,Pv (i+1),fun σ' H' p'=>⟨xs.length-(i+1),by omega,rfl,hlt,p'⟩,fun x H' y=>?_⟩
  obtain⟨pp,v,hp,rfl,hv,rfl⟩:=y
  exact hs i v σ H pp (hv xs q) p hp
 ·have e:i=xs.length:=by omega
  subst e
  exact .inl ⟨⟨xs,q,Nat.le_refl _⟩,hd σ H p⟩
end
def zk(t c:String):Bool:=t==c||(t=="bool"&&c=="int")
abbrev e8:List String:=["NoneType","bool","int","str","list","tuple"]
abbrev eM:List String:=["bool","int","str","list","tuple"]
theorem eO(K:Frag):∀t∈e8,∀c∈eM,W.kitOne K (.type t) (.type c)=some (zk t c):=by
 intro t ht c hc
 simp only[e8,eM,List.mem_cons,List.not_mem_nil,or_false]at ht hc
 rcases ht with rfl|rfl|rfl|rfl|rfl|rfl<;>rcases hc with rfl|rfl|rfl|rfl|rfl<;>kernel_rfl
section
variable{X:Cx}
theorem gP:qW X (.builtin "isinstance") (fun xs H Q=>∃x c t,xs=[x,.ty c]/\TyOf X.K H x (.type t)/\t∈e8/\c∈eM/\Q (.bl (zk t c)) H):=by
 intro pins s σ H xs us Q I r h
 obtain⟨x,c,t,rfl,ty,ht,hc,q⟩:=h
 obtain⟨u,v,rfl,ru,rv⟩:=bL r
 cases(show v=Value.type c from rv)
 exact md I ru ty (eO X.K t ht c hc) fun tk=>⟨.bl _,H,I.tok tk,rfl,q⟩
theorem ij:∀{bs:List Bool} {us:List Value},Vals (bs.map V.bl) us->us=bs.map Value.bool
 | [],_,.nil=>rfl
 |b::bs,_,.cons r t=>by
  cases(show _=Value.bool b from r)
  rw[ij t];rfl
theorem k9(bs:List Bool):((List.range bs.length).all fun i=>(bs[i]?).getD true)=bs.all id:=by
 rw[Bool.eq_iff_iff,List.all_eq_true,List.all_eq_true]
 constructor
 ·intro h b hb
  obtain⟨i,hi,e⟩:=List.mem_iff_getElem.mp hb
  have:=h i (List.mem_range.mpr hi)
  rw[List.getElem?_eq_getElem hi,Option.getD_some,e]at this
  exact this
 ·intro h i hi
  have hi':=List.mem_range.mp hi
  rw[List.getElem?_eq_getElem hi',Option.getD_some]
  exact h _ (List.getElem_mem hi')
theorem bG(hc:X.calm=true):qW X (.builtin "all") (fun xs H Q=>∃(p:Addr) (bs:List Bool),xs=[.ref p]/\SqL X.K H p (bs.map V.bl)/\Q (.bl (bs.all id)) H):=by
 intro pins s σ H xs us Q I r h
 obtain⟨p,bs,rfl,hq,q⟩:=h
 obtain⟨u,rfl,ru⟩:=Qb r
 cases ru
 obtain⟨its,rv,pl,hz⟩:=I.list hq
 have e:=ij rv
 have hl:=pl.isList
 have hlt:p<s.heap.objs.size:=by obtain⟨_,e,_⟩:=hl;exact Heap.lt_size e
 refine call_all_walk (wpAny_pyIter_list hl ?_)
 refine⟨s.heap.objs.size,[s.heap.objs.size,p],[s.heap.objs.size],its.toArray.size,_,_,fun i=>(bs[i]?).getD true,rfl,Walks.list (A:=X.A.in1) (I.ok.hd hc) _ p (Nat.ne_of_lt hlt) its.toArray,
  ⟨⟨_,Heap.get?_push_size _ rfl,rfl,rfl⟩,hl.push _⟩,fun i v s' Q' E' hP hQ=>?_,fun h' tk hk=>?_⟩
 ·have hP':its[i]? =some v:=by simpa using hP
  rw[e,List.getElem?_map]at hP'
  cases eb:bs[i]? with
  |none=>rw[eb]at hP';cases hP'
  |some b=>
   rw[eb]at hP'
   cases(Option.some.inj hP':Value.bool b=v)
   simp only[eb,Option.getD_some]at hQ
   exact wpAny_truthy_bool hQ
 ·have e2:((List.range its.toArray.size).all fun i=>(bs[i]?).getD true)=bs.all id:=by
   rw[List.size_toArray,e,List.length_map];exact k9 bs
  rw[e2]
  refine⟨.bl _,H,I.kept (h':=h') (t':=tk) fun b o q=>hk b o (fun hm=>?_) (Heap.get?_push_of_some _ q),rfl,q⟩
  rw[List.mem_singleton.mp hm]at q
  exact Nat.lt_irrefl _ (Heap.lt_size q)
theorem np:qW X (.type "range") (fun xs H Q=>∃j:Int,xs=[.int j]/\∀p,H p=none->Q (.ref p) (upd H p (.rng 0 j))):=by
 intro pins s σ H xs us Q I r h
 obtain⟨j,rfl,q⟩:=h
 obtain⟨u,rfl,ru⟩:=Qb r
 obtain⟨t,rfl⟩:=ru
 refine call_range_1 ⟨.ref s.heap.objs.size,_,I.laid (o:= .rng 0 j) (fun b o e=>Heap.get?_push_of_some _ e) (Nat.le_refl _) ⟨_,_,_,Heap.get?_push_size _ rfl⟩,rfl,q _ (I.hok.fresh (Nat.le_refl _))⟩
def wn:V->Option Int->Option Int->Hp->VK->Prop:=fun x lo hi H Q=>∃a xs,x= .ref a/\H a=some (.tup xs)/\∀p H',Same H H'->H' p=some (.tup (ZA xs lo hi))->(p=a\/H p=none)->Q (.ref p) H'
theorem aX{prog:Program}{w:World}{A:Around}{E:Value->Shared->Prop}{s:Shared}{t sl:Addr}{items:Array Value}{vl vu:Value}{lo hi:Option Int}{Q:Value->Shared->Prop}(ht:IsTup s.heap t items)(hs:s.heap.IsSliceOf sl vl vu .none)(pl:IsPart vl lo)(pu:IsPart vu hi)
  (hw:HT.sIx items.size 0 lo=0/\HT.sIx items.size items.size hi=items.size)(h:Q (.ref t) s):wpAny (model prog w) A (getItem (.ref t) (.ref sl)) Q E s:=by
 obtain⟨os,hos,hcs,hds⟩:=id hs
 have hTs:s.TypeIs (.ref sl) "slice":=⟨os,hos,hcs⟩
 unfold getItem
 try with_reducible refine wpAny_holding ?_
 first|refine wpAny_bind (wpAny_pure ?_)|skip
 refine wpAny_bind (wpAny_sequenceKey ht.typeIs (by decide) ?_)
 refine wpAny_bind (wpAny_callSpecial?_slot (name:=Str.ofString "__getitem__") ht.typeIs PyProof.Rows.slot_tuple_getitem
  (wpAny_call_entry PyProof.Rows.slot_tuple_getitem ht.typeIs entry_tuple_getitem ?_ (args_tuple_getitem _ _)))
 show wpAny _ _ (Builtin.Tuple.tupleItemsOf (.ref t) >>= _) _ _ s
 refine wpAny_bind (tupleItemsOf_ ht ?_)
 refine wpAny_bind (wpAny_typeOf hTs ?_)
 rw[if_pos (by decide)]
 refine wpAny_bind (HT.sliceApplied_gen hs pl pu ?_)
 show wpAny _ _ (if(((HT.sIx items.size 0 lo:Nat):Int)==0&&(1:Int)==1&&(HT.sIx items.size items.size hi-HT.sIx items.size 0 lo)==items.size)=true then _ else _) _ _ s
 rw[hw.1,hw.2,if_pos (by simp)]
 refine wpAny_bind (m:=Builtin.Tuple.tupleIsExact _) ?_
 unfold Builtin.Tuple.tupleIsExact
 refine wpAny_bind (wpAny_typeOf ht.typeIs (wpAny_pure ?_))
 rw[if_pos (by rfl)]
 exact wpAny_bind (wpAny_rule (wpAny_pure ⟨_,rfl,wpAny_pure h⟩))
theorem jV:mI X wn:=by
 intro pins s σ H x v vl vu lo hi sl Q I rx hs pl pu h
 obtain⟨a,xs,rfl,hx,q⟩:=h
 by_cases hw:HT.sIx xs.length 0 lo=0/\HT.sIx xs.length xs.length hi=xs.length
 ·cases rx
  obtain⟨its,r,ht,hz⟩:=I.tuple (SqT.of hx)
  have hlen:its.toArray.size=xs.length:=by rw[List.size_toArray];exact r.length.symm
  refine⟨"tuple",_,PyProof.Rows.slot_tuple_getitem.lookup,ht.typeIs,?_⟩
  refine aX ht hs pl pu (by rw[hlen];exact hw) ⟨.ref a,H,I,rfl,q a H (Same.refl H) ?_ (.inl rfl)⟩
  have:ZA xs lo hi=xs:=by unfold ZA;rw[hw.1,hw.2];simp
  rw[this];exact hx
 ·exact vz pins s σ H _ v vl vu lo hi sl Q I rx hs pl pu ⟨a,xs,rfl,SqT.of hx,hw,fun p hp=>q p _ (fun b o e=>by rw[qh (ql e hp)];exact e) qb (.inr hp)⟩
def vX:R2:=fun x y H Q=>∃a b xs ys,x= .ref a/\y= .ref b/\H a=some (.tup xs)/\H b=some (.tup ys)/\xs.length+ys.length<=sizeLine/\∀p H',Same H H'->H' p=some (.tup (xs++ys))->Q (.ref p) H'
theorem bI:zc X (binaryOp .Add) vX:=by
 intro pins s σ H x y v u Q I rx ry h
 obtain⟨a,b,xs,ys,rfl,rfl,ha,hb,hz,q⟩:=h
 by_cases hx:xs=[]
 ·subst hx
  cases rx
  cases ry
  obtain⟨its,r1,p1,_⟩:=I.tuple (SqT.of ha)
  obtain⟨its2,r2,p2,_⟩:=I.tuple (SqT.of hb)
  cases r1
  obtain⟨⟨cls,dd,data,sl⟩,ho,hc,n,hd⟩:=id p1
  obtain⟨⟨cls2,dd2,data2,sl2⟩,ho2,hc2,n2,hd2⟩:=id p2
  simp only at hc hd hc2 hd2
  subst hc hd hc2 hd2
  exact concat_meets ⟨_,ho,rfl⟩ ⟨_,ho2,rfl⟩ noFill_tuple_add seq_tuple_add PySem.F.slot_tuple_add PySem.F.entry_tuple_add (PySem.F.args_tuple_add_2 _ _)
   (tuple_addW0 a b _ its2.toArray n n2 dd dd2 sl sl2 (by simp)) ⟨ho,ho2,⟨.ref b,H,I,rfl,q b H (Same.refl H) hb⟩⟩
 ·refine rF pins s σ H _ _ v u Q I rx ry ⟨a,b,xs,ys,rfl,rfl,SqT.of ha,SqT.of hb,hx,hz,fun e=>q a H (Same.refl H) (by subst e;simpa using ha),fun _ p hp=>q p _ (fun b o e=>by rw[qh (ql e hp)];exact e) qb⟩
theorem bO{ns:List Int}{us:List Value}(r:Vals (ns.map V.int) us)(j:Nat)(h:j<us.length)(h':j<ns.length):∃t,us[j]=Value.int ns[j] t:=by
 obtain⟨u,hu,ru⟩:=r.get (i:=j) (x:=V.int ns[j]) (by rw[List.getElem?_map,List.getElem?_eq_getElem h'];rfl)
 rw[List.getElem?_eq_getElem h]at hu
 cases hu
 exact ru
theorem i3(ns ms:List Int)(h:ns.length=ms.length):((List.range ns.length).all fun j=>(ns.getD j 0==ms.getD j 0))=decide (ns=ms):=by
 rw[Bool.eq_iff_iff,List.all_eq_true,decide_eq_true_iff]
 constructor
 ·intro q
  refine List.ext_getElem h fun i h1 h2=>?_
  have:=q i (List.mem_range.mpr h1)
  simp only[List.getD_eq_getElem?_getD,List.getElem?_eq_getElem h1,List.getElem?_eq_getElem h2,Option.getD_some,beq_iff_eq]at this
  exact this
 ·rintro rfl i _
  simp
end
def Qm:Expr->Bool
 | .Starred .. =>false
 |_=>true
theorem ZR{e:Expr}{es:List Expr}{env:Env}(h:Qm e=true):starEach (e::es) env=(false,eval e env)::starEach es env:=by
 cases e<;>first|rfl|cases h
theorem wR{X:Cx}{e:Expr}{es:List Expr}{te:TE}{t:TA}(ha:PE X e te)(hr:PA X es t)(h:Qm e=true:=by rfl):PA X (e::es) (kG te t):=rQ ha hr (ZR h)
structure Df(P:Program)(w:World)(K:Frag)(mg:Str->Option Value)(base:Heap)(x:Str)(ps:List Str)(k:Nat)(sp:Sp):Prop where
 ex:∃(f:Addr) (fd:FuncData),FnOk P w K mg base Zr k f fd ps sp/\mg x=some (.ref f)/\PySem.W.keepIn K (.ref f)=true/\Binds K fd ps []
structure At(K:Frag)(mg:Str->Option Value)(x:Str)(st:Stmt)(ps:List Str):Prop where
 ex:∃(f:Addr) (fd:FuncData),Fun K x x st f fd/\mg x=some (.ref f)/\PySem.W.keepIn K (.ref f)=true/\Binds K fd ps []
section
variable{P:Program}{w:World}{K:Frag}{mg:Str->Option Value}{base:Heap}
theorem At.df{x:Str}{st:Stmt}{ps N:List Str}{k:Nat}{sp:Sp}(a:At K mg x st ps)(S:FnScope N ps (qi st))(len:∀vs H Q E,sp vs H Q E->vs.length=ps.length)
  (hbody:∀(f:Addr) (cdv:Value) (A:Around) (outer:List Env) (s:Shared) (H:Hp) (vs:List V) (Q:VK) (E:XK),Room k (A.deeper (envOfC x (qi st) s.heap.objs.size f cdv))->sp vs H Q E->
   ∃t,PSs (Z0 Zr P w K mg base N x (qi st) f cdv A outer s H E).nox (zv st) t/\t {nx:=fun _ H'=>Q .non H',rt:=Q} (QB N vs) H):Df P w K mg base x ps (k+1) sp:=by
 obtain⟨f,fd,F,m,kp,bd⟩:=a.ex
 exact⟨f,fd,F.ok S len (fun cdv A outer s H vs Q E hr h=>hbody f cdv A outer s H vs Q E hr h),m,kp,bd⟩
end
section
variable{X:Cx}{x:Str}{ps:List Str}{k:Nat}{sp:Sp}{e:Expr}{es:List Expr}{p pos:Pos}{t:TA}
theorem vC(D:Df X.prog X.w X.K X.mg X.base x ps k sp)(hr:Room k X.A)(ha:PA X (e::es) t)(hg:Gl X x:=by rfl)(hdb:(x==("__debug__":Str))=false:=by decide)(he:starEach (e::es) X.env=(false,eval e X.env)::starEach es X.env:=by rfl)(hpl:(backTo pos (starEach es X.env)).any (·.1)=false:=by rfl):
  PE X (.Call (.Name x p) (e::es) [] pos) (kJ sp [] E0 t):=by
 obtain⟨f,fd,ok,m,kp,bd⟩:=D.ex
 exact tG ok hr hg m kp bd .nil gL ha hdb he hpl
end
theorem aY{X:Cx}{scope:Scope}(kind:scope.kind= .function)(names:∀x∈scope.names,x.2= .local->scope.names.lookup x.1=some .local)(nocell:∀x∈scope.names,x.2≠ .cell)
  (free:∀x∈scope.names,x.2= .free->x.1∈([]:List Str)):BScope X scope [] []:=⟨kind,names,nocell,free,rfl,fun i j y h=>by simp at h⟩
theorem aA{X:Cx}{scope:Scope}{y:Str}{j:Nat}(kind:scope.kind= .function)(names:∀x∈scope.names,x.2= .local->scope.names.lookup x.1=some .local)(nocell:∀x∈scope.names,x.2≠ .cell)
  (free:∀x∈scope.names,x.2= .free->x.1∈([y]:List Str))(h1:X.N[j]? =some y)(h2:X.env.kindOf y=some .cell)(h3:(relabel scope X.env).names.lookup y=some .cell):BScope X scope [y] [j]:=
 ⟨kind,names,nocell,free,rfl,fun i j' y' e1 e2=>by
  cases i with
  |zero=>cases e1;cases e2;exact⟨h1,h2,h3⟩
  |succ i=>simp at e1⟩
theorem aL{X:Cx}{y:Str}{c:Addr}(h:X.env.cells.lookup y=some c):∀z d,([(y,c)]:List (Str×Addr)).lookup z=some d->X.env.cells.lookup z=some d:=fun z d e=>by
 by_cases hz:z=y
 ·subst hz
  simp at e
  rw[<- e];exact h
 ·simp [List.lookup_cons,show(z==y)=false from by simpa using hz]at e
theorem aB{X:Cx}{K:Frag}(h:X.K=K):IxR X (nL K):=by subst h;exact qG
theorem rE{X:Cx}{K:Frag}(h:X.K=K):IxR X (pC K):=by subst h;exact Qe
abbrev fx(n m k:Int):HO:= .lst [.int n,.int m,.int k]
theorem _root_.L2.Same.upd{H:Hp}{p:Addr}{o:HO}(h:H p=none):Same H (upd H p o):=fun b u e=>by rw[qh (ql e h)];exact e
theorem mS(c:Bool): -(2 ^ 64:Int)<(if c=true then(1:Int)else 0):=by cases c<;>decide
theorem lC(c:Bool):(if c=true then(1:Int)else 0)<(2 ^ 64:Int):=by cases c<;>decide
theorem j5{n j:Nat}(h:j<n):aS n (j:Int)=some j:=by unfold aS;rw[if_pos (by omega),if_pos (by omega)];simp
def fz(ns:List Int)(lo hi:Option Int):List Int:=(ns.drop (HT.sIx ns.length 0 lo)).take (HT.sIx ns.length ns.length hi-HT.sIx ns.length 0 lo)
theorem pF(ns:List Int)(lo hi:Option Int):ZA (ns.map V.int) lo hi=(fz ns lo hi).map V.int:=by unfold ZA fz;rw[List.length_map,List.map_take,List.map_drop]
theorem pI(ns:List Int)(lo hi:Option Int):(fz ns lo hi).length=min (HT.sIx ns.length ns.length hi-HT.sIx ns.length 0 lo) (ns.length-HT.sIx ns.length 0 lo):=by unfold fz;rw[List.length_take,List.length_drop]
theorem Qk{ns:List Int}{i:Nat}{x:V}(h:(ns.map V.int)[i]? =some x):∃z,x= .int z/\ns[i]? =some z:=by
 rw[List.getElem?_map]at h
 cases e:ns[i]? with
 |none=>rw[e]at h;cases h
 |some z=>rw[e]at h;exact⟨z,(Option.some.inj h).symm,rfl⟩
theorem fi{ns:List Int}{i:Nat}(h:i<ns.length):(ns.map V.int)[i]? =some (.int ns[i]):=by rw[List.getElem?_map,List.getElem?_eq_getElem h];rfl
theorem aN(ns:List Int)(i:Nat)(z:Int):(ns.map V.int).set i (.int z)=(ns.set i z).map V.int:=by rw[List.map_set]
def pT:Option HO->Option String
 |some (.lst _)=>some "list"
 |some (.tup _)=>some "tuple"
 |_=>none
def kd(H:Hp):V->Option String
 | .non=>some "NoneType"
 | .bl _=>some "bool"
 | .int _=>some "int"
 | .str _=>some "str"
 | .ref a=>pT (H a)
 |_=>none
theorem lG{o:Option HO}{t:String}(h:pT o=some t):(∃xs,o=some (.lst xs)/\t="list")\/(∃xs,o=some (.tup xs)/\t="tuple"):=by
 cases o with
 |none=>cases h
 |some u=>
  cases u with
  |lst xs=>cases h;exact .inl ⟨xs,rfl,rfl⟩
  |tup xs=>cases h;exact .inr ⟨xs,rfl,rfl⟩
  |_=>cases h
theorem ei{H:Hp}{a:Addr}{t:String}(h:kd H (.ref a)=some t):(∃xs,H a=some (.lst xs)/\t="list")\/(∃xs,H a=some (.tup xs)/\t="tuple"):=lG h
theorem vN{K:Frag}{H:Hp}{x:V}{t:String}(h:kd H x=some t):TyOf K H x (.type t)/\t∈e8:=by
 cases x with
 |non=>cases h;exact⟨.non,by simp⟩
 |bl b=>cases h;exact⟨.bl b,by simp⟩
 |int i=>cases h;exact⟨.int i,by simp⟩
 |str x=>cases h;exact⟨.str x,by simp⟩
 |byt b=>cases h
 |flt b=>cases h
 |ty b=>cases h
 |ref a=>
  rcases ei h with⟨xs,e,rfl⟩|⟨xs,e,rfl⟩
  ·exact⟨.lst e,by simp⟩
  ·exact⟨.tup e,by simp⟩
theorem bR{H H':Hp}{x:V}{t:String}(s:Same H H')(h:kd H x=some t):kd H' x=some t:=by
 cases x with
 |ref a=>
  rcases ei h with⟨xs,e,rfl⟩|⟨xs,e,rfl⟩
  ·show pT (H' a)=_;rw[s _ _ e];rfl
  ·show pT (H' a)=_;rw[s _ _ e];rfl
 |_=>exact h
def az:V->Bool
 | .int i=>decide (0<=i)&&decide (i<16)
 |_=>false
theorem Zq{α:Type}{xs:List α}{r:Int}(h0:0<=r)(h1:r<xs.length):∃v,Q0 xs r=some v/\v∈xs:=by
 have hr:r.toNat<xs.length:=by omega
 refine⟨xs[r.toNat],?_,List.getElem_mem hr⟩
 have e:Q0 xs ((r.toNat:Nat):Int)=some xs[r.toNat]:=zY (List.getElem?_eq_getElem hr)
 rwa [show((r.toNat:Nat):Int)=r by omega]at e
def gN(K:Frag):Sp:=fun vs H Q _=>∃(a:Addr) (ns:List Int),vs=[.ref a]/\SqL K H a (ns.map V.int)/\ns.length<=63/\∀H',Q (.bl true) H'
def jX:Sp:=fun vs H Q _=>∃x t,vs=[x]/\kd H x=some t/\Q (.bl (az x)) H
def iH:Sp:=fun vs H Q _=>∃p xs,vs=[.ref p]/\H p=some (.tup xs)/\xs.length<=sizeLine/\(∀x∈xs,∃t,kd H x=some t)/\∀H',Same H H'->Q (.bl (xs.all az)) H'
end L3
namespace L3
open PySem PySem.Spec L2
structure QE(X:Cx)(e:Expr)(t:TE):Prop where
 h:PE X e t
structure QT(X:Cx)(e:Expr)(t:TT):Prop where
 h:PT X e t
structure QW(X:Cx)(e:Expr)(t:TT):Prop where
 h:PW X e t
structure QA(X:Cx)(e:List Expr)(t:TA):Prop where
 h:PA X e t
structure QS(X:Cx)(e:Stmt)(t:TS):Prop where
 h:PS X e t
structure QSs(X:Cx)(e:List Stmt)(t:TS):Prop where
 h:PSs X e t
structure QG(X:Cx)(e:Expr)(t:TG):Prop where
 h:PG X e t
structure QGs(X:Cx)(e:List Expr)(t:ZJ):Prop where
 h:kh X e t
structure QO(X:Cx)(e:Option Expr)(t:TO):Prop where
 h:PO X e t
structure QI(X:Cx)(tg e:Expr)(t:TI):Prop where
 h:PI X tg e t
variable{X:Cx}
theorem qf{i j pos}:QE X (.Constant (.int i) j pos) (tC (.int i)):=⟨vE⟩
theorem al{b j pos}:QE X (.Constant (.bool b) j pos) (tC (.bl b)):=⟨vH⟩
theorem zS{j pos}:QE X (.Constant .none j pos) (tC .non):=⟨tR⟩
theorem qk{x j pos}:QE X (.Constant (.str x) j pos) (tC (.str x)):=⟨tN⟩
theorem za{x:Str}{v:V}{u:Value}{pos:Pos}(hg:Gl X x)(hm:X.mg x=some u)(r:RelV v u)(hd:(x==("__debug__":Str))=false:=by decide):QE X (.Name x pos) (tC v):=⟨rL (hg:=hg) (hm:=hm) (r:=r) (hd:=hd)⟩
theorem qS{x:Str}{v:V}{u:Value}{pos:Pos}(hg:Gl X x)(hm:X.mg x=none)(hv:bootBuiltins x=some u)(r:RelV v u)(hn:x≠"__name__":=by decide)(hd:(x==("__debug__":Str))=false:=by decide):QE X (.Name x pos) (tC v):=⟨tH (hg:=hg) (hm:=hm) (hv:=hv) (r:=r) (hn:=hn) (hd:=hd)⟩
theorem qm{a b:Expr}{ta tb:TE}{pos:Pos}{op:Operator}{r:R2}(ho:zc X (binaryOp op) r)(ha:QE X a ta)(hb:QE X b tb):QE X (.BinOp a op b pos) (fR r ta tb):=⟨vQ (ho:=ho) (ha:=ha.h) (hb:=hb.h)⟩
theorem rC{a:Expr}{ta:TE}{pos:Pos}{op:UnaryOp}{r:V->Hp->VK->Prop}(ho:pJ X (unaryOp op) r)(ha:QE X a ta):QE X (.UnaryOp op a pos) (v8 r ta):=⟨vM (ho:=ho) (ha:=ha.h)⟩
theorem zz{a b:Expr}{ta tb:TE}{pos:Pos}{op:CmpOp}{r:R2}(ho:zc X (compareOp op) r)(ha:QE X a ta)(hb:QE X b tb)(hm:behindInMarks op b=false):QE X (.Compare a [op] [b] pos) (fR r ta tb):=⟨rY (ho:=ho) (ha:=ha.h) (hb:=hb.h) (hm:=hm)⟩
theorem qz{a b:Expr}{ta tb:TE}{pos:Pos}{op:CmpOp}{r:R2}(ho:zc X (compareOp op) r)(ha:QE X a ta)(hb:QE X b tb)(hm:behindInMarks op b=false):QT X (.Compare a [op] [b] pos) (bU (fR r ta tb)):=⟨sU (ho:=ho) (ha:=ha.h) (hb:=hb.h) (hm:=hm)⟩
theorem cv{a b c:Expr}{ta tb tc:TE}{pos:Pos}{op op':CmpOp}{r r':R2}(ho:zc X (compareOp op) r)(ho':zc X (compareOp op') r')(ha:QE X a ta)(hb:QE X b tb)(hc:QE X c tc)(hm:lastMarks [op,op'] [b,c]=false:=by with_unfolding_all rfl):QE X (.Compare a [op,op'] [b,c] pos) (dh r r' ta tb tc):=⟨oO (ho:=ho) (ho':=ho') (ha:=ha.h) (hb:=hb.h) (hc:=hc.h) (hm:=hm)⟩
theorem nW{a b c:Expr}{ta tb tc:TE}{pos:Pos}{op op':CmpOp}{r r':R2}(ho:zc X (compareOp op) r)(ho':zc X (compareOp op') r')(ha:QE X a ta)(hb:QE X b tb)(hc:QE X c tc)(hm:lastMarks [op,op'] [b,c]=false:=by with_unfolding_all rfl):QT X (.Compare a [op,op'] [b,c] pos) (bU (dh r r' ta tb tc)):=⟨oA (ho:=ho) (ho':=ho') (ha:=ha.h) (hb:=hb.h) (hc:=hc.h) (hm:=hm)⟩
theorem zT{a b:Expr}{rest:List Expr}{ta tb:TE}{pos:Pos}(ha:QE X a ta)(hb:QE X (.BoolOp .And (b::rest) pos) tb):QE X (.BoolOp .And (a::b::rest) pos) (lj ta tb):=⟨vf (ha:=ha.h) (hb:=hb.h)⟩
theorem Qh{a:Expr}{pos:Pos}{op}{t:TE}(h:QE X a t):QE X (.BoolOp op [a] pos) t:=⟨tZ (h:=h.h)⟩
theorem gS{a:Expr}{ta:TE}{pos:Pos}(ha:QE X a ta):QE X (.UnaryOp .Not a pos) (rg ta):=⟨uO (ha:=ha.h)⟩
theorem ae{a b:Expr}{rest:List Expr}{tA tB':TT}{pos:Pos}(ha:QT X a tA)(hb:QW X (.BoolOp .And (b::rest) pos) tB'):QW X (.BoolOp .And (a::b::rest) pos) (tK tA tB'):=⟨tY (ha:=ha.h) (hb:=hb.h)⟩
theorem QX{a b:Expr}{rest:List Expr}{tA tB':TT}{pos:Pos}(ha:QT X a tA)(hb:QW X (.BoolOp .Or (b::rest) pos) tB'):QW X (.BoolOp .Or (a::b::rest) pos) (wf tA tB'):=⟨vO (ha:=ha.h) (hb:=hb.h)⟩
theorem ac{a:Expr}{tA:TT}{pos:Pos}(ha:QT X a tA):QW X (.BoolOp .And [a] pos) tA:=⟨tD (ha:=ha.h)⟩
theorem QR{a:Expr}{tA:TT}{pos:Pos}(ha:QT X a tA):QW X (.BoolOp .Or [a] pos) tA:=⟨vp (ha:=ha.h)⟩
theorem Qx{a:Expr}{tA:TT}{pos:Pos}(ha:QT X a tA):QT X (.UnaryOp .Not a pos) (uN tA):=⟨uf (ha:=ha.h)⟩
theorem zG{e:Expr}{t:TE}(h:QE X e t)(he:∀whole,isTrue e X.env whole=(do let v <- whole;standAt e.pos;holding [v] (truthy v)):=by intro _;rfl):QT X e (tB t):=⟨uJ (h:=h.h) (he:=he)⟩
theorem cw{a b:Expr}{ta tb:TE}{tA:TT}{pos:Pos}{c:Expr}(hc:QT X c tA)(ha:QE X a ta)(hb:QE X b tb):QE X (.IfExp c a b pos) (rz tA ta tb):=⟨ou (hc:=hc.h) (ha:=ha.h) (hb:=hb.h)⟩
theorem qd{e:Expr}{es:List Expr}{te:TE}{t:TA}(ha:QE X e te)(hr:QA X es t)(h:Qm e=true:=by rfl):QA X (e::es) (kG te t):=⟨wR (ha:=ha.h) (hr:=hr.h) (h:=h)⟩
theorem qc:QA X [] oo:=⟨vA⟩
theorem qA{es:List Expr}{t:TA}{pos:Pos}{x1}(h:QA X es t):QE X (.Tuple es x1 pos) (vw t):=⟨t8 (h:=h.h)⟩
theorem qR{es:List Expr}{t:TA}{pos:Pos}(h:QA X es t):QE X (.List es pos) (t9 t):=⟨vn (h:=h.h)⟩
theorem qI{a b:Expr}{ta tb:TE}{pos:Pos}{r:R2}(hr:IxR X r)(ha:QE X a ta)(hb:QE X b tb)(hs:j4 b):QE X (.Subscript a b pos) (fR r ta tb):=⟨vJ (hr:=hr) (ha:=ha.h) (hb:=hb.h) (hs:=hs)⟩
theorem cz{e:Expr}{te:TE}{lo hi:Option Expr}{tl th:TO}{pos p2:Pos}{r:V->Option Int->Option Int->Hp->VK->Prop}(hr:mI X r)(he:QE X e te)(hl:QO X lo tl)(hu:QO X hi th):QE X (.Subscript e (.Slice lo hi none p2) pos) (wg r te tl th):=⟨oV (hr:=hr) (he:=he.h) (hl:=hl.h) (hu:=hu.h)⟩
theorem fu:QO X none jJ:=⟨sr⟩
theorem eZ{e:Expr}{te:TE}(h:QE X e te):QO X (some e) (rq te):=⟨rH (h:=h.h)⟩
theorem qr{x:Str}{p pos:Pos}{e:Expr}{es:List Expr}{t:TA}{id:String}{r:List V->Hp->VK->Prop}(hc:qW X (.builtin id) r)(hg:Gl X x)(hm:X.mg x=none)(hv:bootBuiltins x=some (.builtin id))(ha:QA X (e::es) t)(hn:x≠"__name__":=by decide)(hdb:(x==("__debug__":Str))=false:=by decide)(he:starEach (e::es) X.env=(false,eval e X.env)::starEach es X.env:=by rfl)(hpl:(backTo pos (starEach es X.env)).any (·.1)=false:=by rfl):QE X (.Call (.Name x p) (e::es) [] pos) (rp r t):=⟨n5 (hc:=hc) (hg:=hg) (hm:=hm) (hv:=hv) (ha:=ha.h) (hn:=hn) (hdb:=hdb) (he:=he) (hpl:=hpl)⟩
theorem qD{x:Str}{p pos:Pos}{e:Expr}{es:List Expr}{t:TA}{T:String}{r:List V->Hp->VK->Prop}(hc:qW X (.type T) r)(hg:Gl X x)(hm:X.mg x=none)(hv:bootBuiltins x=some (.type T))(ha:QA X (e::es) t)(hn:x≠"__name__":=by decide)(hdb:(x==("__debug__":Str))=false:=by decide)(he:starEach (e::es) X.env=(false,eval e X.env)::starEach es X.env:=by rfl)(hpl:(backTo pos (starEach es X.env)).any (·.1)=false:=by rfl):QE X (.Call (.Name x p) (e::es) [] pos) (rp r t):=⟨lJ (hc:=hc) (hg:=hg) (hm:=hm) (hv:=hv) (ha:=ha.h) (hn:=hn) (hdb:=hdb) (he:=he) (hpl:=hpl)⟩
theorem qo{x:Str}{ps:List Str}{k:Nat}{sp:Sp}{e:Expr}{es:List Expr}{p pos:Pos}{t:TA}(D:Df X.prog X.w X.K X.mg X.base x ps k sp)(hr:Room k X.A)(ha:QA X (e::es) t)(hg:Gl X x:=by rfl)(hdb:(x==("__debug__":Str))=false:=by decide)(he:starEach (e::es) X.env=(false,eval e X.env)::starEach es X.env:=by rfl)(hpl:(backTo pos (starEach es X.env)).any (·.1)=false:=by rfl):QE X (.Call (.Name x p) (e::es) [] pos) (kJ sp [] E0 t):=⟨vC (D:=D) (hr:=hr) (ha:=ha.h) (hg:=hg) (hdb:=hdb) (he:=he) (hpl:=hpl)⟩
theorem qE:QSs X [] km:=⟨rG⟩
theorem qe{st:Stmt}{rest:List Stmt}{t u:TS}(h1:QS X st t)(h2:QSs X rest u):QSs X (st::rest) (cE t u):=⟨oX (h1:=h1.h) (h2:=h2.h)⟩
theorem qg{st:Stmt}{t:TS}(h1:QS X st t):QSs X [st] t:=⟨rT (h1:=h1.h)⟩
theorem qy{pos:Pos}{i:Nat}{x:Str}{e:Expr}{te:TE}{pos':Pos}(hN:X.N.Nodup)(hi:X.N[i]? =some x)(hx:fK X.env.scope x)(he:QE X e te)(hs:swapsWith e (some (.Name x pos')) pos.line X.env=pure false:=by rfl)(hf:X.fn x=true\/X.env.scope.names.lookup x=some .local:=by first|exact .inl rfl|exact .inr rfl|assumption):QS X (.Assign [.Name x pos'] e pos) (ff te (Q8 i)):=⟨uF (hN:=hN) (hi:=hi) (hx:=hx) (he:=he.h) (hs:=hs) (hf:=hf)⟩
theorem zf{pos:Pos}{tg e:Expr}{te:TE}{g:TG}(he:QE X e te)(hg:QG X tg g)(hs:swapsWithSole [tg] e pos.line X.env=pure false:=by rfl)(hw:swappedStores [tg] e X.env=pure none:=by rfl)(h1:(assignEach [tg] X.env).map (·.2)=[assign tg X.env]:=by rfl):QS X (.Assign [tg] e pos) (ff te g):=⟨vt (he:=he.h) (hg:=hg.h) (hs:=hs) (hw:=hw) (h1:=h1)⟩
theorem qp{e:Expr}{te:TE}{pos:Pos}(he:QE X e te):QS X (.Return (some e) pos) (ve te):=⟨uI (he:=he.h)⟩
theorem qK{t u:TS}{pos:Pos}{c:Expr}{a b:List Stmt}{tc:TT}(hc:QT X c tc)(ha:QSs X a t)(hb:QSs X b u):QS X (.If c a b pos) (ip tc t u):=⟨vU (hc:=hc.h) (ha:=ha.h) (hb:=hb.h)⟩
theorem zF{tg:Expr}{iter:Expr}{body:List Stmt}{wi:TI}{g:TG}{tb:TS}{pos:Pos}(hp:PassesOwn (model X.prog X.w) X.A X.env X.xe)(hc:X.calm=true)(hi:QI X tg iter wi)(hg:QG X tg g)(hb:QSs X body tb)(hs:∀x,foldedSetIterable iter X.env x=pure x:=by intro _;rfl):QS X (.For tg iter body [] pos) (uw wi g tb):=⟨uW (hp:=hp) (hc:=hc) (hi:=hi.h) (hg:=hg.h) (hb:=hb.h) (hs:=hs)⟩
theorem zJ{e:Expr}{te:TE}{pos:Pos}(he:QE X e te)(hs:swapsWith e none pos.line X.env=pure false:=by rfl):QS X (.Expr e pos) (pR te):=⟨sv (he:=he.h) (hs:=hs)⟩
theorem sH{pos:Pos}{o i e:Expr}{to ti te:TE}{tget:V->V->Hp->VK->Prop}{tip:mE}{tset:cQ}{op:Operator}{tpos:Pos}(ho:QE X o to)(hi:QE X i ti)(hg:n3 X tget)(he:QE X e te)(hp:ui X op tip)(hs:jb X tset)(ha:∀ov iv new,augStore i ov iv new=(do holding [new,ov,iv] (setItem ov iv new);release [new,ov,iv] [];pure .next):=by intros;rfl):QS X (.AugAssign (.Subscript o i tpos) op e pos) (pZ to ti te tget tip tset):=⟨sK (ho:=ho.h) (hi:=hi.h) (hg:=hg) (he:=he.h) (hp:=hp) (hs:=hs) (ha:=ha)⟩
theorem zq{tg:Expr}{l:Expr}{tl:TE}(hl:QE X l tl):QI X tg l (pQ X.K tl):=⟨si (hl:=hl.h)⟩
theorem mz{tg:Expr}{l:Expr}{tl:TE}(hl:QE X l tl):QI X tg l (uE X.K tl):=⟨uj (hl:=hl.h)⟩
theorem zI{tg:Expr}{a:Expr}{ta:TA}{p pos:Pos}(hg:Gl X "range")(hm:X.mg "range"=none)(ha:QA X [a] ta)(hs:starEach [a] X.env=[(false,eval a X.env)]:=by rfl):QI X tg (.Call (.Name "range" p) [a] [] pos) (rB ta):=⟨mJ (hg:=hg) (hm:=hm) (ha:=ha.h) (hs:=hs)⟩
theorem tI{a:Expr}{ta:TA}{p pos:Pos}{elts:List Expr}{x1}{tpos:Pos}(hg:Gl X "enumerate")(hm:X.mg "enumerate"=none)(ha:QA X [a] ta)(hs:starEach [a] X.env=[(false,eval a X.env)]:=by rfl):QI X (.Tuple elts x1 tpos) (.Call (.Name "enumerate" p) [a] [] pos) (rn X.K ta):=⟨se (hg:=hg) (hm:=hm) (ha:=ha.h) (hs:=hs)⟩
theorem qj{pos:Pos}{i:Nat}{x:Str}(hN:X.N.Nodup)(hi:X.N[i]? =some x)(hx:fK X.env.scope x)(hf:X.fn x=true\/X.env.scope.names.lookup x=some .local:=by first|exact .inl rfl|exact .inr rfl|assumption):QG X (.Name x pos) (Q8 i):=⟨rM (hN:=hN) (hi:=hi) (hx:=hx) (hf:=hf)⟩
theorem Zv{pos:Pos}{es:List Expr}{k:Nat}{t:ZJ}{n:Nat}(hc:X.calm=true)(h:QGs X es t)(hn:(assignEach es X.env).length=n:=by rfl)(hst:(assignEach es X.env).findIdx? (·.1)=none:=by rfl):QG X (.Tuple es k pos) (kE X.K n t):=⟨iM (hc:=hc) (h:=h.h) (hn:=hn) (hst:=hst)⟩
theorem Zs{pos:Pos}{o i:Expr}{to ti:TE}{t:cQ}(ho:QE X o to)(hi:QE X i ti)(hs:jb X t)(ha:∀v,assign (.Subscript o i pos) X.env v=(do
      let ov <- holding [v] (eval o X.env)
      let iv <- holding [v,ov] (eval i X.env)
      standAt pos
      holding [v,ov,iv] (setItem ov iv v)
      release [v,ov,iv] []):=by intro _;rfl):QG X (.Subscript o i pos) (ux to ti t):=⟨vd (ho:=ho.h) (hi:=hi.h) (hs:=hs) (ha:=ha)⟩
theorem zm:QGs X [] oh:=⟨tz⟩
theorem qu{e:Expr}{es:List Expr}{t:TG}{u:ZJ}(h1:QG X e t)(h2:QGs X es u)(hs:(assignEach (e::es) X.env).map (·.2)=assign e X.env::(assignEach es X.env).map (·.2):=by rfl):QGs X (e::es) (gK t u):=⟨oj (h1:=h1.h) (h2:=h2.h) (hs:=hs)⟩
theorem QW.pt{e:Expr}{t:TT}(h:QW X e t):QT X e t:=⟨PW.pt h.h⟩
theorem qv(i:Nat){x:Str}{pos:Pos}(hN:X.N[i]? =some x:=by rfl)(hv:uH X.env.scope x:=by first|exact Or.inl rfl|exact Or.inr (Or.inl rfl)|exact Or.inr (Or.inr rfl))(hd:(x==("__debug__":Str))=false:=by decide)
  (hcd:(x==("__classdict__":Str))=false:=by decide):QE X (.Name x pos) (tV i):=⟨vB hN hv hd hcd⟩
theorem q8{elt tg iter:Expr}{scope:Scope}{cl:List (Str×Addr)}{pos:Pos}{fr own:List Str}{js:List Nat}{wi:TI}{g:TG}{te:TE}
  (hc:X.calm=true)(hi:QI X tg iter wi)(hclos:closureFor scope X.env=pure cl)(hcl:∀y c,cl.lookup y=some c->X.env.cells.lookup y=some c)(hfr:cl.map (·.1)=fr)
  (S:BScope X scope fr js)
  (hg:∀C s H fp,QG (Zi X (own++fr) scope cl C s H fp) tg g)(he:∀C s H fp,QE (Zi X (own++fr) scope cl C s H fp) elt te)
  (hs:∀x,foldedSetIterable iter X.env x=pure x:=by intro _;rfl):
  QE X (.ListComp elt [⟨tg,iter,[],0⟩] scope pos) (cX own.length js wi g te):=⟨tE hc hi.h hclos hcl hfr S (fun C s H fp=>(hg C s H fp).h) (fun C s H fp=>(he C s H fp).h) hs⟩
theorem e9{elt tg iter:Expr}{scope:Scope}{cl:List (Str×Addr)}{pos spos py:Pos}{fr own:List Str}{js:List Nat}{wi:TI}{g:TG}{te:TE}{i:Nat}{y:Str}
  (hN:X.N.Nodup)(hi':X.N[i]? =some y)(hx:fK X.env.scope y)
  (hc:X.calm=true)(hi:QI X tg iter wi)(hclos:closureFor scope X.env=pure cl)(hcl:∀y c,cl.lookup y=some c->X.env.cells.lookup y=some c)(hfr:cl.map (·.1)=fr)
  (S:BScope X scope fr js)
  (hg:∀C s H fp,QG (Zi X (own++fr) scope cl C s H fp) tg g)(he:∀C s H fp,QE (Zi X (own++fr) scope cl C s H fp) elt te)
  (hs:∀x,foldedSetIterable iter X.env x=pure x:=by intro _;rfl)(hsw:swapsWith (.ListComp elt [⟨tg,iter,[],0⟩] scope pos) (some (.Name y py)) spos.line X.env=pure true:=by rfl)
  (hf:X.fn y=true\/X.env.scope.names.lookup y=some .local:=by first|exact .inl rfl|exact .inr rfl|assumption):
  QS X (.Assign [.Name y py] (.ListComp elt [⟨tg,iter,[],0⟩] scope pos) spos) (ff (cX own.length js wi g te) (Q8 i)):=⟨rV hN hi' hx hc hi.h hclos hcl hfr S (fun C s H fp=>(hg C s H fp).h) (fun C s H fp=>(he C s H fp).h) hs hsw hf⟩
section
variable{P:Program}{w:World}{K:Frag}{mg:Str->Option Value}{base:Heap}
theorem At.dq{x:Str}{st:Stmt}{ps N:List Str}{k:Nat}{sp:Sp}(a:At K mg x st ps)(S:FnScope N ps (qi st))(len:∀vs H Q E,sp vs H Q E->vs.length=ps.length)
  (hbody:∀(f:Addr) (cdv:Value) (A:Around) (outer:List Env) (s:Shared) (H:Hp) (vs:List V) (Q:VK) (E:XK),Room k (A.deeper (PyProof.Rows.envOfC x (qi st) s.heap.objs.size f cdv))->sp vs H Q E->
   ∃t,QSs (Z0 Zr P w K mg base N x (qi st) f cdv A outer s H E).nox (zv st) t/\t {nx:=fun _ H'=>Q .non H',rt:=Q} (QB N vs) H):Df P w K mg base x ps (k+1) sp:=
 a.df S len fun f cdv A outer s H vs Q E hr h=>let⟨t,q1,q2⟩:=hbody f cdv A outer s H vs Q E hr h;⟨t,q1.h,q2⟩
theorem _root_.L2.Fun.dq{x qual:Str}{st:Stmt}{f:Addr}{fd:FuncData}{N ps:List Str}{k:Nat}{sp:Sp}(F:Fun K x qual st f fd)(S:FnScope N ps (qi st))(len:∀vs H Q E,sp vs H Q E->vs.length=ps.length)
  (hbody:∀(cdv:Value) (A:Around) (outer:List Env) (s:Shared) (H:Hp) (vs:List V) (Q:VK) (E:XK),Room k (A.deeper (PyProof.Rows.envOfC qual (qi st) s.heap.objs.size f cdv))->sp vs H Q E->
   ∃t,QSs (Z0 Zr P w K mg base N qual (qi st) f cdv A outer s H E).nox (zv st) t/\t {nx:=fun _ H'=>Q .non H',rt:=Q} (QB N vs) H):FnOk P w K mg base Zr (k+1) f fd ps sp:=
 F.ok S len fun cdv A outer s H vs Q E hr h=>let⟨t,q1,q2⟩:=hbody cdv A outer s H vs Q E hr h;⟨t,q1.h,q2⟩
theorem vK{x:Str}{st:Stmt}{ps:List Str}{f:Addr}{fd:FuncData}(F:Fun K x x st f fd)(m:mg x=some (.ref f))(b:Binds K fd ps []):At K mg x st ps:=⟨f,fd,F,m,F.kp,b⟩
end
end L3
namespace L3
open PySem PySem.Spec PyProof.Rows L2
section
variable{prog:Program}{w:World}{A:Around}{E:Value->Shared->Prop}{s:Shared}
end
section
variable{X:Cx}
end
def digs:List Int:=(List.range 16).map fun i=>((i:Nat):Int)
theorem oI:digs.length=16:=by decide
theorem sV{α:Type}{xs:List α}{z:Int}{j:Nat}{v:α}(e:z=(j:Int))(h:xs[j]? =some v):Q0 xs z=some v:=by rw[e];exact zY h
theorem fk{n j:Nat}{z:Int}(e:z=(j:Int))(h:j<n):aS n z=some j:=by rw[e];exact j5 h
theorem jc{z:Int}(h:z∈digs):0<=z/\z<16:=by
 obtain⟨i,hi,e⟩:=List.mem_map.mp h
 have:=List.mem_range.mp hi
 omega
end L3
namespace L3
open PySem PySem.Spec PyProof.Rows L2
open Sem (wp)
section
variable{prog:Program}{w:World}{A:Around}{E:Value->Shared->Prop}{s:Shared}
theorem kx{it t:Addr}{i:Nat}{its:Array Value}{x:Value}{Q:Value->Shared->Prop}(hit:s.heap.IsTupleIter it t i)(ht:s.heap.IsTuple t its)(hx:its[i]? =some x)
  (hQ:∀h',h'.IsTupleIter it t (i+1)->Heap.SameBut it s.heap h'->Q x {s with heap:=h'}):wpAny (model prog w) A (Builtin.SmallTypes.nextOf (.ref it)) Q E s:=by
 obtain⟨o,ho,hc,hd⟩:=id hit
 obtain⟨ol,hol,_,nl,hdl⟩:=ht
 unfold Builtin.SmallTypes.nextOf
 refine wpAny_bind (wpAny_callSpecial?_slot (name:=Str.ofString "__next__") hit.typeIs F.slot_tuple_iterator_next
  (wpAny_call_entry F.slot_tuple_iterator_next hit.typeIs F.entry_tuple_iterator_next ?_ (F.args_tuple_iterator_next_1 _)))
 show wpAny _ _ (field (.ref it) 0 >>= _) _ _ s
 refine wpAny_bind (wpAny_field ho hd (x:= .ref t) rfl ?_)
 show wpAny _ _ (if(Value.ref t==Value.none)=true then _ else _) _ _ s
 rw[if_neg (show¬((Value.ref t==Value.none)=true)from Bool.false_ne_true)]
 show wpAny _ _ (field (.ref it) 1 >>= _) _ _ s
 refine wpAny_bind (wpAny_field ho hd (x:= .int i 0) rfl ?_)
 show wpAny _ _ (seqItems? (.ref t) >>= _) _ _ s
 refine wpAny_bind (wpAny_seqItems hol hdl ?_)
 simp only[Int.toNat_natCast,hx]
 refine wpAny_bind (wpAny_setField ho hd (by simp) (wpAny_pure ⟨x,rfl,wpAny_pure (hQ _ ?_ (Heap.SameBut.update ..))⟩))
 exact⟨_,Heap.get?_update_self _ ho (Obj.isFreed_of_fields (Obj.data_mapFields hd _)),(Obj.cls_mapFields ..).trans hc,by
  rw[Obj.data_mapFields hd];simp [rawInt]⟩
theorem gp{it t:Addr}{i:Nat}{its:Array Value}{Q:Value->Shared->Prop}(hh:A.handled=none)(hit:s.heap.IsTupleIter it t i)(ht:s.heap.IsTuple t its)(hx:its[i]? =none)
  (hE:∀h' e,Heap.ExtBut it s.heap h'->(∃o,h'.get? e=some o/\o.cls= .type "StopIteration")->E (.ref e) {s with heap:=h'}):
  wpAny (model prog w) A (Builtin.SmallTypes.nextOf (.ref it)) Q E s:=by
 obtain⟨o,ho,hc,hd⟩:=id hit
 obtain⟨ol,hol,_,nl,hdl⟩:=ht
 unfold Builtin.SmallTypes.nextOf
 refine wpAny_bind (wpAny_callSpecial?_slot (name:=Str.ofString "__next__") hit.typeIs F.slot_tuple_iterator_next
  (wpAny_call_entry F.slot_tuple_iterator_next hit.typeIs F.entry_tuple_iterator_next ?_ (F.args_tuple_iterator_next_1 _)))
 show wpAny _ _ (field (.ref it) 0 >>= _) _ _ s
 refine wpAny_bind (wpAny_field ho hd (x:= .ref t) rfl ?_)
 show wpAny _ _ (if(Value.ref t==Value.none)=true then _ else _) _ _ s
 rw[if_neg (show¬((Value.ref t==Value.none)=true)from Bool.false_ne_true)]
 show wpAny _ _ (field (.ref it) 1 >>= _) _ _ s
 refine wpAny_bind (wpAny_field ho hd (x:= .int i 0) rfl ?_)
 show wpAny _ _ (seqItems? (.ref t) >>= _) _ _ s
 refine wpAny_bind (wpAny_seqItems hol hdl ?_)
 simp only[Int.toNat_natCast,hx]
 refine wpAny_bind (wpAny_rule (wpAny_bind (wpAny_setField ho hd (by simp) ?_)))
 show wpAny _ _ (newExc (.type "StopIteration") [] >>= _) _ _ _
 refine wpAny_bind ?_
 simp only[newExc,newTuple]
 refine wpAny_bind (wpAny_newObj_type ?_ (by size_fits))
 refine wpAny_bind (m:=firstArgMember _ _) (wpAny_of_eq (a:=Value.none) (by first|rfl|(simp only[firstArgMember];rfl)) ?_)
 refine wpAny_newObj_type ?_ (by size_fits)
 simp only[raiseNew]
 refine wpAny_bind (wpAny_handled ?_)
 first|rw[show A.in1.handled=none from hh]|rw[hh]
 refine wpAny_bind (wpAny_pure (wpAny_throw ?_))
 exact hE _ _ (((Heap.SameBut.update ..).extBut.push _).push _) ⟨_,Heap.get?_push_size _ rfl,rfl⟩
end
theorem c8{prog:Program}{w:World}{A:Around}(hh:A.handled=none)(it t:Addr)(hne:t≠it)(its:Array Value):
  Draws prog w A it [it,t] its.size (fun i v=>its[i]? =some v) (fun i h=>h.IsTupleIter it t i/\h.IsTuple t its) where
 live:=fun _ _ st=>let⟨o,ho,_⟩:=st.1;⟨o,ho⟩
 frame:=fun _ _ _ st hk=>⟨st.1.at fun o e=>hk it (by simp) o e,let⟨o,e,r⟩:=st.2;⟨o,hk t (by simp) o e,r⟩⟩
 item:=fun i s Q E hi st hQ=>by
  refine kx st.1 st.2 (x:=its[i]) (by simp [hi]) fun h' hit' hs'=>?_
  exact hQ _ h' s.toks (by simp [hi]) ⟨hit',let⟨o,e,r⟩:=st.2;⟨o,hs'.extBut _ _ hne e,r⟩⟩ hs'
 done:=fun s Q E st hE=>gp hh st.1 st.2 (by simp) hE
open AutoSeq1 (wpAny_loadPart')in
theorem jn(l:Addr)(items:Array Value)(n:Nat)(dct:Option Addr)(sl:Array (Option Value)):
  Meets (Builtin.«enumerate.__new__» ⟨[.type "enumerate",.ref l],[]⟩) (fun _ R s=>s.heap.get? l=some {cls:= .type "tuple",dict:=dct,data:= .seq items n,slots:=sl}/\
   R (.ok (.ret (.ref (s.heap.push {cls:= .type "tuple_iterator",data:= .fields #[.ref l,.int 0 0]}).objs.size)))
    {s with heap:=(s.heap.push {cls:= .type "tuple_iterator",data:= .fields #[.ref l,.int 0 0]}).push {cls:= .type "enumerate",data:= .fields #[.none,.bool false,.ref s.heap.objs.size,rawInt 0,.none,.none]}}):=
 .of_wp fun prog w A R s h=>by
  obtain⟨hp,g,d,tk,os⟩:=s;obtain⟨hl,h⟩:=h
  have hsub:=sub_enumerate
  have hL:Heap.IsTuple (Shared.heap ⟨hp,g,d,tk,os⟩) l items:=⟨_,hl,rfl,n,rfl⟩
  wp_walk using wpAny_loadPart' hl
  refine wpAny_stack_any fun st=>wpAny_pure ?_
  split
  ·rename_i c _ _ _ _ _
   cases(c==Value.type "enumerate")
   ·wp_walk using wpAny_loadPart' hl,wpAny_pyIter_tuple hL
    exact⟨_,rfl,h⟩
   ·wp_walk using wpAny_loadPart' hl,wpAny_pyIter_tuple hL
    exact⟨_,rfl,h⟩
  ·wp_walk using wpAny_loadPart' hl,wpAny_pyIter_tuple hL
   exact⟨_,rfl,h⟩
section
variable{prog:Program}{w:World}{A:Around}{E:Value->Shared->Prop}{s:Shared}
theorem k6{l:Addr}{items:Array Value}{Q:Value->Shared->Prop}(hL:s.heap.IsTuple l items)
  (h:∀h',IsEnum h' (s.heap.objs.size+1) s.heap.objs.size 0 .none->h'.IsTupleIter s.heap.objs.size l 0->(∀b o,s.heap.get? b=some o->h'.get? b=some o)->Q (.ref (s.heap.objs.size+1)) {s with heap:=h'}):
  wpAny (model prog w) A (call (.type "enumerate") [.ref l]) Q E s:=by
 obtain⟨⟨c,dct,dt,sl⟩,hl,hc,n,hd⟩:=hL
 replace hc:c= .type "tuple":=hc
 replace hd:dt= .seq items n:=hd
 subst hc hd
 refine callType_new F.called_enumerate (by decide) (F.typeCall_enumerate_1 _) (F.newCall_enumerate_1 _) (fun obj=>F.args_object_init_2 obj _) F.entry_enumerate_new
  (jn l items n dct sl) ⟨hl,?_⟩
 have hz:(s.heap.push {cls:= .type "tuple_iterator",data:= .fields #[.ref l,.int 0 0]}).objs.size=s.heap.objs.size+1:=Heap.size_push ..
 show _/\_
 rw[hz]
 have he:IsEnum ((s.heap.push {cls:= .type "tuple_iterator",data:= .fields #[.ref l,.int 0 0]}).push
   {cls:= .type "enumerate",data:= .fields #[.none,.bool false,.ref s.heap.objs.size,rawInt 0,.none,.none]}) (s.heap.objs.size+1) s.heap.objs.size 0 .none:=by
  have:=Heap.get?_push_size (s.heap.push {cls:= .type "tuple_iterator",data:= .fields #[.ref l,.int 0 0]})
   (o:={cls:= .type "enumerate",data:= .fields #[.none,.bool false,.ref s.heap.objs.size,rawInt 0,.none,.none]}) rfl
  rw[hz]at this;exact this
 exact⟨⟨_,he,rfl⟩,h _ he ⟨_,Heap.get?_push_of_some _ (Heap.get?_push_size _ rfl),rfl,rfl⟩ fun b o x=>Heap.get?_push_of_some _ (Heap.get?_push_of_some _ x)⟩
end
def iR(K:Frag)(a:Addr):It:=
 ⟨fun i H=>∃xs x,SqT K H a xs/\xs[i]? =some x,fun i H x H'=>∃p v,H p=none/\x= .ref p/\(∀xs,SqT K H a xs->xs[i]? =some v)/\H'=upd H p (.tup [.int i,v]),fun i H=>∃xs,SqT K H a xs/\xs.length<=i⟩
theorem kD{P:Program}{w:World}{K:Frag}{elts:List Expr}{x1}{pos:Pos}(a e it:Addr)(hei:e≠it):
  Turn P w K (.Tuple elts x1 pos) (iR K a) [e,it] e (fun i h=>(∃old,IsEnum h e it i old)/\h.IsTupleIter it a i) where
 mem:=by simp
 obj:=fun i h st b hb=>by
  obtain⟨⟨old,he⟩,⟨o,ho,hc,hd⟩⟩:=st
  rcases List.mem_cons.mp hb with z|z
  ·subst z
   refine⟨_,he,fun v z=>?_⟩
   have z':Data.fields _=Data.cell v:=z
   cases z'
  ·rw[List.mem_singleton.mp z]
   exact⟨o,ho,fun v z=>by rw[hd]at z;cases z⟩
 keep:=fun i h h' st k=>⟨let⟨old,he⟩:=st.1;⟨old,k e (by simp) _ he⟩,st.2.at fun o q=>k it (by simp) o q⟩
 item:=by
  intro X hP hw hK hc i pins s σ H E I hf st hg
  subst hP hw hK
  obtain⟨xs,x,hq,hx⟩:=hg
  obtain⟨its,rv,p,hz⟩:=I.tuple hq
  obtain⟨u,hu,ru⟩:=rv.get hx
  obtain⟨⟨old,he⟩,hit⟩:=st
  have nae:a≠e:=fun z=>by
   subst z
   obtain⟨o,ho,hcl,_⟩:=p
   rw[he]at ho;cases ho;exact absurd (show Value.type "enumerate"=Value.type "tuple" from hcl) (by decide)
  have nai:a≠it:=fun z=>by
   subst z
   obtain⟨o,ho,hcl,_⟩:=p
   obtain⟨o',ho',hc',_⟩:=hit
   rw[ho]at ho';cases ho';rw[hcl]at hc';exact absurd hc' (by decide)
  have hil:i<its.toArray.size:=by
   have:=(List.getElem?_eq_some_iff.mp hu).1
   simpa using this
  refine wpAny_pyNext_enum_itemD (c8 (A:=X.A.in1) (I.ok.hd hc) it a nai its.toArray) he ⟨hit,p⟩ hil hei (by simp [hei,Ne.symm nae]) fun v h' tk hv ho ⟨hit',_⟩ ht hsz hk=>⟨_,rfl,?_⟩
  have ev:v=u:=by
   have hv':its[i]? =some v:=by simpa using hv
   rw[hu]at hv';exact(Option.some.inj hv').symm
  subst ev
  refine wpAny_letOwnedTupleGo_enum ho fun h'' he'' hs''=>?_
  have helt:e<s.heap.objs.size:=Heap.lt_size he
  have hilt:it<s.heap.objs.size:=by obtain⟨_,y,_⟩:=hit;exact Heap.lt_size y
  refine⟨.ref s.heap.objs.size,upd H s.heap.objs.size (.tup [.int i,x]),?_,rfl,⟨_,x,I.hok.fresh (Nat.le_refl _),rfl,fun ys hy=>by rw[I.tuple_inj hy hq];exact hx,rfl⟩,⟨⟨_,by simpa using he''⟩,?_⟩,?_⟩
  ·show L2.Inv X pins σ _ {s with heap:=h'',toks:=tk+1}
   refine fw (s:=s) (its:=[.int i tk,v]) I (ch:=[e,it]) (fun b o hb q=>?_) hf (fun b hb=>?_) (Nat.le_refl _) (by show 2<=sizeLine;decide) (.cons ⟨_,rfl⟩ (.cons ru .nil)) ?_
   ·have hb1:b≠e:=fun z=>hb (by simp [z])
    have hb2:b≠it:=fun z=>hb (by simp [z])
    exact(hs''.2 b hb1).trans (hk b o hb1 hb2 q)
   ·rcases List.mem_cons.mp hb with z|z
    ·subst z;exact⟨_,he''⟩
    ·rw[List.mem_singleton.mp z]
     obtain⟨o,y,_⟩:=hit'
     exact⟨o,(hs''.2 it (Ne.symm hei)).trans y⟩
   ·exact⟨_,(hs''.2 _ (Nat.ne_of_gt helt)).trans ht,rfl,_,rfl⟩
  ·exact hit'.extBut hs''.extBut (Ne.symm hei)
  ·intro b hb
   rw[qh]
   ·exact(hf b hb).1
   ·rcases List.mem_cons.mp hb with z|z
    ·subst z;exact Nat.ne_of_lt helt
    ·rw[List.mem_singleton.mp z];exact Nat.ne_of_lt hilt
 done:=by
  intro X hP hw hK hc i pins s σ H E I hf st hg
  subst hP hw hK
  obtain⟨xs,hq,hx⟩:=hg
  obtain⟨its,rv,p,hz⟩:=I.tuple hq
  obtain⟨⟨old,he⟩,hit⟩:=st
  obtain⟨f0,f1,f2,f3,f4,f5⟩:=hf it (by simp)
  have hl:=rv.length
  have nai:a≠it:=fun z=>by
   subst z
   obtain⟨o,ho,hcl,_⟩:=p
   obtain⟨o',ho',hc',_⟩:=hit
   rw[ho]at ho';cases ho';rw[hcl]at hc';exact absurd hc' (by decide)
  unfold pyNext
  have hT:s.TypeIs (.ref e) "enumerate":=⟨_,he,rfl⟩
  refine wpAny_bind (wpAny_attempt (wpAny_callSpecial?_slot (name:=Str.ofString "__next__") hT F.slot_enumerate_next
   (wpAny_call_entry F.slot_enumerate_next hT F.entry_enumerate_next ?_ (F.args_enumerate_next_1 _))))
  show wpAny _ _ (field (.ref e) 2 >>= _) _ _ _
  refine wpAny_bind (wpAny_field he rfl (x:= .ref it) rfl ?_)
  refine wpAny_bind (gp (I.ok.hd hc) hit p (by simp;omega) fun h' ex eb hx'=>?_)
  obtain⟨o,ho,hcl⟩:=hx'
  refine wpAny_bind (wpAny_isInstance (T:="StopIteration") (b:=true) ⟨o,ho,hcl⟩ isSubtype_stop ?_)
  exact wpAny_pure ⟨rfl,I.turned (t':=s.toks) (fun b o hb e=>eb b o hb e) f0 f1 f3 f4 f5⟩
 self:=fun _ _ _ _ _ st h=>by
  obtain⟨⟨old,he⟩,_⟩:=st
  exact wpAny_pyIter_enum he h
section
variable{X:Cx}
def mU(K:Frag)(ta:TA):TI:=fun σ H R=>ta σ H fun vs H1=>∃a,vs=[.ref a]/\((∃xs,SqL K H1 a xs)/\R (jT K a) H1\/(∃xs,SqT K H1 a xs)/\R (iR K a) H1)
theorem nN{a:Expr}{ta:TA}{p pos:Pos}{elts:List Expr}{x1}{tpos:Pos}(hg:Gl X "enumerate")(hm:X.mg "enumerate"=none)(ha:PA X [a] ta)(hs:starEach [a] X.env=[(false,eval a X.env)]:=by rfl):
  PI X (.Tuple elts x1 tpos) (.Call (.Name "enumerate" p) [a] [] pos) (mU X.K ta):=by
 intro pins s σ H R I h
 refine Call_ (Zd I hg hm boot_enumerate (PyProof.Rows.callWith_type1 (qB (ha pos pins s σ H _ I h) fun us s1 ⟨vs,H1,I1,r1,q1⟩=>?_) hs rfl))
 obtain⟨l,e,q1⟩:=q1
 subst e
 obtain⟨u,rfl,ru⟩:=r1.one
 cases ru
 have fpk:∀b∈[s1.heap.objs.size+1,s1.heap.objs.size],Ze X pins H1 b:=fun b hb=>by
  have hb':s1.heap.objs.size<=b:=by
   rcases List.mem_cons.mp hb with z|z
   ·rw[z];exact Nat.le_succ _
   ·rw[List.mem_singleton.mp z];exact Nat.le_refl _
  exact I1.fpOk hb' (I1.hok.fresh hb')
 rcases q1 with⟨⟨xs,hq⟩,q⟩|⟨⟨xs,hq⟩,q⟩
 ·obtain⟨its,rv,pl,hz⟩:=I1.list hq
  refine call_enumerate_list pl.isList fun h' he hit hsz hk=>wpAny_pyIter_enum he ?_
  exact⟨s1.heap.objs.size+1,[s1.heap.objs.size+1,s1.heap.objs.size],_,_,H1,rfl,I1.kept (t':=s1.toks) hk,f9 l _ _ (Nat.ne_of_gt (Nat.lt_succ_self _)),⟨⟨_,he⟩,hit⟩,fpk,q⟩
 ·obtain⟨its,rv,pl,hz⟩:=I1.tuple hq
  refine k6 (show s1.heap.IsTuple l its.toArray from pl) fun h' he hit hk=>wpAny_pyIter_enum he ?_
  exact⟨s1.heap.objs.size+1,[s1.heap.objs.size+1,s1.heap.objs.size],_,_,H1,rfl,I1.kept (t':=s1.toks) hk,kD l _ _ (Nat.ne_of_gt (Nat.lt_succ_self _)),⟨⟨_,he⟩,hit⟩,fpk,q⟩
theorem mP{K:Frag}{a:Addr}{xs:List V}{g:TG}{tb:TS}{D:Ends}{σ:L2.St}{H:Hp}(Pv:Nat->L2.St->Hp->Prop)(h0:Pv 0 σ H)(hl:∀i σ H,i<=xs.length->Pv i σ H->SqT K H a xs)
  (hs:∀i x σ H p,xs[i]? =some x->Pv i σ H->H p=none->g (.ref p) σ (upd H p (.tup [.int i,x])) fun σ2 H2=>tb {D with nx:=Pv (i+1),ct:=Pv (i+1),bk:=D.nx} σ2 H2)(hd:∀σ H,Pv xs.length σ H->D.nx σ H):
  ∃W:Nat->Nat->L2.St->Hp->Prop,(∃m,W 0 m σ H)/\∀i m σ H,W i m σ H->
   ((iR K a).stop i H/\D.nx σ H)\/((iR K a).go i H/\∃N:L2.St->Hp->Prop,(∀σ' H',N σ' H'->∃m',m'<m/\W (i+1) m' σ' H')/\∀x H',(iR K a).yld i H x H'->g x σ H' fun σ2 H2=>tb {D with nx:=N,ct:=N,bk:=D.nx} σ2 H2):=by
 refine⟨fun i m σ H=>m=xs.length-i/\i<=xs.length/\Pv i σ H,⟨xs.length,by simp,Nat.zero_le _,h0⟩,?_⟩
 rintro i m σ H ⟨rfl,hi,p⟩
 have q:=hl i σ H hi p
 by_cases hlt:i<xs.length
 ·refine .inr ⟨⟨xs,xs[i],q,by simp [hlt]⟩,Pv (i+1),fun σ' H' p'=>⟨xs.length-(i+1),by omega,rfl,hlt,p'⟩,fun x H' y=>?_⟩
  obtain⟨pp,v,hp,rfl,hv,rfl⟩:=y
  exact hs i v σ H pp (hv xs q) p hp
 ·have e:i=xs.length:=by omega
  subst e
  exact .inl ⟨⟨xs,q,Nat.le_refl _⟩,hd σ H p⟩
end
structure ZApart(z TI TO i1 i2:Addr)(f1 f2:List Addr):Prop where
 TIz:TI≠z
 TOz:TO≠z
 i1z:i1≠z
 i2z:i2≠z
 TITO:TI≠TO
 TIi1:TI≠i1
 TIi2:TI≠i2
 TOi1:TO≠i1
 TOi2:TO≠i2
 i12:i1≠i2
 z1:z∉f1
 z2:z∉f2
 t1:TO∉f1
 t2:TO∉f2
 x1:i2∉f1
 x2:i1∉f2
section
variable{prog:Program}{w:World}{A:Around}{E:Value->Shared->Prop}{s:Shared}{z TI TO i1 i2:Addr}{f1 f2:List Addr}{n1 n2 k:Nat}{P1 P2:Nat->Value->Prop}{S1 S2:Nat->Heap->Prop}{a b:Value}
theorem lY{Q:Value->Shared->Prop}(D1:Draws prog w A i1 f1 n1 P1 S1)(D2:Draws prog w A i2 f2 n2 P2 S2)(Z:ZApart z TI TO i1 i2 f1 f2)
  (hz:IsZip s.heap z TI TO .none)(hTI:IsPair s.heap TI (.ref i1) (.ref i2))(hTO:IsPair s.heap TO a b)(q1:S1 k s.heap)(q2:S2 k s.heap)(k1:k<n1)(k2:k<n2)
  (hQ:∀x y h' tk,P1 k x->P2 k y->IsZip h' z TI TO (rawInt s.heap.objs.size)->IsPair h' TO x y->S1 (k+1) h'->S2 (k+1) h'->IsPair h' s.heap.objs.size x y->
   (∀c o,c≠z->c≠TO->c≠i1->c≠i2->s.heap.get? c=some o->h'.get? c=some o)->Q (.ref s.heap.objs.size) {s with heap:=h',toks:=tk}):
  wpAny (model prog w) A (Builtin.«zip.__next__» ⟨[.ref z],[]⟩) (fun fin s'=>∃v,fin= .done (.ret v)/\Q v s') E s:=by
 obtain⟨hp,g,d,t0,os⟩:=s
 show wpAny _ _ (field (.ref z) 2 >>= _) _ _ _
 refine wpAny_bind (wpAny_field hz rfl (x:= .bool false) rfl ?_)
 show wpAny _ _ (field (.ref z) 3 >>= _) _ _ _
 refine wpAny_bind (wpAny_field hz rfl (x:= .ref TI) rfl ?_)
 refine wpAny_bind (wpAny_seqItems hTI rfl ?_)
 show wpAny _ _ (Builtin.SmallTypes.ownedTupleIsFree (.ref z) >>= _) _ _ _
 refine wpAny_bind ?_
 unfold Builtin.SmallTypes.ownedTupleIsFree
 refine wpAny_bind (wpAny_field hz rfl (x:= .none) rfl (wpAny_pure ?_))
 simp only[if_true]
 refine wpAny_bind (wpAny_rule ?_)
 refine wpAny_bind (wpAny_field hz rfl (x:= .ref TO) rfl ?_)
 refine wpAny_bind (wpAny_setField_rec hz (by simp) fun h₁ hz₁ hs₁=>?_)
 replace hz₁:IsZip h₁ z TI TO .ellipsis:=hz₁
 replace hs₁:Heap.SameBut z hp h₁:=hs₁
 refine wpAny_bind ?_
 simp only[List.zipIdx_cons,List.zipIdx_nil,List.forIn_cons,List.forIn_nil]
 refine wpAny_bind (wpAny_bind (wpAny_onRaise ?_))
 show wpAny _ _ (Builtin.SmallTypes.nextOf (.ref i1) >>= _) _ _ _
 have q1a:S1 k h₁:=D1.frame _ _ _ q1 fun c hc o e=>hs₁.extBut c o (fun y=>Z.z1 (y▸hc)) e
 refine wpAny_bind (D1.item k ⟨h₁,g,d,t0,os⟩ _ _ k1 q1a fun x h₂ tk₂ p1 q1b hs₂=>wpAny_pure ?_)
 replace hs₂:Heap.SameBut i1 h₁ h₂:=hs₂
 have hTO₂:IsPair h₂ TO a b:=hs₂.extBut _ _ Z.TOi1 (hs₁.extBut _ _ Z.TOz hTO)
 refine wpAny_bind (wpAny_seqItems hTO₂ rfl ?_)
 refine wpAny_bind (wpAny_updateSeq_pair hTO₂ fun h₃ hTO₃ hs₃=>?_)
 replace hTO₃:IsPair h₃ TO x b:=hTO₃
 replace hs₃:Heap.SameBut TO h₂ h₃:=hs₃
 refine wpAny_bind (wpAny_letGo (wpAny_pure ?_))
 refine wpAny_bind (wpAny_bind (wpAny_onRaise ?_))
 show wpAny _ _ (Builtin.SmallTypes.nextOf (.ref i2) >>= _) _ _ _
 have q2a:S2 k h₃:=D2.frame _ _ _ q2 fun c hc o e=>hs₃.extBut c o (fun y=>Z.t2 (y▸hc)) (hs₂.extBut c o (fun y=>Z.x2 (y▸hc)) (hs₁.extBut c o (fun y=>Z.z2 (y▸hc)) e))
 refine wpAny_bind (D2.item k ⟨h₃,g,d,tk₂,os⟩ _ _ k2 q2a fun y h₄ tk₄ p2 q2b hs₄=>wpAny_pure ?_)
 replace hs₄:Heap.SameBut i2 h₃ h₄:=hs₄
 have hTO₄:IsPair h₄ TO x b:=hs₄.extBut _ _ Z.TOi2 hTO₃
 refine wpAny_bind (wpAny_seqItems hTO₄ rfl ?_)
 refine wpAny_bind (wpAny_updateSeq_pair hTO₄ fun h₅ hTO₅ hs₅=>?_)
 replace hTO₅:IsPair h₅ TO x y:=hTO₅
 replace hs₅:Heap.SameBut TO h₄ h₅:=hs₅
 refine wpAny_bind (wpAny_letGo (wpAny_pure (wpAny_pure ?_)))
 refine wpAny_bind (wpAny_seqItems hTO₅ rfl ?_)
 refine wpAny_bind (wpAny_newTuple ?_)
 have hsz:h₅.objs.size=hp.objs.size:=by rw[hs₅.1,hs₄.1,hs₃.1,hs₂.1,hs₁.1]
 have hz₅:IsZip h₅ z TI TO .ellipsis:=hs₅.extBut _ _ Z.TOz.symm (hs₄.extBut _ _ Z.i2z.symm (hs₃.extBut _ _ Z.TOz.symm (hs₂.extBut _ _ Z.i1z.symm hz₁)))
 have hk₅:∀c o,c≠z->c≠TO->c≠i1->c≠i2->hp.get? c=some o->h₅.get? c=some o:=fun c o c1 c2 c3 c4 e=>
  hs₅.extBut _ _ c2 (hs₄.extBut _ _ c4 (hs₃.extBut _ _ c2 (hs₂.extBut _ _ c3 (hs₁.extBut _ _ c1 e))))
 have q1c:S1 (k+1) h₅:=D1.frame _ _ _ q1b fun c hc o e=>hs₅.extBut c o (fun y=>Z.t1 (y▸hc)) (hs₄.extBut c o (fun y=>Z.x1 (y▸hc)) (hs₃.extBut c o (fun y=>Z.t1 (y▸hc)) e))
 have q2c:S2 (k+1) h₅:=D2.frame _ _ _ q2b fun c hc o e=>hs₅.extBut c o (fun y=>Z.t2 (y▸hc)) e
 have hzlt:z<h₅.objs.size:=Heap.lt_size hz₅
 show wpAny _ _ (Builtin.SmallTypes.ownedTupleHandOut (.ref z) (.ref h₅.objs.size) >>= _) _ _ _
 refine wpAny_bind ?_
 unfold Builtin.SmallTypes.ownedTupleHandOut
 have hz₆:IsZip (h₅.push {cls:= .type "tuple",data:= .seq #[x,y]}) z TI TO .ellipsis:=Heap.get?_push_of_some _ hz₅
 refine wpAny_bind (wpAny_setField_rec hz₆ (by simp) fun h₇ hz₇ hs₇=>?_)
 replace hz₇:IsZip h₇ z TI TO (rawInt h₅.objs.size):=hz₇
 refine wpAny_setField_rec hz₇ (by simp) fun h₈ hz₈ hs₈=>?_
 replace hz₈:IsZip h₈ z TI TO (rawInt h₅.objs.size):=hz₈
 have up:∀c o,c≠z->h₅.get? c=some o->h₈.get? c=some o:=fun c o c1 e=>hs₈.extBut _ _ c1 (hs₇.extBut _ _ c1 (Heap.get?_push_of_some _ e))
 have hT₈:IsPair h₈ h₅.objs.size x y:=hs₈.extBut _ _ (Nat.ne_of_gt hzlt) (hs₇.extBut _ _ (Nat.ne_of_gt hzlt) (Heap.get?_push_size _ rfl))
 rw[hsz]at hz₈ hT₈
 refine wpAny_pure ⟨_,rfl,?_⟩
 show Q (.ref h₅.objs.size) _
 rw[hsz]
 exact hQ x y h₈ tk₄ p1 p2 hz₈ (up _ _ Z.TOz hTO₅) (D1.frame _ _ _ q1c fun c hc o e=>up c o (fun y=>Z.z1 (y▸hc)) e) (D2.frame _ _ _ q2c fun c hc o e=>up c o (fun y=>Z.z2 (y▸hc)) e) hT₈ fun c o c1 c2 c3 c4 e=>up c o c1 (hk₅ c o c1 c2 c3 c4 e)
theorem pw{Q:Fin->Shared->Prop}(D1:Draws prog w A i1 f1 n1 P1 S1)(Z:ZApart z TI TO i1 i2 f1 f2)
  (hz:IsZip s.heap z TI TO .none)(hTI:IsPair s.heap TI (.ref i1) (.ref i2))(q1:S1 n1 s.heap)
  (hE:∀h' e,(∀c o,c≠z->c≠i1->s.heap.get? c=some o->h'.get? c=some o)->(∃o,h'.get? e=some o/\o.cls= .type "StopIteration")->E (.ref e) {s with heap:=h'}):
  wpAny (model prog w) A (Builtin.«zip.__next__» ⟨[.ref z],[]⟩) Q E s:=by
 obtain⟨hp,g,d,t0,os⟩:=s
 show wpAny _ _ (field (.ref z) 2 >>= _) _ _ _
 refine wpAny_bind (wpAny_field hz rfl (x:= .bool false) rfl ?_)
 show wpAny _ _ (field (.ref z) 3 >>= _) _ _ _
 refine wpAny_bind (wpAny_field hz rfl (x:= .ref TI) rfl ?_)
 refine wpAny_bind (wpAny_seqItems hTI rfl ?_)
 show wpAny _ _ (Builtin.SmallTypes.ownedTupleIsFree (.ref z) >>= _) _ _ _
 refine wpAny_bind ?_
 unfold Builtin.SmallTypes.ownedTupleIsFree
 refine wpAny_bind (wpAny_field hz rfl (x:= .none) rfl (wpAny_pure ?_))
 simp only[if_true]
 refine wpAny_bind (wpAny_rule ?_)
 refine wpAny_bind (wpAny_field hz rfl (x:= .ref TO) rfl ?_)
 refine wpAny_bind (wpAny_setField_rec hz (by simp) fun h₁ hz₁ hs₁=>?_)
 replace hz₁:IsZip h₁ z TI TO .ellipsis:=hz₁
 replace hs₁:Heap.SameBut z hp h₁:=hs₁
 refine wpAny_bind ?_
 simp only[List.zipIdx_cons,List.zipIdx_nil,List.forIn_cons,List.forIn_nil]
 refine wpAny_bind (wpAny_bind (wpAny_onRaise ?_))
 show wpAny _ _ (Builtin.SmallTypes.nextOf (.ref i1) >>= _) _ _ _
 have q1a:S1 n1 h₁:=D1.frame _ _ _ q1 fun c hc o e=>hs₁.extBut c o (fun y=>Z.z1 (y▸hc)) e
 refine wpAny_bind (D1.done ⟨h₁,g,d,t0,os⟩ _ _ q1a fun h₂ e hs₂ he=>?_)
 obtain⟨oe,hoe,hce⟩:=he
 replace hs₂:Heap.ExtBut i1 h₁ h₂:=hs₂
 have hz₂:IsZip h₂ z TI TO .ellipsis:=hs₂ _ _ Z.i1z.symm hz₁
 have hez:e≠z:=fun x=>by subst x;rw[hz₂]at hoe;cases hoe;simp at hce
 refine wpAny_setField_rec hz₂ (by simp) fun h₃ _ hs₃=>hE h₃ e (fun c o c1 c3 x=>hs₃.extBut _ _ c1 (hs₂ _ _ c3 (hs₁.extBut _ _ c1 x))) ⟨oe,hs₃.extBut _ _ hez hoe,hce⟩
end
abbrev pY(h:Heap)(l1:Addr):Heap:=h.push {cls:= .type "tuple_iterator",data:= .fields #[.ref l1,.int 0 0]}
abbrev pX(h:Heap)(l1 l2:Addr):Heap:=(pY h l1).push {cls:= .type "tuple_iterator",data:= .fields #[.ref l2,.int 0 0]}
abbrev rA(h:Heap)(l1 l2:Addr):Heap:=(pX h l1 l2).push {cls:= .type "tuple",data:= .seq #[.ref h.objs.size,.ref (pY h l1).objs.size]}
abbrev pK(h:Heap)(l1 l2:Addr):Heap:=(rA h l1 l2).push {cls:= .type "tuple",data:= .seq #[.none,.none]}
abbrev jZ(h:Heap)(l1 l2:Addr):Heap:=(pK h l1 l2).push {cls:= .type "zip",data:= .fields #[.none,.bool false,.bool false,.ref (pX h l1 l2).objs.size,.ref (rA h l1 l2).objs.size]}
theorem ly(l1 l2:Addr)(xs ys:Array Value):
  Meets (Builtin.«zip.__new__» ⟨[.type "zip",.ref l1,.ref l2],[]⟩) (fun _ R s=>s.heap.IsTuple l1 xs/\s.heap.IsTuple l2 ys/\
   R (.ok (.ret (.ref (pK s.heap l1 l2).objs.size))) {s with heap:=jZ s.heap l1 l2}):=
 .of_wp fun prog w A R s h=>by
  obtain⟨hp,g,d,tk,os⟩:=s;obtain⟨hl1,hl2,h⟩:=h
  have hsub:=sub_zip
  have hL1:Heap.IsTuple (Shared.heap ⟨hp,g,d,tk,os⟩) l1 xs:=hl1
  have hL2:Heap.IsTuple (Shared.heap ⟨hp.push {cls:= .type "tuple_iterator",data:= .fields #[.ref l1,.int 0 0]},g,d,tk,os⟩) l2 ys:=let⟨o,e,r⟩:=hl2;⟨o,Heap.get?_push_of_some _ e,r⟩
  wp_walk using wpAny_pyIter_tuple hL1,wpAny_pyIter_tuple hL2
  exact⟨_,rfl,h⟩
section
variable{prog:Program}{w:World}{A:Around}{E:Value->Shared->Prop}{s:Shared}
theorem lS{l1 l2:Addr}{xs ys:Array Value}{Q:Value->Shared->Prop}(hl1:s.heap.IsTuple l1 xs)(hl2:s.heap.IsTuple l2 ys)
  (h:∀h',IsZip h' (s.heap.objs.size+4) (s.heap.objs.size+2) (s.heap.objs.size+3) .none->IsPair h' (s.heap.objs.size+2) (.ref s.heap.objs.size) (.ref (s.heap.objs.size+1))->
   IsPair h' (s.heap.objs.size+3) .none .none->h'.IsTupleIter s.heap.objs.size l1 0->h'.IsTupleIter (s.heap.objs.size+1) l2 0->
   (∀c o,s.heap.get? c=some o->h'.get? c=some o)->Q (.ref (s.heap.objs.size+4)) {s with heap:=h'}):
  wpAny (model prog w) A (call (.type "zip") [.ref l1,.ref l2]) Q E s:=by
 refine callType_new F.called_zip (by decide) (F.typeCall_zip_2 _ _) (F.newCall_zip_2 _ _) (fun obj=>F.args_object_init_3 obj _ _) F.entry_zip_new
  (ly l1 l2 xs ys) ⟨hl1,hl2,?_⟩
 have z1:(pY s.heap l1).objs.size=s.heap.objs.size+1:=Heap.size_push ..
 have z2:(pX s.heap l1 l2).objs.size=s.heap.objs.size+2:=by rw[Heap.size_push,z1]
 have z3:(rA s.heap l1 l2).objs.size=s.heap.objs.size+3:=by rw[Heap.size_push,z2]
 have z4:(pK s.heap l1 l2).objs.size=s.heap.objs.size+4:=by rw[Heap.size_push,z3]
 have g5:(jZ s.heap l1 l2).get? (pK s.heap l1 l2).objs.size=some _:=Heap.get?_push_size _ rfl
 have g4:(jZ s.heap l1 l2).get? (rA s.heap l1 l2).objs.size=some _:=Heap.get?_push_of_some _ (Heap.get?_push_size _ rfl)
 have g3:(jZ s.heap l1 l2).get? (pX s.heap l1 l2).objs.size=some _:=Heap.get?_push_of_some _ (Heap.get?_push_of_some _ (Heap.get?_push_size _ rfl))
 have g2:(jZ s.heap l1 l2).get? (pY s.heap l1).objs.size=some _:=Heap.get?_push_of_some _ (Heap.get?_push_of_some _ (Heap.get?_push_of_some _ (Heap.get?_push_size _ rfl)))
 have g1:(jZ s.heap l1 l2).get? s.heap.objs.size=some _:=Heap.get?_push_of_some _ (Heap.get?_push_of_some _ (Heap.get?_push_of_some _ (Heap.get?_push_of_some _ (Heap.get?_push_size _ rfl))))
 show _/\_
 rw[z2,z3,z4]at g5
 rw[z1,z2]at g3
 rw[z3]at g4
 rw[z1]at g2
 rw[z4]
 exact⟨⟨_,g5,rfl⟩,h _ g5 g3 g4 ⟨_,g1,rfl,rfl⟩ ⟨_,g2,rfl,rfl⟩ fun c o x=>
  Heap.get?_push_of_some _ (Heap.get?_push_of_some _ (Heap.get?_push_of_some _ (Heap.get?_push_of_some _ (Heap.get?_push_of_some _ x))))⟩
end
section
variable{X:Cx}{pins:List (Addr×Obj)}{σ:L2.St}{H:Hp}{s:Shared}
theorem sd{h':Heap}{t':Nat}{ch:List Addr}(I:L2.Inv X pins σ H s)(k:∀b o,b∉ch->s.heap.get? b=some o->h'.get? b=some o)(hch:∀b∈ch,Ze X pins H b):L2.Inv X pins σ H {s with heap:=h',toks:=t'}:=by
 have nch:∀b u,H b=some u->b∉ch:=fun b u e z=>by rw[(hch b z).1]at e;cases e
 refine I.step (g':=s.gens) (d':=s.drawn) (ch:=ch) (fun b hb=>⟨(hch b hb).2.2.2.1,(hch b hb).2.1,(hch b hb).2.2.2.2.1,(hch b hb).2.2.2.2.2⟩) (fun b o _ _ hc e _=>k b o hc e) (fun b o _ _ hc e _=>⟨o.slots,k b o hc e⟩)
  (fun _ _ _ _ n=>n) (fun b o hc e=>⟨o,k b o hc e⟩) (fun _ _ e=>e) (fun _ _ _ e=>e) (fun b ps e=>⟨#[],by rw[e];simp⟩) (fun m hm=>?_) (fun b u e=>?_) I.bare
 ·obtain⟨o,es,ep,ho,r⟩:=hm
  exact⟨o,es,ep,k _ o (fun z=>(hch _ z).2.1 rfl) ho,r⟩
 ·refine(I.hok b u e).stay (fun c v hc q=>k c v ?_ q) (fun _ q=>q) fun _ _ q=>q
  rcases hc with z|z
  ·rw[z];exact nch b u e
  ·exact nch c _ z
theorem kP{H:Hp}{a b:Addr}{u:HO}(h:Rd H a u)(h':H b=none):a≠b:=by
 rcases h with h|⟨o,h⟩
 ·exact ql h h'
 ·exact ql h h'
def vg(a1 a2:Addr):It:=
  ⟨fun i H=>∃xs ys x y,Rd H a1 (.tup xs)/\Rd H a2 (.tup ys)/\xs[i]? =some x/\ys[i]? =some y,
   fun i H v H'=>∃p x y,H p=none/\v= .ref p/\(∀xs,Rd H a1 (.tup xs)->xs[i]? =some x)/\(∀ys,Rd H a2 (.tup ys)->ys[i]? =some y)/\H'=upd H p (.tup [x,y]),
   fun i H=>∃xs,Rd H a1 (.tup xs)/\xs.length=i⟩
theorem n4{P:Program}{w:World}{K:Frag}{elts:List Expr}{x1}{pos:Pos}(a1 a2 z TI TO i1 i2:Addr)(d1:TI≠z)(d2:TO≠z)(d3:i1≠z)(d4:i2≠z)(d5:TI≠TO)(d6:TI≠i1)(d7:TI≠i2)(d8:TO≠i1)(d9:TO≠i2)(d10:i1≠i2):
  Turn P w K (.Tuple elts x1 pos) (vg a1 a2) [z,TI,TO,i1,i2] z (fun i h=>IsZip h z TI TO .none/\IsPair h TI (.ref i1) (.ref i2)/\(∃a b,IsPair h TO a b)/\h.IsTupleIter i1 a1 i/\h.IsTupleIter i2 a2 i) where
 mem:=by simp
 obj:=fun i h st b hb=>by
  obtain⟨hz,hTI,⟨a,b',hTO⟩,⟨o1,ho1,_,hd1⟩,⟨o2,ho2,_,hd2⟩⟩:=st
  simp only[List.mem_cons,List.not_mem_nil,or_false]at hb
  rcases hb with rfl|rfl|rfl|rfl|rfl
  ·exact⟨_,hz,fun v y=>by have y':Data.fields _=Data.cell v:=y;cases y'⟩
  ·exact⟨_,hTI,fun v y=>by have y':Data.seq _ _=Data.cell v:=y;cases y'⟩
  ·exact⟨_,hTO,fun v y=>by have y':Data.seq _ _=Data.cell v:=y;cases y'⟩
  ·exact⟨_,ho1,fun v y=>by rw[hd1]at y;cases y⟩
  ·exact⟨_,ho2,fun v y=>by rw[hd2]at y;cases y⟩
 keep:=fun i h h' st k=>by
  obtain⟨hz,hTI,⟨a,b',hTO⟩,h1,h2⟩:=st
  exact⟨k z (by simp) _ hz,k TI (by simp) _ hTI,⟨a,b',k TO (by simp) _ hTO⟩,h1.at fun o e=>k i1 (by simp) o e,h2.at fun o e=>k i2 (by simp) o e⟩
 item:=by
  intro X hP hw hK hc i pins s σ H E I hf st hg
  subst hP hw hK
  obtain⟨xs,ys,x,y,ha1,ha2,hx,hy⟩:=hg
  obtain⟨its,rv,p,hz0⟩:=I.tuple (.inl ha1)
  obtain⟨its2,rv2,p2,hz2⟩:=I.tuple (.inl ha2)
  obtain⟨u,hu,ru⟩:=rv.get hx
  obtain⟨u2,hu2,ru2⟩:=rv2.get hy
  obtain⟨hz,hTI,⟨a,b',hTO⟩,h1,h2⟩:=st
  have n1:∀c∈[z,TI,TO,i1,i2],a1≠c:=fun c hc=>kP ha1 (hf c hc).1
  have n2:∀c∈[z,TI,TO,i1,i2],a2≠c:=fun c hc=>kP ha2 (hf c hc).1
  have Z:ZApart z TI TO i1 i2 [i1,a1] [i2,a2]:=⟨d1,d2,d3,d4,d5,d6,d7,d8,d9,d10,by simp [Ne.symm d3,Ne.symm (n1 z (by simp))],by simp [Ne.symm d4,Ne.symm (n2 z (by simp))],by simp [d8,Ne.symm (n1 TO (by simp))],by simp [d9,Ne.symm (n2 TO (by simp))],by simp [Ne.symm d10,Ne.symm (n1 i2 (by simp))],by simp [d10,Ne.symm (n2 i1 (by simp))]⟩
  have hil:i<its.toArray.size:=by have:=(List.getElem?_eq_some_iff.mp hu).1;simpa using this
  have hil2:i<its2.toArray.size:=by have:=(List.getElem?_eq_some_iff.mp hu2).1;simpa using this
  have hT:s.TypeIs (.ref z) "zip":=⟨_,hz,rfl⟩
  unfold pyNext
  refine wpAny_bind (wpAny_attempt (wpAny_callSpecial?_slot (name:=Str.ofString "__next__") hT F.slot_zip_next
   (wpAny_call_entry F.slot_zip_next hT F.entry_zip_next
    (lY (c8 (A:=X.A.in1) (I.ok.hd hc) i1 a1 (n1 i1 (by simp)) its.toArray) (c8 (A:=X.A.in1) (I.ok.hd hc) i2 a2 (n2 i2 (by simp)) its2.toArray) Z hz hTI hTO ⟨h1,p⟩ ⟨h2,p2⟩ hil hil2
     fun v v2 h' tk hv hv2 ho hTO' q1 q2 ht hk=>wpAny_pure ⟨_,rfl,?_⟩) (F.args_zip_next_1 _))))
  have ev:v=u:=by
   have hv':its[i]? =some v:=by simpa using hv
   rw[hu]at hv';exact(Option.some.inj hv').symm
  have ev2:v2=u2:=by
   have hv':its2[i]? =some v2:=by simpa using hv2
   rw[hu2]at hv';exact(Option.some.inj hv').symm
  subst ev ev2
  refine wpAny_letOwnedTupleGo_zip ho fun h'' hz'' hs''=>?_
  have lt:∀c∈[z,TI,TO,i1,i2],c<s.heap.objs.size:=fun c hc=>by
   simp only[List.mem_cons,List.not_mem_nil,or_false]at hc
   rcases hc with rfl|rfl|rfl|rfl|rfl
   ·exact Heap.lt_size hz
   ·exact Heap.lt_size hTI
   ·exact Heap.lt_size hTO
   ·obtain⟨_,e,_⟩:=h1;exact Heap.lt_size e
   ·obtain⟨_,e,_⟩:=h2;exact Heap.lt_size e
  have hTI':IsPair h'' TI (.ref i1) (.ref i2):=hs''.extBut _ _ d1 (hk _ _ d1 d5 d6 d7 hTI)
  have hTO'':IsPair h'' TO v v2:=hs''.extBut _ _ d2 hTO'
  have h1':h''.IsTupleIter i1 a1 (i+1):=q1.1.extBut hs''.extBut d3
  have h2':h''.IsTupleIter i2 a2 (i+1):=q2.1.extBut hs''.extBut d4
  refine⟨.ref s.heap.objs.size,upd H s.heap.objs.size (.tup [x,y]),?_,rfl,⟨_,x,y,I.hok.fresh (Nat.le_refl _),rfl,fun zs hy'=>by rw[I.tuple_inj (.inl hy') (.inl ha1)];exact hx,fun zs hy'=>by rw[I.tuple_inj (.inl hy') (.inl ha2)];exact hy,rfl⟩,⟨hz'',hTI',⟨_,_,hTO''⟩,h1',h2'⟩,?_⟩
  ·show L2.Inv X pins σ _ {s with heap:=h'',toks:=tk}
   refine fw (s:=s) (its:=[v,v2]) I (ch:=[z,TI,TO,i1,i2]) (fun b o hb q=>?_) hf (fun b hb=>?_) (Nat.le_refl _) (by show 2<=sizeLine;decide) (.cons ru (.cons ru2 .nil)) ?_
   ·simp only[List.mem_cons,List.not_mem_nil,or_false,not_or]at hb
    exact hs''.extBut b o hb.1 (hk b o hb.1 hb.2.2.1 hb.2.2.2.1 hb.2.2.2.2 q)
   ·simp only[List.mem_cons,List.not_mem_nil,or_false]at hb
    rcases hb with rfl|rfl|rfl|rfl|rfl
    ·exact⟨_,hz''⟩
    ·exact⟨_,hTI'⟩
    ·exact⟨_,hTO''⟩
    ·obtain⟨o,e,_⟩:=h1';exact⟨o,e⟩
    ·obtain⟨o,e,_⟩:=h2';exact⟨o,e⟩
   ·exact⟨_,hs''.extBut _ _ (Nat.ne_of_gt (lt z (by simp))) ht,rfl,_,rfl⟩
  ·intro b hb
   rw[qh (Nat.ne_of_lt (lt b hb))]
   exact(hf b hb).1
 done:=by
  intro X hP hw hK hc i pins s σ H E I hf st hg
  subst hP hw hK
  obtain⟨xs,ha1,hx⟩:=hg
  obtain⟨its,rv,p,hz0⟩:=I.tuple (.inl ha1)
  obtain⟨hz,hTI,⟨a,b',hTO⟩,h1,h2⟩:=st
  have n1:∀c∈[z,TI,TO,i1,i2],a1≠c:=fun c hc=>kP ha1 (hf c hc).1
  have Z:ZApart z TI TO i1 i2 [i1,a1] [i2]:=⟨d1,d2,d3,d4,d5,d6,d7,d8,d9,d10,by simp [Ne.symm d3,Ne.symm (n1 z (by simp))],by simp [Ne.symm d4],by simp [d8,Ne.symm (n1 TO (by simp))],by simp [d9],by simp [Ne.symm d10,Ne.symm (n1 i2 (by simp))],by simp [d10]⟩
  have hl:its.toArray.size=i:=by rw[List.size_toArray,<- rv.length];exact hx
  have hT:s.TypeIs (.ref z) "zip":=⟨_,hz,rfl⟩
  unfold pyNext
  refine wpAny_bind (wpAny_attempt (wpAny_callSpecial?_slot (name:=Str.ofString "__next__") hT F.slot_zip_next
   (wpAny_call_entry F.slot_zip_next hT F.entry_zip_next
    (pw (c8 (A:=X.A.in1) (I.ok.hd hc) i1 a1 (n1 i1 (by simp)) its.toArray) Z hz hTI ⟨by rw[hl];exact h1,p⟩ fun h' e hk he=>?_) (F.args_zip_next_1 _))))
  obtain⟨o,ho,hcl⟩:=he
  refine wpAny_bind (wpAny_isInstance (T:="StopIteration") (b:=true) ⟨o,ho,hcl⟩ isSubtype_stop ?_)
  refine wpAny_pure ⟨rfl,sd (t':=s.toks) I (ch:=[z,i1]) (fun b o hb e=>?_) (fun b hb=>hf b ?_)⟩
  ·simp only[List.mem_cons,List.not_mem_nil,or_false,not_or]at hb
   exact hk b o hb.1 hb.2 e
  ·simp only[List.mem_cons,List.not_mem_nil,or_false]at hb
   rcases hb with rfl|rfl<;>simp
 self:=fun _ _ _ _ _ st h=>wpAny_pyIter_zip st.1 h
def vb(ta:TA):TI:=fun σ H R=>ta σ H fun vs H1=>∃a1 a2 xs ys,vs=[.ref a1,.ref a2]/\Rd H1 a1 (.tup xs)/\Rd H1 a2 (.tup ys)/\R (vg a1 a2) H1
theorem uY{a b:Expr}{ta:TA}{p pos:Pos}{elts:List Expr}{x1}{tpos:Pos}(hg:Gl X "zip")(hm:X.mg "zip"=none)(ha:PA X [a,b] ta)(h1:Qm a=true:=by rfl)(h2:Qm b=true:=by rfl):
  PI X (.Tuple elts x1 tpos) (.Call (.Name "zip" p) [a,b] [] pos) (vb ta):=by
 intro pins s σ H R I h
 have hs2:starEach [b] X.env=[(false,eval b X.env)]:=ZR h2
 refine Call_ (Zd I hg hm boot_zip (PyProof.Rows.callWith_type1 (qB (ha pos pins s σ H _ I h) fun us s1 ⟨vs,H1,I1,r1,q1⟩=>?_) (by rw[ZR h1,hs2]) (by rw[hs2];rfl)))
 obtain⟨a1,a2,xs,ys,e,e1,e2,q⟩:=q1
 subst e
 obtain⟨u,v,rfl,ru,rv⟩:=r1.two
 cases ru
 cases rv
 obtain⟨its,r1',p1,hz⟩:=I1.tuple (.inl e1)
 obtain⟨its2,r2',p2,hz2⟩:=I1.tuple (.inl e2)
 have ad:∀(n i j:Nat),i≠j->n+i≠n+j:=fun n i j h=>by omega
 refine lS (show s1.heap.IsTuple a1 its.toArray from p1) (show s1.heap.IsTuple a2 its2.toArray from p2) fun h' hz hTI hTO h1 h2 hk=>wpAny_pyIter_zip hz ?_
 refine⟨s1.heap.objs.size+4,[s1.heap.objs.size+4,s1.heap.objs.size+2,s1.heap.objs.size+3,s1.heap.objs.size,s1.heap.objs.size+1],_,_,H1,rfl,I1.kept (t':=s1.toks) hk,
  n4 a1 a2 (s1.heap.objs.size+4) (s1.heap.objs.size+2) (s1.heap.objs.size+3) s1.heap.objs.size (s1.heap.objs.size+1) (ad _ 2 4 (by decide)) (ad _ 3 4 (by decide)) (ad _ 0 4 (by decide)) (ad _ 1 4 (by decide)) (ad _ 2 3 (by decide)) (ad _ 2 0 (by decide)) (ad _ 2 1 (by decide)) (ad _ 3 0 (by decide)) (ad _ 3 1 (by decide)) (ad _ 0 1 (by decide)),⟨hz,hTI,⟨_,_,hTO⟩,h1,h2⟩,fun b hb=>?_,q⟩
 have hb':s1.heap.objs.size<=b:=by
  simp only[List.mem_cons,List.not_mem_nil,or_false]at hb
  rcases hb with rfl|rfl|rfl|rfl|rfl
  ·exact Nat.le_add_right _ 4
  ·exact Nat.le_add_right _ 2
  ·exact Nat.le_add_right _ 3
  ·exact Nat.le_refl _
  ·exact Nat.le_add_right _ 1
 exact I1.fpOk hb' (I1.hok.fresh hb')
end
theorem pv{K:Frag}{js:List Nat}{te:TE}{σ:L2.St}{H:Hp}{Q:VK}{a1 a2:Addr}{xs ys:List V}(hl:xs.length=ys.length)(hn:xs.length<=sizeLine)(Pv:Nat->List V->Hp->Prop)(h0:Pv 0 [] H)
  (hk:∀i zs H,Pv i zs H->Rd H a1 (.tup xs)/\Rd H a2 (.tup ys))
  (hs:∀i zs H p x y,xs[i]? =some x->ys[i]? =some y->zs.length=i->Pv i zs H->H p=none->te (some x::some y::QU js σ) (upd H p (.tup [x,y])) fun v H3=>Pv (i+1) (zs++[v]) H3)
  (hd:∀zs H,zs.length=xs.length->Pv xs.length zs H->∀p,H p=none->Q (.ref p) (upd H p (.lst zs))):
  kX 2 js (kE K 2 (gK (Q8 0) (gK (Q8 1) oh))) te σ Q (vg a1 a2) H:=by
 refine⟨fun i m zs τ H=>m=xs.length-i/\i<=xs.length/\zs.length=i/\Pv i zs H/\∃o o',τ=o::o'::QU js σ,⟨xs.length,by simp,Nat.zero_le _,rfl,h0,none,none,rfl⟩,?_⟩
 rintro i m zs τ H ⟨rfl,hi,hzl,p,o,o',rfl⟩
 obtain⟨e1,e2⟩:=hk i zs H p
 by_cases hlt:i<xs.length
 ·have hlt2:i<ys.length:=by omega
  refine .inr ⟨⟨xs,ys,xs[i],ys[i],e1,e2,by simp [hlt],by simp [hlt2]⟩,by omega,fun v H' y=>?_⟩
  obtain⟨pp,x,y,hp,rfl,hx,hy,rfl⟩:=y
  refine⟨pp,_,rfl,SqT.of qb,rfl,_,_,rfl,_,_,rfl,rfl,?_⟩
  exact⟨fun v H3=>Pv (i+1) (zs++[v]) H3,fun v H3 p3=>⟨xs.length-(i+1),by omega,rfl,hlt,by simp [hzl],p3,_,_,rfl⟩,hs i zs _ pp x y (hx xs e1) (hy ys e2) hzl p hp⟩
 ·have e:i=xs.length:=by omega
  subst e
  exact .inl ⟨⟨xs,e1,rfl⟩,hd zs H hzl p⟩
end L3
namespace L3
open PySem PySem.Spec PyProof.Rows L2 PySem.SeqAt
open Sem (wp)
open AutoSeq1 (wpAny_loadPart')
section
variable{X:Cx}
theorem Rd.same{H H':Hp}{a:Addr}{u:HO}(s:Same H H')(h:Rd H a u):Rd H' a u:=by
 rcases h with h|⟨o,h⟩
 ·exact .inl (s _ _ h)
 ·exact .inr ⟨o,s _ _ h⟩
inductive Ty2 (H:Hp):V->String->Prop where
 |int (i:Int):Ty2 H (.int i) "int"
 |bl (b:Bool):Ty2 H (.bl b) "bool"
 |tup {a:Addr} {xs:List V} (h:Rd H a (.tup xs)):Ty2 H (.ref a) "tuple"
 |str (x:Str):Ty2 H (.str x) "str"
 |non:Ty2 H .non "NoneType"
 |lst {a:Addr} {xs:List V} (h:H a=some (.lst xs)):Ty2 H (.ref a) "list"
theorem jP{H:Hp}{x:V}{t:String}(h:Ty2 H x t):t∈e8:=by cases h<;>simp
theorem jI(K:Frag){t:String}(ht:t∈e8):∀cs:List String,(∀c∈cs,c∈eM)->W.kitAny K (.type t) (cs.map Value.type)=some (cs.any (zk t))
 | [],_=>rfl
 |c::r,h=>by
  have e:=eO K t ht c (h c List.mem_cons_self)
  have ih:=jI K ht r fun d hd=>h d (List.mem_cons_of_mem _ hd)
  simp only[List.map_cons,W.kitAny,e,List.any_cons]
  cases zk t c with
  |true=>rfl
  |false=>simpa using ih
theorem qT:qW X (.builtin "isinstance") (fun xs H Q=>∃x c t,xs=[x,.ty c]/\Ty2 H x t/\c∈eM/\Q (.bl (zk t c)) H):=by
 intro pins s σ H xs us Q I r h
 obtain⟨x,c,t,rfl,ty,hc,q⟩:=h
 obtain⟨u,v,rfl,ru,rv⟩:=bL r
 cases(show v=Value.type c from rv)
 have e:=eO X.K t (jP ty) c hc
 have fin:∀tk,EP X pins σ Q (.bool (zk t c)) {s with toks:=tk}:=fun tk=>⟨.bl _,H,I.tok tk,rfl,q⟩
 cases ty with
 |int i=>obtain⟨t,q⟩:=(show∃t,u=Value.int i t from ru);cases q;exact W.kia_one W.kitx_int I.kIn True.intro e (fun z=>nomatch z) fin
 |bl b=>cases(show u=Value.bool b from ru);exact W.kia_one W.kitx_bool I.kIn True.intro e (fun z=>nomatch z) fin
 | @tup a ys hr=>
  cases(show u=Value.ref a from ru)
  obtain⟨its,_,⟨o,h1,h2,_⟩,_⟩:=I.tuple (.inl hr)
  exact W.kia_one W.kitx_tuple I.kIn ⟨o,h1,h2⟩ e (fun z=>nomatch z) fin
 |str x=>obtain⟨t,q⟩:=(show∃t,u=Value.str x t from ru);cases q;exact W.kia_one W.kitx_str I.kIn True.intro e (fun z=>nomatch z) fin
 |non=>cases(show u=Value.none from ru);exact W.kia_one W.kitx_none I.kIn True.intro e (fun z=>nomatch z) fin
 | @lst a ys ea=>
  cases(show u=Value.ref a from ru)
  obtain⟨_,_,n,_,h1⟩:=(show ObjOk X.prog X.w H s.heap a (.lst ys)from I.hok a _ ea)
  exact W.kia_one W.kitx_list I.kIn ⟨_,h1,rfl⟩ e (fun z=>nomatch z) fin
theorem i8:∀{cs:List String} {us:List Value},Vals (cs.map V.ty) us->us=cs.map Value.type
 | [],_,.nil=>rfl
 |c::cs,_,.cons r t=>by
  cases(show _=Value.type c from r)
  rw[i8 t];rfl
theorem fT:qW X (.builtin "isinstance") (fun xs H Q=>∃(x:V) (p:Addr) (cs:List String) (t:String),xs=[x,.ref p]/\H p=some (.tup (cs.map V.ty))/\Ty2 H x t/\(∀c∈cs,c∈eM)/\Q (.bl (cs.any (zk t))) H):=by
 intro pins s σ H xs us Q I r h
 obtain⟨x,p,cs,t,rfl,hp,ty,hc,q⟩:=h
 obtain⟨u,v,rfl,ru,rv⟩:=bL r
 cases(show v=Value.ref p from rv)
 obtain⟨its,rvs,⟨⟨cl,dd,dt,sl⟩,ho,hcl,n,hdt⟩,_⟩:=I.tuple (SqT.of hp)
 replace hcl:cl= .type "tuple":=hcl
 replace hdt:dt= .seq its.toArray n:=hdt
 subst hcl hdt
 have e:=jI X.K (jP ty) cs hc
 rw[<- i8 rvs]at e
 have fin:∀tk,EP X pins σ Q (.bool (cs.any (zk t))) {s with toks:=tk}:=fun tk=>⟨.bl _,H,I.tok tk,rfl,q⟩
 cases ty with
 |int i=>obtain⟨t,q⟩:=(show∃t,u=Value.int i t from ru);cases q;exact W.kia_tup W.kitx_int I.kIn True.intro ho e (fun z=>nomatch z) fin
 |bl b=>cases(show u=Value.bool b from ru);exact W.kia_tup W.kitx_bool I.kIn True.intro ho e (fun z=>nomatch z) fin
 | @tup a ys hr=>
  cases(show u=Value.ref a from ru)
  obtain⟨its',_,⟨o,h1,h2,_⟩,_⟩:=I.tuple (.inl hr)
  exact W.kia_tup W.kitx_tuple I.kIn ⟨o,h1,h2⟩ ho e (fun z=>nomatch z) fin
 |str x=>obtain⟨t,q⟩:=(show∃t,u=Value.str x t from ru);cases q;exact W.kia_tup W.kitx_str I.kIn True.intro ho e (fun z=>nomatch z) fin
 |non=>cases(show u=Value.none from ru);exact W.kia_tup W.kitx_none I.kIn True.intro ho e (fun z=>nomatch z) fin
 | @lst a ys ea=>
  cases(show u=Value.ref a from ru)
  obtain⟨_,_,n,_,h1⟩:=(show ObjOk X.prog X.w H s.heap a (.lst ys)from I.hok a _ ea)
  exact W.kia_tup W.kitx_list I.kIn ⟨_,h1,rfl⟩ ho e (fun z=>nomatch z) fin
end
def zi(t:List Int):List Int:=(List.range 16).map fun d=>((t.idxOf ((d:Nat):Int):Nat):Int)
theorem ZP(t:List Int):(zi t).length=16:=by simp [zi]
section
variable{t:List Int}(p:t.Perm digs)
include p
theorem nw:t.Nodup:=p.nodup_iff.mpr (by decide)
theorem eU:t.length=16:=by rw[p.length_eq,oI]
theorem sC{d:Nat}(h:d<16):((d:Nat):Int)∈t:=p.mem_iff.mpr (List.mem_map.mpr ⟨d,List.mem_range.mpr h,rfl⟩)
theorem iU{i:Nat}(h:i<t.length):0<=t[i]/\t[i]<16:=jc (p.mem_iff.mp (List.getElem_mem h))
theorem lP{i:Nat}(h:i<t.length):t.idxOf t[i]=i:=(nw p).idxOf_getElem i h
theorem sI{d:Nat}(h:d<16):(zi t)[d]'(by rw[ZP];exact h)=((t.idxOf ((d:Nat):Int):Nat):Int):=by simp [zi]
end
end L3
namespace L3
open PySem PySem.Spec L2
variable{X:Cx}
theorem Zb{sts:List Stmt}:QSs X sts mH:=⟨mY⟩
theorem ph{a:Expr}{ta:TA}{p pos:Pos}{elts:List Expr}{x1}{tpos:Pos}(hg:Gl X "enumerate")(hm:X.mg "enumerate"=none)(ha:QA X [a] ta)(hs:starEach [a] X.env=[(false,eval a X.env)]:=by rfl):QI X (.Tuple elts x1 tpos) (.Call (.Name "enumerate" p) [a] [] pos) (mU X.K ta):=⟨nN (hg:=hg) (hm:=hm) (ha:=ha.h) (hs:=hs)⟩
theorem uo{a b:Expr}{ta:TA}{p pos:Pos}{elts:List Expr}{x1}{tpos:Pos}(hg:Gl X "zip")(hm:X.mg "zip"=none)(ha:QA X [a,b] ta)(h1:Qm a=true:=by rfl)(h2:Qm b=true:=by rfl):QI X (.Tuple elts x1 tpos) (.Call (.Name "zip" p) [a,b] [] pos) (vb ta):=⟨uY (hg:=hg) (hm:=hm) (ha:=ha.h) (h1:=h1) (h2:=h2)⟩
def BoxC(H:Hp)(b:Addr)(c:Nat):Prop:=∃n m k:Int,H b=some (fx n m k)/\0<=m/\m<4611686018427387904/\0<=k/\k<=c
structure GrC(b:Addr)(c:Nat)(H H':Hp):Prop where
 kp:∀a o,a≠b->H a=some o->H' a=some o
 bx:BoxC H' b c
theorem BoxC.mono{H:Hp}{b:Addr}{c d:Nat}(h:BoxC H b c)(l:c<=d):BoxC H b d:=let⟨n,m,k,e,a1,a2,a3,a4⟩:=h;⟨n,m,k,e,a1,a2,a3,by omega⟩
theorem GrC.mono{b:Addr}{c d:Nat}{H H':Hp}(h:GrC b c H H')(l:c<=d):GrC b d H H':=⟨h.kp,h.bx.mono l⟩
theorem GrC.trans{b:Addr}{c d:Nat}{H H1 H2:Hp}(x:GrC b c H H1)(y:GrC b d H1 H2):GrC b d H H2:=⟨fun c o n e=>y.kp c o n (x.kp c o n e),y.bx⟩
theorem _root_.L2.Same.grc{b:Addr}{c:Nat}{H H':Hp}(x:Same H H')(h:BoxC H b c):GrC b c H H':=⟨fun c o _ e=>x c o e,let⟨n,m,k,e,r⟩:=h;⟨n,m,k,x _ _ e,r⟩⟩
theorem GrC.same{b:Addr}{c:Nat}{H H1 H2:Hp}(x:GrC b c H H1)(y:Same H1 H2):GrC b c H H2:=x.trans (y.grc x.bx)
theorem zU{H:Hp}{b l:Addr}{c:Nat}(hb:BoxC H b c)(h:H l=none):l≠b:=fun z=>by
 obtain⟨_,_,_,e,_⟩:=hb
 subst z
 rw[e]at h
 cases h
def Qn:Sp:=fun vs H Q _=>∃(b:Addr) (many:Int) (c:Nat),vs=[.ref b,.int many]/\BoxC H b c/\c<1000000000/\0<many/\many<1073741824/\∀r H',0<=r->r<many->GrC b (c+1) H H'->Q (.int r) H'
theorem zZ{H H':Hp}{p:Addr}(h:H' p=none)(s:Same H H'):H p=none:=by
 cases e:H p with
 |none=>rfl
 |some o=>rw[s _ _ e]at h;cases h
def cK:V->Bool
 | .int _=>true
 |_=>false
theorem rN{H:Hp}{x:V}{t:String}(h:kd H x=some t):cK x=(zk t "int"&& !zk t "bool"):=by
 cases x with
 |non=>cases h;decide
 |bl b=>cases h;show false=_;decide
 |int i=>cases h;show true=_;decide
 |str x=>cases h;show false=_;decide
 |byt b=>cases h
 |flt b=>cases h
 |ty b=>cases h
 |ref a=>
  rcases ei h with⟨xs,e,rfl⟩|⟨xs,e,rfl⟩
  ·show false=_;decide
  ·show false=_;decide
theorem oG{x:V}(h:cK x=true):∃i,x= .int i:=by
 cases x<;>first|exact⟨_,rfl⟩|cases h
theorem nr{x:V}(h:cK x=false):az x=false:=by
 cases x<;>first|rfl|cases h
def cB:Sp:=fun vs H Q _=>∃x t,vs=[x]/\kd H x=some t/\Q (.bl (cK x)) H
inductive Eqv (H:Hp):Nat->V->V->Prop where
 |int (n:Nat) (i:Int):Eqv H n (.int i) (.int i)
 |str (n:Nat) (x:Str):Eqv H n (.str x) (.str x)
 |non (n:Nat):Eqv H n .non .non
 | tup {n:Nat} {a b:Addr} {xs ys:List V} (h1:Rd H a (.tup xs)) (h2:Rd H b (.tup ys)) (hl:xs.length=ys.length) (hz:xs.length<=sizeLine)
   (hi:∀(i:Nat) (x y:V),xs[i]? =some x->ys[i]? =some y->Eqv H n x y):Eqv H (n+1) (.ref a) (.ref b)
theorem Eqv.same{H H':Hp}(s:Same H H'):∀{n:Nat} {x y:V},Eqv H n x y->Eqv H' n x y:=fun h=>by
 induction h with
 |int n i=>exact .int n i
 |str n x=>exact .str n x
 |non n=>exact .non n
 |tup h1 h2 hl hz _ ih=>exact .tup (Rd.same s h1) (Rd.same s h2) hl hz ih
theorem Eqv.ints{H:Hp}{n:Nat}{a b:Addr}{ns:List Int}(h1:Rd H a (.tup (ns.map V.int)))(h2:Rd H b (.tup (ns.map V.int)))(hz:ns.length<=sizeLine):Eqv H (n+1) (.ref a) (.ref b):=
 .tup h1 h2 rfl (by rw[List.length_map];exact hz) fun i x y e1 e2=>by
  rw[e1]at e2
  cases e2
  obtain⟨z,rfl,_⟩:=Qk e1
  exact .int _ _
def vc(n:Nat):Sp:=fun vs H Q _=>∃x y,vs=[x,y]/\Eqv H n x y/\∀H',Same H H'->Q (.bl true) H'
theorem Same.sqt{K:Frag}{H H':Hp}{a:Addr}{xs:List V}(e:Same H H')(h:SqT K H a xs):SqT K H' a xs:=by
 rcases h with h|h
 ·exact .inl (Rd.same e h)
 ·exact .inr h
def Qp(t:List Int)(i:Nat):List Int:=(List.range 16).map fun d=>if((d:Nat):Int)∈t.take i then((t.idxOf ((d:Nat):Int):Nat):Int)else 0
theorem af(t:List Int)(i:Nat):(Qp t i).length=16:=by simp [Qp]
theorem oN(t:List Int):Qp t 0=List.replicate 16 0:=by simp only[Qp,List.take_zero,List.not_mem_nil,if_false];rfl
theorem lK{t:List Int}{i d:Nat}(h:d<16):(Qp t i)[d]'(by rw[af];exact h)=if((d:Nat):Int)∈t.take i then((t.idxOf ((d:Nat):Int):Nat):Int)else 0:=by simp [Qp]
theorem sR{t:List Int}(p:t.Perm digs):Qp t t.length=zi t:=by
 unfold Qp zi
 refine List.map_congr_left fun d hd=>?_
 rw[List.take_length,if_pos (sC p (List.mem_range.mp hd))]
theorem ot{t:List Int}(p:t.Perm digs){i:Nat}(hi:i<t.length):(Qp t i).set t[i].toNat (i:Int)=Qp t (i+1):=by
 have b:=iU p hi
 refine List.ext_getElem (by rw[List.length_set,af,af]) fun d h1 h2=>?_
 have hd:d<16:=by rw[af]at h2;exact h2
 rw[List.getElem_set,lK hd,lK hd,List.take_add_one,List.getElem?_eq_getElem hi,Option.toList_some]
 by_cases e:t[i].toNat=d
 ·have e':((d:Nat):Int)=t[i]:=by omega
  rw[if_pos e,if_pos (by rw[e'];exact List.mem_append_right _ (List.mem_singleton.mpr rfl)),e',lP p hi]
 ·have e':((d:Nat):Int)≠t[i]:=by omega
  rw[if_neg e]
  simp only[List.mem_append,List.mem_singleton,e',or_false]
def ng(K:Frag):Sp:=fun vs H Q _=>∃(a:Addr) (t:List Int),vs=[.ref a]/\(SqL K H a (t.map V.int)\/SqT K H a (t.map V.int))/\t.Perm digs/\∀p H',Same H H'->H' p=some (.tup ((zi t).map V.int))->Q (.ref p) H'
theorem rJ{X:Cx}{K:Frag}(hK:X.K=K){pos:Pos}{es:List Expr}{k:Nat}{t:ZJ}(n:Nat)(hc:X.calm=true)(h:QGs X es t)(hn:(assignEach es X.env).length=n:=by rfl)(hst:(assignEach es X.env).findIdx? (·.1)=none:=by rfl):QG X (.Tuple es k pos) (kE K n t):=by
 subst hK
 exact⟨iM (hc:=hc) (h:=h.h) (hn:=hn) (hst:=hst)⟩
end L3
namespace L3
open PySem PySem.Spec PyProof.Rows L2
open Sem (wp)
namespace RV
theorem mG:Slot "reversed" "__init__" "object.__init__":=
  .of (owner := "object") (n := "__init__") (by rw[typeLookup_type,builtinLookup_eq_fast]
                                                kernel_rfl) (by decide +kernel) (by decide +kernel) (by decide +kernel)
    (by first | exact .inl (by decide +kernel) | exact .inr (by decide +kernel)) (by rw[isSubtype_type]
                                                                                     kernel_rfl)
theorem called:TypeCalled "reversed" "reversed.__new__" "object.__init__":=
 ⟨by decide +kernel,by decide +kernel,⟨_,_,F.mro_reversed⟩,F.made_reversed,by decide +kernel,F.sub_reversed_self,mG⟩
theorem slot_next:Slot "reversed" "__next__" "reversed.__next__":=
  .of (owner := "reversed") (n := "__next__") (by rw[typeLookup_type,builtinLookup_eq_fast]
                                                  kernel_rfl) (by decide +kernel) (by decide +kernel) (by decide +kernel)
    (by first | exact .inl (by decide +kernel) | exact .inr (by decide +kernel)) (by rw[isSubtype_type]
                                                                                     kernel_rfl)
theorem entry_next:entryFor table "reversed.__next__"=some Builtin.«reversed.__next__»:=entryFor_of_tree (by kernel_rfl)
theorem fS:Manifest.owners.lookup (String.ofList ['d', 'e', 's', 'r', 'e', 'v', 'e', 'r'].reverse)=some Manifest.sig_reversed:=by kernel_rfl
theorem args_next(a:Value):argsOk "reversed.__next__" ⟨[a],[]⟩:=by
 unfold argsOk
 rw[signature?_of (id:="reversed.__next__") (n:=['_', '_', 't', 'x', 'e', 'n', '_', '_']) (o:=['d', 'e', 's', 'r', 'e', 'v', 'e', 'r']) (by kernel_rfl) fS]
 kernel_rfl
theorem slot_iter:Slot "reversed" "__iter__" "reversed.__iter__":=
  .of (owner := "reversed") (n := "__iter__") (by rw[typeLookup_type,builtinLookup_eq_fast]
                                                  kernel_rfl) (by decide +kernel) (by decide +kernel) (by decide +kernel)
    (by first | exact .inl (by decide +kernel) | exact .inr (by decide +kernel)) (by rw[isSubtype_type]
                                                                                     kernel_rfl)
theorem args_iter(a:Value):argsOk "reversed.__iter__" ⟨[a],[]⟩:=by
 unfold argsOk
 rw[signature?_of (id:="reversed.__iter__") (n:=['_', '_', 'r', 'e', 't', 'i', '_', '_']) (o:=['d', 'e', 's', 'r', 'e', 'v', 'e', 'r']) (by kernel_rfl) fS]
 kernel_rfl
theorem entry_iter:entryFor table "reversed.__iter__"=some Builtin.«dict_keyiterator.__iter__»:=
  entryFor_alias (id':="dict_keyiterator.__iter__") (by kernel_rfl)
    (by first | rfl | decide +kernel | (unfold String.splitOn
                                        simp +decide [String.splitOnAux])) (by decide +kernel) (by kernel_rfl)
theorem no_tuple:typeLookup (.type "tuple") "__reversed__"=pure none:=by
 rw[typeLookup_type,builtinLookup_eq_fast]
 kernel_rfl
theorem tup_dict:isSubtype (.type "tuple") (.type "dict")=pure false:=by
 rw[isSubtype_type]
 kernel_rfl
theorem ri_rev:isSubtype (.type "range_iterator") (.type "reversed")=pure false:=by
 rw[isSubtype_type]
 kernel_rfl
theorem tc1(a:Value):checkTypeCall "reversed" ⟨[a],[]⟩=pure ():=by kernel_rfl
end RV
def RevT(h:Heap)(it t:Addr)(i:Int):Prop:=∃o,h.get? it=some o/\o.cls= .type "reversed"/\o.data= .fields #[.ref t,rawInt i]
theorem lq(l:Addr)(items:Array Value)(hz:items.size<=sizeLine):
  Meets (Builtin.«reversed.__new__» ⟨[.type "reversed",.ref l],[]⟩) (fun A R s=>s.heap.IsTuple l items/\
   R (.ok (.ret (.ref s.heap.objs.size))) {s with heap:=s.heap.push {cls:= .type "reversed",data:= .fields #[.ref l,rawInt ((items.size:Int)-1)]},toks:=s.toks+2}):=
 .of_wp fun prog w A R s h=>by
  obtain⟨hp,g,d,tk,os⟩:=s;obtain⟨hl,h⟩:=h
  have hsub:=F.sub_reversed_self
  have hT:Shared.TypeIs ⟨hp,g,d,tk,os⟩ (.ref l) "tuple":=let⟨o,e,c,_⟩:=hl;⟨o,e,c⟩
  have hL:Heap.IsTuple (Shared.heap ⟨hp,g,d,tk,os⟩) l items:=hl
  have hd:=RV.tup_dict
  have hI:IsTup (Shared.heap ⟨hp,g,d,tk,os⟩) l items:=hl
  have hn:=Za
  wp_walk using wpAny_specialOf hT RV.no_tuple,wpAny_of_eq hd,wpAny_specialOf hT F.slot_tuple_getitem.lookup,len_tuple hI (by omega)
  exact⟨_,rfl,h⟩
end L3
namespace L3
open PySem PySem.Spec PyProof.Rows L2
open Sem (wp)
abbrev pS(a b c:Int):Bool:=Builtin.Range.rangeFitsLong a&&Builtin.Range.rangeFitsLong b&&Builtin.Range.rangeFitsLong c&&Builtin.Range.rangeFitsLong (-c)&&Builtin.Range.rangeFitsLong (a-c)&&Builtin.Range.rangeFitsLong (Builtin.Range.rangeSize a b c)
theorem jv(r:Addr)(a b c:Int)(t u v:Tok)(hc0:¬(!pS a b c)=true):
  Meets (Builtin.«range.__reversed__» ⟨[.ref r],[]⟩) (fun _ R s=>s.heap.get? r=some {cls:= .type "range",dict:=none,data:= .fields #[.int a t,.int b u,.int c v],slots:= #[]}/\
   R (.ok (.ret (.ref s.heap.objs.size))) {s with heap:=s.heap.push {cls:= .type (if pS a b c then "range_iterator" else "longrange_iterator"),data:= .fields #[rawInt (a+(Builtin.Range.rangeSize a b c-1)*c),rawInt (Builtin.Range.rangeSize a b c),rawInt (-c)]}}):=
 .of_wp fun prog w A R s h=>by obtain⟨hp,g,d,tk,os⟩:=s;obtain⟨hl,h⟩:=h;wp_walk;exact⟨_,rfl,h⟩
theorem nu(n:Nat):Builtin.Range.rangeSize 0 n 1=n:=by
 unfold Builtin.Range.rangeSize
 rw[if_pos (by decide)]
 split<;>omega
theorem nc{n:Nat}(hn:(n:Int)<2 ^ 62):pS 0 n 1=true:=by
 unfold pS
 rw[nu]
 simp only[Builtin.Range.rangeFitsLong,Bool.and_eq_true,decide_eq_true_eq]
 omega
theorem ll(r:Addr)(n:Nat)(t u v:Tok)(hn:(n:Int)<2 ^ 62):
  Meets (Builtin.«range.__reversed__» ⟨[.ref r],[]⟩) (fun _ R s=>s.heap.get? r=some {cls:= .type "range",data:= .fields #[.int 0 t,.int n u,.int 1 v]}/\
   R (.ok (.ret (.ref s.heap.objs.size))) {s with heap:=s.heap.push {cls:= .type "range_iterator",data:= .fields #[rawInt ((n:Int)-1),rawInt n,rawInt (-1)]}}):=by
 have g:=jv r 0 n 1 t u v (by rw[nc hn];decide)
 rw[nc hn,nu,if_pos rfl,Int.mul_one,Int.zero_add]at g
 exact g
section
variable{prog:Program}{w:World}{A:Around}{E:Value->Shared->Prop}{s:Shared}
theorem RevT.typeIs{it t:Addr}{i:Int}(x:RevT s.heap it t i):s.TypeIs (.ref it) "reversed":=let⟨o,ho,hc,_⟩:=x;⟨o,ho,hc⟩
theorem jj{it t:Addr}{i:Nat}{items:Array Value}{x:Value}{Q:Option Value->Shared->Prop}(hit:RevT s.heap it t (i:Int))(hl:IsTup s.heap t items)(hx:items[i]? =some x)(hz:items.size<=sizeLine)
  (hQ:∀h' tk,RevT h' it t ((i:Int)-1)->Heap.SameBut it s.heap h'->Q (some x) {s with heap:=h',toks:=tk}):wpAny (model prog w) A (pyNext (.ref it)) Q E s:=by
 obtain⟨o,ho,hc,hd⟩:=id hit
 have hT:s.TypeIs (.ref t) "tuple":=let⟨o,e,c,_⟩:=hl;⟨o,e,c⟩
 have hn:=Za
 have hlt:i<items.size:=(Array.getElem?_eq_some_iff.mp hx).1
 unfold pyNext
 refine wpAny_bind (wpAny_attempt (wpAny_callSpecial?_slot (name:=Str.ofString "__next__") (RevT.typeIs hit) RV.slot_next
  (wpAny_call_entry RV.slot_next (RevT.typeIs hit) RV.entry_next ?_ (RV.args_next _))))
 unfold Builtin.«reversed.__next__»
 refine wpAny_bind (wpAny_of_eq (a:=(Value.ref it,[])) rfl ?_)
 try dsimp only
 refine wpAny_bind (wpAny_field ho hd (x:= .ref t) rfl ?_)
 refine wpAny_bind (wpAny_field ho hd (x:=rawInt (i:Int)) rfl ?_)
 show wpAny _ _ (if(i:Int)<0 then _ else _) _ _ s
 rw[if_neg (by omega)]
 try dsimp only
 refine wpAny_bind (wpAny_specialOf hT F.slot_tuple_getitem.lookup ?_)
 rw[if_neg (show¬((some (Value.builtin "tuple.__getitem__")).isNone=true)from Bool.false_ne_true)]
 refine wpAny_bind (wpAny_mkInt ?_)
 have hI:IsTup (Shared.heap {s with toks:=s.toks+1}) t items:=hl
 refine wpAny_bind (wpAny_attempt (getItem_tuple hI (by omega) (by omega) (by unfold seqIndex?;rw[if_neg (show¬((i:Int)<0) by omega)];simp [hlt]) hx ?_))
 try dsimp only
 refine wpAny_bind (wpAny_field (s:={s with toks:=s.toks+1}) ho hd (x:=rawInt (i:Int)) rfl ?_)
 show wpAny _ _ (setField (.ref it) 1 (rawInt ((i:Int)-1)) >>= _) _ _ _
 refine wpAny_bind (wpAny_setField (s:={s with toks:=s.toks+1}) ho hd (by simp) ?_)
 refine wpAny_pure ⟨x,rfl,wpAny_pure (hQ _ _ ?_ (Heap.SameBut.update ..))⟩
 exact⟨_,Heap.get?_update_self _ ho (Obj.isFreed_of_fields (Obj.data_mapFields hd _)),(Obj.cls_mapFields ..).trans hc,by
  rw[Obj.data_mapFields hd]
  simp⟩
theorem kI{it t:Addr}{Q:Option Value->Shared->Prop}(hh:A.handled=none)(hit:RevT s.heap it t (-1))
  (hQ:∀h',Heap.ExtBut it s.heap h'->Q none {s with heap:=h'}):wpAny (model prog w) A (pyNext (.ref it)) Q E s:=by
 obtain⟨o,ho,hc,hd⟩:=id hit
 unfold pyNext
 refine wpAny_bind (wpAny_attempt (wpAny_callSpecial?_slot (name:=Str.ofString "__next__") (RevT.typeIs hit) RV.slot_next
  (wpAny_call_entry RV.slot_next (RevT.typeIs hit) RV.entry_next ?_ (RV.args_next _))))
 unfold Builtin.«reversed.__next__»
 refine wpAny_bind (wpAny_of_eq (a:=(Value.ref it,[])) rfl ?_)
 try dsimp only
 refine wpAny_bind (wpAny_field ho hd (x:= .ref t) rfl ?_)
 refine wpAny_bind (wpAny_field ho hd (x:=rawInt (-1)) rfl ?_)
 show wpAny _ _ (if(-1:Int)<0 then _ else _) _ _ s
 rw[if_pos (by decide)]
 refine wpAny_bind (wpAny_rule ?_)
 refine wpAny_bind ?_
 show wpAny _ _ (setField (.ref it) 1 (rawInt (-1)) >>= _) _ _ _
 refine wpAny_bind (wpAny_setField ho hd (by simp) ?_)
 have hg1:=Heap.get?_update_self (Obj.mapFields (·.setIfInBounds 1 (rawInt (-1)))) ho (Obj.isFreed_of_fields (Obj.data_mapFields hd _))
 refine wpAny_setField hg1 (Obj.data_mapFields hd _) (by simp) ?_
 refine wpAny_bind ?_
 show wpAny _ _ (newExc (.type "StopIteration") [] >>= _) _ _ _
 refine wpAny_bind ?_
 simp only[newExc,newTuple]
 refine wpAny_bind (wpAny_newObj_type ?_ (by size_fits))
 refine wpAny_bind (m:=firstArgMember _ _) (wpAny_of_eq (a:=Value.none) (by first|rfl|(simp only[firstArgMember];rfl)) ?_)
 refine wpAny_newObj_type ?_ (by size_fits)
 simp only[raiseNew]
 refine wpAny_bind (wpAny_handled ?_)
 first|rw[show A.in1.handled=none from hh]|rw[hh]
 refine wpAny_bind (wpAny_pure (wpAny_throw ?_))
 refine wpAny_bind (wpAny_isInstance (T:="StopIteration") (b:=true) ⟨_,Heap.get?_push_size _ rfl,rfl⟩ isSubtype_stop ?_)
 exact wpAny_pure (hQ _ (((((Heap.SameBut.update ..).trans (Heap.SameBut.update ..)).extBut).push _).push _))
theorem mn{it t:Addr}{i:Int}{Q:Value->Shared->Prop}(hit:RevT s.heap it t i)(h:Q (.ref it) s):wpAny (model prog w) A (pyIter (.ref it)) Q E s:=by
 refine wpAny_pyIter_slot (RevT.typeIs hit) RV.slot_iter (wpAny_call_entry RV.slot_iter (RevT.typeIs hit) RV.entry_iter ?_ (RV.args_iter _))
 show wpAny _ _ (ret (.ref it)) _ _ s
 exact wpAny_pure ⟨_,rfl,"reversed",_,RevT.typeIs hit,RV.slot_next.lookup,h⟩
theorem tS{l:Addr}{items:Array Value}{Q:Value->Shared->Prop}(hl:s.heap.IsTuple l items)(hz:items.size<=sizeLine)
  (h:∀h' tk,RevT h' s.heap.objs.size l ((items.size:Int)-1)->(∀b o,s.heap.get? b=some o->h'.get? b=some o)->Q (.ref s.heap.objs.size) {s with heap:=h',toks:=tk}):
  wpAny (model prog w) A (call (.type "reversed") [.ref l]) Q E s:=by
 refine callType_new RV.called (by decide) (RV.tc1 _) (F.newCall_reversed_1 _) (fun obj=>F.args_object_init_2 obj _) F.entry_reversed_new (lq l items hz) ⟨hl,?_⟩
 exact⟨⟨_,Heap.get?_push_size _ rfl,rfl⟩,h _ _ ⟨_,Heap.get?_push_size _ rfl,rfl,rfl⟩ fun b o e=>Heap.get?_push_of_some _ e⟩
theorem uM{r:Addr}{n:Nat}{t u v:Tok}{Q:Value->Shared->Prop}(hr:s.heap.get? r=some {cls:= .type "range",data:= .fields #[.int 0 t,.int n u,.int 1 v]})(hn:(n:Int)<2 ^ 62)
    (h:∀h',IsRangeIter h' s.heap.objs.size ((n:Int)-1) n (-1)->(∀b o,s.heap.get? b=some o->h'.get? b=some o)->Q (.ref s.heap.objs.size) {s with heap:=h'}):
    wpAny (model prog w) A (call (.type "reversed") [.ref r]) Q E s:=by
  have hT:s.TypeIs (.ref r) "range":=⟨_,hr,rfl⟩
  refine callType_other (U:="range_iterator") (Q₁:=fun obj s₁=>obj= .ref s.heap.objs.size/\∃h',s₁={s with heap:=h'}/\IsRangeIter h' s.heap.objs.size ((n:Int)-1) n (-1)/\∀b o,s.heap.get? b=some o->h'.get? b=some o) (by decide +kernel) F.create_reversed ⟨_,_,F.mro_reversed⟩ F.made_reversed RV.ri_rev (RV.tc1 _) ?_ ?_
  · refine codeAny_of_tree ?_
    show wpAny _ A.in1.in1 (do checkBuiltinCall "reversed.__new__" ⟨[.type "reversed",.ref r],[]⟩;again (.builtin "reversed.__new__" ⟨[.type "reversed",.ref r],[]⟩)) _ _ s
    refine wpAny_bind (wpAny_of_eq (F.newCall_reversed_1 _) (wpAny_pure ⟨plainId_quiet F.plain_reversed_new _,codeAny_builtin F.entry_reversed_new ?_⟩))
    rw[Around.under_plainId F.plain_reversed_new _]
    unfold Builtin.«reversed.__new__»
    refine wpAny_bind (wpAny_of_eq (newClass_reversed _) ?_)
    try dsimp only
    refine wpAny_bind (wpAny_of_eq (a:=()) (by first|rfl|kernel_rfl) ?_)
    refine wpAny_bind (wpAny_of_eq (a:=()) (by first|rfl|kernel_rfl) ?_)
    try dsimp only
    refine wpAny_bind (wpAny_specialOf hT F.slot_range_reversed.lookup ?_)
    try dsimp only
    refine wpAny_bind (wpAny_of_eq (F.slot_range_reversed.bind _) ?_)
    try dsimp only
    first
    |rw[if_neg (show¬((Value.builtin "range.__reversed__"==Value.none)=true)from Bool.false_ne_true)]
    | (show wpAny _ _ (if(Value.builtin "range.__reversed__"==Value.none)=true then _ else _) _ _ _
       rw[if_neg (show¬((Value.builtin "range.__reversed__"==Value.none)=true)from Bool.false_ne_true)])
    refine wpAny_bind (wpAny_rule ?_)
    refine wpAny_bind (m:=runValue (.call (.builtin "range.__reversed__") ⟨[.ref r],[]⟩)) (show wpAny _ _ (call (.builtin "range.__reversed__") [.ref r]) _ _ _ from
      call_meets F.slot_range_reversed hT F.entry_range_reversed (F.args_range_reversed_1 _) (ll r n t u v hn) ⟨hr,?_⟩)
    first
    |exact wpAny_pure ⟨rfl,_,rfl,Heap.get?_push_size _ rfl,fun b o e=>Heap.get?_push_of_some _ e⟩
    |exact wpAny_bind (wpAny_pure (wpAny_pure ⟨rfl,_,rfl,Heap.get?_push_size _ rfl,fun b o e=>Heap.get?_push_of_some _ e⟩))
  · rintro obj s₁ ⟨rfl,h',rfl,hi,hk⟩
    exact⟨⟨_,hi,rfl⟩,h h' hi hk⟩
end
def lm(K:Frag)(a:Addr)(n:Nat):It:=
 ⟨fun i H=>i<n/\∃xs,SqL K H a xs/\xs.length=n,fun i H x H'=>H'=H/\∀xs,SqL K H a xs->xs[n-1-i]? =some x,fun i _=>n<=i⟩
def kT(K:Frag)(a:Addr)(n:Nat):It:=
 ⟨fun i H=>i<n/\∃xs,SqT K H a xs/\xs.length=n,fun i H x H'=>H'=H/\∀xs,SqT K H a xs->xs[n-1-i]? =some x,fun i _=>n<=i⟩
def kN(n:Nat):It:=⟨fun i _=>i<n,fun i H x H'=>H'=H/\x= .int ((n:Int)-1-i),fun i _=>n<=i⟩
theorem kK{P:Program}{w:World}{K:Frag}{tg:Expr}(a it:Addr)(n:Nat):Turn P w K tg (lm K a n) [it] it (fun i h=>i<=n/\h.IsRevIter it a ((n:Int)-1-i)) where
 mem:=by simp
 obj:=fun i h st b hb=>by
  have e:b=it:=by simpa using hb
  subst e
  obtain⟨_,o,e,c,d⟩:=st
  exact⟨o,e,fun v z=>by rw[d]at z;cases z⟩
 keep:=fun i h h' st k=>⟨st.1,st.2.at fun o e=>k it (by simp) o e⟩
 item:=by
  intro X hP hw hK hc i pins s σ H E I hf st hg
  subst hP hw hK
  obtain⟨hi,xs,hq,hn⟩:=hg
  obtain⟨its,rv,p,hz⟩:=I.list hq
  have hlt:n-1-i<xs.length:=by omega
  obtain⟨u,hu,ru⟩:=rv.get (List.getElem?_eq_getElem hlt)
  obtain⟨f0,f1,f2,f3,f4,f5⟩:=hf it (by simp)
  have e1:(n:Int)-1-i=((n-1-i:Nat):Int):=by omega
  have st2:=st.2
  rw[e1]at st2
  refine wpAny_pyNext_rev_item st2 p.isList (x:=u) (by simpa using hu) fun h' st' sb=>?_
  have I1:L2.Inv X pins σ H {s with heap:=h'}:=I.turned (t':=s.toks) (fun b o hb e=>(sb.2 b hb).trans e) f0 f1 f3 f4 f5
  obtain⟨o,e,c,d⟩:=id st'
  refine⟨u,rfl,av (s:={s with heap:=h'}) e c d (by decide) ⟨_,H,I1,ru,⟨rfl,fun ys hy=>by rw[I.list_inj hy hq];exact List.getElem?_eq_getElem hlt⟩,⟨by omega,?_⟩,fun b hb=>(hf b hb).1⟩⟩
  have e2:((n-1-i:Nat):Int)-1=(n:Int)-1-((i+1:Nat):Int):=by omega
  rw[<- e2]
  exact st'
 done:=by
  intro X hP hw hK hc i pins s σ H E I hf st hg
  subst hP hw hK
  obtain⟨f0,f1,f2,f3,f4,f5⟩:=hf it (by simp)
  have hi:i=n:=Nat.le_antisymm st.1 hg
  have st2:=st.2
  rw[show(n:Int)-1-i= -1 by omega]at st2
  exact wpAny_pyNext_rev_end (I.ok.hd hc) st2 fun h' eb=>⟨rfl,I.turned (t':=s.toks) (fun b o hb e=>eb b o hb e) f0 f1 f3 f4 f5⟩
 self:=fun _ _ _ _ _ st h=>wpAny_pyIter_revIter st.2 h
theorem mw{P:Program}{w:World}{K:Frag}{tg:Expr}(a it:Addr)(n:Nat):Turn P w K tg (kT K a n) [it] it (fun i h=>i<=n/\RevT h it a ((n:Int)-1-i)) where
 mem:=by simp
 obj:=fun i h st b hb=>by
  have e:b=it:=by simpa using hb
  subst e
  obtain⟨_,o,e,c,d⟩:=st
  exact⟨o,e,fun v z=>by rw[d]at z;cases z⟩
 keep:=fun i h h' st k=>⟨st.1,let⟨o,e,r⟩:=st.2;⟨o,k it (by simp) o e,r⟩⟩
 item:=by
  intro X hP hw hK hc i pins s σ H E I hf st hg
  subst hP hw hK
  obtain⟨hi,xs,hq,hn⟩:=hg
  obtain⟨its,rv,p,hz⟩:=I.tuple hq
  have hlen:=rv.length
  have hlt:n-1-i<xs.length:=by omega
  obtain⟨u,hu,ru⟩:=rv.get (List.getElem?_eq_getElem hlt)
  obtain⟨f0,f1,f2,f3,f4,f5⟩:=hf it (by simp)
  have e1:(n:Int)-1-i=((n-1-i:Nat):Int):=by omega
  have st2:=st.2
  rw[e1]at st2
  refine jj st2 p (x:=u) (by simpa using hu) (by simp;omega) fun h' tk st' sb=>?_
  have I1:L2.Inv X pins σ H {s with heap:=h',toks:=tk}:=I.turned (t':=tk) (fun b o hb e=>(sb.2 b hb).trans e) f0 f1 f3 f4 f5
  obtain⟨o,e,c,d⟩:=id st'
  refine⟨u,rfl,av (s:={s with heap:=h',toks:=tk}) e c d (by decide) ⟨_,H,I1,ru,⟨rfl,fun ys hy=>by rw[I.tuple_inj hy hq];exact List.getElem?_eq_getElem hlt⟩,⟨by omega,?_⟩,fun b hb=>(hf b hb).1⟩⟩
  have e2:((n-1-i:Nat):Int)-1=(n:Int)-1-((i+1:Nat):Int):=by omega
  rw[<- e2]
  exact st'
 done:=by
  intro X hP hw hK hc i pins s σ H E I hf st hg
  subst hP hw hK
  obtain⟨f0,f1,f2,f3,f4,f5⟩:=hf it (by simp)
  have hi:i=n:=Nat.le_antisymm st.1 hg
  have st2:=st.2
  rw[show(n:Int)-1-i= -1 by omega]at st2
  exact kI (I.ok.hd hc) st2 fun h' eb=>⟨rfl,I.turned (t':=s.toks) (fun b o hb e=>eb b o hb e) f0 f1 f3 f4 f5⟩
 self:=fun _ _ _ _ _ st h=>mn st.2 h
theorem nD{P:Program}{w:World}{K:Frag}{tg:Expr}(it:Addr)(n:Nat):Turn P w K tg (kN n) [it] it (fun i h=>IsRangeIter h it ((n:Int)-1+(i:Nat)*(-1)) ((n:Int)-(i:Nat)) (-1)) where
 mem:=by simp
 obj:=fun i h st b hb=>by
  have e:b=it:=by simpa using hb
  subst e
  exact⟨_,st,fun v z=>by
   have z':Data.fields _=Data.cell v:=z
   cases z'⟩
 keep:=fun i h h' st k=>k it (by simp) _ st
 item:=by
  intro X hP hw hK hc i pins s σ H E I hf st hg
  subst hP hw hK
  obtain⟨f0,f1,f2,f3,f4,f5⟩:=hf it (by simp)
  have W:=Walks.range (prog:=X.prog) (w:=X.w) (I.ok.hd hc) it ((n:Int)-1) (-1) n
  refine W.item i s _ _ hg st fun v h' tk hv st' kk=>?_
  obtain⟨t,rfl⟩:=hv
  have I1:L2.Inv X pins σ H {s with heap:=h',toks:=tk}:=I.turned (fun b o hb e=>kk b o (by simpa using hb) e) f0 f1 f3 f4 f5
  refine⟨_,rfl,av (s:={s with heap:=h',toks:=tk}) (n:="range_iterator") st' rfl rfl (by decide) ⟨.int ((n:Int)-1-i),H,I1,⟨t,?_⟩,⟨rfl,rfl⟩,st',fun b hb=>(hf b hb).1⟩⟩
  rw[show(n:Int)-1+(i:Nat)*(-1)=(n:Int)-1-i by omega]
 done:=by
  intro X hP hw hK hc i pins s σ H E I hf st hg
  subst hP hw hK
  obtain⟨f0,f1,f2,f3,f4,f5⟩:=hf it (by simp)
  exact wpAny_pyNext_range_end (I.ok.hd hc) st (by have:n<=i:=hg;omega) fun h' eb=>⟨rfl,I.turned (t':=s.toks) (fun b o hb e=>eb b o hb e) f0 f1 f3 f4 f5⟩
 self:=fun _ _ _ _ _ st h=>wpAny_pyIter_rangeiter st h
section
variable{X:Cx}{tg:Expr}
theorem nT:bootBuiltins "reversed"=some (.type "reversed"):=by kernel_rfl
def vx(K:Frag)(ta:TA):TI:=fun σ H R=>ta σ H fun vs H1=>∃a,vs=[.ref a]/\((∃xs,SqL K H1 a xs/\R (lm K a xs.length) H1)\/(∃xs,SqT K H1 a xs/\R (kT K a xs.length) H1)\/∃n:Nat,H1 a=some (.rng 0 n)/\(n:Int)<2 ^ 62/\R (kN n) H1)
theorem uV{a:Expr}{ta:TA}{p pos:Pos}(hg:Gl X "reversed")(hm:X.mg "reversed"=none)(ha:PA X [a] ta)(hn:Qm a=true:=by rfl):
  PI X tg (.Call (.Name "reversed" p) [a] [] pos) (vx X.K ta):=by
 intro pins s σ H R I h
 refine Call_ (Zd I hg hm nT (PyProof.Rows.callWith_type1 (qB (ha pos pins s σ H _ I h) fun us s1 ⟨vs,H1,I1,r1,q1⟩=>?_) (ZR hn) rfl))
 obtain⟨l,e,q1⟩:=q1
 subst e
 obtain⟨u,rfl,ru⟩:=r1.one
 cases ru
 have fpk:∀b∈[s1.heap.objs.size],Ze X pins H1 b:=fun b hb=>by
  rw[List.mem_singleton.mp hb]
  exact I1.fpOk (Nat.le_refl _) (I1.hok.fresh (Nat.le_refl _))
 rcases q1 with⟨xs,hq,q⟩|⟨xs,hq,q⟩|⟨n,hq,hn62,q⟩
 ·obtain⟨its,rv,pl,hz⟩:=I1.list hq
  have hlen:=rv.length
  refine call_reversed_list pl.isList ?_
  have hi:(s1.heap.push (revObj l ((its.toArray.size:Int)-1))).IsRevIter s1.heap.objs.size l ((its.toArray.size:Int)-1):=⟨_,Heap.get?_push_size _ rfl,rfl,rfl⟩
  refine wpAny_pyIter_revIter hi ?_
  refine⟨s1.heap.objs.size,[s1.heap.objs.size],_,_,H1,rfl,I1.kept (t':=s1.toks) fun b o e=>Heap.get?_push_of_some _ e,kK l _ xs.length,⟨Nat.zero_le _,?_⟩,fpk,q⟩
  rw[show(xs.length:Int)-1-((0:Nat):Int)=(its.toArray.size:Int)-1 by simp [hlen]]
  exact hi
 ·obtain⟨its,rv,pl,hz⟩:=I1.tuple hq
  have hlen:=rv.length
  refine tS (show s1.heap.IsTuple l its.toArray from pl) (by simp;omega) fun h' tk hi hk=>mn hi ?_
  refine⟨s1.heap.objs.size,[s1.heap.objs.size],_,_,H1,rfl,I1.kept (t':=tk) hk,mw l _ xs.length,⟨Nat.zero_le _,?_⟩,fpk,q⟩
  rw[show(xs.length:Int)-1-((0:Nat):Int)=(its.toArray.size:Int)-1 by simp [hlen]]
  exact hi
 ·obtain⟨t,u,v,hr⟩:=I1.hok l _ hq
  refine uM hr hn62 fun h' hi hk=>wpAny_pyIter_rangeiter hi ?_
  refine⟨s1.heap.objs.size,[s1.heap.objs.size],_,_,H1,rfl,I1.kept (t':=s1.toks) hk,nD _ n,?_,fpk,q⟩
  show IsRangeIter _ _ _ _ _
  rw[show(n:Int)-1+((0:Nat):Int)*(-1)=(n:Int)-1 by omega,show(n:Int)-((0:Nat):Int)=n by omega]
  exact hi
def uP(K:Frag)(tl:TE):TI:=fun σ H R=>tl σ H fun x H1=>∃a,x= .ref a/\((∃xs,SqL K H1 a xs)/\R (cf K a) H1\/(∃xs,SqT K H1 a xs)/\R (et K a) H1)
theorem uS{l:Expr}{tl:TE}(hl:PE X l tl):PI X tg l (uP X.K tl):=by
 intro pins s σ H R I h
 refine qB (hl pins s σ H _ I h) fun v s1 ⟨x,H1,I1,r1,q1⟩=>?_
 obtain⟨a,e,q1⟩:=q1
 subst e
 cases r1
 have fpk:∀b∈[s1.heap.objs.size],Ze X pins H1 b:=fun b hb=>by
  rw[List.mem_singleton.mp hb]
  exact I1.fpOk (Nat.le_refl _) (I1.hok.fresh (Nat.le_refl _))
 rcases q1 with⟨⟨xs,hq⟩,q⟩|⟨⟨xs,hq⟩,q⟩
 ·obtain⟨its,rv,p,hz⟩:=I1.list hq
  refine wpAny_pyIter_list p.isList ?_
  exact⟨s1.heap.objs.size,[s1.heap.objs.size],_,_,H1,rfl,I1.kept (t':=s1.toks) fun b o e=>Heap.get?_push_of_some _ e,gi a _,⟨_,Heap.get?_push_size _ rfl,rfl,rfl⟩,fpk,q⟩
 ·obtain⟨its,rv,p,hz⟩:=I1.tuple hq
  refine wpAny_pyIter_tuple (show s1.heap.IsTuple a its.toArray from p) ?_
  exact⟨s1.heap.objs.size,[s1.heap.objs.size],_,_,H1,rfl,I1.kept (t':=s1.toks) fun b o e=>Heap.get?_push_of_some _ e,c5 a _,⟨_,Heap.get?_push_size _ rfl,rfl,rfl⟩,fpk,q⟩
end
section
variable{K:Frag}{a:Addr}{xs:List V}{g:TG}{tb:TS}{D:Ends}{σ:L2.St}{H:Hp}
abbrev Q7(J:It)(g:TG)(tb:TS)(D:Ends)(σ:L2.St)(H:Hp):Prop:=∃W:Nat->Nat->L2.St->Hp->Prop,(∃m,W 0 m σ H)/\∀i m σ H,W i m σ H->
      (J.stop i H/\D.nx σ H)\/(J.go i H/\∃N:L2.St->Hp->Prop,(∀σ' H',N σ' H'->∃m',m'<m/\W (i+1) m' σ' H')/\∀x H',J.yld i H x H'->g x σ H' fun σ2 H2=>tb {D with nx:=N,ct:=N,bk:=D.nx} σ2 H2)
theorem bQ{J:It}{n:Nat}(Pv:Nat->L2.St->Hp->Prop)(h0:Pv 0 σ H)(hgo:∀i σ H,i<n->Pv i σ H->J.go i H)(hst:∀H,J.stop n H)
  (hs:∀i x σ H H',i<n->Pv i σ H->J.yld i H x H'->g x σ H' fun σ2 H2=>tb {D with nx:=Pv (i+1),ct:=Pv (i+1),bk:=D.nx} σ2 H2)(hd:∀σ H,Pv n σ H->D.nx σ H):Q7 J g tb D σ H:=by
 refine⟨fun i m σ H=>m=n-i/\i<=n/\Pv i σ H,⟨n,by simp,Nat.zero_le _,h0⟩,?_⟩
 rintro i m σ H ⟨rfl,hi,p⟩
 by_cases hlt:i<n
 ·exact .inr ⟨hgo i σ H hlt p,Pv (i+1),fun σ' H' p'=>⟨n-(i+1),by omega,rfl,hlt,p'⟩,fun x H' y=>hs i x σ H H' hlt p y⟩
 ·have e:i=n:=by omega
  subst e
  exact .inl ⟨hst H,hd σ H p⟩
theorem oC(Pv:Nat->L2.St->Hp->Prop)(h0:Pv 0 σ H)(hl:∀i σ H,Pv i σ H->SqL K H a xs)
  (hs:∀i x σ H,i<xs.length->xs[xs.length-1-i]? =some x->Pv i σ H->g x σ H fun σ2 H2=>tb {D with nx:=Pv (i+1),ct:=Pv (i+1),bk:=D.nx} σ2 H2)(hd:∀σ H,Pv xs.length σ H->D.nx σ H):Q7 (lm K a xs.length) g tb D σ H:=
 bQ Pv h0 (fun i σ H hi p=>⟨hi,xs,hl i σ H p,rfl⟩) (fun _=>Nat.le_refl _) (fun i x σ H H' hi p y=>by
  obtain⟨rfl,y⟩:=y
  exact hs i x σ H' hi (y xs (hl i σ H' p)) p) hd
theorem pz(Pv:Nat->L2.St->Hp->Prop)(h0:Pv 0 σ H)(hl:∀i σ H,Pv i σ H->SqT K H a xs)
  (hs:∀i x σ H,i<xs.length->xs[xs.length-1-i]? =some x->Pv i σ H->g x σ H fun σ2 H2=>tb {D with nx:=Pv (i+1),ct:=Pv (i+1),bk:=D.nx} σ2 H2)(hd:∀σ H,Pv xs.length σ H->D.nx σ H):Q7 (kT K a xs.length) g tb D σ H:=
 bQ Pv h0 (fun i σ H hi p=>⟨hi,xs,hl i σ H p,rfl⟩) (fun _=>Nat.le_refl _) (fun i x σ H H' hi p y=>by
  obtain⟨rfl,y⟩:=y
  exact hs i x σ H' hi (y xs (hl i σ H' p)) p) hd
theorem nX{n:Nat}(Pv:Nat->L2.St->Hp->Prop)(h0:Pv 0 σ H)
  (hs:∀i σ H,i<n->Pv i σ H->g (.int ((n:Int)-1-i)) σ H fun σ2 H2=>tb {D with nx:=Pv (i+1),ct:=Pv (i+1),bk:=D.nx} σ2 H2)(hd:∀σ H,Pv n σ H->D.nx σ H):Q7 (kN n) g tb D σ H:=
 bQ Pv h0 (fun i σ H hi p=>hi) (fun _=>Nat.le_refl _) (fun i x σ H H' hi p y=>by
  obtain⟨rfl,rfl⟩:=y
  exact hs i σ H' hi p) hd
end
end L3
namespace L3
open PySem PySem.Spec L2
variable{X:Cx}
theorem lW{tg:Expr}{a:Expr}{ta:TA}{p pos:Pos}(hg:Gl X "reversed")(hm:X.mg "reversed"=none)(ha:QA X [a] ta)(hn:Qm a=true:=by rfl):QI X tg (.Call (.Name "reversed" p) [a] [] pos) (vx X.K ta):=⟨uV (hg:=hg) (hm:=hm) (ha:=ha.h) (hn:=hn)⟩
theorem lE{tg:Expr}{l:Expr}{tl:TE}(hl:QE X l tl):QI X tg l (uP X.K tl):=⟨uS (hl:=hl.h)⟩
def ZO(x:Int):Prop:=0<=x/\x<16
def q9(r:List Int):Prop:=∀x∈r,ZO x
def pN(n i:Nat):Nat:=if i=0 then n-1 else i-1
def ah(r:List Int)(i:Nat):Int:=r.getD (pN r.length i) 0
def fc(t:List Int)(s:Int)(r:List Int)(i:Nat):List Int:=r.set i (t.getD ((r.getD i 0+s+i+ah r i)%16).toNat 0)
def cF(b:List Int)(s:Int)(r:List Int)(i:Nat):List Int:=r.set i ((b.getD (r.getD i 0).toNat 0-s-i-ah r i)%16)
def Zf(t:List Int)(s:Int)(r:List Int):Nat->List Int
 |0=>r
 |n+1=>fc t s (Zf t s r n) n
def ZH(b:List Int)(s:Int)(r:List Int):Nat->List Int
 |0=>r
 |n+1=>ZH b s (cF b s r n) n
def zW(t:List Int):List Int->List Int->List Int
 | [],r=>r
 |s::ks,r=>zW t ks (Zf t s r r.length)
def QD(b:List Int):List Int->List Int->List Int
 | [],r=>r
 |s::ks,r=>ZH b s (QD b ks r) r.length
theorem nS{t:List Int}{s:Int}{r:List Int}{i:Nat}:(fc t s r i).length=r.length:=List.length_set ..
theorem im{b:List Int}{s:Int}{r:List Int}{i:Nat}:(cF b s r i).length=r.length:=List.length_set ..
theorem Qf{t:List Int}{s:Int}{r:List Int}:∀{n:Nat},(Zf t s r n).length=r.length
 |0=>rfl
 |n+1=>by rw[Zf,nS,Qf]
theorem iB{b:List Int}{s:Int}:∀{n:Nat} {r:List Int},(ZH b s r n).length=r.length
 |0,_=>rfl
 |n+1,r=>by rw[ZH,iB,im]
theorem Zy{t:List Int}:∀{ks r:List Int},(zW t ks r).length=r.length
 | [],_=>rfl
 |s::ks,r=>by rw[zW,Zy,Qf]
theorem cM{b:List Int}:∀{ks r:List Int},(QD b ks r).length=r.length
 | [],_=>rfl
 |s::ks,r=>by rw[QD,iB,cM]
theorem iQ{r:List Int}{i:Nat}{x:Int}(h:q9 r)(hx:ZO x):q9 (r.set i x):=fun y hy=>by
 rcases List.mem_or_eq_of_mem_set hy with z|z
 ·exact h y z
 ·rw[z];exact hx
theorem Qo(x:Int):ZO (x%16):=⟨Int.emod_nonneg _ (by decide),Int.emod_lt_of_pos _ (by decide)⟩
theorem fj{r:List Int}(h:q9 r)(i:Nat):ZO (r.getD i 0):=by
 rw[List.getD_eq_getElem?_getD]
 by_cases hi:i<r.length
 ·rw[List.getElem?_eq_getElem hi];exact h _ (List.getElem_mem hi)
 ·rw[List.getElem?_eq_none (by omega)];exact⟨by decide,by decide⟩
theorem nR{t:List Int}(p:t.Perm digs):q9 t:=fun x hx=>jc (p.mem_iff.mp hx)
theorem oE{t:List Int}(p:t.Perm digs){s:Int}{r:List Int}{i:Nat}(h:q9 r):q9 (fc t s r i):=iQ h (fj (nR p) _)
theorem iJ{b:List Int}{s:Int}{r:List Int}{i:Nat}(h:q9 r):q9 (cF b s r i):=iQ h (Qo _)
theorem ao{t:List Int}(p:t.Perm digs){s:Int}{r:List Int}(h:q9 r):∀{n:Nat},q9 (Zf t s r n)
 |0=>h
 |n+1=>oE p (ao p h)
theorem gQ{b:List Int}{s:Int}:∀{n:Nat} {r:List Int},q9 r->q9 (ZH b s r n)
 |0,_,h=>h
 |n+1,_,h=>gQ (n:=n) (iJ h)
theorem cJ{t:List Int}(p:t.Perm digs):∀{ks r:List Int},q9 r->q9 (zW t ks r)
 | [],_,h=>h
 |s::ks,_,h=>cJ (ks:=ks) p (ao p h)
theorem il{b:List Int}:∀{ks r:List Int},q9 r->q9 (QD b ks r)
 | [],_,h=>h
 |s::ks,_,h=>gQ (il (ks:=ks) h)
theorem gG{r:List Int}{i:Nat}{x:Int}(h:i<r.length):(r.set i x).getD i 0=x:=by
 rw[List.getD_eq_getElem?_getD,List.getElem?_set_self h];rfl
theorem jm{r:List Int}{i j:Nat}{x:Int}(h:i≠j):(r.set i x).getD j 0=r.getD j 0:=by
 rw[List.getD_eq_getElem?_getD,List.getElem?_set_ne h,<- List.getD_eq_getElem?_getD]
theorem vS{n i:Nat}(h2:2<=n)(hi:i<n):i≠pN n i:=by unfold pN;split<;>omega
theorem vG{r:List Int}{i:Nat}{x:Int}(h2:2<=r.length)(hi:i<r.length):ah (r.set i x) i=ah r i:=by
 unfold ah
 rw[List.length_set,jm (vS h2 hi)]
theorem n9{r:List Int}{i:Nat}(hi:i<r.length):r.set i (r.getD i 0)=r:=by
 rw[List.getD_eq_getElem?_getD,List.getElem?_eq_getElem hi]
 exact List.set_getElem_self hi
theorem oT{t:List Int}(p:t.Perm digs){z:Int}(h:ZO z):(zi t).getD (t.getD z.toNat 0).toNat 0=z:=by
 have hz:z.toNat<t.length:=by rw[eU p];have:=h.1;have:=h.2;omega
 have e:t.getD z.toNat 0=t[z.toNat]:=by rw[List.getD_eq_getElem?_getD,List.getElem?_eq_getElem hz];rfl
 have bd:=iU p hz
 have hb:t[z.toNat].toNat<(zi t).length:=by rw[ZP];omega
 rw[e,List.getD_eq_getElem?_getD,List.getElem?_eq_getElem hb,Option.getD_some,sI p (by rw[ZP]at hb;exact hb)]
 have e2:((t[z.toNat].toNat:Nat):Int)=t[z.toNat]:=by omega
 rw[e2,lP p hz]
 have:=h.1
 omega
theorem n6{t:List Int}(p:t.Perm digs){s:Int}{r:List Int}{i:Nat}(hr:q9 r)(h2:2<=r.length)(hi:i<r.length):cF (zi t) s (fc t s r i) i=r:=by
 unfold cF fc
 rw[gG hi,vG h2 hi,List.set_set,oT p (Qo _)]
 have hd:=fj hr i
 have e:((r.getD i 0+s+i+ah r i)%16-s-i-ah r i)%16=r.getD i 0:=by
  have:=hd.1
  have:=hd.2
  omega
 rw[e,n9 hi]
theorem hZ{t:List Int}(p:t.Perm digs){s:Int}{r:List Int}(hr:q9 r)(h2:2<=r.length):∀{n:Nat},n<=r.length->ZH (zi t) s (Zf t s r n) n=r
 |0,_=>rfl
 |n+1,hn=>by
  rw[Zf,ZH,n6 p (ao p hr) (by rw[Qf];exact h2) (by rw[Qf];omega)]
  exact hZ p hr h2 (by omega)
theorem cx{t:List Int}(p:t.Perm digs):∀{ks r:List Int},q9 r->2<=r.length->QD (zi t) ks (zW t ks r)=r
 | [],_,_,_=>rfl
 |s::ks,r,hr,h2=>by
  rw[QD,zW,cx p (ao p hr) (by rw[Qf];exact h2),Zy,Qf,hZ p hr h2 (Nat.le_refl _)]
theorem i4(t:List Int):∀(ks:List Int) (s:Int) (r:List Int),zW t (ks++[s]) r=Zf t s (zW t ks r) r.length
 | [],_,_=>rfl
 |a::ks,s,r=>by rw[List.cons_append,zW,i4 t ks s,zW,Qf]
def Sq(K:Frag)(H:Hp)(a:Addr)(xs:List V):Prop:=SqL K H a xs\/SqT K H a xs
theorem Sq.same{K:Frag}{H H':Hp}{a:Addr}{xs:List V}(e:Same H H')(h:Sq K H a xs):Sq K H' a xs:=h.elim (fun h=> .inl (e.seq h)) fun h=> .inr (Same.sqt e h)
theorem Sq.lst{K:Frag}{H:Hp}{a:Addr}{xs:List V}(h:H a=some (.lst xs)):Sq K H a xs:= .inl (SqL.of h)
theorem Sq.tup{K:Frag}{H:Hp}{a:Addr}{xs:List V}(h:H a=some (.tup xs)):Sq K H a xs:= .inr (SqT.of h)
def bN(K:Frag):Sp:=fun vs H Q _=>∃(a b c:Addr) (t ks ds:List Int),vs=[.ref a,.ref b,.ref c]/\Sq K H a (t.map V.int)/\Sq K H b (ks.map V.int)/\Sq K H c (ds.map V.int)/\t.length=16/\1<=ds.length/\ds.length<64/\
 ∀p H',Same H H'->H p=none->H' p=some (.tup ((zW t ks ds).map V.int))->Q (.ref p) H'
def fU(K:Frag):Sp:=fun vs H Q _=>∃(a b c:Addr) (t ks ds:List Int),vs=[.ref a,.ref b,.ref c]/\Sq K H a (t.map V.int)/\Sq K H b (ks.map V.int)/\Sq K H c (ds.map V.int)/\t.Perm digs/\q9 ds/\1<=ds.length/\ds.length<64/\
 ∀p H',Same H H'->H p=none->H' p=some (.tup ((QD (zi t) ks ds).map V.int))->Q (.ref p) H'
theorem ZC{r:List Int}{i:Nat}{z:Int}(e:z=(i:Int))(h:i<r.length):Q0 (r.map V.int) z=some (.int (r.getD i 0)):=by
 rw[sV e (fi h),List.getD_eq_getElem?_getD,List.getElem?_eq_getElem h];rfl
theorem nB{r:List Int}{i:Nat}{z:Int}(e:z=(i:Int)-1)(h:i<r.length):Q0 (r.map V.int) z=some (.int (ah r i)):=by
 subst e
 unfold ah pN
 by_cases h0:i=0
 ·subst h0
  rw[if_pos rfl]
  have hl:r.length-1<r.length:=by omega
  unfold Q0 aS
  rw[List.length_map,if_neg (by omega),if_pos (by omega)]
  have e2:((((0:Nat):Int)-1)+(r.length:Int)).toNat=r.length-1:=by omega
  show(r.map V.int)[((((0:Nat):Int)-1)+(r.length:Int)).toNat]? =_
  rw[e2,fi hl,List.getD_eq_getElem?_getD,List.getElem?_eq_getElem hl];rfl
 ·rw[if_neg h0]
  exact ZC (by omega) (by omega)
theorem Sq.ix{K:Frag}{H:Hp}{a:Addr}{xs:List V}{i:Int}{v:V}{Q:VK}(h:Sq K H a xs)(e:Q0 xs i=some v)(q:Q v H):nL K (.ref a) (.int i) H Q\/pC K (.ref a) (.int i) H Q:=
 h.elim (fun h=> .inl ⟨a,xs,i,v,rfl,rfl,h,e,q⟩) fun h=> .inr ⟨a,xs,i,v,rfl,rfl,h,e,q⟩
section
variable{K:Frag}{a:Addr}{xs:List V}{g:TG}{tb:TS}{D:Ends}{σ:L2.St}{H H0:Hp}
theorem sW(hq:Sq K H0 a xs)(Pv:Nat->L2.St->Hp->Prop)(h0:Pv 0 σ H)(hk:∀i σ' H',Pv i σ' H'->Same H0 H')
  (hs:∀i x σ H,xs[i]? =some x->Pv i σ H->g x σ H fun σ2 H2=>tb {D with nx:=Pv (i+1),ct:=Pv (i+1),bk:=D.nx} σ2 H2)(hd:∀σ H,Pv xs.length σ H->D.nx σ H):
  ((∃xs,SqL K H a xs)/\Q7 (cf K a) g tb D σ H)\/((∃xs,SqT K H a xs)/\Q7 (et K a) g tb D σ H):=by
 rcases hq with hq|hq
 ·exact .inl ⟨⟨xs,(hk _ _ _ h0).seq hq⟩,ZI Pv h0 (fun i σ H _ p=>(hk i σ H p).seq hq) hs hd⟩
 ·exact .inr ⟨⟨xs,Same.sqt (hk _ _ _ h0) hq⟩,rO Pv h0 (fun i σ H _ p=>Same.sqt (hk i σ H p) hq) hs hd⟩
theorem oW(hq:Sq K H0 a xs)(Pv:Nat->L2.St->Hp->Prop)(h0:Pv 0 σ H)(hk:∀i σ' H',Pv i σ' H'->Same H0 H')
  (hs:∀i x σ H,i<xs.length->xs[xs.length-1-i]? =some x->Pv i σ H->g x σ H fun σ2 H2=>tb {D with nx:=Pv (i+1),ct:=Pv (i+1),bk:=D.nx} σ2 H2)(hd:∀σ H,Pv xs.length σ H->D.nx σ H):
  (∃xs,SqL K H a xs/\Q7 (lm K a xs.length) g tb D σ H)\/(∃xs,SqT K H a xs/\Q7 (kT K a xs.length) g tb D σ H)\/(∃n:Nat,H a=some (.rng 0 n)/\(n:Int)<2 ^ 62/\Q7 (kN n) g tb D σ H):=by
 rcases hq with hq|hq
 ·exact .inl ⟨xs,(hk _ _ _ h0).seq hq,oC Pv h0 (fun i σ H p=>(hk i σ H p).seq hq) hs hd⟩
 ·exact .inr (.inl ⟨xs,Same.sqt (hk _ _ _ h0) hq,pz Pv h0 (fun i σ H p=>Same.sqt (hk i σ H p) hq) hs hd⟩)
end
theorem QQ{H H2:Hp}{l:Addr}{o:HO}(s:Same H H2)(h:H l=none):Same H (upd H2 l o):=fun d u e=>by
 rw[qh (ql e h)];exact s _ _ e
theorem eW{ks:List Int}{j:Nat}{s:Int}(h:ks[j]? =some s):ks.take (j+1)=ks.take j++[s]:=by rw[List.take_add_one,h];rfl
theorem mB{ks:List Int}{j:Nat}{s:Int}(h:ks[j]? =some s):ks.drop j=s::ks.drop (j+1):=by
 obtain⟨hj,e⟩:=List.getElem?_eq_some_iff.mp h
 rw[List.drop_eq_getElem_cons hj,e]
inductive Eqd (H:Hp):Nat->V->V->Prop where
 |int (n:Nat) (i:Int):Eqd H n (.int i) (.int i)
 |str (n:Nat) (x:Str):Eqd H n (.str x) (.str x)
 |non (n:Nat):Eqd H n .non .non
 |bl (n:Nat) (b:Bool):Eqd H n (.bl b) (.bl b)
 | tup {n:Nat} {a b:Addr} {xs ys:List V} (h1:Rd H a (.tup xs)) (h2:Rd H b (.tup ys)) (hl:xs.length=ys.length)
   (hi:∀(i:Nat) (x y:V),xs[i]? =some x->ys[i]? =some y->Eqd H n x y):Eqd H (n+1) (.ref a) (.ref b)
 | lst {n:Nat} {a b:Addr} {xs ys:List V} (h1:H a=some (.lst xs)) (h2:H b=some (.lst ys)) (hl:xs.length=ys.length)
   (hi:∀(i:Nat) (x y:V),xs[i]? =some x->ys[i]? =some y->Eqd H n x y):Eqd H (n+1) (.ref a) (.ref b)
theorem Z6(n:Nat):((List.range n).all fun _=>true)=true:=by simp
section
open SeqAt
variable{pins:List (Addr×Obj)}{σ:L2.St}{H:Hp}{s:Shared}
theorem zA{xs:List V}{us:List Value}(r:Vals xs us){j:Nat}(h:j<us.length):∃x,xs[j]? =some x/\RelV x us[j]:=by
 have hl:=r.length
 have hj:j<xs.length:=by omega
 obtain⟨u,hu,ru⟩:=r.get (List.getElem?_eq_getElem hj)
 rw[List.getElem?_eq_getElem h]at hu
 cases hu
 exact⟨_,List.getElem?_eq_getElem hj,ru⟩
theorem mK(I:L2.Inv X pins σ H s){n:Nat}{x y:V}(h:Eqd H n x y):∀{v u:Value} {A:Around},RelV x v->RelV y u->A.units+n<cLine->EqAt A s v u true:=by
 induction h with
 |int n i=>rintro v u A ⟨t,rfl⟩ ⟨t',rfl⟩ _;have:=EqAt.int_int (A:=A) (s:=s) i t i t';rwa [beq_self_eq_true]at this
 |str n z=>rintro v u A ⟨t,rfl⟩ ⟨t',rfl⟩ _;have:=EqAt.str_str (A:=A) (s:=s) z t z t';rwa [beq_self_eq_true]at this
 |non n=>
  intro v u A r1 r2 _
  cases(show v=Value.none from r1)
  cases(show u=Value.none from r2)
  exact EqAt.same _
 |bl n b=>
  intro v u A r1 r2 _
  cases(show v=Value.bool b from r1)
  cases(show u=Value.bool b from r2)
  exact EqAt.same _
 | @tup n a b xs ys h1 h2 hl _ ih=>
  intro v u A r1 r2 hu
  cases(show v=Value.ref a from r1)
  cases(show u=Value.ref b from r2)
  by_cases hab:a=b
  ·rw[hab];exact EqAt.same _
  ·obtain⟨its,q1,p1,_⟩:=I.tuple (.inl h1)
   obtain⟨its2,q2,p2,_⟩:=I.tuple (.inl h2)
   have l1:=q1.length
   have l2:=q2.length
   have e:=RcAt.tuples (A:=A) (e:=fun _=>true) (show s.heap.IsTuple a its.toArray from p1) (show s.heap.IsTuple b its2.toArray from p2) (by omega) (fun j z1 z2=>by
    obtain⟨x,ex,rx⟩:=zA q1 (j:=j) (by simpa using z1)
    obtain⟨y,ey,ry⟩:=zA q2 (j:=j) (by simpa using z2)
    exact ih j x y ex ey rx ry (by rw[Around.in1_units];omega))
   rw[Z6,show(its.toArray.size==its2.toArray.size)=true by simp;omega]at e
   exact EqAt.of_refs hab e
 | @lst n a b xs ys h1 h2 hl _ ih=>
  intro v u A r1 r2 hu
  cases(show v=Value.ref a from r1)
  cases(show u=Value.ref b from r2)
  by_cases hab:a=b
  ·rw[hab];exact EqAt.same _
  ·obtain⟨its,q1,p1,_⟩:=I.list (SqL.of h1)
   obtain⟨its2,q2,p2,_⟩:=I.list (SqL.of h2)
   have l1:=q1.length
   have l2:=q2.length
   have e:=RcAt.lists (A:=A) (e:=fun _=>true) p1.isList p2.isList (by simp;omega) (by omega) (fun j z1 z2=>by
    obtain⟨x,ex,rx⟩:=zA q1 (j:=j) (by simpa using z1)
    obtain⟨y,ey,ry⟩:=zA q2 (j:=j) (by simpa using z2)
    exact ih j x y ex ey rx ry (by rw[Around.in1_units];omega))
   rw[Z6]at e
   exact EqAt.of_refs hab e
theorem uD(I:L2.Inv X pins σ H s){n:Nat}{x y:V}{v u:Value}{A:Around}(h:Eqd H n x y)(r1:RelV x v)(r2:RelV y u)(hu:A.units+n<cLine):RcAt A s v u true/\RcNeAt A s v u false:=by
 cases h with
 |int n i=>
  obtain⟨t,rfl⟩:=r1
  obtain⟨t',rfl⟩:=r2
  have e1:=RcAt.int_int (A:=A) (s:=s) i t i t'
  have e2:=RcNeAt.int_int (A:=A) (s:=s) i t i t'
  rw[beq_self_eq_true]at e1 e2
  exact⟨e1,e2⟩
 |str n z=>
  obtain⟨t,rfl⟩:=r1
  obtain⟨t',rfl⟩:=r2
  have e1:=RcAt.str_str (A:=A) (s:=s) z t z t'
  have e2:=RcNeAt.str_str (A:=A) (s:=s) z t z t'
  rw[beq_self_eq_true]at e1 e2
  exact⟨e1,e2⟩
 |non n=>
  cases(show v=Value.none from r1)
  cases(show u=Value.none from r2)
  exact⟨RcAt.none_none,RcNeAt.none_none⟩
 |bl n b=>
  cases(show v=Value.bool b from r1)
  cases(show u=Value.bool b from r2)
  have e1:=RcAt.bool_bool (A:=A) (s:=s) b b
  have e2:=RcNeAt.bool_bool (A:=A) (s:=s) b b
  rw[beq_self_eq_true]at e1 e2
  exact⟨e1,e2⟩
 | @tup n a b xs ys h1 h2 hl ih=>
  cases(show v=Value.ref a from r1)
  cases(show u=Value.ref b from r2)
  obtain⟨its,q1,p1,_⟩:=I.tuple (.inl h1)
  obtain⟨its2,q2,p2,_⟩:=I.tuple (.inl h2)
  have l1:=q1.length
  have l2:=q2.length
  have he:∀j (z1:j<its.toArray.size) (z2:j<its2.toArray.size),EqAt A.in1 s its.toArray[j] its2.toArray[j] ((fun _=>true) j):=fun j z1 z2=>by
   obtain⟨x,ex,rx⟩:=zA q1 (j:=j) (by simpa using z1)
   obtain⟨y,ey,ry⟩:=zA q2 (j:=j) (by simpa using z2)
   exact mK I (ih j x y ex ey) rx ry (by rw[Around.in1_units];omega)
  have e1:=RcAt.tuples (A:=A) (e:=fun _=>true) (show s.heap.IsTuple a its.toArray from p1) (show s.heap.IsTuple b its2.toArray from p2) (by omega) he
  have e2:=RcNeAt.tuples (A:=A) (e:=fun _=>true) (show s.heap.IsTuple a its.toArray from p1) (show s.heap.IsTuple b its2.toArray from p2) (by omega) he
  rw[Z6,show(its.toArray.size==its2.toArray.size)=true by simp;omega]at e1 e2
  exact⟨e1,e2⟩
 | @lst n a b xs ys h1 h2 hl ih=>
  cases(show v=Value.ref a from r1)
  cases(show u=Value.ref b from r2)
  obtain⟨its,q1,p1,_⟩:=I.list (SqL.of h1)
  obtain⟨its2,q2,p2,_⟩:=I.list (SqL.of h2)
  have l1:=q1.length
  have l2:=q2.length
  have he:∀j (z1:j<its.toArray.size) (z2:j<its2.toArray.size),EqAt A.in1 s its.toArray[j] its2.toArray[j] ((fun _=>true) j):=fun j z1 z2=>by
   obtain⟨x,ex,rx⟩:=zA q1 (j:=j) (by simpa using z1)
   obtain⟨y,ey,ry⟩:=zA q2 (j:=j) (by simpa using z2)
   exact mK I (ih j x y ex ey) rx ry (by rw[Around.in1_units];omega)
  have e1:=RcAt.lists (A:=A) (e:=fun _=>true) p1.isList p2.isList (by simp;omega) (by omega) he
  have e2:=RcNeAt.lists (A:=A) (e:=fun _=>true) p1.isList p2.isList (by simp;omega) (by omega) he
  rw[Z6]at e1 e2
  exact⟨e1,e2⟩
def wu(b:Bool):R2:=fun x y H Q=>∃n,n<=32/\Eqd H n x y/\Q (.bl b) H
theorem lF{k:Nat}(hr:Room k X.A):zc X (compareOp .NotEq) (wu false):=by
 intro pins s σ H x y v u Q I rx ry h
 obtain⟨n,hn,e,q⟩:=h
 exact(uD I e rx ry (by have:=hr.un;omega)).2 _ _ _ _ ⟨.bl _,H,I,rfl,q⟩
end
end L3
namespace L3
open PySem PySem.Spec PyProof.Rows L2
open Sem (wp)
def rj(x:Str):It:=⟨fun i _=>i<x.cps.size,fun i H v H'=>H'=H/\∃c,x.cps[i]? =some c/\v= .str ⟨#[c]⟩,fun i _=>x.cps.size<=i⟩
theorem oQ{P:Program}{w:World}{K:Frag}{tg:Expr}(it:Addr)(x:Str)(t:Tok):Turn P w K tg (rj x) [it] it (fun i h=>h.IsStrIter it "str_ascii_iterator" x t i) where
 mem:=by simp
 obj:=fun i h st b hb=>by
  have e:b=it:=by simpa using hb
  subst e
  obtain⟨o,e,c,d⟩:=st
  exact⟨o,e,fun v z=>by rw[d]at z;cases z⟩
 keep:=fun i h h' st k=>let⟨o,e,r⟩:=st;⟨o,k it (by simp) o e,r⟩
 item:=by
  intro X hP hw hK hc i pins s σ H E I hf st hg
  subst hP hw hK
  obtain⟨f0,f1,f2,f3,f4,f5⟩:=hf it (by simp)
  have W:=Walks.strAscii (prog:=X.prog) (w:=X.w) (I.ok.hd hc) it x t
  refine W.item i s _ _ hg st fun v h' tk hv st' kk=>?_
  obtain⟨c,u,hc',rfl⟩:=hv
  have I1:L2.Inv X pins σ H {s with heap:=h',toks:=tk}:=I.turned (fun b o hb e=>kk b o (by simpa using hb) e) f0 f1 f3 f4 f5
  obtain⟨o,e,cc,d⟩:=id st'
  exact⟨_,rfl,av (s:={s with heap:=h',toks:=tk}) e cc d (by decide) ⟨.str ⟨#[c]⟩,H,I1,⟨u,rfl⟩,⟨rfl,c,hc',rfl⟩,st',fun b hb=>(hf b hb).1⟩⟩
 done:=by
  intro X hP hw hK hc i pins s σ H E I hf st hg
  subst hP hw hK
  obtain⟨f0,f1,f2,f3,f4,f5⟩:=hf it (by simp)
  have hg':x.cps.size<=i:=hg
  exact wpAny_pyNext_ascii_end (I.ok.hd hc) st (by simp [hg']) fun h' eb=>⟨rfl,I.turned (t':=s.toks) (fun b o hb e=>eb b o hb e) f0 f1 f3 f4 f5⟩
 self:=fun _ _ _ _ _ st h=>wpAny_pyIter_striter_ascii st h
section
variable{X:Cx}{tg:Expr}
def vo(tl:TE):TI:=fun σ H R=>tl σ H fun v H1=>∃x,v= .str x/\x.cps.all (· <128)=true/\R (rj x) H1
theorem uK{l:Expr}{tl:TE}(hl:PE X l tl):PI X tg l (vo tl):=by
 intro pins s σ H R I h
 refine qB (hl pins s σ H _ I h) fun v s1 ⟨x,H1,I1,r1,q1⟩=>?_
 obtain⟨z,rfl,ha,q⟩:=q1
 obtain⟨t,rfl⟩:=r1
 refine wpAny_pyIter_ascii ha ?_
 refine⟨s1.heap.objs.size,[s1.heap.objs.size],_,_,H1,rfl,I1.kept (t':=s1.toks) fun b o e=>Heap.get?_push_of_some _ e,oQ _ z t,⟨_,Heap.get?_push_size _ rfl,rfl,rfl⟩,fun b hb=>?_,q⟩
 rw[List.mem_singleton.mp hb]
 exact I1.fpOk (Nat.le_refl _) (I1.hok.fresh (Nat.le_refl _))
theorem ni{l:Expr}{tl:TE}(hl:QE X l tl):QI X tg l (vo tl):=⟨uK hl.h⟩
end
theorem rW{x:Str}{g:TG}{tb:TS}{D:Ends}{σ:L2.St}{H:Hp}(Pv:Nat->L2.St->Hp->Prop)(h0:Pv 0 σ H)
  (hs:∀i c σ H,x.cps[i]? =some c->Pv i σ H->g (.str ⟨#[c]⟩) σ H fun σ2 H2=>tb {D with nx:=Pv (i+1),ct:=Pv (i+1),bk:=D.nx} σ2 H2)(hd:∀σ H,Pv x.cps.size σ H->D.nx σ H):Q7 (rj x) g tb D σ H:=
 bQ Pv h0 (fun i σ H hi p=>hi) (fun _=>Nat.le_refl _) (fun i v σ H H' hi p y=>by
  obtain⟨rfl,c,hc,rfl⟩:=y
  exact hs i c σ H' hc p) hd
section
variable{X:Cx}{o e:Expr}{es:List Expr}{to:TE}{t:TA}{name:Str}{apos cpos:Pos}{T id:String}{r:V->List V->Hp->VK->Prop}
theorem QZ(pa:PlainAttrs T)(slot:Slot T name id)(hty:typeOf (.builtin id)=pure (.type "method_descriptor"))(hm:kf X id r)(ho:QE X o to)(ha:QA X (e::es) t)
  (hbase:attributeBase o name X.env (eval o X.env)=eval o X.env:=by rfl)
  (hfew:((backTo cpos (starEach (e::es) X.env)).all (fun x=> !x.1)&&(backToKw cpos (keywordEach [] X.env)).all (fun x=>x.1.isSome)
   &&decide ((e::es).length+([]:List Keyword).length+(if([]:List Keyword).isEmpty then 0 else 1)<30))=true:=by rfl)
  (hline:(apos.endLine==cpos.line)=true:=by rfl)(hs:starEach (e::es) X.env=(false,eval e X.env)::starEach es X.env:=by rfl)(hplain:(backTo cpos (starEach es X.env)).any (·.1)=false:=by rfl):
  QE X (.Call (.Attribute o name apos) (e::es) [] cpos) (uu X.K T r to t):=⟨v5 pa slot hty hm ho.h ha.h hbase hfew hline hs hplain⟩
theorem zR:kf X "list.append" jB:=mD
end
theorem Z1(ns:List Int):∀n,n<=ns.length->preSum (fun i=>ns.getD i 0) n=(ns.take n).sum
 |0,_=>by simp [preSum]
 |n+1,h=>by
  have hn:n<ns.length:=by omega
  rw[preSum,Z1 ns n (by omega),List.take_add_one,List.getElem?_eq_getElem hn,Option.toList_some,List.sum_append,List.getD_eq_getElem?_getD,List.getElem?_eq_getElem hn]
  simp
theorem nj{B:Int}:∀{ns:List Int},(∀z∈ns,0<=z/\z<=B)->0<=ns.sum/\ns.sum<=ns.length*B
 | [],_=>⟨by simp,by simp⟩
 |n::r,h=>by
  have h1:=h n List.mem_cons_self
  have h2:=nj (ns:=r) fun z hz=>h z (List.mem_cons_of_mem _ hz)
  rw[List.sum_cons,List.length_cons]
  refine⟨by omega,?_⟩
  have:(((r.length+1:Nat):Int))*B=r.length*B+B:=by rw[Int.natCast_add,Int.add_mul];simp
  omega
section
variable{X:Cx}
theorem fV(hc:X.calm=true):qW X (.builtin "sum") (fun xs H Q=>∃(p:Addr) (ns:List Int),xs=[.ref p]/\Sq X.K H p (ns.map V.int)/\ns.length<=1000/\(∀z∈ns,0<=z/\z<=1000000)/\Q (.int ns.sum) H):=by
 intro pins s σ H xs us Q I r h
 obtain⟨p,ns,rfl,hq,hl,hb,q⟩:=h
 obtain⟨u,rfl,ru⟩:=Qb r
 cases ru
 have bd:∀n,n<=ns.length->0<=preSum (fun i=>ns.getD i 0) n/\preSum (fun i=>ns.getD i 0) n<=1000000000:=fun n hn=>by
  rw[Z1 ns n hn]
  have h1:=nj (B:=1000000) (ns:=ns.take n) fun z hz=>hb z (List.mem_of_mem_take hz)
  have h2:(ns.take n).length<=1000:=by rw[List.length_take];omega
  omega
 have fit:∀j,j<ns.length->InLong ((fun i=>ns.getD i 0) j)/\InLong (preSum (fun i=>ns.getD i 0) (j+1)):=fun j hj=>by
  have b1:=bd (j+1) (by omega)
  have b2:0<=ns.getD j 0/\ns.getD j 0<=1000000:=by
   rw[List.getD_eq_getElem?_getD,List.getElem?_eq_getElem hj];exact hb _ (List.getElem_mem hj)
  unfold InLong
  simp only
  omega
 have eS:preSum (fun i=>ns.getD i 0) ns.length=ns.sum:=by rw[Z1 ns _ (Nat.le_refl _),List.take_length]
 have val:∀{its:List Value},Vals (ns.map V.int) its->∀(i:Nat) (v:Value),its.toArray[i]? =some v->∃t,v= .int ((fun i=>ns.getD i 0) i) t:=fun{its} rv i v hv=>by
  have hv':its[i]? =some v:=by simpa using hv
  have hi:i<its.length:=(List.getElem?_eq_some_iff.mp hv').1
  obtain⟨x,ex,rx⟩:=zA rv hi
  obtain⟨z,rfl,hz⟩:=Qk ex
  obtain⟨t,ht⟩:=rx
  refine⟨t,?_⟩
  rw[(List.getElem?_eq_some_iff.mp hv').2]at ht
  rw[ht]
  show Value.int z t=Value.int (ns.getD i 0) t
  rw[List.getD_eq_getElem?_getD,hz];rfl
 rcases hq with hq|hq
 ·obtain⟨its,rv,pl,hz⟩:=I.list hq
  have hlen:ns.length=its.length:=by have:=rv.length;rwa [List.length_map]at this
  have hlt:p<s.heap.objs.size:=by obtain⟨_,e,_⟩:=pl.isList;exact Heap.lt_size e
  refine call_sum_walk (wpAny_pyIter_list pl.isList ?_)
  refine⟨s.heap.objs.size,[s.heap.objs.size,p],[s.heap.objs.size],its.toArray.size,_,_,fun i=>ns.getD i 0,rfl,Walks.list (A:=X.A.in1) (I.ok.hd hc) _ p (Nat.ne_of_lt hlt) its.toArray,
   ⟨⟨_,Heap.get?_push_size _ rfl,rfl,rfl⟩,pl.isList.push _⟩,fun b hb'=>?_,val rv,fun j hj=>fit j (by simp at hj;omega),fun h' tk t' hk=>?_⟩
  ·have sz:(s.heap.push {cls:= .type "list_iterator",data:= .fields #[.ref p,.int 0 0]}).objs.size=s.heap.objs.size+1:=Heap.size_push ..
   simp only[List.mem_cons,List.not_mem_nil,or_false]at hb'
   show b<(Heap.push s.heap _).objs.size
   rw[Heap.size_push]
   rcases hb' with rfl|rfl
   ·exact Nat.lt_succ_self _
   ·exact Nat.lt_succ_of_lt hlt
  ·have e2:preSum (fun i=>ns.getD i 0) its.toArray.size=ns.sum:=by rw[List.size_toArray,<- hlen];exact eS
   rw[e2]
   refine⟨.int _,H,I.kept (h':=h') (t':=tk) fun b o q=>hk b o (fun hm=>?_) (Heap.get?_push_of_some _ q),⟨_,rfl⟩,q⟩
   rw[List.mem_singleton.mp hm]at q
   exact Nat.lt_irrefl _ (Heap.lt_size q)
 ·obtain⟨its,rv,pl,hz⟩:=I.tuple hq
  have hlen:ns.length=its.length:=by have:=rv.length;rwa [List.length_map]at this
  have hT:s.heap.IsTuple p its.toArray:=pl
  have hlt:p<s.heap.objs.size:=by obtain⟨_,e,_⟩:=hT;exact Heap.lt_size e
  refine call_sum_walk (wpAny_pyIter_tuple hT ?_)
  refine⟨s.heap.objs.size,[s.heap.objs.size,p],[s.heap.objs.size],its.toArray.size,_,_,fun i=>ns.getD i 0,rfl,Walks.tuple (A:=X.A.in1) (I.ok.hd hc) _ p (Nat.ne_of_lt hlt) its.toArray,
   ⟨⟨_,Heap.get?_push_size _ rfl,rfl,rfl⟩,let⟨o,e,r⟩:=hT;⟨o,Heap.get?_push_of_some _ e,r⟩⟩,fun b hb'=>?_,val rv,fun j hj=>fit j (by simp at hj;omega),fun h' tk t' hk=>?_⟩
  ·simp only[List.mem_cons,List.not_mem_nil,or_false]at hb'
   show b<(Heap.push s.heap _).objs.size
   rw[Heap.size_push]
   rcases hb' with rfl|rfl
   ·exact Nat.lt_succ_self _
   ·exact Nat.lt_succ_of_lt hlt
  ·have e2:preSum (fun i=>ns.getD i 0) its.toArray.size=ns.sum:=by rw[List.size_toArray,<- hlen];exact eS
   rw[e2]
   refine⟨.int _,H,I.kept (h':=h') (t':=tk) fun b o q=>hk b o (fun hm=>?_) (Heap.get?_push_of_some _ q),⟨_,rfl⟩,q⟩
   rw[List.mem_singleton.mp hm]at q
   exact Nat.lt_irrefl _ (Heap.lt_size q)
end
end L3
namespace L3
open PySem PySem.Spec PyProof.Rows L2
section
variable{X:Cx}
theorem nO:n3 X (fun x y H Q=>∃(p:Addr) (xs:List V) (i:Nat) (v:V),x= .ref p/\y= .int (i:Int)/\H p=some (.lst xs)/\xs[i]? =some v/\Q v H):=by
 intro pins s σ H o i ov iv Q I r1 r2 h
 obtain⟨p,xs,j,v,rfl,rfl,hH,hv,q⟩:=h
 cases r1
 obtain⟨t,rfl⟩:=r2
 obtain⟨its,r,pl,hz⟩:=I.list (SqL.of hH)
 obtain⟨u,hu,ru⟩:=r.get hv
 have hl:=r.length
 have hn:=Za
 have hj:j<xs.length:=(List.getElem?_eq_some_iff.mp hv).1
 exact wpAny_getItem_list pl.isList (by omega) (by omega) (by simpa using hu) ⟨v,H,I,ru,q⟩
end
def QY(z:Str):Prop:=(∀c∈z.cps.toList,97<=c/\c<=122)/\1<=z.cps.toList.length/\z.cps.toList.length<=8
theorem ie{z:Str}(h:QY z):z.cps.all (· <128)=true:=by
 rw[Array.all_eq_true']
 intro c hc
 have:=h.1 c (by simpa using hc)
 simp;omega
def ox(c:Nat):List Int:=[((c:Int)-97)%16,((c:Int)-97)/16]
def Qz(cs:List Nat):List Int:=cs.flatMap ox
theorem mh(cs:List Nat)(c:Nat):Qz (cs++[c])=Qz cs++ox c:=by simp [Qz]
theorem fO(cs:List Nat):(Qz cs).length=2*cs.length:=by
 induction cs with
 |nil=>rfl
 |cons c r ih=>simp only[Qz,List.flatMap_cons,List.length_append,List.length_cons]at ih⊢;rw[ih];simp [ox];omega
def eN(ds:List Int)(j:Nat):Nat->Int
 |0=>0
 |n+1=>eN ds j n+if n%4=j then ds.getD n 0 else 0
def Q9(ds:List Int)(n:Nat):List Int:=[eN ds 0 n,eN ds 1 n,eN ds 2 n,eN ds 3 n]
theorem mX(ds:List Int)(n:Nat):(Q9 ds n).set (n%4) ((Q9 ds n).getD (n%4) 0+ds.getD n 0)=Q9 ds (n+1):=by
 have h:n%4=0\/n%4=1\/n%4=2\/n%4=3:=by omega
 rcases h with h|h|h|h<;>simp [Q9,eN,h]
def ZV(ds:List Int):List Int:=(Q9 ds ds.length).map (· %16)
theorem iq(ds:List Int):(ZV ds).length=4:=rfl
def gs:Sp:=fun vs H Q _=>∃z,vs=[.str z]/\QY z/\∀l H',Same H H'->H l=none->H' l=some (.lst ((Qz z.cps.toList).map V.int))->Q (.ref l) H'
def bP(K:Frag):Sp:=fun vs H Q _=>∃(a b:Addr) (z:Str) (t ks:List Int),vs=[.ref a,.ref b,.str z]/\Sq K H a (t.map V.int)/\Sq K H b (ks.map V.int)/\QY z/\t.length=16/\
 ∀p H',Same H H'->H p=none->H' p=some (.tup ((zW t ks (ZV (Qz z.cps.toList))).map V.int))->Q (.ref p) H'
theorem sF{cs:List Nat}{i c:Nat}(h:cs[i]? =some c):cs.take (i+1)=cs.take i++[c]:=by rw[List.take_add_one,h];rfl
theorem j8{z:Str}{i c:Nat}(h:z.cps[i]? =some c):z.cps.toList[i]? =some c:=by simpa using h
theorem oS{X:Cx}{scope:Scope}{y z:Str}{j k:Nat}(kind:scope.kind= .function)(names:∀x∈scope.names,x.2= .local->scope.names.lookup x.1=some .local)(nocell:∀x∈scope.names,x.2≠ .cell)
  (free:∀x∈scope.names,x.2= .free->x.1∈([y,z]:List Str))(h1:X.N[j]? =some y)(h2:X.env.kindOf y=some .cell)(h3:(relabel scope X.env).names.lookup y=some .cell)
  (g1:X.N[k]? =some z)(g2:X.env.kindOf z=some .cell)(g3:(relabel scope X.env).names.lookup z=some .cell):BScope X scope [y,z] [j,k]:=
 ⟨kind,names,nocell,free,rfl,fun i j' y' e1 e2=>by
  match i with
  |0=>cases e1;cases e2;exact⟨h1,h2,h3⟩
  |1=>cases e1;cases e2;exact⟨g1,g2,g3⟩
  |i+2=>simp at e1⟩
theorem oR{X:Cx}{y z:Str}{c d:Addr}(h:X.env.cells.lookup y=some c)(g:X.env.cells.lookup z=some d):∀u e,([(y,c),(z,d)]:List (Str×Addr)).lookup u=some e->X.env.cells.lookup u=some e:=fun u e he=>by
 by_cases hu:u=y
 ·subst hu
  simp at he
  rw[<- he];exact h
 ·by_cases hv:u=z
  ·subst hv
   simp [List.lookup_cons,show(u==y)=false from by simpa using hu]at he
   rw[<- he];exact g
  ·simp [List.lookup_cons,show(u==y)=false from by simpa using hu,show(u==z)=false from by simpa using hv]at he
end L3
namespace L3
open PySem PySem.Spec PyProof.Rows L2
open Sem (wp)
section
variable{prog:Program}{w:World}{A:Around}{E:Value->Shared->Prop}{s:Shared}
theorem dv{it t:Addr}{items:Array Value}(hne:t≠it):∀(n i:Nat) (s:Shared) (Q:List Value->Shared->Prop),s.heap.IsListIter it t i->s.heap.IsList t items->i+n<=items.size->
  (∀h',h'.IsListIter it t (i+n)->Heap.SameBut it s.heap h'->Q ((items.toList.drop i).take n) {s with heap:=h'})->wpAny (model prog w) A (draw (.ref it) n) Q E s
 |0,i,s,Q,hit,_,_,hQ=>by
  show wpAny _ _ (pure []) Q E s
  refine wpAny_pure ?_
  have:=hQ s.heap hit (Heap.SameBut.refl ..)
  simpa using this
 |n+1,i,s,Q,hit,ht,hle,hQ=>by
  have hlt:i<items.size:=by omega
  show wpAny _ _ (pyNext (.ref it) >>= _) Q E s
  refine wpAny_bind (wpAny_pyNext_list_item hit ht (x:=items[i]) (by simp [hlt]) fun h₁ hit₁ hs₁=>?_)
  have ht1:(Shared.heap {s with heap:=h₁}).IsList t items:=let⟨o,e,r⟩:=ht;⟨o,hs₁.extBut _ _ hne e,r⟩
  refine wpAny_bind (wpAny_holding (dv hne n (i+1) _ _ hit₁ ht1 (by omega) fun h₂ hit₂ hs₂=>wpAny_pure ?_))
  have hd:items.toList.drop i=items[i]::items.toList.drop (i+1):=by simp [List.drop_eq_getElem_cons,hlt]
  have z:=hQ h₂ (by rw[show i+(n+1)=i+1+n by omega];exact hit₂) (hs₁.trans hs₂)
  rw[hd,List.take_succ_cons]at z
  exact z
theorem h9{t:Addr}{items:Array Value}{targets:List (Bool×(Value->Sem Unit))}{Q:Unit->Shared->Prop}(hh:A.handled=none)(ht:s.heap.IsList t items)
  (hn:targets.length=items.size)(hstar:targets.findIdx? (·.1)=none)
  (h:∀h',Heap.ExtBut s.heap.objs.size s.heap h'->wpAny (model prog w) A (assignInOrder (targets.map (·.2)) items.toList) Q E {s with heap:=h'}):
  wpAny (model prog w) A (unpack (.ref t) targets) Q E s:=by
 have hlt:t≠s.heap.objs.size:=by obtain⟨o,ho,_⟩:=ht;exact Nat.ne_of_lt (Heap.lt_size ho)
 unfold unpack
 rw[hn,hstar]
 refine wpAny_bind (wpAny_holding ?_)
 unfold unpackItems
 refine wpAny_bind ?_
 unfold notIterableAtAll
 refine wpAny_bind (wpAny_specialOf ht.typeIs F.slot_list_iter.lookup ?_)
 refine wpAny_pure ?_
 simp only[Bool.false_eq_true,if_false]
 refine wpAny_bind (wpAny_holding (wpAny_pyIter_list ht ?_))
 refine wpAny_bind (wpAny_holding (dv hlt items.size 0 _ _ ⟨_,Heap.get?_push_size _ rfl,rfl,rfl⟩ (ht.push _) (by omega) fun h₁ hit₁ hs₁=>?_))
 have hall:List.take items.size (List.drop 0 items.toList)=items.toList:=by
  rw[List.drop_zero]
  exact List.take_of_length_le (by simp)
 rw[hall]
 rw[if_neg (by simp)]
 have ht₁:h₁.IsList t items:=let⟨o,e,r⟩:=ht.push _;⟨o,hs₁.extBut _ _ hlt e,r⟩
 refine wpAny_bind (wpAny_holding (wpAny_pyNext_list_end hh hit₁ ht₁ (by simp) fun h₂ he₂=>?_))
 simp only[Option.isSome_none,Bool.false_eq_true,if_false]
 exact wpAny_pure (h h₂ fun b o hb e=>he₂ b o hb (hs₁.extBut b o hb (Heap.get?_push_of_some _ e)))
end
section
variable{X:Cx}{pos:Pos}
def uZ(K:Frag)(n:Nat)(t:ZJ):TG:=fun v σ H Q=>∃a xs,v= .ref a/\Sq K H a xs/\xs.length=n/\t xs σ H Q
theorem tM{es:List Expr}{k:Nat}{t:ZJ}{n:Nat}(hc:X.calm=true)(h:kh X es t)
  (hn:(assignEach es X.env).length=n:=by rfl)(hst:(assignEach es X.env).findIdx? (·.1)=none:=by rfl):PG X (.Tuple es k pos) (uZ X.K n t):=by
 intro pins s σ H v u Q I r hw
 obtain⟨a,xs,e1,hq,hl,hw⟩:=hw
 rcases hq with hq|hq
 ·subst e1
  cases r
  obtain⟨its,rv,ht,hz⟩:=I.list hq
  rw[assign_Tuple]
  refine wpAny_bind (wpAny_standAt (h9 (I.ok.hd hc) ht.isList (by simp [hn,<- hl,rv.length]) hst fun h' hx=>?_))
  have I1:L2.Inv X pins σ H {s with heap:=h'}:=I.kept (t':=s.toks) fun b o e=>hx b o (Nat.ne_of_lt (Heap.lt_size e)) e
  exact h pins _ σ H xs _ Q I1 (by simpa using rv) hw
 ·exact iM hc h hn hst pins s σ H v u Q I r ⟨a,xs,e1,hq,hl,hw⟩
theorem Zc{es:List Expr}{k:Nat}{t:ZJ}{n:Nat}(hc:X.calm=true)(h:QGs X es t)
  (hn:(assignEach es X.env).length=n:=by rfl)(hst:(assignEach es X.env).findIdx? (·.1)=none:=by rfl):QG X (.Tuple es k pos) (uZ X.K n t):=⟨tM hc h.h hn hst⟩
end
end L3
namespace L3
open PySem PySem.Spec PyProof.Rows L2
open Sem (wp)
namespace RV
end RV
section
variable{prog:Program}{w:World}{A:Around}{E:Value->Shared->Prop}{s:Shared}
end
section
variable{X:Cx}
end
end L3
namespace L3
open PySem PySem.Spec PyProof.Rows L2
def zn(c d:Int):List Int:=[c%16,c/16%16,c/256,d]
def Zo(c d:Int):List Int:=zn c d++[(zn c d).sum%16]
def ZU(t ks:List Int)(z:Str):List Int:=zW t ks (ZV (Qz z.cps.toList))
def Zm(t ks:List Int)(z:Str)(c d:Int):List Int:=zW t (ZU t ks z) (Zo c d)
def db(r:List Int):Option (Int×Int):=if r.getD 4 0=(r.getD 0 0+r.getD 1 0+r.getD 2 0+r.getD 3 0)%16 then some (r.getD 0 0+r.getD 1 0*16+r.getD 2 0*256,r.getD 3 0)else none
def Qa(t ks:List Int)(z:Str)(ds:List Int):Option (Int×Int):=db (QD (zi t) (ZU t ks z) ds)
theorem au(c d:Int):(Zo c d).length=5:=rfl
theorem hV(c d:Int):(zn c d).sum=c%16+c/16%16+c/256+d:=by simp [zn];omega
theorem cL{c d:Int}(h0:0<=c)(h1:c<4096)(hd:ZO d):q9 (Zo c d):=fun x hx=>by
 simp only[Zo,zn,List.cons_append,List.nil_append,List.mem_cons,List.not_mem_nil,or_false]at hx
 rcases hx with rfl|rfl|rfl|rfl|rfl
 ·exact Qo _
 ·exact Qo _
 ·exact⟨by omega,by omega⟩
 ·exact hd
 ·exact Qo _
theorem nF{c d:Int}(h0:0<=c)(h1:c<4096):db (Zo c d)=some (c,d):=by
 have e:(Zo c d)=[c%16,c/16%16,c/256,d,(c%16+c/16%16+c/256+d)%16]:=by unfold Zo;rw[hV];rfl
 unfold db
 rw[e]
 show(if(c%16+c/16%16+c/256+d)%16=(c%16+c/16%16+c/256+d)%16 then some (c%16+c/16%16*16+c/256*256,d)else none)=_
 rw[if_pos rfl,show c%16+c/16%16*16+c/256*256=c by omega]
theorem sj{r:List Int}(hl:r.length=5):∃a b c d e:Int,r=[a,b,c,d,e]:=by
 match r,hl with
 | [a,b,c,d,e],_=>exact⟨a,b,c,d,e,rfl⟩
theorem nz(t ks:List Int)(z:Str)(c d:Int):(Zm t ks z c d).length=5:=by unfold Zm;rw[Zy,au]
theorem oP{t ks:List Int}(p:t.Perm digs){z:Str}{c d:Int}(h0:0<=c)(h1:c<4096)(hd:ZO d):q9 (Zm t ks z c d):=cJ p (cL h0 h1 hd)
theorem bE{t ks:List Int}(p:t.Perm digs){z:Str}{c d:Int}(h0:0<=c)(h1:c<4096)(hd:ZO d):Qa t ks z (Zm t ks z c d)=some (c,d):=by
 unfold Qa Zm
 rw[cx p (cL h0 h1 hd) (by rw[au];decide),nF h0 h1]
def bw(H:Hp)(x:V):Option (Int×Int)->Prop
 |none=>x= .non
 |some (c,d)=>∃p,x= .ref p/\H p=some (.tup [.int c,.int d])
def tJ:Sp:=fun vs H Q _=>∃c:Int,vs=[.int c]/\∀p H',Same H H'->H' p=some (.tup [.int (c%16),.int (c/16%16),.int (c/256)])->Q (.ref p) H'
def jO(K:Frag):Sp:=fun vs H Q _=>∃(a b:Addr) (z:Str) (age c d:Int) (t ks:List Int),vs=[.ref a,.ref b,.str z,.int age,.int c,.int d]/\Sq K H a (t.map V.int)/\Sq K H b (ks.map V.int)/\QY z/\t.length=16/\0<=c/\c<4096/\ZO d/\
 ∀p pc H',Same H H'->H' p=some (.tup [.str z,.int age,.ref pc])->H' pc=some (.tup ((Zm t ks z c d).map V.int))->Q (.ref p) H'
def hU(K:Frag):Sp:=fun vs H Q _=>∃(a b pr pc:Addr) (z:Str) (age:Int) (t ks ds:List Int),vs=[.ref a,.ref b,.ref pr]/\Sq K H a (t.map V.int)/\Sq K H b (ks.map V.int)/\Sq K H pr [.str z,.int age,.ref pc]/\Sq K H pc (ds.map V.int)/\QY z/\t.Perm digs/\ds.length=5/\q9 ds/\
 ∀x H',Same H H'->bw H' x (Qa t ks z ds)->Q x H'
end L3
namespace L2
open PySem PySem.Spec PyProof.Rows
section
variable{κ:Type} [DecidableEq κ]
def zy(kvs:List (κ×V))(k:κ):Option V:=(kvs.find? fun kv=>decide (kv.1=k)).map (·.2)
def putK(kvs:List (κ×V))(k:κ)(v:V):List (κ×V):=
 if(kvs.any fun kv=>decide (kv.1=k))=true then kvs.map (fun kv=>if kv.1=k then(kv.1,v)else kv)else kvs++[(k,v)]
theorem zt{p:κ×V}{r:List (κ×V)}{k:κ}(e:p.1=k):zy (p::r) k=some p.2:=by simp [zy,List.find?_cons,e]
theorem zu{p:κ×V}{r:List (κ×V)}{k:κ}(e:¬p.1=k):zy (p::r) k=zy r k:=by simp [zy,List.find?_cons,e]
theorem aH(k:κ):∀kvs:List (κ×V),(kvs.any fun kv=>decide (kv.1=k))=(zy kvs k).isSome
 | []=>rfl
 |p::r=>by
  rw[List.any_cons]
  by_cases e:p.1=k
  ·simp only[zt e,decide_eq_true e,Bool.true_or,Option.isSome_some]
  ·rw[zu e,decide_eq_false e,Bool.false_or];exact aH k r
theorem iY(k j:κ)(y:V):∀kvs:List (κ×V),zy (kvs.map fun kv=>if kv.1=k then(kv.1,y)else kv) j=(zy kvs j).map fun x=>if j=k then y else x
 | []=>rfl
 |p::r=>by
  have ih:=iY k j y r
  rw[List.map_cons]
  by_cases h:p.1=k
  ·rw[if_pos h]
   by_cases e:p.1=j
   ·rw[zt (p:=(p.1,y)) e,zt e,Option.map_some,if_pos (e.symm.trans h)]
   ·rw[zu (p:=(p.1,y)) e,zu e,ih]
  ·rw[if_neg h]
   by_cases e:p.1=j
   ·rw[zt (p:=p) e,zt e,Option.map_some,if_neg (fun z=>h (e.trans z))]
   ·rw[zu (p:=p) e,zu e,ih]
theorem f7(k j:κ)(y:V):∀kvs:List (κ×V),zy kvs k=none->zy (kvs++[(k,y)]) j=if j=k then some y else zy kvs j
 | [],_=>by
  by_cases e:k=j
  ·rw[if_pos e.symm];exact zt (p:=(k,y)) e
  ·rw[if_neg (fun z=>e z.symm)];exact zu (p:=(k,y)) e
 |p::r,hn=>by
  rw[List.cons_append]
  have hk:¬p.1=k:=fun z=>by rw[zt z]at hn;cases hn
  rw[zu hk]at hn
  have ih:=f7 k j y r hn
  by_cases e:p.1=j
  ·rw[zt e,zt e,if_neg (fun z=>hk (e.trans z))]
  ·rw[zu e,zu e,ih]
theorem gZ(kvs:List (κ×V))(k j:κ)(y:V):zy (putK kvs k y) j=if j=k then some y else zy kvs j:=by
 unfold putK
 by_cases a:(kvs.any fun kv=>decide (kv.1=k))=true
 ·rw[if_pos a,iY]
  rw[aH]at a
  by_cases e:j=k
  ·obtain⟨x,hx⟩:=Option.isSome_iff_exists.mp a
   rw[if_pos e,e,hx,Option.map_some,if_pos rfl]
  ·rw[if_neg e]
   cases zy kvs j with
   |none=>rfl
   |some x=>rw[Option.map_some,if_neg e]
 ·rw[if_neg a]
  refine f7 k j y kvs ?_
  rw[aH]at a
  cases q:zy kvs k with
  |none=>rfl
  |some x=>rw[q]at a;exact(a rfl).elim
theorem Z5(kvs:List (κ×V))(k:κ)(v:V):(putK kvs k v).length<=kvs.length+1:=by
 unfold putK
 split
 ·rw[List.length_map];omega
 ·rw[List.length_append,List.length_cons,List.length_nil];omega
theorem RelO.isSome_eq{o:Option V}{u:Option Value}(r:RelO o u):o.isSome=u.isSome:=by
 cases o with
 |none=>cases u with
  |none=>rfl
  |some _=>exact(show False from r).elim
 |some _=>cases u with
  |none=>exact(show False from r).elim
  |some _=>rfl
theorem RelO.getD{o:Option V}{u:Option Value}{d:V}{d':Value}(r:RelO o u)(rd:RelV d d'):RelV (o.getD d) (u.getD d'):=by
 cases o with
 |none=>cases u with
  |none=>exact rd
  |some _=>exact(show False from r).elim
 |some _=>cases u with
  |none=>exact(show False from r).elim
  |some _=>exact r
theorem KV.val{kvs:List (κ×V)}{vs:List (κ×Value)}(r:KV kvs vs)(k:κ):RelO (zy kvs k) (valueAt vs k):=by
 unfold KV at r
 induction r with
 |nil=>exact True.intro
 | @cons p q ps qs h t ih=>
  obtain⟨h1,h2⟩:=h
  by_cases e:p.1=k
  ·have e':q.1=k:=h1.symm.trans e
   have b:valueAt (q::qs) k=some q.2:=by simp [valueAt,List.find?_cons,e']
   rw[zt e,b];exact h2
  ·have e':¬q.1=k:=fun z=>e (h1.trans z)
   have b:valueAt (q::qs) k=valueAt qs k:=by simp [valueAt,List.find?_cons,e']
   rw[zu e,b];exact ih
theorem KV.any{kvs:List (κ×V)}{vs:List (κ×Value)}(r:KV kvs vs)(k:κ):(kvs.any fun kv=>decide (kv.1=k))=vs.any fun kv=>decide (kv.1=k):=by
 unfold KV at r
 induction r with
 |nil=>rfl
 |cons h t ih=>rw[List.any_cons,List.any_cons,ih,h.1]
theorem KV.repl{kvs:List (κ×V)}{vs:List (κ×Value)}(r:KV kvs vs)(k:κ){y:V}{u:Value}(ry:RelV y u):
  KV (kvs.map fun kv=>if kv.1=k then(kv.1,y)else kv) (vs.map fun kv=>if kv.1=k then(kv.1,u)else kv):=by
 unfold KV at r⊢
 induction r with
 |nil=>exact .nil
 | @cons p q ps qs h t ih=>
  rw[List.map_cons,List.map_cons]
  refine .cons ?_ ih
  obtain⟨h1,h2⟩:=h
  by_cases e:p.1=k
  ·rw[if_pos e,if_pos (h1.symm.trans e)];exact⟨h1,ry⟩
  ·rw[if_neg e,if_neg (fun z=>e (h1.trans z))];exact⟨h1,h2⟩
theorem KV.put{kvs:List (κ×V)}{vs:List (κ×Value)}(r:KV kvs vs)(k:κ){y:V}{u:Value}(ry:RelV y u):KV (putK kvs k y) (stored vs k u):=by
 unfold putK stored
 rw[r.any k]
 by_cases e:(vs.any fun kv=>decide (kv.1=k))=true
 ·rw[if_pos e,if_pos e];exact r.repl k ry
 ·rw[if_neg e,if_neg e];exact Paired.snoc r ⟨rfl,ry⟩
theorem KV.keys{kvs:List (κ×V)}{vs:List (κ×Value)}(r:KV kvs vs):kvs.map (·.1)=vs.map (·.1):=by
 unfold KV at r
 induction r with
 |nil=>rfl
 |cons h t ih=>rw[List.map_cons,List.map_cons,ih,h.1]
theorem KV.length{kvs:List (κ×V)}{vs:List (κ×Value)}(r:KV kvs vs):kvs.length=vs.length:=Paired.length r
end
theorem ZK{P:Program}{w:World}{k:qt}{u:Value}(r:RelV (kV k) u):(qN P w).is k u=true:=by
 cases k with
 |inl i=>obtain⟨t,e⟩:=(show∃t,u=Value.int i t from r);subst e;exact jp P w i t
 |inr x=>obtain⟨t,e⟩:=(show∃t,u=Value.str x t from r);subst e;exact jt P w x t
theorem fD{P:Program}{w:World}:∀{ks:List qt} {us:List Value},Vals (ks.map kV) us->ItemsAre (qN P w) ks us
 | [],_,r=>by rw[List.map_nil]at r;cases r;exact .nil
 |k::ks,_,r=>by
  rw[List.map_cons]at r
  cases r with
  |cons h t=>exact .cons (ZK h) (fD t)
abbrev KT(H:Hp):List (List qt×V)->List (List qt×Addr×Value)->Prop:=Paired fun p q=>p.1=q.1/\H q.2.1=some (.tup (p.1.map kV))/\RelV p.2 q.2.2
theorem KT.val{H:Hp}{kvs:List (List qt×V)}{xs:List (List qt×Addr×Value)}(r:KT H kvs xs)(k:List qt):RelO (zy kvs k) ((atKey xs k).map (·.2)):=by
 induction r with
 |nil=>exact True.intro
 | @cons p q ps qs h t ih=>
  obtain⟨h1,_,h2⟩:=h
  by_cases e:p.1=k
  ·have e':q.1=k:=h1.symm.trans e
   have b:atKey (q::qs) k=some q.2:=by simp [atKey,List.find?_cons,e']
   rw[zt e,b];exact h2
  ·have e':¬q.1=k:=fun z=>e (h1.trans z)
   have b:atKey (q::qs) k=atKey qs k:=by simp [atKey,List.find?_cons,e']
   rw[zu e,b];exact ih
theorem KT.repl{H:Hp}{kvs:List (List qt×V)}{xs:List (List qt×Addr×Value)}(r:KT H kvs xs)(k:List qt){y:V}{u:Value}(ry:RelV y u):
  KT H (kvs.map fun kv=>if kv.1=k then(kv.1,y)else kv) (xs.map (putAt k u)):=by
 induction r with
 |nil=>exact .nil
 | @cons p q ps qs h t ih=>
  rw[List.map_cons,List.map_cons]
  refine .cons ?_ ih
  obtain⟨h1,h2,h3⟩:=h
  unfold putAt
  by_cases e:p.1=k
  ·rw[if_pos e,if_pos (h1.symm.trans e)];exact⟨h1,h2,ry⟩
  ·rw[if_neg e,if_neg (fun z=>e (h1.trans z))];exact⟨h1,h2,h3⟩
theorem KT.put{H:Hp}{kvs:List (List qt×V)}{xs:List (List qt×Addr×Value)}(r:KT H kvs xs)(k:List qt){b:Addr}{y:V}{u:Value}(hb:H b=some (.tup (k.map kV)))(ry:RelV y u):
  KT H (putK kvs k y) (storedH xs k b u):=by
 have e:(kvs.any fun kv=>decide (kv.1=k))=(atKey xs k).isSome:=by
  rw[aH,(r.val k).isSome_eq,Option.isSome_map]
 unfold putK storedH
 rw[e]
 by_cases q:(atKey xs k).isSome=true
 ·rw[if_pos q,if_pos q];exact r.repl k ry
 ·rw[if_neg q,if_neg q];exact Paired.snoc r ⟨rfl,hb,ry⟩
theorem KT.keeps{H H':Hp}{kvs:List (List qt×V)}{xs:List (List qt×Addr×Value)}(r:KT H kvs xs)(ht:∀b ys,H b=some (.tup ys)->H' b=some (.tup ys)):KT H' kvs xs:=
 Paired.mapP r fun _ _ z=>⟨z.1,ht _ _ z.2.1,z.2.2⟩
section
variable{P:Program}{w:World}{H:Hp}{h:Heap}{a:Addr}
theorem rD{u:HO}(ok:HOk P w H h)(e:Rd H a u):ObjOk P w H h a u:=e.ok ok
theorem Zk{kvs:List (qt×V)}(ok:HOk P w H h)(e:Rd H a (.dK kvs)):kvs.length<=sizeLine/\(a==sysModules)=false/\∃vs,KV kvs vs/\h.DictOf (qN P w) a vs:=
 show ObjOk P w H h a (.dK kvs)from rD ok e
theorem gM{kvs:List (qt×V)}(ok:HOk P w H h)(e:H a=some (.dK kvs)):kvs.length<=sizeLine/\(a==sysModules)=false/\∃vs,KV kvs vs/\h.DictOf (qN P w) a vs:=Zk ok (.inl e)
theorem Z9{ks:List qt}(ok:HOk P w H h)(e:H a=some (.tup (ks.map kV))):(tupleKind (qN P w)).is h ks a:=by
 obtain⟨_,its,r,o,h1,h2,n,h3⟩:=(show ObjOk P w H h a (.tup (ks.map kV))from ok a _ e)
 exact⟨o,its.toArray,n,h1,h2,h3,by simpa using fD r⟩
theorem aD{kvs:List (List qt×V)}(ok:HOk P w H h)(e:Rd H a (.dT kvs)):kvs.length<=sizeLine/\(a==sysModules)=false/\
  ∃xs,KT H kvs xs/\h.DictOfH (tupleKind (qN P w)) a xs:=by
 obtain⟨z,y,xs,r,o,es,ep,h1,h2,h3,h4,h5⟩:=(show ObjOk P w H h a (.dT kvs)from rD ok e)
 refine⟨z,y,xs,r,o,es,ep,h1,h2,h3,h4,fun x hx=>?_,h5⟩
 have all:∀{l:List (List qt×V)} {m:List (List qt×Addr×Value)},KT H l m->∀x∈m,(tupleKind (qN P w)).is h x.1 x.2.1:=by
  intro l m q
  induction q with
  |nil=>intro x hx;exact nomatch hx
  | @cons p q ps qs hq t ih=>
   intro x hx
   rcases List.mem_cons.mp hx with e|hx
   ·subst e
    exact Z9 ok (by rw[<- hq.1];exact hq.2.1)
   ·exact ih x hx
 exact all r x hx
theorem vI{kvs:List (List qt×V)}(ok:HOk P w H h)(e:H a=some (.dT kvs)):kvs.length<=sizeLine/\(a==sysModules)=false/\
  ∃xs,KT H kvs xs/\h.DictOfH (tupleKind (qN P w)) a xs:=aD ok (.inl e)
end
def DGet(H:Hp)(a:Addr)(y:V)(r:Option V):Prop:=
 (∃kvs k,Rd H a (.dK kvs)/\y=kV k/\r=zy kvs k)\/∃kvs k b,Rd H a (.dT kvs)/\y= .ref b/\H b=some (.tup (k.map kV))/\r=zy kvs k
def DPut(H:Hp)(a:Addr)(y v:V)(H':Hp):Prop:=
 (∃kvs k,H a=some (.dK kvs)/\y=kV k/\kvs.length<sizeLine/\H'=upd H a (.dK (putK kvs k v)))\/
 ∃kvs k b,H a=some (.dT kvs)/\y= .ref b/\H b=some (.tup (k.map kV))/\kvs.length<sizeLine/\H'=upd H a (.dT (putK kvs k v))
theorem DGet.k{H:Hp}{a:Addr}{kvs:List (qt×V)}{k:qt}(e:H a=some (.dK kvs)):DGet H a (kV k) (zy kvs k):= .inl ⟨kvs,k,.inl e,rfl,rfl⟩
theorem DPut.k{H:Hp}{a:Addr}{kvs:List (qt×V)}{k:qt}{v:V}(e:H a=some (.dK kvs))(hl:kvs.length<sizeLine):DPut H a (kV k) v (upd H a (.dK (putK kvs k v))):= .inl ⟨kvs,k,e,rfl,hl,rfl⟩
section
variable{X:Cx}{pins:List (Addr×Obj)}{σ:St}{H:Hp}{s:Shared}{a:Addr}{y v:V}{u r:Value}{o:Option V}{A:Around}{E:Value->Shared->Prop}
theorem Inv.big(I:Inv X pins σ H s):sysModules<s.heap.objs.size:=by
 have h:mainGlobals<s.heap.objs.size:=(I.mod.glob.keeps I.bk).lt
 exact Nat.lt_trans (by decide) h
theorem mj{Q:Value->Shared->Prop}(hu:A.units+1<cLine)(I:Inv X pins σ H s)(g:DGet H a y (some v))(ry:RelV y u)(h:∀w' s',Inv X pins σ H s'->RelV v w'->Q w' s'):
  wpAny (model X.prog X.w) A (getItem (.ref a) u) Q E s:=by
 rcases g with⟨kvs,k,e,ey,l⟩|⟨kvs,k,b,e,ey,eb,l⟩
 ·subst ey
  obtain⟨z,hd,vs,rel,dd⟩:=Zk I.hok e
  obtain⟨w',hw,rw'⟩:=RelO.some_of (v:=v) (o:=valueAt vs k) (by rw[l];exact rel.val k)
  exact wpAny_getItem_of (ZK ry) dd.mapOf hw (h w' _ (I.tok _) rw')
 ·subst ey
  cases(show u=Value.ref b from ry)
  obtain⟨z,hd,xs,rel,dd⟩:=aD I.hok e
  obtain⟨w',hw,rw'⟩:=RelO.some_of (v:=v) (o:=(atKey xs k).map (·.2)) (by rw[l];exact rel.val k)
  obtain⟨p,hp,hp2⟩:=Option.map_eq_some_iff.mp hw
  refine wpAny_getItem_heap (tupleKind_room_in1 hu) (Z9 I.hok eb) dd hp ?_
  rw[hp2]
  exact h w' _ (I.tok _) rw'
theorem wN{Q:Value->Shared->Prop}(hu:A.units+1<cLine)(I:Inv X pins σ H s)(g:DGet H a y o)(ry:RelV y u)(h:∀s',Inv X pins σ H s'->Q (.bool o.isSome) s'):
  wpAny (model X.prog X.w) A (compareOp .In u (.ref a)) Q E s:=by
 rcases g with⟨kvs,k,e,ey,l⟩|⟨kvs,k,b,e,ey,eb,l⟩
 ·subst ey
  obtain⟨z,hd,vs,rel,dd⟩:=Zk I.hok e
  refine wpAny_in_of (ZK ry) hd dd.mapOf ?_
  rw[<- (rel.val k).isSome_eq,<- l]
  exact h _ (I.tok _)
 ·subst ey
  cases(show u=Value.ref b from ry)
  obtain⟨z,hd,xs,rel,dd⟩:=aD I.hok e
  refine wpAny_in_heap (tupleKind_room_in1 hu) (Z9 I.hok eb) hd dd ?_
  have q:=(rel.val k).isSome_eq
  rw[Option.isSome_map]at q
  rw[<- q,<- l]
  exact h _ (I.tok _)
theorem rK{Q:Value->Shared->Prop}(hu:A.units+1<cLine)(I:Inv X pins σ H s)(g:DGet H a y o)(ry:RelV y u)(h:∀s',Inv X pins σ H s'->Q (.bool (!o.isSome)) s'):
  wpAny (model X.prog X.w) A (compareOp .NotIn u (.ref a)) Q E s:=by
 rcases g with⟨kvs,k,e,ey,l⟩|⟨kvs,k,b,e,ey,eb,l⟩
 ·subst ey
  obtain⟨z,hd,vs,rel,dd⟩:=Zk I.hok e
  refine wpAny_notIn_of (ZK ry) hd dd.mapOf ?_
  rw[<- (rel.val k).isSome_eq,<- l]
  exact h _ (I.tok _)
 ·subst ey
  cases(show u=Value.ref b from ry)
  obtain⟨z,hd,xs,rel,dd⟩:=aD I.hok e
  refine wpAny_notIn_heap (tupleKind_room_in1 hu) (Z9 I.hok eb) hd dd ?_
  have q:=(rel.val k).isSome_eq
  rw[Option.isSome_map]at q
  rw[<- q,<- l]
  exact h _ (I.tok _)
theorem eQ{h':Heap}{t':Nat}{ob:HO}(I:Inv X pins σ H s)(mu:mO (H a))(hs:Heap.SameBut a s.heap h')(he:∃q,h'.get? a=some q)(new:ObjOk X.prog X.w (upd H a ob) h' a ob):
  Inv X pins σ (upd H a ob) {s with heap:=h',toks:=t'}:=
 I.write (x:=a) (e:=a) mu (.inl rfl) (fun b q hb z=>(hs.2 b hb).trans z) he new
theorem eI{P:Program}{w:World}{H':Hp}{h':Heap}{kvs:List (qt×V)}{vs:List (qt×Value)}(z:kvs.length<=sizeLine)(hd:(a==sysModules)=false)(rel:KV kvs vs)(dd:h'.DictOf (qN P w) a vs):
  ObjOk P w H' h' a (.dK kvs):=⟨z,hd,vs,rel,dd⟩
theorem nG{H':Hp}{Q:Unit->Shared->Prop}(hu:A.units+1<cLine)(I:Inv X pins σ H s)(g:DPut H a y v H')(ry:RelV y u)(rv:RelV v r)(h:∀s',Inv X pins σ H' s'->Q () s'):
  wpAny (model X.prog X.w) A (setItem (.ref a) u r) Q E s:=by
 rcases g with⟨kvs,k,e,ey,l,eH⟩|⟨kvs,k,b,e,ey,eb,l,eH⟩
 ·subst ey eH
  obtain⟨z,hd,vs,rel,dd⟩:=gM I.hok e
  have hz:vs.length<=sizeLine:=by rw[<- rel.length];exact z
  have hl:(putK kvs k v).length<=sizeLine:=by have:=Z5 kvs k v;omega
  refine wpAny_setItem_pairs (hsz:=hz) (ZK ry) dd fun h' dd' hs=>h _ ?_
  have he:∃q,h'.get? a=some q:=let⟨q,_,_,hq,_⟩:=dd';⟨q,hq⟩
  exact eQ I (by rw[e];exact True.intro) hs he (eI hl hd (rel.put k rv) dd')
 ·subst ey eH
  cases(show u=Value.ref b from ry)
  obtain⟨z,hd,xs,rel,dd⟩:=vI I.hok e
  have hz:xs.length<=sizeLine:=by rw[<- Paired.length rel];exact z
  have hl:(putK kvs k v).length<=sizeLine:=by have:=Z5 kvs k v;omega
  refine wpAny_setItem_heap (hsz:=hz) (tupleKind_room_in1 hu) (Z9 I.hok eb) dd fun h' dd' hs=>h _ ?_
  obtain⟨q,es,ep,hq,h2,h3,h4,_,h5⟩:=dd'
  refine eQ I (by rw[e];exact True.intro) hs ⟨q,hq⟩ ⟨hl,hd,_,(rel.put k eb rv).keeps fun c ys ec=>?_,q,es,ep,hq,h2,h3,h4,h5⟩
  rw[qh (qC ec e (fun z=>nomatch z))]
  exact ec
end
section
variable{X:Cx}{pins:List (Addr×Obj)}{σ:St}{H:Hp}{s:Shared}{a:Addr}{kvs:List (qt×V)}{k:qt}{u:Value}{A:Around}{E:Value->Shared->Prop}
theorem vV{Q:Value->Shared->Prop}(I:Inv X pins σ H s)(e:Rd H a (.dK kvs))(h:∀t s',Inv X pins σ H s'->Q (.int kvs.length t) s'):wpAny (model X.prog X.w) A (call (.builtin "len") [.ref a]) Q E s:=by
 obtain⟨z,hd,vs,rel,dd⟩:=Zk I.hok e
 refine call_len_dict hd dd (by rw[<- rel.length];rw[sizeLine_eq]at z;omega) ?_
 rw[<- rel.length]
 exact h _ _ (I.tok _)
end
def oK(i:Expr):Prop:=∀ov iv,subscripted i false ov iv=operate [ov,iv] (getItem ov iv)
theorem rS{prog:Program}{w:World}{A:Around}{E:Value->Shared->Prop}{s:Shared}{env:Env}{value slice:Expr}{pos:Pos}{T id:String}{Q:Value->Shared->Prop}
  (hl:typeLookup (.type T) "__getitem__"=pure (some (.builtin id)))(hs:oK slice)
  (h:wpAny (model prog w) A (eval value env) (fun o s₁=>wpAny (model prog w) A (eval slice env) (fun i s₂=>s₂.TypeIs o T/\wpAny (model prog w) A (getItem o i) Q E s₂) E s₁) E s):
  wpAny (model prog w) A (eval (.Subscript value slice pos) env) Q E s:=by
 refine Subscript_ (wpAny_mono h (fun o s₁ h₁=>wpAny_mono h₁ (fun i s₂ h₂=>?_) fun _ _ x=>x) fun _ _ x=>x)
 obtain⟨hT,h₂⟩:=h₂
 unfold subscriptTail
 refine wpAny_bind ?_
 rw[getitemInPython_of_ne hT.not_modules]
 refine wpAny_bind (wpAny_specialOf hT hl ?_)
 have fin:wpAny (model prog w) A (subscripted slice false o i) (fun r s₃=>wpAny (model prog w) A (letTemporaryGo value o r >>= fun _=>pure r) Q E s₃) E s₂:=by
  rw[hs o i]
  exact wpAny_operating (wpAny_mono h₂ (fun r s₃ h₃=>wpAny_bind (wpAny_letTemporaryGo (wpAny_pure h₃))) fun _ _ x=>x)
 first
  |exact wpAny_pure (wpAny_bind fin)
  |exact wpAny_bind (wpAny_pure (wpAny_bind fin))
  |exact wpAny_bind fin
theorem jq{X:Cx}{pins:List (Addr×Obj)}{σ:St}{H:Hp}{s:Shared}{a:Addr}{y:V}{o:Option V}(I:Inv X pins σ H s)(g:DGet H a y o):s.TypeIs (.ref a) "dict":=by
 rcases g with⟨kvs,k,e,_,_⟩|⟨kvs,k,b,e,_,_,_⟩
 ·obtain⟨_,_,vs,_,dd⟩:=Zk I.hok e
  exact dd.typeIs
 ·obtain⟨_,_,xs,_,dd⟩:=aD I.hok e
  exact dd.typeIs
def pM(td ty:TE):TE:=fun σ H Q=>td σ H fun x H1=>ty σ H1 fun y H2=>∃a v,x= .ref a/\DGet H2 a y (some v)/\Q v H2
def uz(ty td:TE):TE:=fun σ H Q=>ty σ H fun y H1=>td σ H1 fun x H2=>∃a o,x= .ref a/\DGet H2 a y o/\Q (.bl o.isSome) H2
def j6(ty td:TE):TE:=fun σ H Q=>ty σ H fun y H1=>td σ H1 fun x H2=>∃a o,x= .ref a/\DGet H2 a y o/\Q (.bl (!o.isSome)) H2
def rh(td ty tv:TE):TS:=fun D σ H=>tv σ H fun v H1=>td σ H1 fun x H2=>ty σ H2 fun y H3=>∃a H4,x= .ref a/\DPut H3 a y v H4/\D.nx σ H4
section
variable{X:Cx}{o i e value:Expr}{pos pos' tpos:Pos}{td ty tv:TE}
theorem sA(hu:X.A.units+1<cLine)(ho:PE X o td)(hi:PE X i ty)(hs:oK i):PE X (.Subscript o i pos) (pM td ty):=by
 intro pins s σ H Q I h
 refine rS PySem.F.slot_dict_getitem.lookup hs (qB (ho pins s σ H _ I h) fun u s1 ⟨x,H1,I1,rx,q1⟩=>qB (hi pins s1 σ H1 _ I1 q1) fun iv s2 ⟨y,H2,I2,ry,a,v,ex,g,q2⟩=>?_)
 subst ex
 obtain rfl:u=Value.ref a:=rx
 exact⟨jq I2 g,mj hu I2 g ry fun w' s3 I3 rw'=>⟨v,H2,I3,rw',q2⟩⟩
theorem uG(hu:X.A.units+1<cLine)(hi:PE X i ty)(ho:PE X o td):PC X .In i o (uz ty td):=by
 intro pins s σ H Q I h
 refine qB (hi pins s σ H _ I h) fun iv s1 ⟨y,H1,I1,ry,q1⟩=>qB (ho pins s1 σ H1 _ I1 q1) fun u s2 ⟨x,H2,I2,rx,a,ov,ex,g,q2⟩=>?_
 subst ex
 obtain rfl:u=Value.ref a:=rx
 exact wN hu I2 g ry fun s3 I3=>⟨.bl ov.isSome,H2,I3,rfl,q2⟩
theorem lZ(hu:X.A.units+1<cLine)(hi:PE X i ty)(ho:PE X o td):PC X .NotIn i o (j6 ty td):=by
 intro pins s σ H Q I h
 refine qB (hi pins s σ H _ I h) fun iv s1 ⟨y,H1,I1,ry,q1⟩=>qB (ho pins s1 σ H1 _ I1 q1) fun u s2 ⟨x,H2,I2,rx,a,ov,ex,g,q2⟩=>?_
 subst ex
 obtain rfl:u=Value.ref a:=rx
 exact rK hu I2 g ry fun s3 I3=>⟨.bl (!ov.isSome),H2,I3,rfl,q2⟩
theorem tj(hu:X.A.units+1<cLine)(ho:PE X o td)(hi:PE X i ty)(hv:PE X value tv)(hs:swapsWith value (some (.Subscript o i pos')) pos.line X.env=pure false):
  PS X (.Assign [.Subscript o i pos'] value pos) (rh td ty tv):=by
 intro pins s σ H D I h
 refine wpAny_Assign_Subscript (qB (hv pins s σ H _ I h) fun r s1 ⟨v,H1,I1,rv,q1⟩=>qB (ho pins s1 σ H1 _ I1 q1) fun u s2 ⟨x,H2,I2,rx,q2⟩=>qB (hi pins s2 σ H2 _ I2 q2) fun iv s3 ⟨y,H3,I3,ry,a,H4,ex,g,q3⟩=>?_) hs
 subst ex
 obtain rfl:u=Value.ref a:=rx
 exact nG hu I3 g ry rv fun s4 I4=>⟨σ,H4,I4,q3⟩
end
theorem ja{P:Program}{w:World}{H:Hp}(h:Heap)(hb:sysModules<h.objs.size):ObjOk P w H (h.push {cls:= .type "dict",data:= .dict #[]}) h.objs.size (.dK []):=
 ⟨Nat.zero_le _,beq_eq_false_iff_ne.mpr (Ne.symm (Nat.ne_of_lt hb)),[],.nil,Heap.DictOf.new h⟩
def my:TE:=fun _ H Q=>∀p,H p=none->Q (.ref p) (upd H p (.dK []))
section
variable{X:Cx}{pos:Pos}
theorem nY:PE X (.Dict [] [] pos) my:=fun pins s σ H Q I h=>
 wpAny_Dict_empty ⟨.ref s.heap.objs.size,_,I.laid (a:=s.heap.objs.size) (o:= .dK []) (t':=s.toks) (fun _ _ q=>Heap.get?_push_of_some _ q) (Nat.le_refl _) (ja s.heap I.big),rfl,h _ (I.hok.fresh (Nat.le_refl _))⟩
end
def iu:List (TE×TE)->St->Hp->(List (V×V)->Hp->Prop)->Prop
 | [],_,H,Q=>Q [] H
 |(tk,tv)::r,σ,H,Q=>tk σ H fun x H1=>tv σ H1 fun y H2=>iu r σ H2 fun ps H3=>Q ((x,y)::ps) H3
abbrev VV:List (V×V)->List (Value×Value)->Prop:=Paired fun p q=>RelV p.1 q.1/\RelV p.2 q.2
def lO(X:Cx)(pos:Pos)(keys:List (Option Expr))(values:List Expr)(trs:List (TE×TE)):Prop:=
 ∀(pins:List (Addr×Obj)) (s:Shared) (σ:St) (H:Hp) (Q:List (V×V)->Hp->Prop),Inv X pins σ H s->iu trs σ H Q->
  wpAny (model X.prog X.w) X.A (evalPairs (pairTrees keys values X.env pos)) (fun vs s'=>∃ps H',Inv X pins σ H' s'/\VV ps vs/\Q ps H') X.xe s
theorem sP{X:Cx}{pos:Pos}:lO X pos [] [] []:=fun pins s σ H Q I h=>pairTrees_nil_walk ⟨[],H,I,.nil,h⟩
theorem nU{X:Cx}{pos:Pos}{k v:Expr}{ks:List (Option Expr)}{vs:List Expr}{tk tv:TE}{trs:List (TE×TE)}(hk:PE X k tk)(hv:PE X v tv)(hr:lO X pos ks vs trs):
  lO X pos (some k::ks) (v::vs) ((tk,tv)::trs):=fun pins s σ H Q I h=>
 pairTrees_cons_walk (qB (hk pins s σ H _ I h) fun u s1 ⟨x,H1,I1,rx,q1⟩=>qB (hv pins s1 σ H1 _ I1 q1) fun w2 s2 ⟨y,H2,I2,ry,q2⟩=>
  qB (hr pins s2 σ H2 _ I2 q2) fun ws s3 ⟨ps,H3,I3,rel,q3⟩=>⟨(x,y)::ps,H3,I3,.cons ⟨rx,ry⟩ rel,q3⟩)
def zP(kvs more:List (qt×V)):List (qt×V):=more.foldl (fun acc kv=>putK acc kv.1 kv.2) kvs
theorem KV.merge:∀{more:List (qt×V)} {rs:List (qt×Value)} {kvs:List (qt×V)} {vs:List (qt×Value)},KV more rs->KV kvs vs->KV (zP kvs more) (merged vs rs):=by
 intro more rs kvs vs r
 unfold KV at r
 induction r generalizing kvs vs with
 |nil=>intro q;exact q
 | @cons p q ps qs h t ih=>
  intro r0
  have e:KV (putK kvs p.1 p.2) (stored vs q.1 q.2):=by
   have:=r0.put p.1 h.2
   rw[<- h.1];exact this
  exact ih e
theorem Zh:∀(more kvs:List (qt×V)),(zP kvs more).length<=kvs.length+more.length
 | [],kvs=>by show kvs.length<=kvs.length+0;omega
 |p::r,kvs=>by
  have h1:=Zh r (putK kvs p.1 p.2)
  have h2:=Z5 kvs p.1 p.2
  show(zP (putK kvs p.1 p.2) r).length<=_
  rw[List.length_cons];omega
theorem cV{P:Program}{w:World}:∀{kvs:List (qt×V)} {ws:List (Value×Value)},VV (kvs.map fun kv=>(kV kv.1,kv.2)) ws->∃rs,Carries (qN P w) ws rs/\KV kvs rs
 | [],_,r=>by rw[List.map_nil]at r;cases r;exact⟨[],True.intro,.nil⟩
 |p::kvs,_,r=>by
  rw[List.map_cons]at r
  cases r with
  | @cons a b as bs h t=>
   obtain⟨rs,c,q⟩:=cV (P:=P) (w:=w) t
   obtain⟨b1,b2⟩:=b
   exact⟨(p.1,b2)::rs,⟨ZK h.1,rfl,c⟩,.cons ⟨rfl,h.2⟩ q⟩
def rm(trs:List (TE×TE)):TE:=fun σ H Q=>∀p,H p=none->iu trs σ (upd H p (.dK [])) fun ps H2=>H2 p=some (.dK [])/\∃kvs:List (qt×V),ps=kvs.map (fun kv=>(kV kv.1,kv.2))/\kvs.length<=15/\Q (.ref p) (upd H2 p (.dK (zP [] kvs)))
theorem sG{X:Cx}{pos:Pos}{keys:List (Option Expr)}{values:List Expr}{trs:List (TE×TE)}(h:lO X pos keys values trs)(hall:keys.all (·.isSome)=true)(hl:keys.length=values.length)(h0:keys≠[])
  (h15:keys.length<=15):PE X (.Dict keys values pos) (rm trs):=by
 intro pins s σ H Q I q
 have hn:=I.hok.fresh (Nat.le_refl s.heap.objs.size)
 have I1:=I.laid (a:=s.heap.objs.size) (o:= .dK []) (h':=s.heap.push {cls:= .type "dict",data:= .dict #[]}) (t':=s.toks) (fun _ _ q=>Heap.get?_push_of_some _ q) (Nat.le_refl _) (ja s.heap I.big)
 refine wpAny_Dict_walk (knd:=qN X.prog X.w) hall hl h0 h15 (qB (h pins _ σ _ _ I1 (q _ hn)) fun ws s2 ⟨ps,H2,I2,rel,e,kvs,ep,lk,q2⟩=>?_)
 subst ep
 obtain⟨rs,c,rk⟩:=cV (P:=X.prog) (w:=X.w) rel
 obtain⟨z,hd,vs0,r0,dd⟩:=gM I2.hok e
 cases r0
 refine⟨rs,c,dd,fun h' dd' hs=>⟨.ref s.heap.objs.size,_,?_,rfl,q2⟩⟩
 have hz:(zP [] kvs).length<=sizeLine:=by
  have h1:=Zh kvs []
  rw[List.length_nil]at h1
  rw[sizeLine_eq];omega
 have he:∃q,h'.get? s.heap.objs.size=some q:=let⟨q,_,_,hq,_⟩:=dd';⟨q,hq⟩
 exact eQ I2 (by rw[e];exact True.intro) hs he (eI hz hd (rk.merge .nil) dd')
structure M1(X:Cx)(o:Expr)(m:Str)(apos:Pos)(e:Expr)(cpos:Pos):Prop where
 base:attributeBase o m X.env (eval o X.env)=eval o X.env
 few:((backTo cpos (starEach [e] X.env)).all (fun x=> !x.1)&&(backToKw cpos (keywordEach [] X.env)).all (fun x=>x.1.isSome)
  &&decide (([e]:List Expr).length+([]:List Keyword).length+(if([]:List Keyword).isEmpty then 0 else 1)<30))=true
 line:(apos.endLine==cpos.line)=true
 trees:backTo cpos (starEach [e] X.env)=[(false,eval e X.env)]
def we(H:Hp)(a:Addr):Prop:=(∃kvs,Rd H a (.dK kvs))\/∃kvs,Rd H a (.dT kvs)
theorem tO{X:Cx}{pins:List (Addr×Obj)}{σ:St}{H:Hp}{s:Shared}{a:Addr}(I:Inv X pins σ H s)(d:we H a):
  s.TypeIs (.ref a) "dict"/\(∀b,Value.ref a= .ref b->∃ob,s.heap.get? b=some ob/\ob.dict=none)/\(a==sysModules)=false:=by
 rcases d with⟨kvs,e⟩|⟨kvs,e⟩
 ·obtain⟨_,hd,vs,_,dd⟩:=Zk I.hok e
  refine⟨dd.typeIs,fun b q=>?_,hd⟩
  cases q
  obtain⟨ob,_,_,h1,h2,_⟩:=dd
  exact⟨ob,h1,h2.2.1⟩
 ·obtain⟨_,hd,xs,_,dd⟩:=aD I.hok e
  refine⟨dd.typeIs,fun b q=>?_,hd⟩
  cases q
  obtain⟨ob,_,_,h1,h2,_⟩:=dd
  exact⟨ob,h1,h2.2.1⟩
section
variable{X:Cx}{pins:List (Addr×Obj)}{σ:St}{H:Hp}{s:Shared}{a:Addr}{y d:V}{u r:Value}{o:Option V}{A:Around}{E:Value->Shared->Prop}
theorem vF{Q:Value->Shared->Prop}(hu:A.units+1<cLine)(I:Inv X pins σ H s)(g:DGet H a y o)(ry:RelV y u)(h:∀w' s',Inv X pins σ H s'->RelV (o.getD .non) w'->Q w' s'):
  wpAny (model X.prog X.w) A (call (.builtin "dict.get") [.ref a,u]) Q E s:=by
 rcases g with⟨kvs,k,e,ey,l⟩|⟨kvs,k,b,e,ey,eb,l⟩
 ·subst ey
  obtain⟨z,hd,vs,rel,dd⟩:=Zk I.hok e
  refine call_meetsIn PySem.F.slot_dict_get dd.typeIs PySem.F.entry_dict_get (PySem.F.args_dict_get_2 _ _) (meets_dict_get (qN X.prog X.w) a (ZK ry) hd) ⟨_,dd.mapOf,h _ _ (I.tok _) ?_⟩
  rw[l]
  exact(rel.val k).getD rfl
 ·subst ey
  cases(show u=Value.ref b from ry)
  obtain⟨z,hd,xs,rel,dd⟩:=aD I.hok e
  refine call_meetsIn PySem.F.slot_dict_get dd.typeIs PySem.F.entry_dict_get (PySem.F.args_dict_get_2 _ _) (meetsH_dict_get (tupleKind (qN X.prog X.w)) a b hd) ⟨tupleKind_room_in1 hu,k,xs,Z9 I.hok eb,dd,h _ _ (I.tok _) ?_⟩
  rw[l]
  exact(rel.val k).getD rfl
end
def lV(td ty:TE):TE:=fun σ H Q=>td σ H fun x H1=>∃a,x= .ref a/\we H1 a/\ty σ H1 fun y H2=>∃o,DGet H2 a y o/\Q (o.getD .non) H2
section
variable{X:Cx}{o e f:Expr}{apos cpos:Pos}{td ty tx:TE}
theorem oi(hu:X.A.units+1<cLine)(ho:PE X o td)(he:PE X e ty)(m:M1 X o "get" apos e cpos):PE X (.Call (.Attribute o "get" apos) [e] [] cpos) (lV td ty):=by
 intro pins s σ H Q I h
 refine wpAny_Call_method m.base m.few m.line PySem.F.plainAttrs_dict PySem.F.slot_dict_get PySem.F.type_dict_get (qB (ho pins s σ H _ I h) fun u s1 ⟨x,H1,I1,rx,a,ex,d,q1⟩=>?_)
 subst ex
 obtain rfl:u=Value.ref a:=rx
 obtain⟨t1,t2,_⟩:=tO I1 d
 refine⟨t1,t2,?_⟩
 rw[m.trees]
 refine Calls.callWith_builtin rfl (Calls.evalArgs_plain (Calls.spliced_cons (qB (he pins s1 σ H1 _ I1 q1) fun iv s2 ⟨y,H2,I2,ry,ov,g,q2⟩=>Calls.spliced_nil ?_)))
 exact vF hu I2 g ry fun w' s3 I3 rw'=>⟨_,H2,I3,rw',q2⟩
end
section
variable{X:Cx}
theorem mr:qW X (.builtin "len") (fun xs H Q=>∃a kvs,xs=[V.ref a]/\H a=some (.dK kvs)/\Q (.int kvs.length) H):=by
 intro pins s σ H xs us Q I r h
 obtain⟨a,kvs,rfl,ha,q⟩:=h
 obtain⟨u,rfl,ru⟩:=Qb r
 cases ru
 exact vV I (.inl ha) fun t s' I'=>⟨.int kvs.length,H,I',⟨t,rfl⟩,q⟩
end
section
variable{X:Cx}{pins:List (Addr×Obj)}{σ:St}{H:Hp}{s:Shared}{a:Addr}{kvs:List (qt×V)}{A:Around}{E:Value->Shared->Prop}
theorem px{Q:Value->Shared->Prop}(I:Inv X pins σ H s)(e:Rd H a (.dK kvs))(h:∀p s',H p=none->Inv X pins σ (upd H p (.dK kvs)) s'->Q (.ref p) s'):wpAny (model X.prog X.w) A (call (.type "dict") [.ref a]) Q E s:=by
 obtain⟨z,hd,vs,rel,dd⟩:=Zk I.hok e
 refine kt_call_dict hd dd (by rw[<- rel.length];exact z) fun h' dd' hs=>?_
 refine h _ _ (I.hok.fresh (Nat.le_refl _)) (I.laid (a:=s.heap.objs.size) (o:= .dK kvs) (t':=s.toks) (fun b q hq=>?_) (Nat.le_refl _) (eI z (beq_eq_false_iff_ne.mpr (Ne.symm (Nat.ne_of_lt I.big))) rel dd'))
 exact(hs.2 b (Nat.ne_of_lt (Heap.lt_size hq))).trans (Heap.get?_push_of_some _ hq)
end
section
variable{X:Cx}{o e f:Expr}{apos cpos:Pos}{td ty tx:TE}
end
end L2
namespace L3
open PySem PySem.Spec PyProof.Rows L2
def ZZ(K:Frag)(H:Hp)(a:Addr)(f:Str)(v:V):Prop:=∃C dx fs,H a=some (.ins C dx fs)/\Cls K C/\NoAttr K C f/\fs.lookup f=some v
def cD(K:Frag)(H:Hp)(a:Addr)(f:Str)(v:V)(H':Hp):Prop:=∃C dx fs,H a=some (.ins C dx fs)/\Cls K C/\NoAttr K C f/\fs.length<1000/\H'=upd H a (.ins C dx (zX f v fs))
def wc(C:Addr)(H:Hp)(a:Addr)(m:Str):Prop:=∃dx fs,H a=some (.ins C dx fs)/\fs.lookup m=none
def p7(K:Frag)(ta:TE)(f:Str):TE:=fun σ H Q=>ta σ H fun x H1=>∃a v,x= .ref a/\ZZ K H1 a f v/\Q v H1
def vT(K:Frag)(ta tv:TE)(f:Str):TS:=fun D σ H=>tv σ H fun y H1=>ta σ H1 fun x H2=>∃a H3,x= .ref a/\cD K H2 a f y H3/\D.nx σ H3
def mZ(C:Addr)(m:Str)(sp:Sp)(ta:TE)(t:TA):TE:=fun σ H Q=>ta σ H fun x H1=>∃a,x= .ref a/\wc C H1 a m/\t σ H1 fun vs H2=>sp (x::(vs++[])) H2 Q E0
section
variable{X:Cx}{o e value:Expr}{f:Str}{pos pos' tpos:Pos}{ta tv:TE}
theorem qP(he:QE X e ta)(hb:attributeBase e f X.env (eval e X.env)=eval e X.env:=by rfl):QE X (.Attribute e f pos) (p7 X.K ta f):=⟨by
 intro pins s σ H Q I h
 refine sZ hb (qB (he.h pins s σ H _ I h) fun u s1 ⟨x,H1,I1,rx,a,v,ex,⟨C,dx,fs,ea,c,n,l⟩,q⟩=>?_)
 subst ex
 obtain rfl:u=Value.ref a:=rx
 exact kB I1 ea c n l fun u' s2 I2 ru=>⟨v,H1,I2,ru,q⟩⟩
theorem zb(ha:QE X o ta)(hv:QE X value tv)(hs:swapsWith value (some (.Attribute o f pos')) pos.line X.env=pure false:=by rfl):QS X (.Assign [.Attribute o f pos'] value pos) (vT X.K ta tv f):=⟨by
 intro pins s σ H D I h
 refine plainObj_wpAny_Assign_Attribute (qB (hv.h pins s σ H _ I h) fun u s1 ⟨y,H1,I1,ry,q⟩=>qB (ha.h pins s1 σ H1 _ I1 q) fun ov s2 ⟨x,H2,I2,rx,a,H3,ex,⟨C,dx,fs,ea,c,n,l,e3⟩,q2⟩=>?_) hs
 subst ex e3
 obtain rfl:ov=Value.ref a:=rx
 exact lA I2 ea c n l ry fun s3 I3=>⟨σ,_,I3,q2⟩⟩
end
structure Mf(P:Program)(w:World)(K:Frag)(mg:Str->Option Value)(base:Heap)(C:Addr)(m:Str)(ps:List Str)(k:Nat)(sp:Sp):Prop where
 ex:∃(f:Addr) (fd:FuncData),FnOk P w K mg base Zr k f fd ps sp/\Meth K C m f/\Binds K fd ps []
structure AtM(K:Frag)(C:Addr)(m qual:Str)(st:Stmt)(ps:List Str):Prop where
 ex:∃(f:Addr) (fd:FuncData),Fun K m qual st f fd/\Meth K C m f/\Binds K fd ps []
structure Mi(P:Program)(w:World)(K:Frag)(mg:Str->Option Value)(base:Heap)(C:Addr)(x:Str)(ps:List Str)(k:Nat)(sp:Sp):Prop where
 ex:∃(f:Addr) (fd:FuncData),FnOk P w K mg base Zr k f fd ps sp/\Mk K C f/\mg x=some (.ref C)/\Binds K fd ps []
section
variable{P:Program}{w:World}{K:Frag}{mg:Str->Option Value}{base:Heap}{C:Addr}
theorem AtM.mq{m qual:Str}{st:Stmt}{ps N:List Str}{k:Nat}{sp:Sp}(a:AtM K C m qual st ps)(S:FnScope N ps (qi st))(len:∀vs H Q E,sp vs H Q E->vs.length=ps.length)
  (hbody:∀(f:Addr) (cdv:Value) (A:Around) (outer:List Env) (s:Shared) (H:Hp) (vs:List V) (Q:VK) (E:XK),Room k (A.deeper (envOfC qual (qi st) s.heap.objs.size f cdv))->sp vs H Q E->
   ∃t,QSs (Z0 Zr P w K mg base N qual (qi st) f cdv A outer s H E).nox (zv st) t/\t {nx:=fun _ H'=>Q .non H',rt:=Q} (QB N vs) H):Mf P w K mg base C m ps (k+1) sp:=by
 obtain⟨f,fd,F,m,bd⟩:=a.ex
 exact⟨f,fd,F.ok S len (fun cdv A outer s H vs Q E hr h=>let⟨t,q1,q2⟩:=hbody f cdv A outer s H vs Q E hr h;⟨t,q1.h,q2⟩),m,bd⟩
theorem Mf.mi{x:Str}{ps:List Str}{k:Nat}{sp:Sp}(a:Mf P w K mg base C "__init__" ps k sp)(mk:W.makesIn K C=true)(kc:W.keepIn K (.ref C)=true)(hx:mg x=some (.ref C)):Mi P w K mg base C x ps k sp:=
 let⟨f,fd,F,m,bd⟩:=a.ex;⟨f,fd,F,⟨mk,m.at_,m.fn,kc⟩,hx,bd⟩
end
section
variable{X:Cx}{C:Addr}{x m:Str}{ps:List Str}{k:Nat}{sp:Sp}{o e:Expr}{es:List Expr}{p pos apos:Pos}{ta:TE}{t:TA}
theorem zK{pl:Sem Bool}(M:Mf X.prog X.w X.K X.mg X.base C m ps k sp)(c:Cls X.K C)(hr:Room k X.A)(he:QE X o ta)(ha:QA X (e::es) t)
  (hst:starEach (e::es) X.env=(false,eval e X.env)::starEach es X.env:=by rfl)(hpl:(backTo pos (starEach es X.env)).any (·.1)=false:=by rfl)
  (ht:eval (.Call (.Attribute o m apos) (e::es) [] pos) X.env=(do
   let ov <- eval o X.env
   standAt apos.atName
   let(f,first) <- holding [ov] (getMethod ov m pl)
   callWith pos f first (backTo pos (starEach (e::es) X.env)) (backToKw pos (keywordEach [] X.env))):=by rfl):
  QE X (.Call (.Attribute o m apos) (e::es) [] pos) (mZ C m sp ta t):=⟨by
 obtain⟨f,fd,F,hm,hb⟩:=M.ex
 intro pins s σ H Q I h
 refine W.methodCall_KW (pl:=pl) (qB (he.h pins s σ H _ I h) fun u s1 ⟨x,H1,I1,rx,a,ex,⟨dx,fs,ea,l⟩,q⟩=>?_) ht
 subst ex
 obtain rfl:u=Value.ref a:=rx
 refine cY I1 ea c hm l ?_
 refine W.callWith_K (first:=[.ref a]) (h₀:=X.base) I.ok.mod.kin hm.kp (qB (ha.h pos pins s1 σ H1 _ I1 q) fun us s2 ⟨vs,H2,I2,r,q2⟩=>⟨I2.kIn,?_⟩) hst hpl
 exact iX (us:= .ref a::us) (vs:= .ref a::vs) F hr hb .nil gL I2 (.cons rfl r) q2⟩
theorem Q3{pl:Sem Bool}(M:Mf X.prog X.w X.K X.mg X.base C m ps k sp)(c:Cls X.K C)(hr:Room k X.A)(he:QE X o ta)
  (ht:eval (.Call (.Attribute o m apos) [] [] pos) X.env=(do
   let ov <- eval o X.env
   standAt apos.atName
   let(f,first) <- holding [ov] (getMethod ov m pl)
   callWith pos f first (backTo pos (starEach [] X.env)) (backToKw pos (keywordEach [] X.env))):=by rfl):
  QE X (.Call (.Attribute o m apos) [] [] pos) (mZ C m sp ta oo):=⟨by
 obtain⟨f,fd,F,hm,hb⟩:=M.ex
 intro pins s σ H Q I h
 refine W.methodCall_KW (pl:=pl) (qB (he.h pins s σ H _ I h) fun u s1 ⟨x,H1,I1,rx,a,ex,⟨dx,fs,ea,l⟩,q⟩=>?_) ht
 subst ex
 obtain rfl:u=Value.ref a:=rx
 refine cY I1 ea c hm l ?_
 exact W.callWith_K0 (first:=[.ref a]) I1.kIn hm.kp (iX (us:=[.ref a]) (vs:=[.ref a]) F hr hb .nil gL I1 (.cons rfl .nil) q)⟩
theorem j7(M:Mi X.prog X.w X.K X.mg X.base C x ps k sp)(hr:Room (k+1) X.A)(ha:QA X (e::es) t)(hg:Gl X x:=by rfl)(hdb:(x==("__debug__":Str))=false:=by decide)
  (he:starEach (e::es) X.env=(false,eval e X.env)::starEach es X.env:=by rfl)(hpl:(backTo pos (starEach es X.env)).any (·.1)=false:=by rfl):
  QE X (.Call (.Name x p) (e::es) [] pos) (ra C sp [] E0 t):=⟨by
 obtain⟨f,fd,F,mk,hx,hb⟩:=M.ex
 exact sB mk F hr hg hx hb .nil gL ha.h hdb he hpl⟩
end
section
variable{X:Cx}{o e:Expr}{es:List Expr}{to:TE}{t:TA}{name:Str}{apos cpos:Pos}{T id:String}{r:V->List V->Hp->VK->Prop}{K:Frag}
theorem uX(hK:X.K=K)(pa:PlainAttrs T)(slot:Slot T name id)(hty:typeOf (.builtin id)=pure (.type "method_descriptor"))(hm:kf X id r)(ho:QE X o to)(ha:QA X (e::es) t)
  (hbase:attributeBase o name X.env (eval o X.env)=eval o X.env:=by rfl)
  (hfew:((backTo cpos (starEach (e::es) X.env)).all (fun x=> !x.1)&&(backToKw cpos (keywordEach [] X.env)).all (fun x=>x.1.isSome)
   &&decide ((e::es).length+([]:List Keyword).length+(if([]:List Keyword).isEmpty then 0 else 1)<30))=true:=by rfl)
  (hline:(apos.endLine==cpos.line)=true:=by rfl)(hs:starEach (e::es) X.env=(false,eval e X.env)::starEach es X.env:=by rfl)(hplain:(backTo cpos (starEach es X.env)).any (·.1)=false:=by rfl):
  QE X (.Call (.Attribute o name apos) (e::es) [] cpos) (uu K T r to t):=by
 subst hK
 exact QZ pa slot hty hm ho ha hbase hfew hline hs hplain
theorem oq:kf X "list.pop" lD:=nK
end
theorem gj{f:Str}{v:V}:∀{fs:List (Str×V)} (i:Nat),fs[i]? =some (f,v)->(fs.map (·.1)).Nodup->fs.lookup f=some v
 | [],i,h,_=>by cases h
 |(g,x)::r,0,h,_=>by
  cases Option.some.inj h
  exact List.lookup_cons_self
 |(g,x)::r,i+1,h,nd=>by
  have h':r[i]? =some (f,v):=h
  have nd':g∉r.map (·.1)/\(r.map (·.1)).Nodup:=List.nodup_cons.mp nd
  have hm:f∈r.map (·.1):=List.mem_map.mpr ⟨(f,v),List.mem_of_getElem? h',rfl⟩
  have ne:f≠g:=fun z=>nd'.1 (z▸hm)
  rw[List.lookup_cons,beq_false_of_ne ne]
  exact gj i h' nd'.2
theorem gl{f:Str}:∀{fs:List (Str×V)},f∉fs.map (·.1)->fs.lookup f=none
 | [],_=>rfl
 |(g,x)::r,h=>by
  have ne:f≠g:=fun z=>h (z▸List.mem_cons_self ..)
  rw[List.lookup_cons,beq_false_of_ne ne]
  exact gl fun z=>h (List.mem_cons_of_mem _ z)
theorem jW{f:Str}{v u:V}:∀{fs:List (Str×V)} (i:Nat),fs[i]? =some (f,u)->(fs.map (·.1)).Nodup->zX f v fs=fs.set i (f,v)
 | [],i,h,_=>by cases h
 |(g,x)::r,0,h,_=>by
  cases Option.some.inj h
  show(if f=f then _ else _)=_
  rw[if_pos rfl];rfl
 |(g,x)::r,i+1,h,nd=>by
  have h':r[i]? =some (f,u):=h
  have nd':g∉r.map (·.1)/\(r.map (·.1)).Nodup:=List.nodup_cons.mp nd
  have hm:f∈r.map (·.1):=List.mem_map.mpr ⟨(f,u),List.mem_of_getElem? h',rfl⟩
  have ne:¬g=f:=fun z=>nd'.1 (z▸hm)
  show(if g=f then _ else(g,x)::zX f v r)=_
  rw[if_neg ne,jW i h' nd'.2];rfl
theorem iE{f:Str}{v:V}:∀{fs:List (Str×V)},f∉fs.map (·.1)->zX f v fs=fs++[(f,v)]
 | [],_=>rfl
 |(g,x)::r,h=>by
  have ne:¬g=f:=fun z=>h (z▸List.mem_cons_self ..)
  show(if g=f then _ else(g,x)::zX f v r)=_
  rw[if_neg ne,iE fun z=>h (List.mem_cons_of_mem _ z)];rfl
def Mv(S:List Addr)(H H':Hp):Prop:=∀c o,c∉S->H c=some o->H' c=some o
theorem Mv.trans{S:List Addr}{H H1 H2:Hp}(a:Mv S H H1)(b:Mv S H1 H2):Mv S H H2:=fun c o n e=>b c o n (a c o n e)
theorem Mv.mono{S S':List Addr}{H H':Hp}(a:Mv S H H')(h:∀c,c∉S'->c∉S):Mv S' H H':=fun c o n e=>a c o (h c n) e
theorem _root_.L2.Same.mv{S:List Addr}{H H':Hp}(a:Same H H'):Mv S H H':=fun c o _ e=>a c o e
theorem Mv.upd1{a:Addr}{H:Hp}{o:HO}:Mv [a] H (upd H a o):=fun c u n e=>by
 rw[qh (fun z=>n (List.mem_singleton.mpr z))];exact e
theorem GrC.mv{b:Addr}{n:Nat}{H H':Hp}(g:GrC b n H H'):Mv [b] H H':=fun c o h e=>g.kp c o (fun z=>h (List.mem_singleton.mpr z)) e
def pV:HO->Prop
 | .tup _=>False
 | .frz _ _=>False
 |_=>True
def NT(S:List Addr)(H:Hp):Prop:=∀c,c∈S->∃o,H c=some o/\pV o
theorem Mv.rd{S:List Addr}{H H':Hp}{a:Addr}{xs:List V}(m:Mv S H H')(n:NT S H)(h:Rd H a (.tup xs)):Rd H' a (.tup xs):=by
 have hn:a∉S:=fun z=>by
  obtain⟨o,e,no⟩:=n a z
  rcases h with h|⟨o',h⟩
  ·rw[e]at h;cases h;exact no
  ·rw[e]at h;cases h;exact no
 rcases h with h|⟨o',h⟩
 ·exact .inl (m _ _ hn h)
 ·exact .inr ⟨o',m _ _ hn h⟩
theorem Mv.sqt{K:Frag}{S:List Addr}{H H':Hp}{a:Addr}{xs:List V}(m:Mv S H H')(n:NT S H)(h:SqT K H a xs):SqT K H' a xs:=by
 rcases h with h|h
 ·exact .inl (m.rd n h)
 ·exact .inr h
structure Ac(K:Frag)(mg:Str->Option Value)(x:Str)(st:Stmt):Prop where
 ex:∃(f:Addr) (fd:FuncData),Fun K x x st f fd/\mg x=some (.ref f)
structure Acm(K:Frag)(C:Addr)(m qual:Str)(st:Stmt):Prop where
 ex:∃(f:Addr) (fd:FuncData),Fun K m qual st f fd/\Meth K C m f
section
variable{K:Frag}{mg:Str->Option Value}{h:Heap}{x m qual:Str}{st:Stmt}{C f:Addr}{oc:Value}{od an:Option Addr}{osl:Array (Option Value)}{kV doc pm cdv ct:Value}{ps:List Str}
theorem pO(X:K.In h)(G:h.Ns mainGlobals mg)(a:W.nsIn K mainGlobals x=some (some (.ref f)))(l:K.lookup f=some ⟨oc,od,.func (W.fnOf x x (Qd st) (zv st) (qi st) .none kV doc pm an cdv ct),osl⟩)(c:W.codeIn K cdv x=true)(k:W.keepIn K (.ref f)=true):Ac K mg x st:=⟨f,_,gR l c k,W.mg_of X G a⟩
theorem tX(a:W.findIn K (.ref C) m=some (some (.ref f)))(i:W.isFn K (.ref f)=true)(l:K.lookup f=some ⟨oc,od,.func (W.fnOf m qual (Qd st) (zv st) (qi st) .none kV doc pm an cdv ct),osl⟩)(c:W.codeIn K cdv qual=true)(k:W.keepIn K (.ref f)=true):Acm K C m qual st:=⟨f,_,gR l c k,a,i,k⟩
theorem QL{p:List Value->Prop}(h:∀a0,p [a0]):∀us:List Value,us.length=1->p us
 | [a0],_=>h a0
theorem aU{p:List Value->Prop}(h:∀a0 a1,p [a0,a1]):∀us:List Value,us.length=2->p us
 | [a0,a1],_=>h a0 a1
theorem ba{p:List Value->Prop}(h:∀a0 a1 a2,p [a0,a1,a2]):∀us:List Value,us.length=3->p us
 | [a0,a1,a2],_=>h a0 a1 a2
theorem v9{p:List Value->Prop}(h:∀a0 a1 a2 a3,p [a0,a1,a2,a3]):∀us:List Value,us.length=4->p us
 | [a0,a1,a2,a3],_=>h a0 a1 a2 a3
theorem wS{p:List Value->Prop}(h:∀a0 a1 a2 a3 a4,p [a0,a1,a2,a3,a4]):∀us:List Value,us.length=5->p us
 | [a0,a1,a2,a3,a4],_=>h a0 a1 a2 a3 a4
theorem wb{p:List Value->Prop}(h:∀a0 a1 a2 a3 a4 a5,p [a0,a1,a2,a3,a4,a5]):∀us:List Value,us.length=6->p us
 | [a0,a1,a2,a3,a4,a5],_=>h a0 a1 a2 a3 a4 a5
theorem Ac.at(a:Ac K mg x st)(b:∀(kV doc pm:Value) (an:Option Addr) (cdv ct:Value) (us:List Value),us.length=ps.length->bindArgs (W.fnOf x x (Qd st) (zv st) (qi st) .none kV doc pm an cdv ct) ⟨us,[]⟩=pure (ps.zip us)):At K mg x st ps:=let⟨_,_,F,m⟩:=a.ex;vK F m (F.binds b)
theorem Acm.at(a:Acm K C m qual st)(b:∀(kV doc pm:Value) (an:Option Addr) (cdv ct:Value) (us:List Value),us.length=ps.length->bindArgs (W.fnOf m qual (Qd st) (zv st) (qi st) .none kV doc pm an cdv ct) ⟨us,[]⟩=pure (ps.zip us)):AtM K C m qual st ps:=let⟨_,_,F,m⟩:=a.ex;⟨_,_,F,m,F.binds b⟩
end
section
variable{K:Frag}{C:Addr}{H H':Hp}{p ta ka ce dx:Addr}{B:Bt}
end
section
variable(K:Frag)(C:Addr)
end
def iO:Sp:=fun vs H Q _=>∃(b:Addr) (c:Nat),vs=[.ref b]/\BoxC H b c/\c<100000000/\∀p (t:List Int) H',GrC b (c+16) H H'->H p=none->H' p=some (.tup (t.map V.int))->t.Perm digs->Q (.ref p) H'
theorem GrC.fresh{b c:Addr}{n:Nat}{H H':Hp}(g:GrC b n H H')(hb:BoxC H b n)(h:H' c=Option.none):H c=Option.none:=by
 cases e:H c with
 |none=>rfl
 |some o=>
  by_cases z:c=b
  ·subst z
   obtain⟨_,_,_,e',_⟩:=g.bx
   rw[e']at h;cases h
  ·rw[g.kp c o z e]at h;cases h
theorem pj{K:Frag}{H:Hp}{a:Addr}{xs:List V}{Q:VK}(h:Sq K H a xs)(q:∀l H',Same H H'->SqT K H' l xs->Q (.ref l) H'):(SqL K H a xs/\∀l,H l=none->Q (.ref l) (upd H l (.tup xs)))\/(SqT K H a xs/\Q (.ref a) H):=
 h.elim (fun h=> .inl ⟨h,fun l hl=>q l _ (Same.upd hl) (SqT.of qb)⟩) fun h=> .inr ⟨h,q a H (Same.refl _) h⟩
theorem bT{K:Frag}{C p dx a:Addr}{H:Hp}{fs:List (Str×V)}{xs:List V}{o:HO}(e:H p=some (.ins C dx fs))(h:SqT K H a xs):SqT K (upd H p o) a xs:=by
 rcases h with(h|⟨u,h⟩)|h
 ·exact .inl (.inl (by rw[qh (qC h e (by intro z;cases z))];exact h))
 ·exact .inl (.inr ⟨u,by rw[qh (qC h e (by intro z;cases z))];exact h⟩)
 ·exact .inr h
theorem aR{X:Cx}{K:Frag}(hK:X.K=K):qW X (.builtin "len") (fun xs H Q=>∃p ys,xs=[.ref p]/\(SqL K H p ys\/SqT K H p ys)/\Q (.int (ys.length:Nat)) H):=by
 subst hK
 exact qO
theorem iG{k n:Nat}(h:k<n):seqIndex? (k:Int) n=some k:=by
 unfold seqIndex?
 simp
 omega
theorem cg{X:Cx}:qW X (.type "tuple") (fun xs H Q=>∃p ys,xs=[.ref p]/\Sq X.K H p ys/\∀l H',Same H H'->SqT X.K H' l ys->Q (.ref l) H'):=by
 intro pins s σ H xs us Q I r h
 obtain⟨p,ys,e,hs,q⟩:=h
 exact qJ pins s σ H xs us Q I r ⟨p,ys,e,pj hs q⟩
theorem vq{xs ys:List V}(i:Nat){x y:V}(hx:xs[i]? =some x)(hy:ys[i]? =some y)(h:x≠y):HO.lst xs≠HO.lst ys:=fun z=>by
 injection z with z
 rw[z,hy]at hx
 exact h (Option.some.inj hx).symm
theorem sg{α:Type}{os:List α}{f:α->Addr}{ys:List V}(i:Nat){y:V}(hy:ys[i]? =some y)(h:∀a,y≠ .ref a):HO.lst (os.map fun o=>V.ref (f o))≠HO.lst ys:=fun z=>by
 injection z with z
 have e:=congrArg (fun l=>l[i]?) z
 simp only[List.getElem?_map,hy]at e
 cases q:os[i]? with
 |none=>rw[q]at e;cases e
 |some a=>rw[q]at e;exact h _ (Option.some.inj e).symm
section
variable{K:Frag}{C:Addr}{H H':Hp}{b L:Addr}{n n':Nat}{os:List O}
theorem qF{a x:Addr}(h:a≠x):a∉[x]:=fun z=>h (List.mem_singleton.mp z)
theorem zr(hb:BoxC H b n):NT [b] H:=fun c hc=>by
 obtain⟨_,_,_,e,_⟩:=hb
 rw[List.mem_singleton.mp hc]
 exact⟨_,e,trivial⟩
end
theorem vP(n:Nat)(h:n<=100:=by omega):n<sizeLine:=Nat.lt_of_le_of_lt h (by decide)
theorem NT.one{H:Hp}{a:Addr}{o:HO}(e:H a=some o)(n:pV o):NT [a] H:=fun c hc=>⟨o,by rw[List.mem_singleton.mp hc];exact e,n⟩
end L3
namespace L3
open PySem PySem.Spec PyProof.Rows L2
open Sem (wp)
section
variable{prog:Program}{w:World}{A:Around}{R:Result->Shared->Prop}{s:Shared}
end
variable{X:Cx}
section
variable{js:List Nat}{tc:TT}{te:TE}{σ:L2.St}{H:Hp}{Q:VK}{K:Frag}
end
section
variable{o i e value:Expr}{pos pos' tpos:Pos}{td ty tv:TE}
theorem qw{k:Nat}(hr:Room k X.A)(ho:QE X o td)(hi:QE X i ty)(hs:oK i:=by exact fun _ _=>rfl):QE X (.Subscript o i pos) (pM td ty):=⟨sA (by have:=hr.un;omega) ho.h hi.h hs⟩
theorem zV{k:Nat}(hr:Room k X.A)(ho:QE X o td)(hi:QE X i ty)(hv:QE X value tv)(hs:swapsWith value (some (.Subscript o i pos')) pos.line X.env=pure false:=by rfl):
  QS X (.Assign [.Subscript o i pos'] value pos) (rh td ty tv):=⟨tj (by have:=hr.un;omega) ho.h hi.h hv.h hs⟩
structure QPs(X:Cx)(pos:Pos)(keys:List (Option Expr))(values:List Expr)(trs:List (TE×TE)):Prop where
 h:lO X pos keys values trs
theorem sO:QPs X pos [] [] []:=⟨sP⟩
theorem Q2{k v:Expr}{ks:List (Option Expr)}{vs:List Expr}{tk tv:TE}{trs:List (TE×TE)}(hk:QE X k tk)(hv:QE X v tv)(hr:QPs X pos ks vs trs):QPs X pos (some k::ks) (v::vs) ((tk,tv)::trs):=⟨nU hk.h hv.h hr.h⟩
theorem tq{keys:List (Option Expr)}{values:List Expr}{trs:List (TE×TE)}(h:QPs X pos keys values trs)(hall:keys.all (·.isSome)=true:=by rfl)(hl:keys.length=values.length:=by rfl)(h0:keys≠[]:=by(intro z;cases z))
  (h15:keys.length<=15:=by decide):QE X (.Dict keys values pos) (rm trs):=⟨sG h.h hall hl h0 h15⟩
end
theorem aa{k:qt}{v:V}:∀{kvs:List (qt×V)} (i:Nat),kvs[i]? =some (k,v)->(kvs.map (·.1)).Nodup->zy kvs k=some v
 | [],i,h,_=>by cases h
 |p::r,0,h,_=>by
  cases Option.some.inj h
  exact zt rfl
 |p::r,i+1,h,nd=>by
  have h':r[i]? =some (k,v):=h
  have nd':p.1∉r.map (·.1)/\(r.map (·.1)).Nodup:=List.nodup_cons.mp nd
  have hm:k∈r.map (·.1):=List.mem_map.mpr ⟨(k,v),List.mem_of_getElem? h',rfl⟩
  have ne:p.1≠k:=fun z=>nd'.1 (z▸hm)
  rw[zu ne]
  exact aa i h' nd'.2
theorem nQ{k:qt}{v u:V}{kvs:List (qt×V)}(i:Nat)(h:kvs[i]? =some (k,u))(nd:(kvs.map (·.1)).Nodup):putK kvs k v=kvs.set i (k,v):=by
 have hil:i<kvs.length:=(List.getElem?_eq_some_iff.mp h).1
 have hik:=(List.getElem?_eq_some_iff.mp h).2
 unfold putK
 rw[if_pos]
 ·refine List.ext_getElem (by simp) fun j h1 h2=>?_
  rw[List.getElem_map,List.getElem_set]
  have hj:j<kvs.length:=by simpa using h1
  by_cases e:i=j
  ·subst e
   rw[if_pos (by rw[hik]),if_pos rfl,hik]
  ·rw[if_neg e,if_neg]
   intro z
   have h3:(kvs.map (·.1))[i]'(by simpa using hil)=(kvs.map (·.1))[j]'(by simpa using hj):=by rw[List.getElem_map,List.getElem_map,hik,z]
   exact e ((List.getElem_inj nd).mp h3)
 ·rw[List.any_eq_true]
  exact⟨kvs[i],List.getElem_mem hil,by rw[hik];exact decide_eq_true rfl⟩
theorem jF{k:qt}{v:V}{kvs:List (qt×V)}(h:k∉kvs.map (·.1)):putK kvs k v=kvs++[(k,v)]:=by
 unfold putK
 rw[if_neg]
 intro z
 obtain⟨p,hp,e⟩:=List.any_eq_true.mp z
 exact h (List.mem_map.mpr ⟨p,hp,of_decide_eq_true e⟩)
end L3
namespace L3
open PySem PySem.Spec PyProof.Rows L2
open PySem.W (kdl_dict kdl_extend)
section
variable{prog:Program}{w:World}{A:Around}{E:Value->Shared->Prop}{s:Shared}
theorem ii{d:Addr}{kvs:List (qt×Value)}{ep:Nat}{Q:List Value->Shared->Prop}(hh:A.handled=none)(hm:s.heap.DictAt (qN prog w) d kvs ep)(lo:(d==sysModules)=false)(hn:kvs.length<=sizeLine)
  (h:∀(vs:List Value) (h':Heap) (tk:Nat),s.heap.objs.size<h'.objs.size->(∀b o,s.heap.get? b=some o->h'.get? b=some o)->vs.length=kvs.length->(∀(j:Nat) (v:Value),vs[j]? =some v->∃k x,kvs[j]? =some (k,x)/\(qN prog w).is k v=true)->Q vs {s with heap:=h',toks:=tk}):
  wpAny (model prog w) A (collect (.ref d)) Q E s:=by
 unfold collect
 refine wpAny_bind (wpAny_runValue (codeAny_builtin entry_proto_collect' ?_))
 show wpAny _ _ (do again (.builtin "list.__iadd__" ⟨[<- newList [],.ref d],[]⟩)) _ _ s
 refine wpAny_bind (wpAny_newList (wpAny_pure ⟨Code.quiet_builtin _ (by decide +kernel),codeAny_builtin entry_list_iadd' ?_⟩))
 rw[Around.under_plainId PySem.F.plain_list_iadd _]
 have hlt:d<s.heap.objs.size:=hm.lt_size
 refine kdl_extend (s:={s with heap:=s.heap.push (seqObj "list" #[] 0)}) (R:=fun r s'=>match r with
   | .ok (.ret v)=>wpAny (model prog w) A (match v with
    | .ref a=>(do
     let o <- load a
     match o.data with
     | .seq xs _=>pure xs.toList
     |_=>unsupported "internal:collect")
    |_=>unsupported "internal:collect") Q E s'
   | .ok _=>False
   | .error e=>E e s') (kdl_dict (knd:=qN prog w) (ep:=ep) (kvs:=kvs) lo) hh (hm.push _) s.heap.objs.size (Nat.ne_of_gt hlt) (Nat.ne_of_gt hlt) _ 0 (Heap.get?_push_size _ rfl) (fun h' tk acc' c' hk hS hI=>?_) hn
 show wpAny (model prog w) A (do
   let o <- load s.heap.objs.size
   match o.data with
   | .seq xs _=>pure xs.toList
   |_=>unsupported "internal:collect") Q E {s with heap:=h',toks:=tk}
 refine wpAny_bind (wpAny_load hS ?_)
 refine wpAny_pure (h acc'.toList h' tk (Heap.lt_size hS) (fun b o e=>hk b o (Nat.ne_of_lt (Heap.lt_size e)) (Heap.get?_push_of_some _ e)) (by rw[Array.length_toList];exact hI.1) fun j v e=>hI.2 j v (by rw[<- Array.getElem?_toList];exact e))
theorem jU:∀{us:List Value} {ss:List Str},us.length=ss.length->(∀(j:Nat) (v:Value),us[j]? =some v->∃x t,ss[j]? =some x/\v= .str x t)->StrsAre us ss
 | [],[],_,_=> .nil
 |u::us,x::ss,hl,h=>by
  obtain⟨y,t,e1,e2⟩:=h 0 u rfl
  cases e1
  subst e2
  exact .cons _ _ (jU (Nat.succ.inj hl) fun j v e=>h (j+1) v e)
 | [],_::_,hl,_=>by cases hl
 |_::_,[],hl,_=>by cases hl
theorem jo{d:Addr}{kvs:List (qt×Value)}{ep:Nat}{ss:List Str}{Q:Value->Shared->Prop}(hh:A.handled=none)(hm:s.heap.DictAt (qN prog w) d kvs ep)(lo:(d==sysModules)=false)(hks:kvs.map (·.1)=ss.map Sum.inr)(h64:ss.length<64)
  (h:∀(h':Heap) (tk:Nat) (l:Addr) (its:List Value) (n:Nat) (ss':List Str),s.heap.objs.size<=l->(∀b o,s.heap.get? b=some o->h'.get? b=some o)->h'.get? l=some (seqObj "list" its.toArray n)->StrsAre its ss'->ss'.Perm ss->sortedS ss'=true->Q (.ref l) {s with heap:=h',toks:=tk}):
  wpAny (model prog w) A (call (.builtin "sorted") [.ref d]) Q E s:=by
 have hlen:kvs.length=ss.length:=by have:=congrArg List.length hks;rwa [List.length_map,List.length_map]at this
 refine Calls.call_function_entry kind_sorted plain_sorted entry_sorted (args_sorted1 _) ?_
 unfold Builtin.«sorted»
 refine wpAny_bind (m:=checkCount "sorted" 1 1 _) (wpAny_pure ?_)
 refine wpAny_bind (ii (ep:=ep) (kvs:=kvs) hh hm lo (by rw[sizeLine_eq];omega) fun us h' tk hlt hk hl hv=>?_)
 have hS:StrsAre us ss:=jU (hl.trans hlen) fun j v e=>by
  obtain⟨k,x,e1,e2⟩:=hv j v e
  have e3:(kvs.map (·.1))[j]? =some k:=by rw[List.getElem?_map,e1];rfl
  rw[hks,List.getElem?_map]at e3
  cases e4:ss[j]? with
  |none=>rw[e4]at e3;cases e3
  |some y=>
   rw[e4]at e3
   have e5:Sum.inr y=k:=Option.some.inj e3
   subst e5
   have e6:Value.isStrOf y v=true:=e2
   cases v<;>simp [Value.isStrOf]at e6
   subst e6
   exact⟨_,_,rfl,rfl⟩
 refine wpAny_bind (wpAny_newList ?_)
 have hoL:(h'.push (seqObj "list" us.toArray 0)).get? h'.objs.size=some (seqObj "list" us.toArray 0):=Heap.get?_push_size _ rfl
 show wpAny _ _ _ _ _ {s with heap:=h'.push (seqObj "list" us.toArray 0),toks:=tk}
 refine wpAny_bind (wpAny_holding (wpAny_call_entry slot_list_sort ⟨_,hoL,rfl⟩ entry_list_sort (list_sort_treeK (κ:=PyProof.Rows.strKind) strKind_oneLt hoL hS.keysOf (fun v₁ v₂ rest e=>keyKind_strs (by rw[<- e];exact hS)) (by rw[hl,hlen];exact h64) fun st' a1 a2=>⟨_,rfl,?_⟩) (args_list_sort _)))
 obtain⟨ss',b1,b2,b3⟩:=sorted_out_str hS a1 a2
 obtain⟨n',hn'⟩:∃n',(sortedHeap (h'.push (seqObj "list" us.toArray 0)) h'.objs.size us ((arrOf st').map (·.2))).get? h'.objs.size=some (seqObj "list" ((arrOf st').map (·.2)) n'):=sortedHeap_at hoL
 refine wpAny_pure ⟨_,rfl,h _ tk h'.objs.size ((arrOf st').map (·.2)).toList n' ss' (Nat.le_of_lt hlt) (fun b o e=>?_) (by rw[hn']) b1 b2 b3⟩
 have e':=hk b o e
 have hb:b<h'.objs.size:=Heap.lt_size e'
 rw[sortedHeap_old (Nat.ne_of_lt hb) (by rw[Heap.size_push];exact Nat.lt_succ_of_lt hb)]
 exact Heap.get?_push_of_some _ e'
end
theorem gv:∀{us:List Value} {ss:List Str},StrsAre us ss->Vals (ss.map V.str) us
 | [],[],.nil=> .nil
 |_,_::_,.cons _ _ t=> .cons ⟨_,rfl⟩ (gv t)
theorem bB{X:Cx}(hc:X.calm=true):qW X (.builtin "sorted") (fun xs H Q=>∃(d:Addr) (kvs:List (qt×V)) (ss:List Str),xs=[.ref d]/\H d=some (.dK kvs)/\kvs.map (·.1)=ss.map Sum.inr/\ss.length<64/\
  ∀l ss',H l=none->ss'.Perm ss->sortedS ss'=true->Q (.ref l) (upd H l (.lst (ss'.map V.str)))):=by
 intro pins s σ H xs us Q I r h
 obtain⟨d,kvs,ss,rfl,hH,hks,h64,q⟩:=h
 obtain⟨u,rfl,ru⟩:=Qb r
 cases ru
 obtain⟨z,lo,vs,rel,o,es,ep,d1,d2,d3,d4,d5,d6⟩:=gM I.hok hH
 have hks':vs.map (·.1)=ss.map Sum.inr:=by rw[<- hks,rel.keys]
 refine jo (I.ok.hd hc) (⟨o,es,d1,d2,d3,d4,d5,d6⟩:s.heap.DictAt (qN X.prog X.w) d vs ep) lo hks' h64 fun h' tk l its n ss' hl hk hL b1 b2 b3=>?_
 refine⟨.ref l,_,I.laid (a:=l) (o:= .lst (ss'.map V.str)) (t':=tk) hk hl ?_,rfl,q l ss' (I.hok.fresh hl) b2 b3⟩
 have vl:=gv b1
 refine⟨?_,its,n,vl,hL⟩
 have:=b2.length_eq
 rw[List.length_map,sizeLine_eq]
 omega
end L3
namespace L3
open PySem PySem.Spec PyProof.Rows L2
section
variable{X:Cx}{o e f:Expr}{apos cpos pos:Pos}{td ty tx:TE}
theorem pq{k:Nat}(hr:Room k X.A)(ho:QE X o td)(ha:QE X e ty)(m:M1 X o "get" apos e cpos:=by exact⟨rfl,rfl,rfl,rfl⟩):QE X (.Call (.Attribute o "get" apos) [e] [] cpos) (lV td ty):=⟨oi (by have:=hr.un;omega) ho.h ha.h m⟩
theorem cI:QE X (.Dict [] [] pos) my:=⟨nY⟩
theorem t7{k:Nat}(hr:Room k X.A)(hi:QE X e ty)(ho:QE X o td)(h1:behindInMarks CmpOp.In o=false:=by rfl):QT X (.Compare e [.In] [o] pos) (bU (uz ty td)):=⟨m8 (uG (by have:=hr.un;omega) hi.h ho.h) (h1:=h1)⟩
theorem mF{k:Nat}(hr:Room k X.A)(hi:QE X e ty)(ho:QE X o td)(h1:behindInMarks CmpOp.NotIn o=false:=by rfl):QT X (.Compare e [.NotIn] [o] pos) (bU (j6 ty td)):=⟨m8 (lZ (by have:=hr.un;omega) hi.h ho.h) (h1:=h1)⟩
end
structure Kb where
 age:Int
 last:Int
 wt:Option (Int×Int)
abbrev Kw:=List (Str×Kb)
def Wt(H:Hp)(v:V):Option (Int×Int)->Prop
 |none=>v= .non
 |some (x,c)=>∃w,v= .ref w/\H w=some (.tup [.int x,.int c])
def BuAt(H:Hp)(a:Addr)(e:Kb):Prop:=∃v,H a=some (.tup [.int e.age,.int e.last,v])/\Wt H v e.wt
def zo(kn:Kw)(f:Str->Addr):List (qt×V):=kn.map fun e=>(Sum.inr e.1,V.ref (f e.1))
def KnAt(H:Hp)(d:Addr)(kn:Kw):Prop:=∃f:Kw×(Str->Addr),H d=some (.dK (zo f.1 f.2))/\(∀e∈kn,BuAt H (f.2 e.1) e.2)/\f.1.Perm kn/\(kn.map (·.1)).Nodup
def qQ(kn:Kw)(nm:Str)(e:Kb):Kw:=if nm∈kn.map (·.1)then kn.map (fun p=>if p.1=nm then(nm,e)else p)else kn++[(nm,e)]
theorem Mv.tup{S:List Addr}{H H':Hp}{a:Addr}{xs:List V}(m:Mv S H H')(n:NT S H)(h:H a=some (.tup xs)):H' a=some (.tup xs):=m _ _ (fun z=>by
 obtain⟨o,e,no⟩:=n a z
 rw[e]at h;cases h;exact no) h
theorem Wt.mv{S:List Addr}{H H':Hp}{v:V}{o:Option (Int×Int)}(m:Mv S H H')(n:NT S H)(h:Wt H v o):Wt H' v o:=by
 cases o with
 |none=>exact h
 |some p=>obtain⟨w,e,r⟩:=h;exact⟨w,e,m.tup n r⟩
theorem BuAt.mv{S:List Addr}{H H':Hp}{a:Addr}{e:Kb}(m:Mv S H H')(n:NT S H)(h:BuAt H a e):BuAt H' a e:=let⟨v,r,w⟩:=h;⟨v,m.tup n r,w.mv m n⟩
theorem BuAt.same{H H':Hp}{a:Addr}{e:Kb}(s:Same H H')(h:BuAt H a e):BuAt H' a e:=h.mv (S:=[]) s.mv (fun c h=>nomatch h)
theorem KnAt.mv{S:List Addr}{H H':Hp}{d:Addr}{kn:Kw}(m:Mv S H H')(n:NT S H)(hd:d∉S)(h:KnAt H d kn):KnAt H' d kn:=let⟨f,r,w,p⟩:=h;⟨f,m _ _ hd r,fun e he=>(w e he).mv m n,p⟩
theorem eV(f:Str->Addr)(nm:Str):∀kn:Kw,zy (zo kn f) (Sum.inr nm:qt)=(kn.lookup nm).map fun _=>V.ref (f nm)
 | []=>rfl
 |(m,e)::r=>by
  show zy ((Sum.inr m,V.ref (f m))::zo r f) (Sum.inr nm)=_
  by_cases q:m=nm
  ·subst q
   rw[zt rfl,List.lookup_cons_self];rfl
  ·rw[zu (by intro z;injection z with z;exact q z),List.lookup_cons,beq_false_of_ne (fun z=>q z.symm)]
   exact eV f nm r
theorem zQ{nm:Str}{e:Kb}:∀{kn:Kw},kn.lookup nm=some e->(nm,e)∈kn
 |(m,x)::r,h=>by
  rw[List.lookup_cons]at h
  by_cases q:nm=m
  ·subst q
   rw[beq_self_eq_true]at h
   cases h
   exact List.mem_cons_self ..
  ·rw[beq_false_of_ne q]at h
   exact List.mem_cons_of_mem _ (zQ h)
theorem lookup_mem_iff{nm:Str}:∀{kn:Kw},(kn.lookup nm).isSome=true↔nm∈kn.map (·.1)
 | []=>by simp
 |(m,x)::r=>by
  rw[List.lookup_cons,List.map_cons,List.mem_cons]
  by_cases q:nm=m
  ·subst q;simp
  ·rw[beq_false_of_ne q]
   simp only[q,false_or]
   exact lookup_mem_iff
theorem fQ(kn:Kw)(nm:Str)(e:Kb):(qQ kn nm e).map (·.1)=if nm∈kn.map (·.1)then kn.map (·.1)else kn.map (·.1)++[nm]:=by
 unfold qQ
 split
 ·rw[List.map_map]
  refine List.map_congr_left fun p hp=>?_
  simp only[Function.comp]
  by_cases y:p.1=nm
  ·rw[if_pos y,y]
  ·rw[if_neg y]
 ·rw[List.map_append];rfl
theorem bS{kn:Kw}(nd:(kn.map (·.1)).Nodup)(nm:Str)(e:Kb):((qQ kn nm e).map (·.1)).Nodup:=by
 rw[fQ]
 split
 ·exact nd
 ·rename_i z
  exact List.nodup_append.mpr ⟨nd,by simp,fun a ha b hb=>by rw[List.mem_singleton.mp hb];exact fun w=>z (w▸ha)⟩
theorem Qv{nm:Str}{e:Kb}:∀{kn:Kw},(kn.map (·.1)).Nodup->kn.lookup nm=some e->∀p∈kn,p.1=nm->p=(nm,e)
 | [],_,h,_,hp,_=>by cases hp
 |(m,x)::r,nd,h,p,hp,hn=>by
  have nd':m∉r.map (·.1)/\(r.map (·.1)).Nodup:=List.nodup_cons.mp nd
  rw[List.lookup_cons]at h
  by_cases q:nm=m
  ·subst q
   rw[beq_self_eq_true]at h
   cases h
   rcases List.mem_cons.mp hp with rfl|hp
   ·rfl
   ·exact absurd (List.mem_map.mpr ⟨p,hp,hn⟩) nd'.1
  ·rw[beq_false_of_ne q]at h
   rcases List.mem_cons.mp hp with rfl|hp
   ·exact absurd hn.symm q
   ·exact Qv nd'.2 h p hp hn
theorem cn{k0 kn:Kw}(pm:k0.Perm kn)(nd:(kn.map (·.1)).Nodup)(nm:Str):k0.lookup nm=kn.lookup nm:=by
 cases e:k0.lookup nm with
 |none=>
  cases e':kn.lookup nm with
  |none=>rfl
  |some x=>
   have:(k0.lookup nm).isSome=true:=lookup_mem_iff.mpr ((pm.map (·.1)).mem_iff.mpr (lookup_mem_iff.mp (by rw[e'];rfl)))
   rw[e]at this;cases this
 |some x=>
  obtain⟨y,hy⟩:∃y,kn.lookup nm=some y:=Option.isSome_iff_exists.mp (lookup_mem_iff.mpr (List.mem_map.mpr ⟨_,pm.mem_iff.mp (zQ e),rfl⟩))
  rw[hy]
  have:=Qv nd hy _ (pm.mem_iff.mp (zQ e)) rfl
  cases this
  rfl
theorem KnAt.get{H:Hp}{d:Addr}{kn:Kw}(h:KnAt H d kn)(nm:Str):(kn.lookup nm=none/\DGet H d (.str nm) none)\/∃e a,kn.lookup nm=some e/\DGet H d (.str nm) (some (.ref a))/\BuAt H a e:=by
 obtain⟨⟨k0,f⟩,hd,hb,pm,nd⟩:=h
 have g:=DGet.k (k:=Sum.inr nm) hd
 rw[eV,cn pm nd]at g
 cases q:kn.lookup nm with
 |none=>rw[q]at g;exact .inl ⟨rfl,g⟩
 |some e=>rw[q]at g;exact .inr ⟨e,f nm,rfl,g,hb _ (zQ q)⟩
theorem ZM{k0 kn:Kw}(pm:k0.Perm kn)(nm:Str)(e:Kb):(qQ k0 nm e).Perm (qQ kn nm e):=by
 unfold qQ
 by_cases z:nm∈kn.map (·.1)
 ·rw[if_pos ((pm.map (·.1)).mem_iff.mpr z),if_pos z];exact pm.map _
 ·rw[if_neg (fun w=>z ((pm.map (·.1)).mem_iff.mp w)),if_neg z];exact pm.append_right _
theorem KnAt.put{H:Hp}{d a:Addr}{kn:Kw}{e:Kb}(h:KnAt H d kn)(nm:Str)(hl:kn.length<=100)(hb:BuAt H a e):∃H',DPut H d (.str nm) (.ref a) H'/\Mv [d] H H'/\KnAt H' d (qQ kn nm e):=by
 obtain⟨⟨k0,f⟩,hd,hk0,pm,nd⟩:=h
 have hlen:(zo k0 f).length=kn.length:=(List.length_map _).trans pm.length_eq
 have hk:∀e∈k0,BuAt H (f e.1) e.2:=fun e he=>hk0 e (pm.mem_iff.mp he)
 refine⟨_,DPut.k (k:=Sum.inr nm) hd (by rw[hlen];exact vP _),Mv.upd1,(qQ k0 nm e,fun n=>if n=nm then a else f n),?_,?_,ZM pm nm e,bS nd nm e⟩
 ·rw[qb]
  congr 2
  unfold putK qQ zo
  have ea:((k0.map fun e=>((Sum.inr e.1:qt),V.ref (f e.1))).any fun kv=>decide (kv.1=(Sum.inr nm:qt)))=true↔nm∈k0.map (·.1):=by
   rw[List.any_eq_true]
   constructor
   ·rintro⟨p,hp,z⟩
    obtain⟨q,hq,rfl⟩:=List.mem_map.mp hp
    have z':(Sum.inr q.1:qt)=Sum.inr nm:=of_decide_eq_true z
    injection z' with z'
    exact List.mem_map.mpr ⟨q,hq,z'⟩
   ·intro z
    obtain⟨q,hq,e⟩:=List.mem_map.mp z
    exact⟨_,List.mem_map.mpr ⟨q,hq,rfl⟩,decide_eq_true (by rw[e])⟩
  by_cases z:nm∈k0.map (·.1)
  ·rw[if_pos (ea.mpr z),if_pos z,List.map_map,List.map_map]
   refine List.map_congr_left fun p hp=>?_
   simp only[Function.comp]
   by_cases y:p.1=nm
   ·rw[if_pos (by rw[y]),if_pos y]
    simp [y]
   ·rw[if_neg (by intro w;injection w with w;exact y w),if_neg y]
    simp [y]
  ·rw[if_neg (fun w=>z (ea.mp w)),if_neg z,List.map_append]
   congr 1
   ·refine List.map_congr_left fun p hp=>?_
    have y:¬p.1=nm:=fun w=>z (List.mem_map.mpr ⟨p,hp,w⟩)
    simp [y]
   ·simp
 ·have nt:NT [d] H:=NT.one hd trivial
  intro p hp
  have hp:=(ZM pm nm e).mem_iff.mpr hp
  have hb':=hb.mv (Mv.upd1 (o:= .dK (putK (zo k0 f) (Sum.inr nm) (.ref a)))) nt
  unfold qQ at hp
  split at hp
  ·obtain⟨q,hq,rfl⟩:=List.mem_map.mp hp
   by_cases y:q.1=nm
   ·rw[if_pos y];simp only[if_true];exact hb'
   ·rw[if_neg y]
    show BuAt _ (if q.1=nm then a else f q.1) q.2
    rw[if_neg y]
    exact(hk q hq).mv Mv.upd1 nt
  ·rename_i z
   rcases List.mem_append.mp hp with hq|hq
   ·have y:¬p.1=nm:=fun w=>z (List.mem_map.mpr ⟨p,hq,w⟩)
    show BuAt _ (if p.1=nm then a else f p.1) p.2
    rw[if_neg y]
    exact(hk p hq).mv Mv.upd1 nt
   ·rw[List.mem_singleton.mp hq];simp only[if_true];exact hb'
def KsAt(K:Frag)(H:Hp)(hk:Addr)(kss:List (List Int)):Prop:=∃as:List Addr,H hk=some (.lst (as.map V.ref))/\as.length=kss.length/\∀(i:Nat) (a:Addr) (ks:List Int),as[i]? =some a->kss[i]? =some ks->SqT K H a (ks.map V.int)
theorem KsAt.mv{K:Frag}{S:List Addr}{H H':Hp}{hk:Addr}{kss:List (List Int)}(m:Mv S H H')(n:NT S H)(hd:hk∉S)(h:KsAt K H hk kss):KsAt K H' hk kss:=let⟨as,e,l,r⟩:=h;⟨as,m _ _ hd e,l,fun i a ks e1 e2=>m.sqt n (r i a ks e1 e2)⟩
structure Dr where
 t:List Int
 kss:List (List Int)
 near:Int
 far:Int
 most:Int
 least:Int
 kn:Kw
def dF(D:Dr)(ta hk bd lg:Addr):List (Str×V):=
 [("table",.ref ta),("house_keys",.ref hk),("near",.int D.near),("far",.int D.far),("most",.int D.most),("least_age",.int D.least),("buttons",.ref bd),("log",.ref lg)]
def dN:List Str:=["table","house_keys","near","far","most","least_age","buttons","log"]
theorem vY:dN.Nodup:=by decide +kernel
theorem gO(D:Dr)(ta hk bd lg:Addr):((dF D ta hk bd lg).map (·.1)).Nodup:=vY
structure DCx(K:Frag)(C:Addr):Prop where
 cl:Cls K C
 n_table:NoAttr K C "table"
 n_house_keys:NoAttr K C "house_keys"
 n_near:NoAttr K C "near"
 n_far:NoAttr K C "far"
 n_most:NoAttr K C "most"
 n_least_age:NoAttr K C "least_age"
 n_buttons:NoAttr K C "buttons"
 n_log:NoAttr K C "log"
structure DoorAt(K:Frag)(C:Addr)(H:Hp)(p ta hk bd lg:Addr)(n:Nat)(D:Dr):Prop where
 ob:∃dx,H p=some (.ins C dx (dF D ta hk bd lg))
 tb:SqT K H ta (D.t.map V.int)
 ks:KsAt K H hk D.kss
 kb:KnAt H bd D.kn
 lo:∃rs:List Addr,H lg=some (.lst (rs.map V.ref))/\rs.length<=n
 ne:lg≠hk
section
variable{K:Frag}{C:Addr}{H H':Hp}{p ta hk bd lg dx:Addr}{n:Nat}{D:Dr}
theorem DoorAt.has(b:DoorAt K C H p ta hk bd lg n D)(U:DCx K C)(i:Nat){f:Str}{v:V}(h:(dF D ta hk bd lg)[i]? =some (f,v))(na:NoAttr K C f):ZZ K H p f v:=by
 obtain⟨dx,e⟩:=b.ob
 exact⟨C,dx,_,e,U.cl,na,gj i h (gO ..)⟩
theorem DoorAt.h_table(b:DoorAt K C H p ta hk bd lg n D)(U:DCx K C):ZZ K H p "table" (.ref ta):=b.has U 0 rfl U.n_table
theorem DoorAt.h_house_keys(b:DoorAt K C H p ta hk bd lg n D)(U:DCx K C):ZZ K H p "house_keys" (.ref hk):=b.has U 1 rfl U.n_house_keys
theorem DoorAt.h_near(b:DoorAt K C H p ta hk bd lg n D)(U:DCx K C):ZZ K H p "near" (.int D.near):=b.has U 2 rfl U.n_near
theorem DoorAt.h_far(b:DoorAt K C H p ta hk bd lg n D)(U:DCx K C):ZZ K H p "far" (.int D.far):=b.has U 3 rfl U.n_far
theorem DoorAt.h_most(b:DoorAt K C H p ta hk bd lg n D)(U:DCx K C):ZZ K H p "most" (.int D.most):=b.has U 4 rfl U.n_most
theorem DoorAt.h_least_age(b:DoorAt K C H p ta hk bd lg n D)(U:DCx K C):ZZ K H p "least_age" (.int D.least):=b.has U 5 rfl U.n_least_age
theorem DoorAt.h_buttons(b:DoorAt K C H p ta hk bd lg n D)(U:DCx K C):ZZ K H p "buttons" (.ref bd):=b.has U 6 rfl U.n_buttons
theorem DoorAt.h_log(b:DoorAt K C H p ta hk bd lg n D)(U:DCx K C):ZZ K H p "log" (.ref lg):=b.has U 7 rfl U.n_log
theorem DoorAt.no(b:DoorAt K C H p ta hk bd lg n D){m:Str}(h:m∉dN:=by decide +kernel):wc C H p m:=by
 obtain⟨dx,e⟩:=b.ob
 exact⟨dx,_,e,gl h⟩
theorem DoorAt.mv{S:List Addr}(b:DoorAt K C H p ta hk bd lg n D)(m:Mv S H H')(nt:NT S H)(hp:p∉S)(hh:hk∉S)(hb:bd∉S)(hl:lg∉S):DoorAt K C H' p ta hk bd lg n D:=by
 obtain⟨dx,e⟩:=b.ob
 obtain⟨rs,el,l⟩:=b.lo
 exact⟨⟨dx,m _ _ hp e⟩,m.sqt nt b.tb,b.ks.mv m nt hh,b.kb.mv m nt hb,⟨rs,m _ _ hl el,l⟩,b.ne⟩
theorem DoorAt.same(b:DoorAt K C H p ta hk bd lg n D)(s:Same H H'):DoorAt K C H' p ta hk bd lg n D:=b.mv (S:=[]) s.mv (fun c h=>nomatch h) (fun h=>nomatch h) (fun h=>nomatch h) (fun h=>nomatch h) (fun h=>nomatch h)
end
def wD:R2:=fun x y H Q=>∃(o:Option (Int×Int)) (b:Addr) (a c:Int),Wt H x o/\y= .ref b/\Rd H b (.tup [.int a,.int c])/\Q (.bl (decide (o=some (a,c)))) H
theorem vj{X:Cx}{k:Nat}(hr:Room k X.A):zc X (compareOp .Eq) wD:=by
 intro pins s σ H x y v u Q I rx ry h
 obtain⟨o,b,a,c,hw,rfl,hb,q⟩:=h
 cases ry
 obtain⟨its2,r2,p2,_⟩:=I.tuple (.inl hb)
 have hu:X.A.units<cLine:=by have:=hr.un;omega
 cases o with
 |none=>
  have hw':x= .non:=hw
  subst hw'
  cases rx
  rw[decide_eq_false (by intro z;cases z)]at q
  exact SeqAt.RcAt.none_tuple p2 hu _ _ _ _ ⟨.bl false,H,I,rfl,q⟩
 |some pr=>
  obtain⟨x1,x2⟩:=pr
  obtain⟨w,rfl,hw'⟩:=hw
  cases rx
  obtain⟨its,r1,p1,_⟩:=I.tuple (.inl (.inl hw'))
  have l1:=r1.length
  have l2:=r2.length
  have e1:=SeqAt.RcAt.tuples (A:=X.A) (e:=fun j=>[x1,x2].getD j 0==[a,c].getD j 0) (show s.heap.IsTuple w its.toArray from p1) (show s.heap.IsTuple b its2.toArray from p2) hu (fun j h1 h2=>by
   have h1':j<its.length:=by simpa using h1
   have h2':j<its2.length:=by simpa using h2
   obtain⟨t,e⟩:=bO (ns:=[x1,x2]) r1 j h1' (by rw[<- l1]at h1';exact h1')
   obtain⟨t',e'⟩:=bO (ns:=[a,c]) r2 j h2' (by rw[<- l2]at h2';exact h2')
   simp only[List.getElem_toArray,e,e',List.getD_eq_getElem?_getD,List.getElem?_eq_getElem (show j<[x1,x2].length by rw[<- l1]at h1';exact h1'),List.getElem?_eq_getElem (show j<[a,c].length by rw[<- l2]at h2';exact h2'),Option.getD_some]
   exact SeqAt.EqAt.int_int _ _ _ _)
  have z1:its.toArray.size=2:=by rw[List.size_toArray,<- l1];rfl
  have z2:its2.toArray.size=2:=by rw[List.size_toArray,<- l2];rfl
  refine e1 _ _ _ _ ⟨.bl _,H,I,?_,q⟩
  show Value.bool _=Value.bool _
  congr 1
  rw[z1,z2,show min 2 2=([x1,x2]:List Int).length from rfl,i3 [x1,x2] [a,c] rfl]
  simp
def kZ(c l n f:Int):Str:=if c<=l then "old" else if c<=l+n then "near" else if c<=l+f then "far" else "beyond"
def jH:Sp:=fun vs H Q _=>∃c l n f:Int,vs=[.int c,.int l,.int n,.int f]/\Q (.str (kZ c l n f)) H
def zB(near far:Int)(e:Kb)(age c:Int):Str×Kb:=
 if c<=e.last then("old",e)else if c<=e.last+near then("near",⟨age,c,none⟩)
 else if c<=e.last+far then(if e.wt=some (age,c-1)then("near",⟨age,c,none⟩)else("far",⟨e.age,e.last,some (age,c)⟩))else("beyond",e)
def jS:Sp:=fun vs H Q _=>∃(a:Addr) (e:Kb) (age c near far:Int),vs=[.ref a,.int age,.int c,.int near,.int far]/\BuAt H a e/\
 ∀q a' H',Same H H'->H' q=some (.tup [.str (zB near far e age c).1,.ref a'])->BuAt H' a' (zB near far e age c).2->Q (.ref q) H'
def zN(D:Dr)(age:Int):Bool:=decide (D.least<=age)&&decide (age<D.kss.length)
def zL(D:Dr)(e:Kb)(age:Int):Bool:=zN D age&&decide (e.age<=age)
def qZ(D:Dr)(nm:Str)(age:Int)(r:Option (Int×Int)):List V×Kw:=
 match D.kn.lookup nm with
 |none=>([.str "held",.str "unknown"],D.kn)
 |some e=>if zL D e age=true then(match r with
   |none=>([.str "held",.str "false"],D.kn)
   |some (c,d)=>if(zB D.near D.far e age c).1="near" then([.str "open",.str nm,.int d],qQ D.kn nm (zB D.near D.far e age c).2)else([.str "held",.str (zB D.near D.far e age c).1],qQ D.kn nm (zB D.near D.far e age c).2))
  else([.str "held",.str "age"],D.kn)
structure DrOk(D:Dr):Prop where
 tp:D.t.Perm digs
 l0:0<=D.least
 kl:D.kss.length<=8
 nl:D.kn.length<=60
 nd:(D.kn.map (·.1)).Nodup
section
variable(K:Frag)(C:Addr)
def jC:Sp:=fun vs H Q _=>∃(p ta hk bd lg:Addr) (n:Nat) (D:Dr),vs=[.ref p]/\DoorAt K C H p ta hk bd lg n D/\Q (.bl (decide (D.most<=(D.kn.length:Int)))) H
def cN:Sp:=fun vs H Q _=>∃(p ta hk bd lg:Addr) (n:Nat) (D:Dr) (age:Int),vs=[.ref p,.int age]/\DoorAt K C H p ta hk bd lg n D/\Q (.bl (zN D age)) H
def eT:Sp:=fun vs H Q _=>∃(p ta hk bd lg a:Addr) (n:Nat) (D:Dr) (e:Kb) (age:Int),vs=[.ref p,.ref a,.int age]/\DoorAt K C H p ta hk bd lg n D/\BuAt H a e/\Q (.bl (zL D e age)) H
def p8:Sp:=fun vs H Q _=>∃(p ta hk bd lg:Addr) (n:Nat) (D:Dr) (nm:Str),vs=[.ref p,.str nm]/\DoorAt K C H p ta hk bd lg n D/\
 (D.kn.lookup nm=none->Q .non H)/\(∀e a,D.kn.lookup nm=some e->BuAt H a e->Q (.ref a) H)
def jY:Sp:=fun vs H Q _=>∃(p ta hk bd lg a:Addr) (n:Nat) (D:Dr) (e:Kb) (age c:Int),vs=[.ref p,.ref a,.int age,.int c]/\DoorAt K C H p ta hk bd lg n D/\BuAt H a e/\zL D e age=true/\
 ∀q a' H',Same H H'->H' q=some (.tup [.str (zB D.near D.far e age c).1,.ref a'])->BuAt H' a' (zB D.near D.far e age c).2->Q (.ref q) H'
def PrAt(H:Hp)(pr:Addr)(nm:Str)(age:Int)(ds:List Int):Prop:=∃pc,H pr=some (.tup [.str nm,.int age,.ref pc])/\H pc=some (.tup (ds.map V.int))
def zD(D:Dr)(age:Int):List Int:=D.kss.getD age.toNat []
def fI:Sp:=fun vs H Q _=>∃(p ta hk bd lg pr:Addr) (n:Nat) (D:Dr) (nm:Str) (age:Int) (ds:List Int),vs=[.ref p,.ref pr]/\DoorAt K C H p ta hk bd lg n D/\DrOk D/\PrAt H pr nm age ds/\QY nm/\ds.length=5/\q9 ds/\
 ∀q H',Mv [bd] H H'->H' q=some (.tup (qZ D nm age (Qa D.t (zD D age) nm ds)).1)->DoorAt K C H' p ta hk bd lg n {D with kn:=(qZ D nm age (Qa D.t (zD D age) nm ds)).2}->Q (.ref q) H'
end
theorem PrAt.mv{S:List Addr}{H H':Hp}{pr:Addr}{nm:Str}{age:Int}{ds:List Int}(m:Mv S H H')(n:NT S H)(h:PrAt H pr nm age ds):PrAt H' pr nm age ds:=let⟨pc,e1,e2⟩:=h;⟨pc,m.tup n e1,m.tup n e2⟩
theorem PrAt.same{H H':Hp}{pr:Addr}{nm:Str}{age:Int}{ds:List Int}(s:Same H H')(h:PrAt H pr nm age ds):PrAt H' pr nm age ds:=let⟨pc,e1,e2⟩:=h;⟨pc,s _ _ e1,s _ _ e2⟩
theorem gw{X:Cx}:zc X (compareOp .LtE) (fun x y H Q=>∃i j,x= .str i/\y= .str j/\Q (.bl (!decide (j.cps.toList<i.cps.toList))) H):=by
 intro pins s σ H x y v u Q I rx ry h
 obtain⟨i,j,rfl,rfl,q⟩:=h
 obtain⟨t,rfl⟩:=rx
 obtain⟨t',rfl⟩:=ry
 exact PySem.P.le_str (qM I q rfl)
theorem ow{js:List Nat}{te:TE}{σ:L2.St}{H:Hp}{Q:VK}{x:Str}(hn:x.cps.size<=sizeLine)(Pv:Nat->List V->Hp->Prop)(h0:Pv 0 [] H)
  (hs:∀i ys H c,x.cps[i]? =some c->ys.length=i->Pv i ys H->te (some (.str ⟨#[c]⟩)::QU js σ) H fun v H3=>Pv (i+1) (ys++[v]) H3)
  (hd:∀ys H,ys.length=x.cps.size->Pv x.cps.size ys H->∀p,H p=none->Q (.ref p) (upd H p (.lst ys))):Zj (rj x) js te σ H Q:=
 Zt hn (fun i v=>∃c,x.cps[i]? =some c/\v= .str ⟨#[c]⟩) Pv h0 (fun i ys H hi p=>hi) (fun ys H p=>Nat.le_refl _) (fun i ys H v H' _ p y=>y) (fun i ys H v hi hl p hx=>by
  obtain⟨c,hc,rfl⟩:=hx
  exact hs i ys H c hc hl p) hd
theorem oY{ds:List Int}(h:q9 ds):(ds.map V.int).all az=true:=by
 rw[List.all_eq_true]
 intro x hx
 obtain⟨i,hi,rfl⟩:=List.mem_map.mp hx
 have:=h i hi
 show(decide (0<=i)&&decide (i<16))=true
 rw[decide_eq_true this.1,decide_eq_true this.2];rfl
theorem ZB{c:Bool}{a b:Prop}(h:c=true)(x:a):if c=true then a else b:=by rw[if_pos h];exact x
theorem aJ{c:Bool}{a b:Prop}(h:c=false)(x:b):if c=true then a else b:=by rw[if_neg (by rw[h];intro z;cases z)];exact x
theorem qY{K:Frag}{C p dx:Addr}{H:Hp}{fs:List (Str×V)}{f:Str}{v:V}(c:Cls K C)(e:H p=some (.ins C dx fs))(n:NoAttr K C f)(i:Nat)(hns:fs.map (·.1)=dN.take i:=by rfl)(hn:f∉dN.take i:=by decide +kernel):
  cD K H p f v (upd H p (.ins C dx (fs++[(f,v)]))):=⟨C,dx,fs,e,c,n,by
  have h1:fs.length=(dN.take i).length:=by rw[<- hns,List.length_map]
  have h2:(dN.take i).length<=8:=by rw[List.length_take];exact Nat.min_le_right _ _
  omega,by rw[iE (by rw[hns];exact hn)]⟩
theorem KsAt.upd{K:Frag}{C p dx b:Addr}{H:Hp}{fs:List (Str×V)}{kss:List (List Int)}{o:HO}(e:H p=some (.ins C dx fs))(h:KsAt K H b kss):KsAt K (upd H p o) b kss:=by
 obtain⟨as,e1,l,r⟩:=id h
 exact h.mv Mv.upd1 (NT.one e trivial) (qF (qC e1 e (by intro z;cases z)))
theorem KsAt.same{K:Frag}{H H':Hp}{b:Addr}{kss:List (List Int)}(s:Same H H')(h:KsAt K H b kss):KsAt K H' b kss:=h.mv (S:=[]) s.mv (fun c h=>nomatch h) (fun h=>nomatch h)
theorem Mv.nfree{S:List Addr}{H H':Hp}{x:Addr}(m:Mv S H H')(hn:x∉S)(h:H' x=none):H x=none:=by
 cases e:H x with
 |none=>rfl
 |some o=>rw[m x o hn e]at h;cases h
theorem KsAt.at{K:Frag}{H:Hp}{hk:Addr}{D:Dr}{age:Int}(h:KsAt K H hk D.kss)(h0:0<=age)(h1:age<D.kss.length):∃(xs:List V) (ak:Addr),H hk=some (.lst xs)/\Q0 xs age=some (.ref ak)/\SqT K H ak ((zD D age).map V.int):=by
 obtain⟨as,e,l,r⟩:=h
 obtain⟨i,rfl⟩:∃i:Nat,age=(i:Int):=⟨age.toNat,by omega⟩
 have hi:i<D.kss.length:=by omega
 have hi':i<as.length:=by omega
 refine⟨_,as[i],e,zY (by rw[List.getElem?_map,List.getElem?_eq_getElem hi'];rfl),?_⟩
 have:=r i as[i] D.kss[i] (List.getElem?_eq_getElem hi') (List.getElem?_eq_getElem hi)
 unfold zD
 rw[Int.toNat_natCast,List.getD_eq_getElem?_getD,List.getElem?_eq_getElem hi]
 exact this
theorem fC{D:Dr}{e:Kb}{age:Int}(h:zL D e age=true)(h0:0<=D.least):0<=age/\age<D.kss.length:=by
 unfold zL zN at h
 rw[Bool.and_eq_true,Bool.and_eq_true]at h
 have h1:=of_decide_eq_true h.1.1
 have h2:=of_decide_eq_true h.1.2
 omega
theorem DoorAt.putK{K:Frag}{C:Addr}{H H':Hp}{p ta hk bd lg:Addr}{n:Nat}{D:Dr}{kn':Kw}(b:DoorAt K C H p ta hk bd lg n D)(m:Mv [bd] H H')(kb:KnAt H' bd kn'):DoorAt K C H' p ta hk bd lg n {D with kn:=kn'}:=by
 obtain⟨dx,e⟩:=b.ob
 obtain⟨f,hd,_⟩:=b.kb
 obtain⟨rs,el,l⟩:=b.lo
 obtain⟨as,eh,_⟩:=id b.ks
 have nt:NT [bd] H:=NT.one hd trivial
 exact⟨⟨dx,m _ _ (qF (qC e hd (by intro z;cases z))) e⟩,m.sqt nt b.tb,b.ks.mv m nt (qF (qC eh hd (by intro z;cases z))),kb,⟨rs,m _ _ (qF (qC el hd (by intro z;cases z))) el,l⟩,b.ne⟩
theorem DoorAt.putL{K:Frag}{C:Addr}{H:Hp}{p ta hk bd lg r:Addr}{n:Nat}{D:Dr}{rs:List Addr}(b:DoorAt K C H p ta hk bd lg n D)(el:H lg=some (.lst (rs.map V.ref)))(hl:rs.length<=n):DoorAt K C (upd H lg (.lst (rs.map V.ref++[.ref r]))) p ta hk bd lg (n+1) D:=by
 obtain⟨dx,e⟩:=b.ob
 obtain⟨f,hd,_⟩:=id b.kb
 have nt:NT [lg] H:=NT.one el trivial
 have m:Mv [lg] H (upd H lg (.lst (rs.map V.ref++[.ref r]))):=Mv.upd1
 exact⟨⟨dx,m _ _ (qF (qC e el (by intro z;cases z))) e⟩,m.sqt nt b.tb,b.ks.mv m nt (qF b.ne.symm),b.kb.mv m nt (qF (qC hd el (by intro z;cases z))),⟨rs++[r],by rw[qb,List.map_append];rfl,by rw[List.length_append];exact Nat.succ_le_succ hl⟩,b.ne⟩
section
variable(K:Frag)(C:Addr)
end
theorem Eqd.pair{H:Hp}{a b:Addr}{z:Str}{i:Int}(h1:H a=some (.tup [.str z,.int i]))(h2:H b=some (.tup [.str z,.int i])):Eqd H 1 (.ref a) (.ref b):=
 .tup (n:=0) (.inl h1) (.inl h2) rfl fun j x y ex ey=>by
  match j,ex,ey with
  |0,ex,ey=>cases ex;cases ey;exact .str _ _
  |1,ex,ey=>cases ex;cases ey;exact .int _ _
  |j+2,ex,ey=>cases ex
abbrev re(a b:Str):Prop:=a.cps.toList<=b.cps.toList
theorem vm{a b:Str}(h:ltCps b.cps.toList a.cps.toList=false):re a b:=by
 rw[ltCps_eq]at h
 exact List.not_lt.mp (of_decide_eq_false h)
theorem fY:∀{l:List Str} {p:Str},risingS p l=true->(p::l).Pairwise re
 | [],p,_=>by simp
 |x::r,p,h=>by
  have h':(!ltCps x.cps.toList p.cps.toList&&risingS x r)=true:=h
  rw[Bool.and_eq_true,Bool.not_eq_true']at h'
  have ih:=fY h'.2
  have hpx:=vm h'.1
  refine List.pairwise_cons.mpr ⟨fun y hy=>?_,ih⟩
  rcases List.mem_cons.mp hy with rfl|hy
  ·exact hpx
  ·exact List.le_trans hpx ((List.pairwise_cons.mp ih).1 y hy)
theorem cZ{l:List Str}(h:sortedS l=true):l.Pairwise re:=by
 cases l with
 |nil=>exact .nil
 |cons x r=>exact fY h
theorem cj{l a b:List Str}(pa:a.Perm l)(sa:sortedS a=true)(pb:b.Perm l)(sb:sortedS b=true):a=b:=by
 refine List.Perm.eq_of_pairwise (le:=re) (fun x y _ _ h1 h2=>?_) (cZ sa) (cZ sb) (pa.trans pb.symm)
 have e:x.cps.toList=y.cps.toList:=List.le_antisymm h1 h2
 cases x with
 |mk u=>cases y with
  |mk v=>
   have:u=v:=Array.toList_inj.mp e
   rw[this]
def ShAt(H:Hp)(q:Addr)(ss:List Str)(kn:Kw):Prop:=∃as:List Addr,H q=some (.tup (as.map V.ref))/\as.length=ss.length/\∀(i:Nat) (a:Addr) (nm:Str) (e:Kb),as[i]? =some a->ss[i]? =some nm->kn.lookup nm=some e->∃v,H a=some (.tup [.str nm,.int e.age,.int e.last,v])/\Wt H v e.wt
def cC(K:Frag)(C:Addr):Sp:=fun vs H Q _=>∃(p ta hk bd lg:Addr) (n:Nat) (D:Dr),vs=[.ref p]/\DoorAt K C H p ta hk bd lg n D/\DrOk D/\
 ∀q ss H',Same H H'->ss.Perm (D.kn.map (·.1))->sortedS ss=true->ShAt H' q ss D.kn->Q (.ref q) H'
theorem tm{X:Cx}{K:Frag}{e:Expr}{f:Str}{pos:Pos}{ta:TE}(hK:X.K=K)(he:QE X e ta)(hb:attributeBase e f X.env (eval e X.env)=eval e X.env:=by rfl):QE X (.Attribute e f pos) (p7 K ta f):=by
 subst hK
 exact qP he hb
theorem fy(kn:Kw)(f:Str->Addr):(zo kn f).map (·.1)=(kn.map (·.1)).map Sum.inr:=by
 unfold zo
 rw[List.map_map,List.map_map];rfl
theorem zE{kn:Kw}{nm:Str}(h:nm∈kn.map (·.1)):∃e,kn.lookup nm=some e:=Option.isSome_iff_exists.mp (lookup_mem_iff.mpr h)
section
variable{K:Frag}{H H':Hp}{m mt mk kd:Addr}{D:Dr}
end
theorem ZE:∀(more kvs:List (qt×V)),((kvs++more).map (·.1)).Nodup->zP kvs more=kvs++more
 | [],kvs,_=>by simp [zP]
 |p::r,kvs,nd=>by
  have hn:p.1∉kvs.map (·.1):=fun z=>by
   rw[List.map_append,List.map_cons]at nd
   exact(List.nodup_append.mp nd).2.2 _ z _ (List.mem_cons_self ..) rfl
  show zP (putK kvs p.1 p.2) r=_
  rw[jF hn,ZE r (kvs++[(p.1,p.2)]) (by rw[List.append_assoc];exact nd),List.append_assoc]
  rfl
def jD:Sp:=fun vs H Q _=>∃(b:Addr) (many c:Nat),vs=[.ref b,.int (many:Int)]/\BoxC H b c/\c<100000000/\many<=12/\∀l (ns:List Str) H',GrC b (c+many) H H'->H l=none->H' l=some (.lst (ns.map V.str))->ns.length=many->ns.Nodup->(∀z∈ns,QY z)->Q (.ref l) H'
theorem kU(ms:List Str)(k:Nat):(ms.map V.str).eraseIdx k=(ms.eraseIdx k).map V.str:=by
 rw[List.eraseIdx_eq_take_drop_succ,List.eraseIdx_eq_take_drop_succ,List.map_append,List.map_take,List.map_drop]
theorem mf{ms zs:List Str}{k:Nat}(h:k<ms.length):(zs++[ms[k]]++ms.eraseIdx k).Perm (zs++ms):=by
 rw[List.append_assoc]
 refine List.Perm.append_left zs ?_
 rw[List.eraseIdx_eq_take_drop_succ]
 have e:ms=ms.take k++ms[k]::ms.drop (k+1):=by rw[<- List.drop_eq_getElem_cons h,List.take_append_drop]
 refine List.Perm.trans (List.perm_middle (a:=ms[k]) (l₁:=ms.take k) (l₂:=ms.drop (k+1))).symm ?_
 rw[<- e]
section
variable{K:Frag}{C:Addr}{H H':Hp}{a:Ad}{n:Nat}{D:Dr}
theorem zH{as:List Addr}{ys:List V}{y:V}(i:Nat)(hy:ys[i]? =some y)(h:∀a,y≠ .ref a):HO.lst (as.map V.ref)≠HO.lst ys:=sg (f:=id) i hy h
end
section
variable{K:Frag}{C:Addr}{H H':Hp}{a:Ad}{n:Nat}{D:Dr}{kl:Kw}
end
structure KbOk(D:Dr)(e:Kb):Prop where
 a0:0<=e.age
 a1:e.age<D.kss.length
 l0:0<=e.last
 l1:e.last<4096
 w:∀x c,e.wt=some (x,c)->0<=c/\c<4096
section
variable{K:Frag}{C:Addr}{H0 H H':Hp}{b nl:Addr}{ns:List Str}{a:Ad}{D:Dr}{nb nb' i:Nat}{kn:Kw}
theorem cm(hn:1<=ns.length)(x y z:Int):HO.lst (ns.map V.str)≠fx x y z:=by
 cases ns with
 |nil=>cases hn
 |cons u r=>exact vq 0 (x:= .str u) (y:= .int x) rfl rfl (by intro z;cases z)
end
theorem i6{kn:Kw}{nm:Str}{e:Kb}:∀{l:Kw},(∀p∈l,p.1=nm->p=(nm,e))->l.map (fun p=>if p.1=nm then(nm,e)else p)=l
 | [],_=>rfl
 |p::r,h=>by
  rw[List.map_cons,i6 (kn:=kn) fun q hq=>h q (List.mem_cons_of_mem _ hq)]
  by_cases y:p.1=nm
  ·rw[if_pos y,h p (List.mem_cons_self ..) y]
  ·rw[if_neg y]
theorem ma{kn:Kw}{nm:Str}{e:Kb}(nd:(kn.map (·.1)).Nodup)(h:kn.lookup nm=some e):qQ kn nm e=kn:=by
 unfold qQ
 rw[if_pos (lookup_mem_iff.mp (by rw[h];rfl))]
 exact i6 (kn:=kn) (Qv nd h)
theorem dw{kn:Kw}{nm:Str}{e x:Kb}(h:kn.lookup nm=some e):(qQ kn nm x).map (·.1)=kn.map (·.1):=by
 rw[fQ,if_pos (lookup_mem_iff.mp (by rw[h];rfl))]
theorem sE{X:Cx}:∀u e,([]:List (Str×Addr)).lookup u=some e->X.env.cells.lookup u=some e:=fun u e h=>by cases h
theorem cG{X:Cx}{y:Str}{c:Addr}{l:List (Str×Addr)}(h:X.env.cells.lookup y=some c)(r:∀u e,l.lookup u=some e->X.env.cells.lookup u=some e):∀u e,((y,c)::l).lookup u=some e->X.env.cells.lookup u=some e:=fun u e he=>by
 by_cases hu:u=y
 ·subst hu
  simp at he
  rw[<- he];exact h
 ·rw[List.lookup_cons,show(u==y)=false from by simpa using hu]at he
  exact r u e he
section
variable{K:Frag}{H H':Hp}{m mt mk kd:Addr}{D:Dr}
end
section
variable{js:List Nat}{tc:TT}{te:TE}{σ:L2.St}{H:Hp}{Q:VK}{K:Frag}
end
theorem kL{X:Cx}:qW X (.type "dict") (fun xs H Q=>∃(d:Addr) (kvs:List (qt×V)),xs=[.ref d]/\H d=some (.dK kvs)/\∀p,H p=none->Q (.ref p) (upd H p (.dK kvs))):=by
 intro pins s σ H xs us Q I r h
 obtain⟨d,kvs,rfl,hd,q⟩:=h
 obtain⟨u,rfl,ru⟩:=Qb r
 cases ru
 exact px I (.inl hd) fun p s' hp I'=>⟨.ref p,_,I',rfl,q p hp⟩
theorem DoorAt.setF{K:Frag}{C:Addr}{H:Hp}{p dx:Addr}{fs:List (Str×V)}{f:Str}{u v:V}(i:Nat)(c:Cls K C)(na:NoAttr K C f)(e:H p=some (.ins C dx fs))(hf:fs[i]? =some (f,u))(nd:(fs.map (·.1)).Nodup)(hl:fs.length<1000):
  cD K H p f v (upd H p (.ins C dx (fs.set i (f,v)))):=⟨C,dx,fs,e,c,na,hl,by rw[jW i hf nd]⟩
theorem _root_.L2.Same.put{H H1:Hp}{x:Addr}{o:HO}(s:Same H H1)(h:H x=none):Same H (upd H1 x o):=fun c u e=>by
 rw[qh (ql e h)];exact s c u e
section
variable{K:Frag}{C:Addr}{H:Hp}{p ta hk bd lg dx:Addr}{D:Dr}
theorem fE(U:DCx K C)(e:H p=some (.ins C dx (dF D ta hk bd lg)))(z:Int):cD K H p "least_age" (.int z) (upd H p (.ins C dx (dF {D with least:=z} ta hk bd lg))):=DoorAt.setF 5 U.cl U.n_least_age e rfl (gO ..) (by show 8<1000;decide)
theorem ji(U:DCx K C)(e:H p=some (.ins C dx (dF D ta hk bd lg)))(x:Addr):cD K H p "buttons" (.ref x) (upd H p (.ins C dx (dF D ta hk x lg))):=DoorAt.setF 6 U.cl U.n_buttons e rfl (gO ..) (by show 8<1000;decide)
theorem sY(U:DCx K C)(e:H p=some (.ins C dx (dF D ta hk bd lg)))(x:Addr):cD K H p "log" (.ref x) (upd H p (.ins C dx (dF D ta hk bd x))):=DoorAt.setF 7 U.cl U.n_log e rfl (gO ..) (by show 8<1000;decide)
end
theorem nV{kn:Kw}{nm:Str}{x:Kb}(nd:(kn.map (·.1)).Nodup):(qQ kn nm x).lookup nm=some x:=by
 have hm:(nm,x)∈qQ kn nm x:=by
  unfold qQ
  split
  ·rename_i h
   obtain⟨p,hp,e⟩:=List.mem_map.mp h
   exact List.mem_map.mpr ⟨p,hp,if_pos e⟩
  ·exact List.mem_append_right _ (List.mem_singleton.mpr rfl)
 obtain⟨y,hy⟩:=zE (List.mem_map.mpr ⟨_,hm,rfl⟩)
 have:=Qv (bS nd nm x) hy _ hm rfl
 cases this
 exact hy
theorem nM{i:Nat}{x:V}{σ:L2.St}{H:Hp}{f b c:L2.St->Hp->Prop}{r:VK}(h:f (σ.set i (some x)) H):Q8 i x σ H (Ends.mk f r b c).nx:=h
section
variable{K:Frag}{C:Addr}{H H':Hp}{a:Ad}{n:Nat}{D:Dr}{kl:Kw}
end
section
variable{K:Frag}{C:Addr}{H0 H H':Hp}{b nl nd:Addr}{nms:List Str}{a:Ad}{nb n L:Nat}{D:Dr}{kl:Kw}{g:Str->Option (Int×Int)}
end
section
variable{X:Cx}{o e:Expr}{apos cpos pos:Pos}{td ty:TE}
def wF(K:Frag):R2:=fun x y H Q=>∃(a b:Addr) (xs:List V),x= .ref a/\y= .ref b/\SqL K H a xs/\SqL K H b []/\Q (.bl (!xs.isEmpty)) H
theorem mW{k:Nat}(hr:Room k X.A):zc X (compareOp .NotEq) (wF X.K):=by
 intro pins s σ H x y v u Q I rx ry h
 obtain⟨a,b,xs,rfl,rfl,ha,hb,q⟩:=h
 cases rx
 cases ry
 have hu:X.A.units+1<cLine:=by have:=hr.un;omega
 obtain⟨its,r1,p1,_⟩:=I.list ha
 obtain⟨its2,r2,p2,_⟩:=I.list hb
 have l1:=r1.length
 have l2:=r2.length
 cases xs with
 |nil=>
  have e:=SeqAt.RcNeAt.lists (A:=X.A) (e:=fun _=>true) p1.isList p2.isList (by simp;omega) (Nat.lt_of_succ_lt hu) (fun j h1 h2=>by
   have h2':j<its2.length:=by simpa using h2
   have:its2.length=0:=by rw[<- l2];rfl
   omega)
  refine e _ _ _ _ ⟨.bl _,H,I,?_,q⟩
  show Value.bool _=Value.bool _
  congr 1
  have z:its.toArray.size=0:=by rw[List.size_toArray,<- l1];rfl
  rw[z];rfl
 |cons x r=>
  refine SeqAt.RcNeAt.lists_lengths p1.isList p2.isList (by
   have z1:its.length=r.length+1:=by rw[<- l1];rfl
   have z2:its2.length=0:=by rw[<- l2];rfl
   simp;omega) (Nat.lt_of_succ_lt hu) _ _ _ _ ⟨.bl _,H,I,rfl,q⟩
end
theorem ShAt.same{H H':Hp}{q:Addr}{ss:List Str}{kn:Kw}(h:ShAt H q ss kn)(s:Same H H'):ShAt H' q ss kn:=let⟨as,e,l,r⟩:=h;⟨as,s _ _ e,l,fun i a nm x e1 e2 e3=>let⟨v,a1,a2⟩:=r i a nm x e1 e2 e3;⟨v,s _ _ a1,a2.mv (S:=[]) s.mv (fun c h=>nomatch h)⟩⟩
section
variable{K:Frag}{C:Addr}{H H':Hp}{b lf gn lr pl:Addr}{a:Ad}{nb n:Nat}{D:Dr}{kn kl kn1:Kw}{ps:List Pp}{left gone:List Str}
end
section
variable{K:Frag}{C:Addr}{H0 H H':Hp}{nl lr pl b:Addr}{nms:List Str}{a:Ad}{n nb nb':Nat}{D:Dr}{kn kn1:Kw}{ps:List Pp}
end
theorem DoorAt.putLeast{K:Frag}{C:Addr}{H:Hp}{p ta hk bd lg:Addr}{n:Nat}{D:Dr}(b:DoorAt K C H p ta hk bd lg n D)(U:DCx K C)(z:Int):∃dx,cD K H p "least_age" (.int z) (upd H p (.ins C dx (dF {D with least:=z} ta hk bd lg)))/\Mv [p] H (upd H p (.ins C dx (dF {D with least:=z} ta hk bd lg)))/\DoorAt K C (upd H p (.ins C dx (dF {D with least:=z} ta hk bd lg))) p ta hk bd lg n {D with least:=z}:=by
 obtain⟨dx,e⟩:=b.ob
 obtain⟨f,hd,_⟩:=id b.kb
 obtain⟨rs,el,l⟩:=b.lo
 obtain⟨as,eh,_⟩:=id b.ks
 have nt:NT [p] H:=NT.one e trivial
 have m:Mv [p] H (upd H p (.ins C dx (dF {D with least:=z} ta hk bd lg))):=Mv.upd1
 exact⟨dx,fE U e z,m,⟨dx,qb⟩,m.sqt nt b.tb,b.ks.mv m nt (qF (qC eh e (by intro z;cases z))),b.kb.mv m nt (qF (qC hd e (by intro z;cases z))),⟨rs,m _ _ (qF (qC el e (by intro z;cases z))) el,l⟩,b.ne⟩
section
variable{K:Frag}{C:Addr}{H H':Hp}{a:Ad}{n:Nat}{D:Dr}{bx nl:Addr}{nb:Nat}{nms:List Str}
theorem BoxC.moved{S:List Addr}(hb:BoxC H bx nb)(m:Mv S H H')(h:bx∉S):BoxC H' bx nb:=let⟨x1,x2,x3,e,r⟩:=hb;⟨x1,x2,x3,m _ _ h e,r⟩
end
section
variable{K:Frag}{C:Addr}{H0 H H':Hp}{b nl:Addr}{nms:List Str}{a:Ad}{nb nb' n n':Nat}{D D':Dr}
end
end L3
namespace PySem
open Sem (wp)
theorem i9:typeLookup (.type "list") "keys"=pure none:=by rw[typeLookup_type,builtinLookup_eq_fast];kernel_rfl
theorem iF{prog:Program}{w:World}{A:Around}{E:Value->Shared->Prop}{s:Shared}{a:Addr}{o:Obj}{xs:Array Value}{k:Nat}{Q:Option Value->Shared->Prop}
  (hx:s.heap.get? a=some o)(hc:o.cls= .type "list")(hdat:o.data= .seq xs k)(hd:o.dict=none)(hA:A.handled=none)
  (h:∀h' tk e,Heap.NewExcOf s.heap h' e "AttributeError"->Q none {s with heap:=h',toks:=tk}):
  wpAny (model prog w) A (getAttr? (.ref a) "keys") Q E s:=by
 obtain⟨c,dct,dat,sl⟩:=o
 simp only at hc hdat hd
 subst hc hdat hd
 obtain⟨hp,g,d,tk,os⟩:=s
 have hT:∀tk',(⟨hp,g,d,tk',os⟩:Shared).TypeIs (.ref a) "list":=fun _=>⟨_,hx,rfl⟩
 have f1:=sub_AttributeError
 have f3:=F.slot_list_getattribute.lookup
 have f4:=F.slot_list_getattribute.bind (.ref a)
 have f5:=am_list_getattr_none
 unfold getAttr? getAttrBy? getAttrBy
 repeat (any_goals (first|assumption|exact hT _|((with_reducible show wpAny _ _ (call (Value.builtin "list.__getattribute__") _ _) _ _ _);refine call_meets F.slot_list_getattribute (hT _) am_entry_list_getattribute (F.args_list_getattribute_2 _ _) (meets_getattribute_miss_list a xs k sl "keys" _ i9 (by decide +kernel) (by size_fits)) ⟨hx,hA,fun h' tk' e hx'=>?_⟩)|wp_step))
 obtain⟨t',u',he⟩:=hx'.there
 show wpAny _ _ (getattributeRaised _ _ _ _ _ _ _) _ _ _
 unfold getattributeRaised
 repeat (any_goals (first|assumption|wp_step))
 exact h _ _ _ hx'.of
end PySem
namespace PyProof.Rows
open PySem PySem.Spec
theorem Qw:entryFor table "dict.update.loop"=some Builtin.«dict.update.loop»:=entryFor_of_tree (by kernel_rfl)
theorem zw:plainId "dict.update.loop"=true:=by decide +kernel
section
variable{prog:Program}{w:World}{A:Around}{R:Result->Shared->Prop}{I:Addr}{fp wr:List Addr}{G:Array GenState->Array GenState->Prop}{n:Nat}{P:Nat->Value->Prop}{St:Nat->Shared->Prop}
theorem kC{A:Around}{s:Shared}{E:Value->Shared->Prop}{Q:List Value->Shared->Prop}{a:Addr}{x y:Value}(h:s.heap.IsTuple a #[x,y])(hQ:Q [x,y] s):wpAny (model prog w) A (Builtin.Dict.pairItems (.ref a)) Q E s:=by
 obtain⟨o,ho,hc,m,hd⟩:=id h
 unfold Builtin.Dict.pairItems
 refine wpAny_bind (wpAny_typeOf h.typeIs ?_)
 rw[if_pos (by decide)]
 exact wpAny_bind (wpAny_seqItems ho hd (wpAny_pure hQ))
theorem Zn{K:Type} [DecidableEq K]{knd:PySem.KeyKind prog w K}(W:WalksS prog w A.in1 I fp wr G n P St)(S:Addr)(hSf:S∉fp)(more:List (K×Value))(hn:more.length=n)(ta:Nat->Addr)(key:Nat->Value)
  (hta:∀i,i<n->ta i∉S::wr)(hkey:∀i kv,more[i]? =some kv->knd.is kv.1 (key i)=true)(hP:∀i v,i<n->P i v->v= .ref (ta i))(hsz:n<=sizeLine):
  ∀(k i:Nat) (s:Shared),n-i=k->i<=n->St i s->s.heap.DictOf knd S (merged [] (more.take i))->(∀j kv,more[j]? =some kv->s.heap.IsTuple (ta j) #[key j,kv.2])->
   (∀s',Moved (S::wr) G s s'->s'.heap.DictOf knd S (merged [] more)->R (.ok (.ret .none)) s')->
   codeAny (model prog w) A (.builtin "dict.update.loop" ⟨[.ref S,.ref I,rawInt i,.none],[]⟩) R s:=by
 have hSw:S∉wr:=fun h=>hSf (W.sub _ h)
 have hsub:∀b∈wr,b∈S::wr:=fun b hb=>List.mem_cons_of_mem _ hb
 intro k
 induction k with
 |zero=>
  intro i s hk hi hst hS hT hR
  have hin:i=n:=by omega
  subst hin
  refine codeAny_builtin Qw ?_
  rw[Around.under_plainId zw _]
  show wpAny _ A.in1 (pyNext (.ref I) >>= _) _ _ s
  refine wpAny_bind (W.done s _ _ hst fun s' hm=>?_)
  show wpAny _ A.in1 (Builtin.Dict.addKeywords S [] >>= _) _ _ s'
  refine wpAny_bind (wpAny_pure ?_)
  rw[List.take_of_length_le (by omega)]at hS
  exact wpAny_pure (hR s' (hm.mono hsub) (by
   obtain⟨o,es,ep,ho,rest⟩:=hS
   exact⟨o,es,ep,hm.heap S _ hSw ho,rest⟩))
 |succ k ih=>
  intro i s hk hi hst hS hT hR
  have hlt:i<n:=by omega
  have hml:more[i]? =some more[i]:=List.getElem?_eq_getElem (by omega)
  obtain⟨kv,hkv⟩:∃kv,kv=more[i]:=⟨_,rfl⟩
  rw[<- hkv]at hml
  refine codeAny_builtin Qw ?_
  rw[Around.under_plainId zw _]
  show wpAny _ A.in1 (pyNext (.ref I) >>= _) _ _ s
  refine wpAny_bind (W.item i s _ _ hlt hst fun v s' hP' hst' hm=>?_)
  obtain rfl:=hP i v hlt hP'
  have hS':s'.heap.DictOf knd S (merged [] (more.take i)):=by
   obtain⟨o,es,ep,ho,rest⟩:=hS
   exact⟨o,es,ep,hm.heap S _ hSw ho,rest⟩
  have hT':∀j kv,more[j]? =some kv->s'.heap.IsTuple (ta j) #[key j,kv.2]:=fun j kv e=>by
   have hj:j<n:=by rw[<- hn];exact(List.getElem?_eq_some_iff.mp e).1
   obtain⟨o,ho,rest⟩:=hT j kv e
   exact⟨o,hm.heap _ _ (fun z=>hta j hj (hsub _ z)) ho,rest⟩
  have hTi:=hT' i kv hml
  show wpAny _ A.in1 (holding [Value.ref (ta i)] _ >>= _) _ _ _
  refine wpAny_bind (wpAny_holding ?_)
  refine wpAny_bind (wpAny_tryCatch (kC hTi ?_))
  show wpAny _ A.in1 (holding [key i,kv.2] (dictSet S (key i) kv.2)) _ _ _
  refine wpAny_holding ?_
  unfold dictSet
  refine wpAny_holding ?_
  refine wpAny_bind (knd.pyHash (hkey i kv hml) ?_)
  refine wpAny_dictSetHashed_pairs (s:={s' with toks:=s'.toks+1}) (hkey i kv hml) hS' (fun h' hd' hs'=>?_) (by have:=merged_length_le ([]:List (K×Value)) (more.take i);have:=List.length_take_le i more;simp at *;omega)
  rw[<- merged_take_succ [] more i kv hml]at hd'
  refine wpAny_pure ⟨plainId_quiet zw _,?_⟩
  rw[show((i:Int)+1)=((i+1:Nat):Int)from rfl]
  refine ih (i+1) _ (by omega) hlt (W.frame _ s' _ _ hst' (Nat.le_succ _) fun b hb o e=>?_) hd' (fun j kv e=>?_) fun s'' hm'' hS''=>?_
  ·rw[hs'.2 b (fun h:b=S=>hSf (by rw[<- h];exact hb))];exact e
  ·have hj:j<n:=by rw[<- hn];exact(List.getElem?_eq_some_iff.mp e).1
   obtain⟨o,ho,rest⟩:=hT' j kv e
   exact⟨o,by rw[hs'.2 _ (fun h:ta j=S=>hta j hj (by rw[h];exact List.mem_cons_self))];exact ho,rest⟩
  ·refine hR s'' (Moved.trans W.gtrans ((hm.mono hsub).then_heap (Nat.le_succ _) fun b o hb e=>?_) hm'') hS''
   rw[hs'.2 b (fun h:b=S=>hb (by rw[h];exact List.mem_cons_self))];exact e
end
end PyProof.Rows
namespace PySem
open PyProof.Rows
section
variable{prog:Program}{w:World}{K:Type} [DecidableEq K]{knd:PySem.KeyKind prog w K}{A:Around}{E:Value->Shared->Prop}{s:Shared}
theorem fh{l:Addr}{items:Array Value}{nl:Nat}{sl:Array (Option Value)}{Q:Value->Shared->Prop}(more:List (K×Value))(ta:Nat->Addr)(key:Nat->Value)(hh:A.handled=none)
  (hol:s.heap.get? l=some {cls:= .type "list",dict:=none,data:= .seq items nl,slots:=sl})(hn:more.length=items.size)(hit:∀(i:Nat) (v:Value),items[i]? =some v->v=Value.ref (ta i))
  (htu:∀j kv,more[j]? =some kv->s.heap.IsTuple (ta j) #[key j,kv.2])(hkey:∀i kv,more[i]? =some kv->knd.is kv.1 (key i)=true)(hsz:items.size<=sizeLine)
  (h:∀h' tk,h'.DictOf knd s.heap.objs.size (merged [] more)->(∀b o,b<s.heap.objs.size->s.heap.get? b=some o->h'.get? b=some o)->Q (.ref s.heap.objs.size) {s with heap:=h',toks:=tk}):
  wpAny (model prog w) A (call (.type "dict") [.ref l]) Q E s:=by
 refine callType_codes (Q₁:=fun obj s₁=>obj= .ref s.heap.objs.size/\s₁={s with heap:=s.heap.push {cls:= .type "dict",data:= .dict #[]}}) F.kt_called_dict (F.kt_typeCall_dict_1 _) F.entry_dict_init (kt_code_dict_new _ ⟨rfl,rfl⟩) ?_
 rintro obj s₁ ⟨rfl,rfl⟩
 have hnew:(s.heap.push {cls:= .type "dict",data:= .dict #[]}).DictOf knd s.heap.objs.size []:=Heap.DictOf.new s.heap
 have hol':(s.heap.push {cls:= .type "dict",data:= .dict #[]}).get? l=some {cls:= .type "list",dict:=none,data:= .seq items nl,slots:=sl}:=Heap.get?_push_of_some _ hol
 have hT:Shared.TypeIs {s with heap:=s.heap.push {cls:= .type "dict",data:= .dict #[]}} (.ref l) "list":=⟨_,hol',rfl⟩
 refine⟨hnew.typeIs,F.args_dict_init_2 _ _,?_⟩
 unfold Builtin.«dict.__init__»
 refine wpAny_bind ?_
 unfold Builtin.Dict.selfAndRest
 refine wpAny_bind (wpAny_notOrdered_dict hnew.typeIs ?_)
 show wpAny _ _ (pure (s.heap.objs.size,[Value.ref l])) _ _ _
 refine wpAny_pure ?_
 show wpAny _ _ (Builtin.Dict.updateFrom "dict.__init__" s.heap.objs.size (.ref l) [] .none) _ _ _
 unfold Builtin.Dict.updateFrom
 refine wpAny_bind (wpAny_typeOf hT ?_)
 rw[if_pos (by decide)]
 refine wpAny_bind (iF hol' rfl rfl rfl (by simp [hh]) fun h1 tk1 e1 hx=>?_)
 rw[if_pos (show(none:Option Value).isNone=true from rfl)]
 refine wpAny_bind (wpAny_rule ?_)
 have hl1:h1.IsList l items:=⟨_,hx.keeps _ _ hol',rfl,nl,rfl⟩
 refine wpAny_bind (wpAny_pyIter_list hl1 ?_)
 refine wpAny_pure ⟨plainId_quiet zw _,?_⟩
 have hlS:l<s.heap.objs.size:=Heap.lt_size hol
 have hS1:h1.get? s.heap.objs.size≠none:=by
  have:(s.heap.push {cls:= .type "dict",data:= .dict #[]}).get? s.heap.objs.size=some _:=Heap.get?_push_size _ rfl
  rw[hx.keeps _ _ this];intro z;cases z
 have hSlt:s.heap.objs.size<h1.objs.size:=by
  cases hz:h1.get? s.heap.objs.size with
  |none=>exact absurd hz hS1
  |some o=>exact Heap.lt_size hz
 have hneI:l≠h1.objs.size:=Nat.ne_of_lt (Nat.lt_trans hlS hSlt)
 have hh3:A.in1.in1.handled=none:=by simp [hh]
 have hSf:s.heap.objs.size∉[h1.objs.size,l]:=by
  simp only[List.mem_cons,List.mem_singleton,List.not_mem_nil,or_false,not_or]
  exact⟨Nat.ne_of_lt hSlt,Nat.ne_of_gt hlS⟩
 have htl:∀j,j<items.size->ta j<s.heap.objs.size:=fun j hj=>by
  have e:more[j]? =some (more[j]'(by omega)):=List.getElem?_eq_getElem (by omega)
  obtain⟨o,ho,_⟩:=htu j _ e
  exact Heap.lt_size ho
 refine Zn (knd:=knd) ((Walks.list hh3 _ l hneI items).toS) s.heap.objs.size hSf more hn ta key (fun j hj=>?_) hkey (fun i v _ hv=>hit i v hv) hsz (items.size-0) 0 _ (by omega) (Nat.zero_le _)
  ⟨⟨_,Heap.get?_push_size _ rfl,rfl,rfl⟩,hl1.push _⟩ ?hS0 ?hT0 ?hR
 case hS0=>
  obtain⟨o,es,ep,ho,rest⟩:=hnew
  exact⟨o,es,ep,Heap.get?_push_of_some _ (hx.keeps _ _ ho),rest⟩
 case hT0=>
  intro j kv e
  obtain⟨o,ho,rest⟩:=htu j kv e
  exact⟨o,Heap.get?_push_of_some _ (hx.keeps _ _ (Heap.get?_push_of_some _ ho)),rest⟩
 case hR=>
  intro s' hm hS'
  obtain⟨h',g',d',tk',os'⟩:=s'
  have eg:g'=s.gens:=hm.gens
  have ed:d'=s.drawn:=hm.drawn
  have eo:os'=s.os:=hm.os
  subst eg;subst ed;subst eo
  refine⟨rfl,h h' tk' hS' fun b o hb e=>?_⟩
  exact hm.heap b o (by simp only[List.mem_cons,List.mem_singleton,List.not_mem_nil,or_false,not_or];exact⟨Nat.ne_of_lt hb,Nat.ne_of_lt (Nat.lt_trans hb hSlt)⟩) (Heap.get?_push_of_some _ (hx.keeps _ _ (Heap.get?_push_of_some _ e)))
 ·have:=htl j hj
  simp only[List.mem_cons,List.mem_singleton,List.not_mem_nil,or_false,not_or]
  exact⟨Nat.ne_of_lt this,Nat.ne_of_lt (Nat.lt_trans this hSlt)⟩
end
end PySem
namespace L3
open PySem PySem.Spec PyProof.Rows L2
theorem pW:∀{kvs:List (qt×V)} {more:List (qt×Value)},kvs.length=more.length->(∀(j:Nat) kv' kv,kvs[j]? =some kv'->more[j]? =some kv->kv'.1=kv.1/\RelV kv'.2 kv.2)->KV kvs more
 | [],[],_,_=> .nil
 | [],b::r,h,_=>by cases h
 |a::r,[],h,_=>by cases h
 |a::r,b::r',h,hj=> .cons (hj 0 a b rfl rfl) (pW (Nat.succ.inj h) fun j kv' kv e1 e2=>hj (j+1) kv' kv e1 e2)
theorem aC{X:Cx}(hcalm:X.calm=true):qW X (.type "dict") (fun xs H Q=>∃(l:Addr) (as:List Addr) (kvs:List (qt×V)),xs=[.ref l]/\H l=some (.lst (as.map V.ref))/\as.length=kvs.length/\(∀(i:Nat) (a:Addr) (kv:qt×V),as[i]? =some a->kvs[i]? =some kv->H a=some (.tup [kV kv.1,kv.2]))/\∀p,H p=none->Q (.ref p) (upd H p (.dK (zP [] kvs)))):=by
 intro pins s σ H xs us Q I r h
 obtain⟨l,as,kvs,rfl,hl,hlen,htu,q⟩:=h
 obtain⟨u,rfl,ru⟩:=Qb r
 cases ru
 obtain⟨its,ri,⟨o,n,ho,hc,hd,hdat⟩,hz⟩:=I.list (SqL.of hl)
 have hli:its.length=as.length:=by rw[<- ri.length,List.length_map]
 have hz':as.length<=sizeLine:=by rw[List.length_map]at hz;exact hz
 obtain⟨ocls,odict,odata,osl⟩:=o
 simp only at hc hd hdat
 subst hc hd hdat
 have hex:∀j:Nat,∃p:Value×Value,∀(kv:qt×V),kvs[j]? =some kv->RelV kv.2 p.2/\s.heap.IsTuple (as.getD j 0) #[p.1,p.2]/\(qN X.prog X.w).is kv.1 p.1=true:=fun j=>by
  cases hk:kvs[j]? with
  |none=>exact⟨(.none,.none),fun kv e=>by cases e⟩
  |some kv=>
   have hj:j<as.length:=by rw[hlen];exact(List.getElem?_eq_some_iff.mp hk).1
   have ha:as[j]? =some as[j]:=List.getElem?_eq_getElem hj
   obtain⟨its2,r2,p2,_⟩:=I.tuple (.inl (.inl (htu j _ kv ha hk)))
   obtain⟨u1,u2,rfl,ru1,ru2⟩:=bL r2
   refine⟨(u1,u2),fun kv' e=>?_⟩
   cases e
   refine⟨ru2,?_,ZK ru1⟩
   rw[List.getD_eq_getElem?_getD,ha]
   exact p2
 obtain⟨f,hf⟩:=Classical.axiomOfChoice hex
 obtain⟨more,hmore⟩:∃more:List (qt×Value),more=(List.range kvs.length).map fun j=>((kvs.getD j (.inl 0,.non)).1,(f j).2):=⟨_,rfl⟩
 have hml:more.length=kvs.length:=by rw[hmore,List.length_map,List.length_range]
 have hmj:∀j kv,more[j]? =some kv->∃kv',kvs[j]? =some kv'/\kv=(kv'.1,(f j).2):=fun j kv e=>by
  have hj:j<kvs.length:=by rw[<- hml];exact(List.getElem?_eq_some_iff.mp e).1
  refine⟨kvs[j],List.getElem?_eq_getElem hj,?_⟩
  rw[hmore,List.getElem?_map,List.getElem?_range hj]at e
  cases e
  show((kvs.getD j (Sum.inl 0,V.non)).1,(f j).2)=_
  rw[List.getD_eq_getElem?_getD,List.getElem?_eq_getElem hj];rfl
 have hKV:KV kvs more:=pW hml.symm fun j kv' kv e1 e2=>by
  obtain⟨kv2,e3,rfl⟩:=hmj j kv e2
  rw[e1]at e3
  cases e3
  exact⟨rfl,(hf j kv' e1).1⟩
 refine fh (knd:=qN X.prog X.w) (sl:=osl) more (fun j=>as.getD j 0) (fun j=>(f j).1) (I.ok.hd hcalm) ho (by rw[hml,<- hlen,List.size_toArray,hli]) (fun i v hv=>?_) (fun j kv e=>?_) (fun j kv e=>?_) (by rw[List.size_toArray,hli];exact hz') (fun h' tk dd hk=>?_)
 ·have hv':its[i]? =some v:=by simpa using hv
  have hi:i<as.length:=by rw[<- hli];exact(List.getElem?_eq_some_iff.mp hv').1
  have ha:as[i]? =some as[i]:=List.getElem?_eq_getElem hi
  obtain⟨x,ex,rx⟩:=zA ri (j:=i) (by rw[hli];exact hi)
  rw[List.getElem?_map,ha]at ex
  cases ex
  rw[List.getElem?_eq_getElem (by rw[hli];exact hi)]at hv'
  cases hv'
  rw[List.getD_eq_getElem?_getD,ha]
  exact rx
 ·obtain⟨kv',e',rfl⟩:=hmj j kv e
  exact(hf j kv' e').2.1
 ·obtain⟨kv',e',rfl⟩:=hmj j kv e
  exact(hf j kv' e').2.2
 ·have hz2:(zP [] kvs).length<=sizeLine:=by
   have h1:=Zh kvs []
   simp at h1
   omega
  have rel:KV (zP [] kvs) (merged [] more):=KV.merge hKV .nil
  have I':=I.laid (a:=s.heap.objs.size) (o:= .dK (zP [] kvs)) (h':=h') (t':=tk) (fun b u e=>hk b u (Heap.lt_size e) e) (Nat.le_refl _) (eI hz2 (beq_eq_false_iff_ne.mpr (Ne.symm (Nat.ne_of_lt I.big))) rel dd)
  exact⟨.ref _,_,I',rfl,q _ (I.hok.fresh (Nat.le_refl _))⟩
def tT(d:Addr)(o:Obj)(kvs:List (qt×V)):It:=
 ⟨fun i H=>H d=some (.frz o (.dK kvs))/\i<kvs.length,fun i H x H'=>H'=H/\∃kv,kvs[i]? =some kv/\x=kV kv.1,fun i H=>H d=some (.frz o (.dK kvs))/\kvs.length<=i⟩
theorem om{P:Program}{w:World}{k:qt}{u:Value}(h:(qN P w).is k u=true):RelV (kV k) u:=by
 rcases zh (show aM k u=true from h)with⟨i,t,rfl,rfl⟩|⟨x,t,rfl,rfl⟩
 ·exact⟨t,rfl⟩
 ·exact⟨t,rfl⟩
theorem lI:∀{kvs:List (qt×V)} {vs:List (qt×Value)},KV kvs vs->∀(i:Nat) a b,kvs[i]? =some a->vs[i]? =some b->a.1=b.1
 |_,_,.nil,i,a,b,h,_=>by cases h
 |_,_,.cons r t,0,a,b,h1,h2=>by cases h1;cases h2;exact r.1
 |_,_,.cons r t,i+1,a,b,h1,h2=>lI t i a b h1 h2
theorem mN{P:Program}{w:World}{K:Frag}{tg:Expr}(d it:Addr){o:Obj}{kvs:List (qt×V)}{vs:List (qt×Value)}{ep:Nat}(hD:∀h:Heap,h.get? d=some o->h.DictAt (qN P w) d vs ep)(rel:KV kvs vs):
  Turn P w K tg (tT d o kvs) [it] it (fun i h=>h.IsKeyIter it d i vs.length ep) where
 mem:=by simp
 obj:=fun i h st b hb=>by
  have e:b=it:=by simpa using hb
  subst e
  obtain⟨o,e,c,d⟩:=st
  exact⟨o,e,fun v z=>by rw[d]at z;cases z⟩
 keep:=fun i h h' st k=>st.at fun o e=>k it (by simp) o e
 item:=by
  intro X hP hw hK hc i pins s σ H E I hf st hg
  subst hP hw hK
  obtain⟨hd,hi⟩:=hg
  have hob:=(I.hok d _ hd).1
  have hi':i<vs.length:=by rw[<- rel.length];exact hi
  have hv:vs[i]? =some (vs[i].1,vs[i].2):=List.getElem?_eq_getElem hi'
  have hk:kvs[i]? =some kvs[i]:=List.getElem?_eq_getElem hi
  have hkk:kvs[i].1=vs[i].1:=lI rel i _ _ hk hv
  obtain⟨f0,f1,f2,f3,f4,f5⟩:=hf it (by simp)
  refine wpAny_pyNext_dict_item st (hD _ hob) hv fun key h' hkey st' sb=>?_
  have I1:L2.Inv X pins σ H {s with heap:=h'}:=I.turned (t':=s.toks) (fun b o hb e=>(sb.2 b hb).trans e) f0 f1 f3 f4 f5
  exact⟨key,rfl,letGo_keyiter (s':={s with heap:=h'}) st' ⟨kV kvs[i].1,H,I1,by rw[hkk];exact om hkey,⟨rfl,_,hk,rfl⟩,st',fun b hb=>(hf b hb).1⟩⟩
 done:=by
  intro X hP hw hK hc i pins s σ H E I hf st hg
  subst hP hw hK
  obtain⟨hd,hi⟩:=hg
  have hob:=(I.hok d _ hd).1
  obtain⟨f0,f1,f2,f3,f4,f5⟩:=hf it (by simp)
  have hl:=rel.length
  exact wpAny_pyNext_dict_end (I.ok.hd hc) st (hD _ hob) (List.getElem?_eq_none (by omega)) fun h' eb=>⟨rfl,I.turned (t':=s.toks) (fun b o hb e=>eb b o hb e) f0 f1 f3 f4 f5⟩
 self:=fun _ _ _ _ _ st h=>wpAny_pyIter_keyiter st h
def vW(tl:TE):TI:=fun σ H R=>tl σ H fun x H1=>∃d kvs,x= .ref d/\H1 d=some (.dK kvs)/\∀o,R (tT d o kvs) (upd H1 d (.frz o (.dK kvs)))
theorem sS{X:Cx}{tg l:Expr}{tl:TE}(hl:QE X l tl):QI X tg l (vW tl):=⟨by
 intro pins s σ H R I h
 refine qB (hl.h pins s σ H _ I h) fun v s1 ⟨x,H1,I1,r1,q1⟩=>?_
 obtain⟨d,kvs,e,hd,q⟩:=q1
 subst e
 cases r1
 obtain⟨z,lo,vs,rel,o,es,ep,d1,d2,d3,d4,d5,d6⟩:=gM I1.hok hd
 have hDD:∀h:Heap,h.get? d=some o->h.DictAt (qN X.prog X.w) d vs ep:=fun h e=>⟨o,es,e,d2,d3,d4,d5,d6⟩
 refine wpAny_pyIter_dict lo (hDD _ d1) ?_
 have I2:=I1.write (x:=d) (e:=d) (o:= .frz o (.dK kvs)) (h':=s1.heap) (t':=s1.toks) (by rw[hd];exact True.intro) (.inl rfl) (fun b u _ e=>e) ⟨o,d1⟩ ⟨d1,z,lo,vs,rel,o,es,ep,d1,d2,d3,d4,d5,d6⟩
 refine⟨s1.heap.objs.size,[s1.heap.objs.size],_,_,_,rfl,I2.kept (t':=s1.toks) fun b o e=>Heap.get?_push_of_some _ e,mN d _ hDD rel,⟨_,Heap.get?_push_size _ rfl,rfl,rfl⟩,fun b hb=>?_,q o⟩
 have e:b=s1.heap.objs.size:=by simpa using hb
 subst e
 exact I2.fpOk (Nat.le_refl _) (I2.hok.fresh (Nat.le_refl _))⟩
theorem Inv.thaw{X:Cx}{pins:List (Addr×Obj)}{σ:L2.St}{H:Hp}{s:Shared}{d:Addr}{o:Obj}{kvs:List (qt×V)}(I:L2.Inv X pins σ H s)(hd:H d=some (.frz o (.dK kvs)))(h0:∀o u,X.H₀ d≠some (.frz o u)):L2.Inv X pins σ (upd H d (.dK kvs)) s:=by
 have ne:∀b,H b=none->b≠d:=fun b e z=>by subst z;rw[hd]at e;cases e
 have non:∀b,H b=none->upd H d (.dK kvs) b=none:=fun b e=>by rw[qh (ne b e)];exact e
 refine⟨I.ok,I.os,I.bare,⟨I.base.keep,I.base.slot,fun b ob q n hx=>non b (I.base.free b ob q n hx),I.base.there,fun b xs q=>?_,fun b ob u q=>?_,fun b ps q=>?_⟩,I.loc,I.cell,non _ I.free,fun x c e=>non _ (I.freeC x c e),fun p hp=>?_,fun b u q=>?_,I.len⟩
 ·have:=I.base.tups b xs q
  rw[qh (fun z=>by subst z;rw[hd]at this;cases this)];exact this
 ·rw[qh (fun z=>by subst z;exact h0 _ _ q)];exact I.base.frzs b ob u q
 ·obtain⟨more,e⟩:=I.base.tbls b ps q
  exact⟨more,by rw[qh (fun z=>by subst z;rw[hd]at e;cases e)];exact e⟩
 ·obtain⟨p1,p2,p3⟩:=I.pin p hp
  exact⟨p1,non _ p2,p3⟩
 ·have st:∀{b:Addr} {u:HO},ObjOk X.prog X.w H s.heap b u->ObjOk X.prog X.w (upd H d (.dK kvs)) s.heap b u:=fun{b u} x=>x.stay (fun _ _ _ e=>e) (fun c e=>by rw[qh (fun z=>by subst z;rw[hd]at e;cases e)];exact e) (fun c xs e=>by rw[qh (fun z=>by subst z;rw[hd]at e;cases e)];exact e)
  by_cases hb:b=d
  ·subst hb
   rw[qb]at q
   cases q
   exact st (I.hok b _ hd).2
  ·rw[qh hb]at q
   exact st (I.hok b u q)
def vL(H₀:Hp)(te:TE):TE:=fun σ H Q=>te σ H fun v H'=>∃d o kvs,H' d=some (.frz o (.dK kvs))/\(∀o u,H₀ d≠some (.frz o u))/\Q v (upd H' d (.dK kvs))
theorem rZ{X:Cx}{e:Expr}{te:TE}(he:QE X e te):QE X e (vL X.H₀ te):=⟨by
 intro pins s σ H Q I h
 refine qB (he.h pins s σ H _ I h) fun v s1 ⟨x,H1,I1,r1,d,o,kvs,hd,h0,q⟩=>?_
 exact⟨x,_,Inv.thaw I1 hd h0,r1,q⟩⟩
section
variable{js:List Nat}{te:TE}{σ:L2.St}{H:Hp}{Q:VK}
theorem nJ{d:Addr}{o:Obj}{kvs:List (qt×V)}(hn:kvs.length<=sizeLine)(Pv:Nat->List V->Hp->Prop)(h0:Pv 0 [] H)(hl:∀i ys H,Pv i ys H->H d=some (.frz o (.dK kvs)))
  (hs:∀i ys H kv,kvs[i]? =some kv->ys.length=i->Pv i ys H->te (some (kV kv.1)::QU js σ) H fun v H3=>Pv (i+1) (ys++[v]) H3)
  (hd:∀ys H,ys.length=kvs.length->Pv kvs.length ys H->∀p,H p=none->Q (.ref p) (upd H p (.lst ys))):Zj (tT d o kvs) js te σ H Q:=
 Zt hn (fun i x=>∃kv,kvs[i]? =some kv/\x=kV kv.1) Pv h0 (fun i ys H hi p=>⟨hl _ _ _ p,hi⟩) (fun ys H p=>⟨hl _ _ _ p,Nat.le_refl _⟩) (fun i ys H x H' _ p y=>y) (fun i ys H x _ hl' p hx=>by obtain⟨kv,e,rfl⟩:=hx;exact hs i ys H kv e hl' p) hd
end
section
variable{K:Frag}{C:Addr}{H0 H H':Hp}{a:Ad}{n n':Nat}{D D':Dr}{kl:Kw}{hd kp b:Addr}{as:List Addr}{ps:List Pp}{nb nb':Nat}
end
theorem mC{H H':Hp}{d:Addr}{o:Obj}{kvs:List (qt×V)}(e:H d=some (.dK kvs))(s:Same (upd H d (.frz o (.dK kvs))) H'):Same H (upd H' d (.dK kvs)):=fun x u hx=>by
 by_cases q:x=d
 ·subst q
  rw[qb,<- hx,e]
 ·rw[qh q]
  exact s _ _ (by rw[qh q];exact hx)
section
variable{K:Frag}{C:Addr}{H0 H H':Hp}{a:Ad}{n n':Nat}{D D':Dr}{kl:Kw}{hd kp b nl:Addr}{as:List Addr}{ps:List Pp}{nb nb':Nat}{nn:List Str}
end
end L3
namespace L3
open PySem PySem.Spec PySem.Calls PySem.W PyProof.Rows Builtin Builtin.ObjectAttr Builtin.Getset_descriptor
section
variable{prog:Program}{w:World}{A:Around}{E:Value->Shared->Prop}{K:Frag}{h:Heap}{g:Array GenState}{d:Drawn}{t:Nat}{os:OsState}{a C:Addr}{o:Obj}
end
end L3
namespace L3
open PySem PySem.Spec PyProof.Rows L2
end L3
namespace L3
open PySem PySem.Spec PyProof.Rows L2 SeqAt
end L3
namespace L3
open PySem PySem.Spec PyProof.Rows L2
section
variable(K:Frag)(C:Addr)(x:Xa)
end
inductive Eqk (K:Frag) (H:Hp):Nat->V->V->Prop where
 |int (n:Nat) (i:Int):Eqk K H n (.int i) (.int i)
 |str (n:Nat) (x:Str):Eqk K H n (.str x) (.str x)
 |non (n:Nat):Eqk K H n .non .non
 | tup {n:Nat} {a b:Addr} {xs ys:List V} (h1:SqT K H a xs) (h2:SqT K H b ys) (hl:xs.length=ys.length)
   (hi:∀(i:Nat) (x y:V),xs[i]? =some x->ys[i]? =some y->Eqk K H n x y):Eqk K H (n+1) (.ref a) (.ref b)
section
open SeqAt
variable{X:Cx}{pins:List (Addr×Obj)}{σ:L2.St}{H:Hp}{s:Shared}
theorem vy(I:L2.Inv X pins σ H s){n:Nat}{x y:V}(h:Eqk X.K H n x y):∀{v u:Value} {A:Around},RelV x v->RelV y u->A.units+n<cLine->EqAt A s v u true:=by
 induction h with
 |int n i=>rintro v u A ⟨t,rfl⟩ ⟨t',rfl⟩ _;have:=EqAt.int_int (A:=A) (s:=s) i t i t';rwa [beq_self_eq_true]at this
 |str n z=>rintro v u A ⟨t,rfl⟩ ⟨t',rfl⟩ _;have:=EqAt.str_str (A:=A) (s:=s) z t z t';rwa [beq_self_eq_true]at this
 |non n=>
  intro v u A r1 r2 _
  cases(show v=Value.none from r1)
  cases(show u=Value.none from r2)
  exact EqAt.same _
 | @tup n a b xs ys h1 h2 hl _ ih=>
  intro v u A r1 r2 hu
  cases(show v=Value.ref a from r1)
  cases(show u=Value.ref b from r2)
  by_cases hab:a=b
  ·rw[hab];exact EqAt.same _
  ·obtain⟨its,q1,p1,_⟩:=I.tuple h1
   obtain⟨its2,q2,p2,_⟩:=I.tuple h2
   have l1:=q1.length
   have l2:=q2.length
   have e:=RcAt.tuples (A:=A) (e:=fun _=>true) (show s.heap.IsTuple a its.toArray from p1) (show s.heap.IsTuple b its2.toArray from p2) (by omega) (fun j z1 z2=>by
    obtain⟨x,ex,rx⟩:=zA q1 (j:=j) (by simpa using z1)
    obtain⟨y,ey,ry⟩:=zA q2 (j:=j) (by simpa using z2)
    exact ih j x y ex ey rx ry (by rw[Around.in1_units];omega))
   rw[Z6,show(its.toArray.size==its2.toArray.size)=true by simp;omega]at e
   exact EqAt.of_refs hab e
theorem uC(I:L2.Inv X pins σ H s){n:Nat}{x y:V}{v u:Value}{A:Around}(h:Eqk X.K H n x y)(r1:RelV x v)(r2:RelV y u)(hu:A.units+n<cLine):RcAt A s v u true/\RcNeAt A s v u false:=by
 cases h with
 |int n i=>
  obtain⟨t,rfl⟩:=r1
  obtain⟨t',rfl⟩:=r2
  have e1:=RcAt.int_int (A:=A) (s:=s) i t i t'
  have e2:=RcNeAt.int_int (A:=A) (s:=s) i t i t'
  rw[beq_self_eq_true]at e1 e2
  exact⟨e1,e2⟩
 |str n z=>
  obtain⟨t,rfl⟩:=r1
  obtain⟨t',rfl⟩:=r2
  have e1:=RcAt.str_str (A:=A) (s:=s) z t z t'
  have e2:=RcNeAt.str_str (A:=A) (s:=s) z t z t'
  rw[beq_self_eq_true]at e1 e2
  exact⟨e1,e2⟩
 |non n=>
  cases(show v=Value.none from r1)
  cases(show u=Value.none from r2)
  exact⟨RcAt.none_none,RcNeAt.none_none⟩
 | @tup n a b xs ys h1 h2 hl ih=>
  cases(show v=Value.ref a from r1)
  cases(show u=Value.ref b from r2)
  obtain⟨its,q1,p1,_⟩:=I.tuple h1
  obtain⟨its2,q2,p2,_⟩:=I.tuple h2
  have l1:=q1.length
  have l2:=q2.length
  have he:∀j (z1:j<its.toArray.size) (z2:j<its2.toArray.size),EqAt A.in1 s its.toArray[j] its2.toArray[j] ((fun _=>true) j):=fun j z1 z2=>by
   obtain⟨x,ex,rx⟩:=zA q1 (j:=j) (by simpa using z1)
   obtain⟨y,ey,ry⟩:=zA q2 (j:=j) (by simpa using z2)
   exact vy I (ih j x y ex ey) rx ry (by rw[Around.in1_units];omega)
  have e1:=RcAt.tuples (A:=A) (e:=fun _=>true) (show s.heap.IsTuple a its.toArray from p1) (show s.heap.IsTuple b its2.toArray from p2) (by omega) he
  have e2:=RcNeAt.tuples (A:=A) (e:=fun _=>true) (show s.heap.IsTuple a its.toArray from p1) (show s.heap.IsTuple b its2.toArray from p2) (by omega) he
  rw[Z6,show(its.toArray.size==its2.toArray.size)=true by simp;omega]at e1 e2
  exact⟨e1,e2⟩
def wC(K:Frag)(b:Bool):R2:=fun x y H Q=>∃n,n<=32/\Eqk K H n x y/\Q (.bl b) H
theorem uA{k:Nat}(hr:Room k X.A):zc X (compareOp .NotEq) (wC X.K false):=by
 intro pins s σ H x y v u Q I rx ry h
 obtain⟨n,hn,e,q⟩:=h
 exact(uC I e rx ry (by have:=hr.un;omega)).2 _ _ _ _ ⟨.bl _,H,I,rfl,q⟩
end
section
variable(K:Frag)(C:Addr)(x:Xa)
def gr:Sp:=fun vs H Q _=>∃(p ta hk bd lg:Addr) (n:Nat) (D:Dr),vs=[.ref p]/\DoorAt K C H p ta hk bd lg n D/\Q (.int D.least) H
end
section
variable{H H':Hp}{d lc:Addr}{B:Bt}
end
section
variable{E:Hp->O2->Prop}{K:Frag}{C:Addr}{H H':Hp}{b L:Addr}{n n':Nat}{os:List O2}
end
end L3
namespace L3
open PySem PySem.Spec PyProof.Rows L2
open Sem (wp)
section
variable{X:Cx}{pins:List (Addr×Obj)}{σ:L2.St}{H:Hp}{s:Shared}
end
end L3
namespace L3
open PySem PySem.Spec PyProof.Rows L2
section
variable(K:Frag)(C:Addr)(x:Xa)
end
section
variable{K:Frag}{C:Addr}{H H':Hp}{o:O3}{B:Bt}{bx:Addr}{n:Nat}
end
section
variable(K:Frag)(C:Addr)
end
section
variable{K:Frag}{CB CD:Addr}{H0 H H':Hp}{A:Sl->Addr}{I:Im}{S:St4}
end
section
variable{K:Frag}{CB CD:Addr}{H0 H H':Hp}{A:Sl->Addr}{I:Im}{S:St4}{cad:Addr}{cqs:List Cq}
end
section
variable{I:Im}{S:St4}
end
def KsT(K:Frag)(H:Hp)(b:Addr)(kss:List (List Int)):Prop:=∃as:List Addr,SqT K H b (as.map V.ref)/\as.length=kss.length/\∀(i:Nat) (a:Addr) (ks:List Int),as[i]? =some a->kss[i]? =some ks->SqT K H a (ks.map V.int)
theorem KsT.same{K:Frag}{H H':Hp}{b:Addr}{kss:List (List Int)}(h:KsT K H b kss)(s:Same H H'):KsT K H' b kss:=let⟨as,e,l,r⟩:=h;⟨as,Same.sqt s e,l,fun i a ks e1 e2=>Same.sqt s (r i a ks e1 e2)⟩
theorem KsT.upd{K:Frag}{C p dx:Addr}{H:Hp}{b:Addr}{kss:List (List Int)}{fs:List (Str×V)}{o:HO}(h:KsT K H b kss)(e:H p=some (.ins C dx fs)):KsT K (upd H p o) b kss:=let⟨as,eb,l,r⟩:=h;⟨as,bT e eb,l,fun i a ks e1 e2=>bT e (r i a ks e1 e2)⟩
theorem wI{X:Cx}{y1 y2 y3:Str}{c1 c2 c3:Addr}(h1:X.env.cells.lookup y1=some c1)(h2:X.env.cells.lookup y2=some c2)(h3:X.env.cells.lookup y3=some c3):
  ∀u e,([(y1,c1),(y2,c2),(y3,c3)]:List (Str×Addr)).lookup u=some e->X.env.cells.lookup u=some e:=cG h1 (cG h2 (cG h3 sE))
theorem wG{X:Cx}{scope:Scope}{y1 y2 y3:Str}{j1 j2 j3:Nat}(kind:scope.kind= .function)(names:∀x∈scope.names,x.2= .local->scope.names.lookup x.1=some .local)(nocell:∀x∈scope.names,x.2≠ .cell)
  (free:∀x∈scope.names,x.2= .free->x.1∈([y1,y2,y3]:List Str))(a1:X.N[j1]? =some y1)(a2:X.env.kindOf y1=some .cell)(a3:(relabel scope X.env).names.lookup y1=some .cell)
  (b1:X.N[j2]? =some y2)(b2:X.env.kindOf y2=some .cell)(b3:(relabel scope X.env).names.lookup y2=some .cell)(c1:X.N[j3]? =some y3)(c2:X.env.kindOf y3=some .cell)(c3:(relabel scope X.env).names.lookup y3=some .cell):BScope X scope [y1,y2,y3] [j1,j2,j3]:=
 ⟨kind,names,nocell,free,rfl,fun i j' y' e1 e2=>by
  match i with
  |0=>cases e1;cases e2;exact⟨a1,a2,a3⟩
  |1=>cases e1;cases e2;exact⟨b1,b2,b3⟩
  |2=>cases e1;cases e2;exact⟨c1,c2,c3⟩
  |i+3=>simp at e1⟩
section
variable{M:Model}{A:Around}{E:Value->Shared->Prop}{s:Shared}{base:Heap}{env:Env}{outer:List Env}{L e:Addr}{cls fl:Value}{dd:Option Addr}
end
end L3
namespace L3
open PySem PySem.Spec PySem.Calls PySem.W PyProof.Rows Builtin Builtin.ObjectAttr
section
variable{prog:Program}{w:World}{A:Around}{E:Value->Shared->Prop}{K:Frag}{h:Heap}{g:Array GenState}{d:Drawn}{t:Nat}{os:OsState}
variable{nm q:Str}{C N:Addr}{bs bm bmB:List Value}{hdct:Bool}{sn:List Str}{sub:List Value}{ab:Bool}{col:Option Bool}{dd:Option Addr}{k0 k1 k2 k3 k5:Option Value}{B newId initId:String}{e:Addr}
end
section
variable{prog:Program}{w:World}{A:Around}{E:Value->Shared->Prop}{K:Frag}{h:Heap}{g:Array GenState}{d:Drawn}{t:Nat}{os:OsState}
variable{nm q:Str}{C N:Addr}{bs bm bmB:List Value}{hdct:Bool}{sn:List Str}{sub:List Value}{ab:Bool}{col:Option Bool}{dd:Option Addr}{k0 k1 k2 k3 k5:Option Value}{B newId initId:String}{e:Addr}
end
section
variable{prog:Program}{w:World}{A:Around}{E:Value->Shared->Prop}{h:Heap}{g:Array GenState}{d:Drawn}{t:Nat}{os:OsState}
variable{nm q:Str}{C N:Addr}{bs bm bmB:List Value}{hdct:Bool}{sn:List Str}{sub:List Value}{ab:Bool}{col:Option Bool}{dd:Option Addr}{k0 k1 k2 k3 k5:Option Value}{B newId initId:String}{e:Addr}
end
end L3
namespace L3
open PySem PySem.Spec PyProof.Rows L2
end L3
namespace L3
open PySem PySem.Spec PySem.Calls PyProof.Rows L2
end L3
namespace L3
open PySem PySem.Spec PyProof.Rows L2
structure Ps where
 nm:Str
 age:Int
 ds:List Int
def PsAt(H:Hp)(p:Addr)(P:Ps):Prop:=PrAt H p P.nm P.age P.ds
structure PsOk(P:Ps):Prop where
 nm:QY P.nm
 l:P.ds.length=5
 dg:q9 P.ds
def a6(D:Dr)(P:Ps):Option (Int×Int):=if zN D P.age=true then Qa D.t (zD D P.age) P.nm P.ds else none
def nh(D:Dr)(P R:Ps):Str×Int×Kw:=match a6 D P with
 |none=>("press",0,D.kn)
 |some (c,_)=>match a6 D R with
  |none=>("press",1,D.kn)
  |some (c',_)=>if R.nm=P.nm/\R.age=P.age/\c'=c+1 then(match D.kn.lookup P.nm with
    |some _=>("known",0,D.kn)
    |none=>if(D.kn.length:Int)<D.most then("",0,qQ D.kn P.nm ⟨P.age,c',none⟩)else("full",0,D.kn))
   else("press",1,D.kn)
section
variable(K:Frag)(C:Addr)(x:Xa)
end
section
variable{D:Dr}{P R:Ps}{c c' d d':Int}
end
section
variable{K:Frag}{C:Addr}{H Hd Hc:Hp}{a:Ad}{n n':Nat}{D:Dr}{kn':Kw}{P R:Ps}
end
section
variable{X:Cx}
end
def iz(c:Nat):Bool:=decide (97<=c)&&decide (c<=122)
def uQ(z:Str):Bool:=z.cps.toList.all iz
def rb(z:Str):Bool:=decide (1<=z.length)&&decide (z.length<=8)&&uQ z
theorem nmB_iff{z:Str}:rb z=true↔QY z:=by
 unfold rb uQ QY
 rw[Bool.and_eq_true,Bool.and_eq_true,decide_eq_true_iff,decide_eq_true_iff,List.all_eq_true]
 have zl:z.length=z.cps.toList.length:=rfl
 rw[zl]
 constructor
 ·rintro⟨⟨h1,h2⟩,h3⟩
  refine⟨fun c hc=>?_,h1,h2⟩
  have:=h3 c hc
  unfold iz at this
  rw[Bool.and_eq_true,decide_eq_true_iff,decide_eq_true_iff]at this
  exact this
 ·rintro⟨h3,h1,h2⟩
  refine⟨⟨h1,h2⟩,fun c hc=>?_⟩
  unfold iz
  rw[decide_eq_true (h3 c hc).1,decide_eq_true (h3 c hc).2];rfl
theorem eE{a b:Nat}:([a]:List Nat)<[b]↔a<b:=by
 rw[List.cons_lt_cons_iff]
 constructor
 ·rintro(h|⟨_,h⟩)
  ·exact h
  ·exact absurd h (List.not_lt_nil _)
 ·exact .inl
theorem kO(c:Nat):(!decide ((⟨#[c]⟩:Str).cps.toList<("a":Str).cps.toList))=decide (97<=c)/\(!decide (("z":Str).cps.toList<(⟨#[c]⟩:Str).cps.toList))=decide (c<=122):=by
 have e1:("a":Str).cps.toList=[97]:=by decide +kernel
 have e2:("z":Str).cps.toList=[122]:=by decide +kernel
 rw[e1,e2]
 show(!decide ([c]<[97]))=_/\(!decide ([122]<[c]))=_
 constructor
 ·by_cases h:97<=c
  ·rw[decide_eq_true h,decide_eq_false (by rw[eE];omega)];rfl
  ·rw[decide_eq_false h,decide_eq_true (by rw[eE];omega)];rfl
 ·by_cases h:c<=122
  ·rw[decide_eq_true h,decide_eq_false (by rw[eE];omega)];rfl
  ·rw[decide_eq_false h,decide_eq_true (by rw[eE];omega)];rfl
theorem gX{H:Hp}{x:V}{t:String}(h:kd H x=some t):Ty2 H x t:=by
 cases x with
 |non=>cases h;exact .non
 |bl b=>cases h;exact .bl b
 |int i=>cases h;exact .int i
 |str x=>cases h;exact .str x
 |byt b=>cases h
 |flt b=>cases h
 |ty b=>cases h
 |ref a=>
  rcases ei h with⟨xs,e,rfl⟩|⟨xs,e,rfl⟩
  ·exact .lst e
  ·exact .tup (.inl e)
def wj(H:Hp)(x:V)(b:Bool):Prop:=(∃z,x= .str z/\z.cps.all (· <128)=true/\z.length<=100/\b=rb z)\/(∃t,kd H x=some t/\zk t "str"=false/\b=false)
def CdK(H:Hp)(x:V)(b:Bool):Prop:=(∃(p:Addr) (ds:List V),x= .ref p/\H p=some (.tup ds)/\ds.length<=100/\(∀v∈ds,∃t,kd H v=some t)/\b=(decide (ds.length=5)&&ds.all az))\/(∃t,kd H x=some t/\zk t "tuple"=false/\b=false)
inductive TgB (H:Hp) (x:V):Bool->Prop where
 |kd {t:String} (h:kd H x=some t) (n:zk t "tuple"=false):TgB H x false
 |len {a:Addr} {xs:List V} (e:x= .ref a) (h:H a=some (.tup xs)) (l:xs.length<=100) (n:xs.length≠3):TgB H x false
 |tup {a:Addr} {n y c:V} {bn bc:Bool} {ty:String} (e:x= .ref a) (h:H a=some (.tup [n,y,c])) (hn:wj H n bn) (hy:L3.kd H y=some ty) (hc:CdK H c bc):TgB H x (bn&&cK y&&bc)
theorem CdK.same{H H':Hp}{x:V}{b:Bool}(s:Same H H')(h:CdK H x b):CdK H' x b:=h.elim (fun⟨p,ds,e,h1,h2,h3,h4⟩=> .inl ⟨p,ds,e,s _ _ h1,h2,(fun v hv=>let⟨t,ht⟩:=h3 v hv;⟨t,bR s ht⟩),h4⟩) (fun⟨t,h1,h2⟩=> .inr ⟨t,bR s h1,h2⟩)
def Tg(H:Hp)(x:V)(o:Option Ps):Prop:=match o with
 |none=>TgB H x false
 |some P=>∃pr,x= .ref pr/\PsAt H pr P/\PsOk P
theorem Tg.b{H:Hp}{x:V}{o:Option Ps}(h:Tg H x o):TgB H x o.isSome:=by
 cases o with
 |none=>exact h
 |some P=>
  obtain⟨pr,e,⟨pc,h1,h2⟩,ok⟩:=h
  have t:=TgB.tup (bn:=true) (bc:=true) e h1 (.inl ⟨P.nm,rfl,ie ok.nm,by have:=ok.nm.2.2;show P.nm.cps.toList.length<=100;omega,(nmB_iff.mpr ok.nm).symm⟩) (ty:="int") rfl (.inl ⟨pc,_,rfl,h2,by rw[List.length_map,ok.l];decide,(fun v hv=>by obtain⟨i,_,rfl⟩:=List.mem_map.mp hv;exact⟨_,rfl⟩),by rw[List.length_map,ok.l,oY ok.dg];rfl⟩)
  exact t
def fN:Sp:=fun vs H Q _=>∃x b,vs=[x]/\wj H x b/\∀H',Same H H'->Q (.bl b) H'
def fG:Sp:=fun vs H Q _=>∃x b,vs=[x]/\CdK H x b/\∀H',Same H H'->Q (.bl b) H'
def aF:Sp:=fun vs H Q _=>∃x b,vs=[x]/\TgB H x b/\∀H',Same H H'->Q (.bl b) H'
section
variable(K:Frag)(C:Addr)
def fW:Sp:=fun vs H Q _=>∃(p ta hk bd lg:Addr) (n:Nat) (D:Dr) (x:V) (o:Option Ps),vs=[.ref p,x]/\DoorAt K C H p ta hk bd lg n D/\DrOk D/\Tg H x o/\∀y H',Same H H'->bw H' y (o.bind (a6 D))->Q y H'
end
section
variable(K:Frag)(C:Addr)(x:Xa)
end
section
variable{H H':Hp}{b:Addr}{n n':Nat}
end
section
variable{H:Hp}{a p:Addr}{z:Str}{i:Int}
end
section
variable{S:List Addr}{H H':Hp}
end
inductive Rw where
 |learn (P R:Ps)
 |forget (nm:Str)
 |turn (ks:List Int)
 |close (age:Int)
 |hear (P:Ps) (ans:List V)
def jE:V->Prop
 | .int _=>True
 | .str _=>True
 |_=>False
def RwAt(H:Hp)(a:Addr):Rw->Prop
 | .learn P R=>∃p1 p2,Rd H a (.tup [.str "learn",.ref p1,.ref p2])/\PsAt H p1 P/\PsAt H p2 R/\PsOk P/\PsOk R
 | .forget nm=>Rd H a (.tup [.str "forget",.str nm])
 | .turn ks=>∃k,Rd H a (.tup [.str "turn",.ref k])/\Rd H k (.tup (ks.map V.int))/\ks.length<=8
 | .close age=>Rd H a (.tup [.str "close",.int age])
 | .hear P ans=>∃p q,Rd H a (.tup [.str "hear",.ref p,.ref q])/\PsAt H p P/\PsOk P/\H q=some (.tup ans)/\ans.length<=3/\∀v∈ans,jE v
def RowsAt(H:Hp)(rs:List Addr)(L:List Rw):Prop:=rs.length=L.length/\∀(i:Nat) (a:Addr) (r:Rw),rs[i]? =some a->L[i]? =some r->RwAt H a r
def LogAt(H:Hp)(lg:Addr)(L:List Rw):Prop:=∃rs:List Addr,H lg=some (.lst (rs.map V.ref))/\RowsAt H rs L
def LogT(H:Hp)(t:Addr)(L:List Rw):Prop:=∃rs:List Addr,Rd H t (.tup (rs.map V.ref))/\RowsAt H rs L
section
variable{S:List Addr}{H H':Hp}{a lg t:Addr}{r:Rw}{rs:List Addr}{L:List Rw}
theorem RwAt.mv(m:Mv S H H')(n:NT S H)(h:RwAt H a r):RwAt H' a r:=by
 cases r with
 |learn P R=>obtain⟨p1,p2,h1,h2,h3,h4⟩:=h;exact⟨p1,p2,m.rd n h1,PrAt.mv m n h2,PrAt.mv m n h3,h4⟩
 |forget nm=>exact m.rd n h
 |turn ks=>obtain⟨k,h1,h2,h3⟩:=h;exact⟨k,m.rd n h1,m.rd n h2,h3⟩
 |close age=>exact m.rd n h
 |hear P ans=>obtain⟨p,q,h1,h2,h3,h4,h5⟩:=h;exact⟨p,q,m.rd n h1,PrAt.mv m n h2,h3,m.tup n h4,h5⟩
theorem RowsAt.mv(m:Mv S H H')(n:NT S H)(h:RowsAt H rs L):RowsAt H' rs L:=⟨h.1,fun i a r e1 e2=>(h.2 i a r e1 e2).mv m n⟩
theorem LogAt.mv(m:Mv S H H')(n:NT S H)(hl:lg∉S)(h:LogAt H lg L):LogAt H' lg L:=let⟨rs,e,r⟩:=h;⟨rs,m _ _ hl e,r.mv m n⟩
theorem LogT.mv(m:Mv S H H')(n:NT S H)(h:LogT H t L):LogT H' t L:=let⟨rs,e,r⟩:=h;⟨rs,m.rd n e,r.mv m n⟩
theorem dy:NT [] H:=fun c h=>nomatch h
theorem RowsAt.same(s:Same H H')(h:RowsAt H rs L):RowsAt H' rs L:=h.mv (S:=[]) s.mv dy
theorem LogAt.same(s:Same H H')(h:LogAt H lg L):LogAt H' lg L:=h.mv (S:=[]) s.mv dy (fun z=>nomatch z)
theorem LogT.same(s:Same H H')(h:LogT H t L):LogT H' t L:=h.mv (S:=[]) s.mv dy
theorem RowsAt.add(h:RowsAt H rs L)(hr:RwAt H a r):RowsAt H (rs++[a]) (L++[r]):=by
 refine⟨by simp [h.1],fun i b q e1 e2=>?_⟩
 by_cases hi:i<rs.length
 ·rw[List.getElem?_append_left hi]at e1
  rw[List.getElem?_append_left (by rw[<- h.1];exact hi)]at e2
  exact h.2 i b q e1 e2
 ·rw[List.getElem?_append_right (by omega)]at e1
  rw[List.getElem?_append_right (by rw[<- h.1];omega),<- h.1]at e2
  cases e:i-rs.length with
  |zero=>rw[e]at e1 e2;cases e1;cases e2;exact hr
  |succ k=>rw[e]at e1;cases e1
theorem ib{n:Nat}{v:V}(h:jE v):Eqv H n v v:=by
 cases v with
 |int i=>exact .int _ _
 |str i=>exact .str _ _
 |_=>exact h.elim
theorem PsAt.eqv{p q:Addr}{P:Ps}(h1:PsAt H p P)(h2:PsAt H q P)(o:PsOk P):Eqv H 2 (.ref p) (.ref q):=by
 obtain⟨c1,a1,b1⟩:=h1
 obtain⟨c2,a2,b2⟩:=h2
 refine .tup (.inl a1) (.inl a2) rfl (by show 3<=sizeLine;decide) fun i x y ex ey=>?_
 match i,ex,ey with
 |0,ex,ey=>cases ex;cases ey;exact .str _ _
 |1,ex,ey=>cases ex;cases ey;exact .int _ _
 |2,ex,ey=>cases ex;cases ey;exact .ints (.inl b1) (.inl b2) (by rw[o.l];decide)
 |i+3,ex,ey=>cases ex
theorem RwAt.eqv{b:Addr}(h1:RwAt H a r)(h2:RwAt H b r):Eqv H 3 (.ref a) (.ref b):=by
 cases r with
 |learn P R=>
  obtain⟨p1,p2,e1,e2,e3,o1,o2⟩:=h1
  obtain⟨q1,q2,f1,f2,f3,_⟩:=h2
  refine .tup e1 f1 rfl (by show 3<=sizeLine;decide) fun i x y ex ey=>?_
  match i,ex,ey with
  |0,ex,ey=>cases ex;cases ey;exact .str _ _
  |1,ex,ey=>cases ex;cases ey;exact PsAt.eqv e2 f2 o1
  |2,ex,ey=>cases ex;cases ey;exact PsAt.eqv e3 f3 o2
  |i+3,ex,ey=>cases ex
 |forget nm=>
  refine .tup (n:=2) h1 h2 rfl (by show 2<=sizeLine;decide) fun i x y ex ey=>?_
  match i,ex,ey with
  |0,ex,ey=>cases ex;cases ey;exact .str _ _
  |1,ex,ey=>cases ex;cases ey;exact .str _ _
  |i+2,ex,ey=>cases ex
 |turn ks=>
  obtain⟨k1,e1,e2,e3⟩:=h1
  obtain⟨k2,f1,f2,_⟩:=h2
  refine .tup (n:=2) e1 f1 rfl (by show 2<=sizeLine;decide) fun i x y ex ey=>?_
  match i,ex,ey with
  |0,ex,ey=>cases ex;cases ey;exact .str _ _
  |1,ex,ey=>cases ex;cases ey;exact .ints e2 f2 (by rw[sizeLine_eq];omega)
  |i+2,ex,ey=>cases ex
 |close age=>
  refine .tup (n:=2) h1 h2 rfl (by show 2<=sizeLine;decide) fun i x y ex ey=>?_
  match i,ex,ey with
  |0,ex,ey=>cases ex;cases ey;exact .str _ _
  |1,ex,ey=>cases ex;cases ey;exact .int _ _
  |i+2,ex,ey=>cases ex
 |hear P ans=>
  obtain⟨p1,p2,e1,e2,o1,e3,e4,e5⟩:=h1
  obtain⟨q1,q2,f1,f2,_,f3,_⟩:=h2
  refine .tup e1 f1 rfl (by show 3<=sizeLine;decide) fun i x y ex ey=>?_
  match i,ex,ey with
  |0,ex,ey=>cases ex;cases ey;exact .str _ _
  |1,ex,ey=>cases ex;cases ey;exact PsAt.eqv e2 f2 o1
  |2,ex,ey=>
   cases ex;cases ey
   refine .tup (n:=1) (.inl e3) (.inl f3) rfl (by rw[sizeLine_eq];omega) fun i x y ex ey=>?_
   rw[ex]at ey;cases ey
   exact ib (e5 _ (List.mem_of_getElem? ex))
  |i+3,ex,ey=>cases ex
theorem LogT.eqv{t':Addr}(h1:LogT H t L)(h2:LogT H t' L)(hl:L.length<=2000):Eqv H 4 (.ref t) (.ref t'):=by
 obtain⟨rs,e1,l1,r1⟩:=h1
 obtain⟨qs,e2,l2,r2⟩:=h2
 refine .tup e1 e2 (by simp [l1,l2]) (by rw[List.length_map,l1,sizeLine_eq];omega) fun i x y ex ey=>?_
 rw[List.getElem?_map]at ex ey
 cases q1:rs[i]? with
 |none=>rw[q1]at ex;cases ex
 |some a=>
  cases q2:qs[i]? with
  |none=>rw[q2]at ey;cases ey
  |some b=>
   rw[q1]at ex;rw[q2]at ey;cases ex;cases ey
   have hi:i<L.length:=by rw[<- l1];exact(List.getElem?_eq_some_iff.mp q1).1
   exact(r1 i a _ q1 (List.getElem?_eq_getElem hi)).eqv (r2 i b _ q2 (List.getElem?_eq_getElem hi))
end
theorem _root_.L2.SqT.up{K:Frag}{H:Hp}{a:Addr}{xs:List V}(h:SqT [] H a xs):SqT K H a xs:=h.elim .inl fun⟨_,_,_,z,_⟩=>nomatch z
theorem _root_.L2.SqT.rd{H:Hp}{a:Addr}{xs:List V}(h:SqT [] H a xs):Rd H a (.tup xs):=h.elim id fun⟨_,_,_,z,_⟩=>nomatch z
theorem KsAt.up{K:Frag}{H:Hp}{a:Addr}{kss:List (List Int)}(h:KsAt [] H a kss):KsAt K H a kss:=let⟨as,e,l,r⟩:=h;⟨as,e,l,fun i a ks e1 e2=>(r i a ks e1 e2).up⟩
def jG(K:Frag)(C:Addr):Sp:=fun vs H Q _=>∃(p a b dx:Addr) (near far most:Int) (t:List Int) (kss:List (List Int)),vs=[.ref p,.ref a,.ref b,.int near,.int far,.int most]/\H p=some (.ins C dx [])/\Sq K H a (t.map V.int)/\KsAt [] H b kss/\kss.length<=8/\
 ∀ta hk bd lg H',H hk=none->H bd=none->H lg=none->Mv [p] H H'->DoorAt K C H' p ta hk bd lg 0 ⟨t,kss,near,far,most,0,[]⟩->KsAt [] H' hk kss->Q .non H'
def gU(K:Frag)(C:Addr):Sp:=fun vs H Q _=>∃(p a b dx:Addr) (near far most:Int) (t:List Int) (kss:List (List Int)),vs=[.ref p,.ref a,.ref b,.int near,.int far,.int most]/\H p=some (.ins C dx [])/\Sq K H a (t.map V.int)/\KsT [] H b kss/\kss.length<=8/\
 ∀ta hk bd lg H',H hk=none->H bd=none->H lg=none->Mv [p] H H'->DoorAt K C H' p ta hk bd lg 0 ⟨t,kss,near,far,most,0,[]⟩->KsAt [] H' hk kss->Q .non H'
structure Da where
 p:Addr
 ta:Addr
 hk:Addr
 bd:Addr
 lg:Addr
structure DlAt(K:Frag)(C:Addr)(H:Hp)(a:Da)(D:Dr)(L:List Rw):Prop where
 dr:DoorAt K C H a.p a.ta a.hk a.bd a.lg L.length D
 lo:LogAt H a.lg L
 kr:KsAt [] H a.hk D.kss
section
variable{K:Frag}{C:Addr}{S:List Addr}{H H':Hp}{a:Da}{D:Dr}{L:List Rw}{r:Addr}{rw:Rw}{rs:List Addr}
theorem DlAt.mv(b:DlAt K C H a D L)(m:Mv S H H')(nt:NT S H)(hp:a.p∉S)(hh:a.hk∉S)(hb:a.bd∉S)(hl:a.lg∉S):DlAt K C H' a D L:=⟨b.dr.mv m nt hp hh hb hl,b.lo.mv m nt hl,KsAt.mv m nt hh b.kr⟩
theorem DlAt.same(b:DlAt K C H a D L)(s:Same H H'):DlAt K C H' a D L:=⟨b.dr.same s,b.lo.same s,KsAt.same s b.kr⟩
theorem DlAt.push(b:DoorAt K C H a.p a.ta a.hk a.bd a.lg L.length D)(el:H a.lg=some (.lst (rs.map V.ref)))(ro:RowsAt H rs L)(kr:KsAt [] H a.hk D.kss)(hr:RwAt H r rw):DlAt K C (upd H a.lg (.lst (rs.map V.ref++[.ref r]))) a D (L++[rw]):=by
 have nt:NT [a.lg] H:=NT.one el trivial
 have e:=b.putL (r:=r) el (Nat.le_of_eq ro.1)
 rw[show L.length+1=(L++[rw]).length by simp]at e
 exact⟨e,⟨rs++[r],by rw[qb,List.map_append];rfl,(ro.add hr).mv Mv.upd1 nt⟩,KsAt.mv Mv.upd1 nt (qF b.ne.symm) kr⟩
theorem pU{p ta hk bd lg:Addr}{n:Nat}{f0:List (qt×V)}(e:H bd=some (.dK f0))(b:DoorAt K C H p ta hk bd lg n D):hk≠bd:=by
 obtain⟨as,eh,_⟩:=b.ks
 exact qC eh e (by intro z;cases z)
theorem tQ{p ta hk bd lg dx:Addr}{n:Nat}{f0:List (Str×V)}(e:H p=some (.ins C dx f0))(b:DoorAt K C H p ta hk bd lg n D):hk≠p:=by
 obtain⟨as,eh,_⟩:=b.ks
 exact qC eh e (by intro z;cases z)
theorem DoorAt.dl{p ta hk bd lg:Addr}(b:DoorAt K C H p ta hk bd lg 0 D)(kr:KsAt [] H hk D.kss):DlAt K C H ⟨p,ta,hk,bd,lg⟩ D []:=by
 obtain⟨rs,e,l⟩:=id b.lo
 obtain rfl:rs=[]:=List.length_eq_zero_iff.mp (Nat.le_zero.mp l)
 exact⟨b,⟨[],e,rfl,fun i a r h=>by cases h⟩,kr⟩
end
inductive Dd where
 |learn (o1 o2:Option Ps)
 |forget (nm:Str)
 |turn (ks:List Int)
 |close (age:Int)
 |hear (o:Option Ps)
def qX(D:Dr)(P:Ps):List V×Kw:=qZ D P.nm P.age (Qa D.t (zD D P.age) P.nm P.ds)
def wT(D:Dr):Dd->Option (Dr×Rw)
 | .learn (some P) (some R)=>if(nh D P R).1="" then some ({D with kn:=(nh D P R).2.2},.learn P R)else none
 | .learn _ _=>none
 | .forget nm=>if D.kn.lookup nm=none then none else some ({D with kn:=D.kn.filter fun p=>decide (p.1≠nm)},.forget nm)
 | .turn ks=>if D.kss.length<8 then some ({D with kss:=D.kss++[ks]},.turn ks)else none
 | .close age=>some ({D with least:=if age>D.least then age else D.least},.close age)
 | .hear (some P)=>some ({D with kn:=(qX D P).2},.hear P (qX D P).1)
 | .hear none=>none
section
variable(K:Frag)(C:Addr)(x:Xa)
def eR:Sp:=fun vs H Q _=>∃(a:Da) (D:Dr) (L:List Rw) (x:V) (o:Option Ps),vs=[.ref a.p,x]/\DlAt K C H a D L/\L.length<=1000/\DrOk D/\Tg H x o/\
 (o=none->∀q H',Same H H'->H' q=some (.tup [.str "held",.str "bad"])->Q (.ref q) H')/\
 ∀P,o=some P->∀pr q H',x= .ref pr->Mv [a.bd,a.lg] H H'->PsAt H' pr P->H' q=some (.tup (qX D P).1)->DlAt K C H' a {D with kn:=(qX D P).2} (L++[.hear P (qX D P).1])->Q (.ref q) H'
def wP(H:Hp)(k:Addr)(ks:List Int):Prop:=H k=some (.lst (ks.map V.int))\/Rd H k (.tup (ks.map V.int))
def iP:Sp:=fun vs H Q _=>∃(a:Da) (D:Dr) (L:List Rw) (age:Int),vs=[.ref a.p,.int age]/\DlAt K C H a D L/\L.length<=1000/\
 ∀D' r,wT D (.close age)=some (D',r)->∀H',Mv [a.p,a.lg] H H'->DlAt K C H' a D' (L++[r])->Q .non H'
def m9:Sp:=fun vs H Q _=>∃(a:Da) (D:Dr) (L:List Rw),vs=[.ref a.p]/\DlAt K C H a D L/\∀t H',Same H H'->LogT H' t L->Q (.ref t) H'
def jL:Sp:=fun vs H Q _=>∃(a:Da) (D:Dr) (L:List Rw),vs=[.ref a.p]/\DlAt K C H a D L/\D.kss.length<=8/\
 ∀a' H',Same H H'->H a'.p=none->H a'.hk=none->H a'.bd=none->H a'.lg=none->DlAt K C H' a' D L->Q (.ref a'.p) H'
end
theorem ca{X:Cx}:qW X (.type "tuple") (fun xs H Q=>∃kt ks,xs=[.ref kt]/\wP H kt ks/\∀t H2,Same H H2->Rd H2 t (.tup (ks.map V.int))->Q (.ref t) H2):=by
 intro pins s σ H xs us Q I r h
 obtain⟨kt,ks,e,h,q⟩:=h
 refine qJ pins s σ H xs us Q I r ⟨kt,ks.map V.int,e,?_⟩
 rcases h with h|h
 ·exact .inl ⟨SqL.of h,fun t ht=>q t _ (Same.upd ht) (.inl qb)⟩
 ·exact .inr ⟨.inl h,q kt _ (Same.refl _) h⟩
section
variable{D:Dr}{P R:Ps}{o1 o2:Option Ps}
theorem fZ(D:Dr)(nm:Str)(age:Int)(r:Option (Int×Int)):(qZ D nm age r).1.length<=3/\∀v∈(qZ D nm age r).1,jE v:=by
 have two:∀a b:Str,([V.str a,.str b]:List V).length<=3/\∀v∈([V.str a,.str b]:List V),jE v:=fun a b=>⟨by show 2<=3;decide,fun v hv=>by simp at hv;rcases hv with rfl|rfl<;>trivial⟩
 have three:∀(a b:Str) (i:Int),([V.str a,.str b,.int i]:List V).length<=3/\∀v∈([V.str a,.str b,.int i]:List V),jE v:=fun a b i=>⟨by show 3<=3;decide,fun v hv=>by simp at hv;rcases hv with rfl|rfl|rfl<;>trivial⟩
 unfold qZ
 split
 ·exact two _ _
 ·split
  ·split
   ·exact two _ _
   ·split
    ·exact three _ _ _
    ·exact two _ _
  ·exact two _ _
theorem gh(D:Dr)(P:Ps):(qX D P).1.length<=3:=(fZ ..).1
theorem hX(D:Dr)(P:Ps):∀v∈(qX D P).1,jE v:=(fZ ..).2
end
section
open SeqAt
variable{X:Cx}
end
theorem sD{t u:TS}{D:Ends}{σ:L2.St}{H:Hp}(G:L2.St->Hp->Prop)(h:∀D':Ends,D'.rt=D.rt->(∀σ' H',G σ' H'->D'.nx σ' H')->t D' σ H)(hG:∀σ' H',G σ' H'->u D σ' H'):cE t u D σ H:=h {D with nx:=u D} rfl hG
section
variable{K:Frag}{C:Addr}{S:List Addr}{H H':Hp}{v:Wa}{W:Wo}
end
section
variable{K:Frag}{C:Addr}{H H':Hp}{b:Addr}{v:Wa}{W:Wo}{a:Da}{D D':Dr}{L:List Rw}
def dS(a:Da):List Addr:=[a.p,a.hk,a.bd,a.lg]
theorem DlAt.nt(d:DlAt K C H a D L):NT (dS a) H:=fun c hc=>by
 obtain⟨dx,ep⟩:=id d.dr.ob
 obtain⟨f0,hd,_⟩:=id d.dr.kb
 obtain⟨as,eh,_⟩:=id d.dr.ks
 obtain⟨rs,el,_⟩:=id d.lo
 simp only[dS,List.mem_cons,List.not_mem_nil,or_false]at hc
 rcases hc with rfl|rfl|rfl|rfl
 ·exact⟨_,ep,trivial⟩
 ·exact⟨_,eh,trivial⟩
 ·exact⟨_,hd,trivial⟩
 ·exact⟨_,el,trivial⟩
end
section
variable(K:Frag)(C:Addr)
end
theorem vh{σ:L2.St}{H:Hp}{t u:TS}{D:Ends}{rt:VK}{bk ct:L2.St->Hp->Prop}(G:L2.St->Hp->Prop)(h:∀D':Ends,D'.rt=D.rt->(∀σ' H',G σ' H'->D'.nx σ' H')->t D' σ H)(hG:∀σ' H',G σ' H'->u D σ' H'):Ends.nx {nx:=cE t u D,rt:=rt,bk:=bk,ct:=ct} σ H:=h {D with nx:=u D} rfl hG
section
variable{σ:L2.St}{H:Hp}{tc:TT}{t u r:TS}{D:Ends}{rt:VK}{bk ct:L2.St->Hp->Prop}
theorem tW(G:Bool->Hp->Prop)(h:∀Q':Bool->Hp->Prop,(∀b H',G b H'->Q' b H')->tc σ H Q')(h1:∀H',G true H'->t {D with nx:=r D} σ H')(h2:∀H',G false H'->u {D with nx:=r D} σ H'):cE (ip tc t u) r D σ H:=h _ fun b H' g=>by
 cases b with
 |true=>exact(if_pos rfl).mpr (h1 H' g)
 |false=>exact(if_neg (by intro z;cases z)).mpr (h2 H' g)
theorem kj(G:Bool->Hp->Prop)(h:∀Q':Bool->Hp->Prop,(∀b H',G b H'->Q' b H')->tc σ H Q')(h1:∀H',G true H'->t {D with nx:=r D} σ H')(h2:∀H',G false H'->u {D with nx:=r D} σ H'):km {nx:=cE (ip tc t u) r D,rt:=rt,bk:=bk,ct:=ct} σ H:=tW G h h1 h2
end
section
variable{K:Frag}{C:Addr}{H0 H H':Hp}{b:Addr}{v:Wa}{W:Wo}{a:Da}{D D':Dr}{L R:List Rw}{rl q:Addr}{r:Rw}{rs:List Addr}
end
section
variable{K:Frag}{H H':Hp}{a g:Addr}{r:Rw}{L:List Rw}{rs:List Addr}{xs:List V}
end
section
variable(K:Frag)(C:Addr)
end
section
variable{K:Frag}{S:List Addr}{H H':Hp}{a t x:Addr}{r:Rw}{L M:List Rw}{rs:List Addr}
end
section
variable(K:Frag)(C:Addr)
end
theorem Zg{X:Cx}{K:Frag}(h:X.K=K):qW X (.type "list") (fun xs H Q=>∃p ys,xs=[.ref p]/\(SqL K H p ys\/SqT K H p ys)/\∀l,H l=none->Q (.ref l) (upd H l (.lst ys))):=by subst h;exact Ql
section
variable{K:Frag}{H H':Hp}{a b:Addr}{r:Rw}{L:List Rw}
end
section
variable(K:Frag)(C:Addr)
end
section
variable{K:Frag}{H:Hp}
theorem Eqv.eqk{n:Nat}{x y:V}(h:Eqv H n x y):Eqk K H n x y:=by
 induction h with
 |int n i=>exact .int n i
 |str n z=>exact .str n z
 |non n=>exact .non n
 |tup h1 h2 hl _ _ ih=>exact .tup (.inl h1) (.inl h2) hl ih
theorem pB{a b:Addr}{ns:List Int}{n:Nat}(h1:SqT K H a (ns.map V.int))(h2:SqT K H b (ns.map V.int)):Eqk K H (n+1) (.ref a) (.ref b):=by
 refine .tup h1 h2 rfl fun i x y e1 e2=>?_
 rw[e1]at e2;cases e2
 rw[List.getElem?_map]at e1
 cases h:ns[i]? with
 |none=>rw[h]at e1;cases e1
 |some v=>rw[h]at e1;cases e1;exact .int _ _
theorem lX{p q:Addr}{ss:List Str}{k1 k2:Kw}(h1:ShAt H p ss k1)(h2:ShAt H q ss k2)(hs:∀nm∈ss,nm∈k1.map (·.1))(he:∀nm,k2.lookup nm=k1.lookup nm):Eqk K H 3 (.ref p) (.ref q):=by
 obtain⟨as,e1,l1,r1⟩:=h1
 obtain⟨bs,e2,l2,r2⟩:=h2
 refine .tup (SqT.of e1) (SqT.of e2) (by simp [l1,l2]) fun i x y ex ey=>?_
 rw[List.getElem?_map]at ex ey
 cases q1:as[i]? with
 |none=>rw[q1]at ex;cases ex
 |some a=>
  cases q2:bs[i]? with
  |none=>rw[q2]at ey;cases ey
  |some b=>
   rw[q1]at ex;rw[q2]at ey;cases ex;cases ey
   have hi:i<ss.length:=by rw[<- l1];exact(List.getElem?_eq_some_iff.mp q1).1
   have hn:=List.getElem?_eq_getElem hi
   obtain⟨e,hee⟩:=zE (hs _ (List.getElem_mem hi))
   obtain⟨v1,t1,w1⟩:=r1 i a _ e q1 hn hee
   obtain⟨v2,t2,w2⟩:=r2 i b _ e q2 hn (by rw[he];exact hee)
   refine .tup (SqT.of t1) (SqT.of t2) rfl fun j x y ex ey=>?_
   match j,ex,ey with
   |0,ex,ey=>cases ex;cases ey;exact .str _ _
   |1,ex,ey=>cases ex;cases ey;exact .int _ _
   |2,ex,ey=>cases ex;cases ey;exact .int _ _
   |3,ex,ey=>
    cases ex;cases ey
    cases hw:e.wt with
    |none=>
     rw[hw]at w1 w2
     have w1:v1= .non:=w1
     have w2:v2= .non:=w2
     rw[w1,w2];exact .non _
    |some xc=>
     rw[hw]at w1 w2
     obtain⟨z1,rfl,u1⟩:=w1
     obtain⟨z2,rfl,u2⟩:=w2
     exact pB (ns:=[xc.1,xc.2]) (SqT.of u1) (SqT.of u2)
   |j+4,ex,ey=>cases ex
theorem Eqk.up{n:Nat}{x y:V}(h:Eqk K H n x y):Eqk K H (n+1) x y:=by
 induction h with
 |int n i=>exact .int _ i
 |str n z=>exact .str _ z
 |non n=>exact .non _
 |tup h1 h2 hl _ ih=>exact .tup h1 h2 hl ih
end
section
variable(K:Frag)(C:Addr)
end
section
variable{D:Dr}{M:Kw}(pm:M.Perm D.kn)(nd:(D.kn.map (·.1)).Nodup)
include pm nd
end
theorem k4(a:Da):a.p∈dS a:=by simp [dS]
theorem ln(a:Da):a.hk∈dS a:=by simp [dS]
theorem aO(a:Da):a.bd∈dS a:=by simp [dS]
theorem ZL(a:Da):a.lg∈dS a:=by simp [dS]
section
variable{K:Frag}{C:Addr}{H0 H H':Hp}{b:Addr}{v:Wa}{W:Wo}{a a2:Da}{D D' E:Dr}{L L' M:List Rw}
end
section
variable{K:Frag}{H H':Hp}{a g t:Addr}{r:Rw}{L:List Rw}{xs:List V}
end
section
variable(K:Frag)(C:Addr)
end
section
variable{H H':Hp}{S:List Addr}{a m n:Addr}{r:Rw}{L:List Rw}
end
section
variable{S:List Addr}{H H':Hp}{m kd:Addr}{D:Dr}
end
section
variable{K:Frag}{C:Addr}{S:List Addr}{H H':Hp}{x:Em}{D D' E E':Dr}{L L':List Rw}{z:Addr}
end
section
variable{K:Frag}{C:Addr}{H0 H H':Hp}{b:Addr}{c c':Nat}{pl:Addr}{xs:List En}{i:Nat}{x:En}{D':Dr}{L':List Rw}
end
section
variable(K:Frag)(C:Addr)
def fB:Sp:=fun vs H Q _=>∃(a:Da) (D:Dr) (L:List Rw) (p1 p2:Addr) (P R:Ps) (c d d':Int),vs=[.ref a.p,.ref p1,.ref p2]/\DlAt K C H a D L/\L.length<=1000/\DrOk D/\PsAt H p1 P/\PsAt H p2 R/\PsOk P/\PsOk R/\a6 D P=some (c,d)/\a6 D R=some (c+1,d')/\R.nm=P.nm/\R.age=P.age/\D.kn.lookup R.nm=none/\(D.kn.length:Int)<D.most/\
 ∀H',Mv [a.bd,a.lg] H H'->DlAt K C H' a {D with kn:=qQ D.kn R.nm ⟨R.age,c+1,none⟩} (L++[.learn P R])->Q .non H'
end
section
variable{S:List Addr}{H H':Hp}{t x:Addr}{zs:List (Int×Int)}{z:Int×Int}
end
section
variable(K:Frag)(C:Addr)
end
section
variable{K:Frag}{S:List Addr}{H H':Hp}{cd tb kt:Addr}{t:List Int}{kss:List (List Int)}
end
section
variable{t:List Int}{kss:List (List Int)}{base:Int}{D:Dr}{nm:Str}{age c:Int}
end
section
variable(K:Frag)(C:Addr)
end
section
variable{X:Cx}
end
section
variable(K:Frag)(C:Addr)
end
section
variable{K:Frag}{C:Addr}{H0 H H':Hp}{b:Addr}{c:Nat}{pl:Addr}{xs:List En}{S:List Addr}{z:Addr}
end
section
variable{t:List Int}{kss:List (List Int)}{base:Int}{D:Dr}{nm:Str}{age:Int}
end
section
variable(K:Frag)(C:Addr)
end
section
variable(K:Frag)(C:Addr)
end
section
variable{K:Frag}{C:Addr}{S:List Addr}{H H':Hp}{x:Fm}{D D' E E':Dr}{L L':List Rw}{z:Addr}
end
section
variable{K:Frag}{C:Addr}{H0 H H':Hp}{wl:Addr}{xs:List Ef}{i:Nat}{x:Ef}{D':Dr}{L':List Rw}{S:List Addr}
end
section
variable{D:Dr}{nm:Str}{age c d:Int}
end
section
variable{K:Frag}{S:List Addr}{H H':Hp}{q p:Addr}{D:Dr}{L:List Rw}
theorem ShAt.mvN{ss:List Str}{kn:Kw}(h:ShAt H q ss kn)(m:Mv S H H')(nt:NT S H):ShAt H' q ss kn:=by
 obtain⟨as,e,l,r⟩:=h
 refine⟨as,m.tup nt e,l,fun i a nm x e1 e2 e3=>?_⟩
 obtain⟨v,e4,w⟩:=r i a nm x e1 e2 e3
 exact⟨v,m.tup nt e4,w.mv m nt⟩
end
section
variable(K:Frag)(C:Addr)
end
section
variable{K:Frag}{C:Addr}{H H' G:Hp}{b:Addr}{n n':Nat}{x:Fm}{D D' E E':Dr}{L L':List Rw}
end
section
variable{K:Frag}{C:Addr}{H0 H H':Hp}{z:Addr}{D E:Dr}{L:List Rw}{a:Da}{m mt ml kd e:Addr}
end
section
variable{K:Frag}{C:Addr}{H0 H H':Hp}{wl nl b:Addr}{ns:List Str}{ys:List Ef}{n n' i c c':Nat}{x:Ef}{D':Dr}{L':List Rw}
end
theorem uU{σ:L2.St}{H:Hp}{tc:TT}{t u:TS}{D:Ends}(G:Bool->Hp->Prop)(h:∀Q':Bool->Hp->Prop,(∀b H',G b H'->Q' b H')->tc σ H Q')(h1:∀H',G true H'->t D σ H')(h2:∀H',G false H'->u D σ H'):ip tc t u D σ H:=h _ fun b H' g=>by
 cases b with
 |true=>exact(if_pos rfl).mpr (h1 H' g)
 |false=>exact(if_neg (by intro z;cases z)).mpr (h2 H' g)
theorem Zz{b:Addr}{n:Nat}{H H1 H2:Hp}(hb:H b=none)(s:Same H H1)(g:GrC b n H1 H2):Same H H2:=fun x o e=>g.kp x o (ql e hb) (s x o e)
theorem eY{H:Hp}{a:Da}(f1:H a.p=none)(f2:H a.hk=none)(f3:H a.bd=none)(f4:H a.lg=none):∀z∈dS a,H z=none:=fun z hz=>by
 simp only[dS,List.mem_cons,List.not_mem_nil,or_false]at hz
 rcases hz with rfl|rfl|rfl|rfl<;>assumption
section
variable{X:Cx}
def rP:V->List V->Hp->VK->Prop:=fun x vs H Q=>∃(l:Addr) (xs:List V) (i:Int) (y:V),x= .ref l/\vs=[.int i,y]/\H l=some (.lst xs)/\0<=i/\i<=xs.length/\xs.length<sizeLine/\Q .non (upd H l (.lst (xs.take i.toNat++y::xs.drop i.toNat)))
theorem nI:kf X "list.insert" rP:=by
 intro pins s σ H x vs v us Q I rx rv h
 obtain⟨l,xs,i,y,rfl,rfl,hH,h0,hk,hz,q⟩:=h
 cases rx
 obtain⟨u1,u,rfl,ru1,ru⟩:=rv.two
 obtain⟨t,rfl⟩:=ru1
 obtain⟨z,its,n,r,hl,e⟩:=I.lstM hH
 have hzl:its.length<sizeLine:=by omega
 have hb:i<2 ^ 63:=by have:its.length<sizeLine:=hzl;rw[sizeLine_eq]at this;omega
 have hf:¬(!Builtin.List.listFitsIndex i)=true:=by rw[fitsIndex_both (by omega) hb];decide
 refine call_meets F.slot_list_insert ⟨_,e,rfl⟩ F.entry_list_insert (F.args_list_insert_3 _ _ _) (PySem.AutoSeq1.list_insert_list_int_val_1 l its.toArray n i t u hf (by rw[List.size_toArray];omega)) ⟨e,?_⟩
 refine⟨.non,_,I.lset (its':=its.take i.toNat++u::its.drop i.toNat) hH e ?_ ((r.take i.toNat).append (.cons ru (r.drop i.toNat))) ?_,rfl,q⟩
 ·simp only[List.size_toArray]
  have e1:min i.toNat its.length=i.toNat:=by omega
  rw[if_neg (by omega),e1]
  apply Array.ext'
  simp [List.take_of_length_le]
 ·rw[List.length_append,List.length_cons,List.length_take,List.length_drop]
  omega
end
def KgAt(P:Hp->Addr->Kb->Prop)(H:Hp)(d:Addr)(kn:Kw):Prop:=∃f:Kw×(Str->Addr),H d=some (.dK (zo f.1 f.2))/\(∀e∈kn,P H (f.2 e.1) e.2)/\f.1.Perm kn/\(kn.map (·.1)).Nodup
def LuAt(H:Hp)(a:Addr)(e:Kb):Prop:=∃v,H a=some (.lst [.int e.age,.int e.last,v])/\Wt H v e.wt
abbrev KlAt:=KgAt LuAt
section
variable{P:Hp->Addr->Kb->Prop}{S:List Addr}{H H':Hp}{d a:Addr}{kn:Kw}{e:Kb}{nm:Str}
theorem KgAt.get(h:KgAt P H d kn)(nm:Str):(kn.lookup nm=none/\DGet H d (.str nm) none)\/∃e a,kn.lookup nm=some e/\DGet H d (.str nm) (some (.ref a))/\P H a e:=by
 obtain⟨⟨k0,f⟩,hd,hb,pm,nd⟩:=h
 have g:=DGet.k (k:=Sum.inr nm) hd
 rw[eV,cn pm nd]at g
 cases q:kn.lookup nm with
 |none=>rw[q]at g;exact .inl ⟨rfl,g⟩
 |some e=>rw[q]at g;exact .inr ⟨e,f nm,rfl,g,hb _ (zQ q)⟩
theorem KgAt.di(h:KgAt P H d kn):∃kvs,H d=some (.dK kvs)/\kvs.length=kn.length:=let⟨f,e,_,pm,_⟩:=h;⟨_,e,(List.length_map _).trans pm.length_eq⟩
theorem KgAt.to(h:KgAt P H d kn)(hd:∀o,H d=some o->H' d=some o)(hp:∀a e,P H a e->P H' a e):KgAt P H' d kn:=let⟨f,r,w,p⟩:=h;⟨f,hd _ r,fun e he=>hp _ _ (w e he),p⟩
theorem KgAt.put(h:KgAt P H d kn)(nm:Str)(hl:kn.length<=100)(hb:P H a e)(hp:∀o a e,P H a e->P (upd H d (.dK o)) a e):∃H',DPut H d (.str nm) (.ref a) H'/\Mv [d] H H'/\KgAt P H' d (qQ kn nm e):=by
 obtain⟨⟨k0,f⟩,hd,hk0,pm,nd⟩:=h
 have hlen:(zo k0 f).length=kn.length:=(List.length_map _).trans pm.length_eq
 have hk:∀e∈k0,P H (f e.1) e.2:=fun e he=>hk0 e (pm.mem_iff.mp he)
 refine⟨_,DPut.k (k:=Sum.inr nm) hd (by rw[hlen];exact Nat.lt_of_le_of_lt hl (by decide)),Mv.upd1,(qQ k0 nm e,fun n=>if n=nm then a else f n),?_,?_,ZM pm nm e,bS nd nm e⟩
 ·rw[qb]
  congr 2
  unfold putK qQ zo
  have ea:((k0.map fun e=>((Sum.inr e.1:qt),V.ref (f e.1))).any fun kv=>decide (kv.1=(Sum.inr nm:qt)))=true↔nm∈k0.map (·.1):=by
   rw[List.any_eq_true]
   constructor
   ·rintro⟨p,hp,z⟩
    obtain⟨q,hq,rfl⟩:=List.mem_map.mp hp
    have z':(Sum.inr q.1:qt)=Sum.inr nm:=of_decide_eq_true z
    injection z' with z'
    exact List.mem_map.mpr ⟨q,hq,z'⟩
   ·intro z
    obtain⟨q,hq,e⟩:=List.mem_map.mp z
    exact⟨_,List.mem_map.mpr ⟨q,hq,rfl⟩,decide_eq_true (by rw[e])⟩
  by_cases z:nm∈k0.map (·.1)
  ·rw[if_pos (ea.mpr z),if_pos z,List.map_map,List.map_map]
   refine List.map_congr_left fun p hp=>?_
   simp only[Function.comp]
   by_cases y:p.1=nm
   ·rw[if_pos (by rw[y]),if_pos y]
    simp [y]
   ·rw[if_neg (by intro w;injection w with w;exact y w),if_neg y]
    simp [y]
  ·rw[if_neg (fun w=>z (ea.mp w)),if_neg z,List.map_append]
   congr 1
   ·refine List.map_congr_left fun p hp=>?_
    have y:¬p.1=nm:=fun w=>z (List.mem_map.mpr ⟨p,hp,w⟩)
    simp [y]
   ·simp
 ·intro p hp'
  have hp':=(ZM pm nm e).mem_iff.mpr hp'
  have hb':=hp (putK (zo k0 f) (Sum.inr nm) (.ref a)) _ _ hb
  unfold qQ at hp'
  split at hp'
  ·obtain⟨q,hq,rfl⟩:=List.mem_map.mp hp'
   by_cases y:q.1=nm
   ·rw[if_pos y];simp only[if_true];exact hb'
   ·rw[if_neg y]
    show P _ (if q.1=nm then a else f q.1) q.2
    rw[if_neg y]
    exact hp _ _ _ (hk q hq)
  ·rename_i z
   rcases List.mem_append.mp hp' with hq|hq
   ·have y:¬p.1=nm:=fun w=>z (List.mem_map.mpr ⟨p,hq,w⟩)
    show P _ (if p.1=nm then a else f p.1) p.2
    rw[if_neg y]
    exact hp _ _ _ (hk p hq)
   ·rw[List.mem_singleton.mp hq];simp only[if_true];exact hb'
theorem LuAt.mv(m:Mv S H H')(n:NT S H)(ha:a∉S)(h:LuAt H a e):LuAt H' a e:=let⟨v,r,w⟩:=h;⟨v,m _ _ ha r,w.mv m n⟩
theorem LuAt.same(s:Same H H')(h:LuAt H a e):LuAt H' a e:=h.mv (S:=[]) s.mv dy (fun h=>nomatch h)
theorem LuAt.ned{b:Addr}{kvs:List (qt×V)}(h:LuAt H a e)(hb:H b=some (.dK kvs)):a≠b:=let⟨v,r,_⟩:=h;qC r hb (by intro z;cases z)
theorem LuAt.neb{b:Addr}{n:Nat}(h:LuAt H a e)(hb:BoxC H b n):a≠b:=by
 obtain⟨v,r,w⟩:=h
 obtain⟨x,y,z,eb,_⟩:=hb
 refine qC r eb (fun q=>?_)
 injection q with q
 injection q with _ q
 injection q with _ q
 injection q with q _
 cases hw:e.wt with
 |none=>rw[hw]at w;have w:v= .non:=w;rw[w]at q;cases q
 |some c=>rw[hw]at w;obtain⟨p,rfl,_⟩:=w;cases q
theorem KlAt.same(h:KlAt H d kn)(s:Same H H'):KlAt H' d kn:=KgAt.to h (fun o e=>s _ _ e) (fun a e h=>h.same s)
theorem KlAt.grc{b:Addr}{n n':Nat}(h:KlAt H d kn)(hb:BoxC H b n)(g:GrC b n' H H'):KlAt H' d kn:=by
 obtain⟨kvs,e,_⟩:=h.di
 obtain⟨x,y,z,eb,_⟩:=id hb
 exact KgAt.to h (fun o e'=>g.kp _ _ (qC e eb (by intro z;cases z)) e') (fun a e h=>h.mv g.mv (zr hb) (qF (h.neb hb)))
theorem KlAt.put(h:KlAt H d kn)(nm:Str)(hl:kn.length<=100)(hb:LuAt H a e):∃H',DPut H d (.str nm) (.ref a) H'/\Mv [d] H H'/\KlAt H' d (qQ kn nm e):=by
 obtain⟨kvs,ed,_⟩:=h.di
 exact KgAt.put h nm hl hb (fun o a e h=>h.mv Mv.upd1 (NT.one ed trivial) (qF (h.ned ed)))
end
structure Wad where
 m:Addr
 mt:Addr
 ml:Addr
 kd:Addr
 nl:Addr
def br(D:Dr)(a:Wad):List (qt×V):=[(.inr "table",.ref a.mt),(.inr "keys",.ref a.ml),(.inr "near",.int D.near),(.inr "far",.int D.far),(.inr "shut",.int D.least),(.inr "known",.ref a.kd),(.inr "names",.ref a.nl)]
def wkK:List qt:=[.inr "table",.inr "keys",.inr "near",.inr "far",.inr "shut",.inr "known",.inr "names"]
theorem nE:wkK.Nodup:=by decide +kernel
theorem io(D:Dr)(a:Wad):((br D a).map (·.1)).Nodup:=nE
structure WkAt(K:Frag)(H:Hp)(a:Wad)(D:Dr)(ns:List Str):Prop where
 di:H a.m=some (.dK (br D a))
 tb:SqT K H a.mt (D.t.map V.int)
 ks:KsAt [] H a.ml D.kss
 kb:KlAt H a.kd D.kn
 nm:H a.nl=some (.lst (ns.map V.str))
 ne:a.m≠a.kd
 n1:1<=ns.length
section
variable{K:Frag}{H H':Hp}{a:Wad}{D:Dr}{ns:List Str}
theorem WkAt.get(w:WkAt K H a D ns)(i:Nat){k:qt}{v:V}(h:(br D a)[i]? =some (k,v)):DGet H a.m (kV k) (some v):=by
 have:=DGet.k (k:=k) w.di
 rw[aa i h (io ..)]at this
 exact this
theorem WkAt.g_table(w:WkAt K H a D ns):DGet H a.m (.str "table") (some (.ref a.mt)):=w.get (k:= .inr "table") 0 rfl
theorem WkAt.g_keys(w:WkAt K H a D ns):DGet H a.m (.str "keys") (some (.ref a.ml)):=w.get (k:= .inr "keys") 1 rfl
theorem WkAt.g_near(w:WkAt K H a D ns):DGet H a.m (.str "near") (some (.int D.near)):=w.get (k:= .inr "near") 2 rfl
theorem WkAt.g_far(w:WkAt K H a D ns):DGet H a.m (.str "far") (some (.int D.far)):=w.get (k:= .inr "far") 3 rfl
theorem WkAt.g_shut(w:WkAt K H a D ns):DGet H a.m (.str "shut") (some (.int D.least)):=w.get (k:= .inr "shut") 4 rfl
theorem WkAt.g_known(w:WkAt K H a D ns):DGet H a.m (.str "known") (some (.ref a.kd)):=w.get (k:= .inr "known") 5 rfl
theorem WkAt.g_names(w:WkAt K H a D ns):DGet H a.m (.str "names") (some (.ref a.nl)):=w.get (k:= .inr "names") 6 rfl
theorem WkAt.same(w:WkAt K H a D ns)(s:Same H H'):WkAt K H' a D ns:=⟨s _ _ w.di,Same.sqt s w.tb,w.ks.same s,w.kb.same s,s _ _ w.nm,w.ne,w.n1⟩
theorem WkAt.grc{b:Addr}{n n':Nat}(w:WkAt K H a D ns)(hb:BoxC H b n)(g:GrC b n' H H'):WkAt K H' a D ns:=by
 obtain⟨x,y,z,eb,_⟩:=id hb
 obtain⟨as,eh,_⟩:=id w.ks
 exact⟨g.kp _ _ (qC w.di eb (by intro z;cases z)) w.di,g.mv.sqt (zr hb) w.tb,w.ks.mv g.mv (zr hb) (qF (qC eh eb (zH 0 rfl (by intro a z;cases z)))),w.kb.grc hb g,g.kp _ _ (qC w.nm eb (cm w.n1 _ _ _)) w.nm,w.ne,w.n1⟩
end
theorem KsAt.grc{K:Frag}{H H':Hp}{b ml:Addr}{n n':Nat}{kss:List (List Int)}(ks:KsAt K H ml kss)(hb:BoxC H b n)(g:GrC b n' H H'):KsAt K H' ml kss:=by
 obtain⟨x,y,z,eb,_⟩:=id hb
 obtain⟨as,eh,_⟩:=id ks
 exact ks.mv g.mv (zr hb) (qF (qC eh eb (zH 0 rfl (by intro a z;cases z))))
structure WkOk(D:Dr)(ns:List Str):Prop where
 ok:DrOk D
 k1:1<=D.kss.length
 n0:1<=D.near
 nf:D.near<=D.far
 f2:D.far<=2000
 lk:D.least<D.kss.length
 ms:D.most=12
 kb:∀e∈D.kn,KbOk D e.2/\1<=e.2.last
 wt:∀e∈D.kn,∀x cc,e.2.wt=some (x,cc)->x=e.2.age/\e.2.last+D.near<cc/\cc<=e.2.last+D.far
 nm:∀z∈ns,QY z
 nn:D.kn.map (·.1)=ns
 nl:ns.length<=12
 n1:1<=ns.length
structure Sc where
 nm:Str
 age:Int
 c:Int
 d:Int
 f:Int
def bu(H:Hp)(p:Addr)(s:Sc):Prop:=H p=some (.tup [.str s.nm,.int s.age,.int s.c,.int s.d,.int s.f])
structure ScOk(D:Dr)(s:Sc):Prop where
 nm:QY s.nm
 a0:0<=s.age
 a1:s.age<D.kss.length
 c0:0<=s.c
 c1:s.c<4096
 dg:ZO s.d
 f0:0<=s.f
 f1:s.f<=3
def farAges:List Int:=[-1, -9,8,1000000000000000000000000000000]
def zd(D:Dr)(s:Sc):Int:=if s.f<=1 then s.age else if s.f=2 then D.kss.length+s.age else farAges.getD (s.c%4).toNat 0
def Qc(s:Sc):List Int:=zn s.c s.d++[((zn s.c s.d).sum+1+(s.f-1)*5)%16]
def zC(D:Dr)(s:Sc):Ps:=if s.f=0 then⟨s.nm,s.age,Zm D.t (zD D s.age) s.nm s.c s.d⟩else⟨s.nm,zd D s,zW D.t (ZU D.t (zD D s.age) s.nm) (Qc s)⟩
section
variable{D:Dr}{s:Sc}
theorem jN(h:ScOk D s):q9 (Qc s):=fun x hx=>by
 have c0:=h.c0
 have c1:=h.c1
 simp only[Qc,zn,List.cons_append,List.nil_append,List.mem_cons,List.not_mem_nil,or_false]at hx
 rcases hx with rfl|rfl|rfl|rfl|rfl
 ·exact Qo _
 ·exact Qo _
 ·exact⟨by omega,by omega⟩
 ·exact h.dg
 ·exact Qo _
theorem cT(h:ScOk D s)(tp:D.t.Perm digs):PsOk (zC D s):=by
 unfold zC
 split
 ·exact⟨h.nm,nz ..,oP tp h.c0 h.c1 h.dg⟩
 ·exact⟨h.nm,by show(zW D.t _ (Qc s)).length=5;rw[Zy];rfl,cJ tp (jN h)⟩
theorem oz(h:ScOk D s)(ok:DrOk D)(k8:1<=D.kss.length):qX D (zC D s)=qZ D s.nm (zd D s) (if s.f=0 then some (s.c,s.d)else if s.f=1 then none else Qa D.t (zD D (zd D s)) s.nm (zW D.t (ZU D.t (zD D s.age) s.nm) (Qc s))):=by
 unfold qX zC
 by_cases f0:s.f=0
 ·rw[if_pos f0,if_pos f0]
  have e:zd D s=s.age:=by unfold zd;rw[if_pos (by omega)]
  rw[e]
  simp only
  rw[bE ok.tp h.c0 h.c1 h.dg]
 ·rw[if_neg f0,if_neg f0]
  simp only
  by_cases f1:s.f=1
  ·rw[if_pos f1]
   have e:zd D s=s.age:=by unfold zd;rw[if_pos (by omega)]
   rw[e]
   congr 1
   unfold Qa
   rw[cx ok.tp (jN h) (by show 2<=5;decide)]
   unfold db Qc
   rw[hV,f1]
   show(if(s.c%16+s.c/16%16+s.c/256+s.d+1+(1-1)*5)%16=(s.c%16+s.c/16%16+s.c/256+s.d)%16 then _ else none)=none
   rw[if_neg (by omega)]
  ·rw[if_neg f1]
theorem tF(h:ScOk D s)(hf:1<s.f)(k8:D.kss.length<=8)(k1:1<=D.kss.length)(l0:0<=D.least):zN D (zd D s)=false:=by
 have a0:=h.a0
 have f1:=h.f1
 have c0:=h.c0
 unfold zN zd
 rw[if_neg (by omega)]
 by_cases e:s.f=2
 ·rw[if_pos e,Bool.and_eq_false_iff]
  exact .inr (decide_eq_false (by omega))
 ·rw[if_neg e]
  have:(s.c%4).toNat<4:=by omega
  rw[Bool.and_eq_false_iff]
  generalize (s.c%4).toNat=j at this
  match j,this with
  |0,_=>exact .inl (decide_eq_false (by show¬D.least<= -1;omega))
  |1,_=>exact .inl (decide_eq_false (by show¬D.least<= -9;omega))
  |2,_=>exact .inr (decide_eq_false (by show¬(8:Int)<_;omega))
  |3,_=>exact .inr (decide_eq_false (by show¬(1000000000000000000000000000000:Int)<_;omega))
end
section
variable(K:Frag)
def iT:Sp:=fun vs H Q _=>∃(kd:Addr) (kn:Kw),vs=[.ref kd]/\KlAt H kd kn/\kn.length<=60/\∀q ss H',Same H H'->ss.Perm (kn.map (·.1))->sortedS ss=true->ShAt H' q ss kn->Q (.ref q) H'
def iw:Sp:=fun vs H Q _=>∃(kd:Addr) (kn:Kw),vs=[.ref kd]/\KlAt H kd kn/\kn.length<=60/\∀d H',Same H H'->H d=none->KlAt H' d kn->Q (.ref d) H'
def c7:Sp:=fun vs H Q _=>∃(a:Wad) (kd sp:Addr) (D:Dr) (ns:List Str) (kn:Kw) (s:Sc),vs=[.ref a.m,.ref kd,.ref sp]/\WkAt K H a D ns/\WkOk D ns/\KlAt H kd kn/\kn.length<=60/\kd≠a.m/\bu H sp s/\ScOk D s/\∀q H',Mv [kd] H H'->H' q=some (.tup (qX {D with kn:=kn} (zC D s)).1)->KlAt H' kd (qX {D with kn:=kn} (zC D s)).2->Q (.ref q) H'
def ZS:Sp:=fun vs H Q _=>∃(a:Wad) (sp:Addr) (D:Dr) (ns:List Str) (s:Sc),vs=[.ref a.m,.ref sp]/\WkAt K H a D ns/\D.t.Perm digs/\bu H sp s/\ScOk D s/\∀pr H',Same H H'->PsAt H' pr (zC D s)->Q (.ref pr) H'
end
def wK:R2:=fun x y H Q=>∃(o:Option (Int×Int)) (b:Addr) (a c:Int),Wt H x o/\y= .ref b/\Rd H b (.tup [.int a,.int c])/\Q (.bl (!decide (o=some (a,c)))) H
theorem uR{X:Cx}{k:Nat}(hr:Room k X.A):zc X (compareOp .NotEq) wK:=by
 intro pins s σ H x y v u Q I rx ry h
 obtain⟨o,b,a,c,hw,rfl,hb,q⟩:=h
 cases ry
 obtain⟨its2,r2,p2,_⟩:=I.tuple (.inl hb)
 have hu:X.A.units<cLine:=by have:=hr.un;omega
 cases o with
 |none=>
  have hw':x= .non:=hw
  subst hw'
  cases rx
  rw[decide_eq_false (by intro z;cases z)]at q
  exact SeqAt.RcNeAt.none_tuple p2 hu _ _ _ _ ⟨.bl true,H,I,rfl,q⟩
 |some pr=>
  obtain⟨x1,x2⟩:=pr
  obtain⟨w,rfl,hw'⟩:=hw
  cases rx
  obtain⟨its,r1,p1,_⟩:=I.tuple (.inl (.inl hw'))
  have l1:=r1.length
  have l2:=r2.length
  have e1:=SeqAt.RcNeAt.tuples (A:=X.A) (e:=fun j=>[x1,x2].getD j 0==[a,c].getD j 0) (show s.heap.IsTuple w its.toArray from p1) (show s.heap.IsTuple b its2.toArray from p2) hu (fun j h1 h2=>by
   have h1':j<its.length:=by simpa using h1
   have h2':j<its2.length:=by simpa using h2
   obtain⟨t,e⟩:=bO (ns:=[x1,x2]) r1 j h1' (by rw[<- l1]at h1';exact h1')
   obtain⟨t',e'⟩:=bO (ns:=[a,c]) r2 j h2' (by rw[<- l2]at h2';exact h2')
   simp only[List.getElem_toArray,e,e',List.getD_eq_getElem?_getD,List.getElem?_eq_getElem (show j<[x1,x2].length by rw[<- l1]at h1';exact h1'),List.getElem?_eq_getElem (show j<[a,c].length by rw[<- l2]at h2';exact h2'),Option.getD_some]
   exact SeqAt.EqAt.int_int _ _ _ _)
  have z1:its.toArray.size=2:=by rw[List.size_toArray,<- l1];rfl
  have z2:its2.toArray.size=2:=by rw[List.size_toArray,<- l2];rfl
  refine e1 _ _ _ _ ⟨.bl _,H,I,?_,q⟩
  show Value.bool _=Value.bool _
  congr 1
  rw[z1,z2,show min 2 2=([x1,x2]:List Int).length from rfl,i3 [x1,x2] [a,c] rfl]
  simp
theorem fq{X:Cx}{K:Frag}(h:X.K=K):qW X (.type "tuple") (fun xs H Q=>∃p ys,xs=[.ref p]/\((SqL K H p ys/\∀l,H l=none->Q (.ref l) (upd H l (.tup ys)))\/(SqT K H p ys/\Q (.ref p) H))):=by subst h;exact qJ
theorem nA:∀(k:Kw) (ls:List Addr),(k.map (·.1)).Nodup->∃g:Str->Addr,∀(i:Nat) (e:Str×Kb) (l:Addr),k[i]? =some e->ls[i]? =some l->g e.1=l
 | [],_,_=>⟨fun _=>0,fun i e l h=>by cases h⟩
 |(n,x)::k,[],_=>⟨fun _=>0,fun i e l h h2=>by cases h2⟩
 |(n,x)::k,l::ls,nd=>by
  rw[List.map_cons,List.nodup_cons]at nd
  obtain⟨g,hg⟩:=nA k ls nd.2
  refine⟨fun m=>if m=n then l else g m,fun i e l' h1 h2=>?_⟩
  match i,h1,h2 with
  |0,h1,h2=>cases h1;cases h2;exact if_pos rfl
  |i+1,h1,h2=>
   have h1:k[i]? =some e:=h1
   have ne:¬e.1=n:=fun z=>nd.1 (by rw[<- z];exact List.mem_map.mpr ⟨e,List.mem_of_getElem? h1,rfl⟩)
   show(if e.1=n then l else g e.1)=l'
   rw[if_neg ne];exact hg i e l' h1 h2
theorem oJ{k0:Kw}{g:Str->Addr}(nd:(k0.map (·.1)).Nodup):zP [] (zo k0 g)=zo k0 g:=by
 have:=ZE (zo k0 g) [] (by rw[List.nil_append,fy];exact List.Pairwise.map _ (fun x y (h:x≠y) z=>h (by injection z)) nd)
 rwa [List.nil_append]at this
def Pl(l:Addr)(e0:Kb):Hp->Addr->Kb->Prop:=fun H a e=>if a=l then e=e0 else LuAt H a e
theorem KlAt.pl{H:Hp}{d l:Addr}{kn:Kw}{e0:Kb}(h:KlAt H d kn)(hl:H l=none):KgAt (Pl l e0) H d kn:=by
 obtain⟨f,r,w,p⟩:=h
 refine⟨f,r,fun e he=>?_,p⟩
 obtain⟨v,hv,hw⟩:=w e he
 unfold Pl
 rw[if_neg (fun z=>by rw[z,hl]at hv;cases hv)]
 exact⟨v,hv,hw⟩
theorem c6{S:List Addr}{H H':Hp}{a l:Addr}{e e0:Kb}(m:Mv S H H')(n:NT S H)(hs:∀a e,LuAt H a e->a≠l->a∉S)(h:Pl l e0 H a e):Pl l e0 H' a e:=by
 unfold Pl at h⊢
 by_cases z:a=l
 ·rw[if_pos z]at h⊢;exact h
 ·rw[if_neg z]at h⊢;exact LuAt.mv m n (hs a e h z) h
theorem KgAt.done{H:Hp}{d l:Addr}{kn:Kw}{e0:Kb}(h:KgAt (Pl l e0) H d kn)(hl:LuAt H l e0):KlAt H d kn:=by
 obtain⟨f,r,w,p⟩:=h
 refine⟨f,r,fun e he=>?_,p⟩
 have:=w e he
 unfold Pl at this
 by_cases z:f.2 e.1=l
 ·rw[if_pos z]at this;rw[this,z];exact hl
 ·rw[if_neg z]at this;exact this
theorem KgAt.putE{P:Hp->Addr->Kb->Prop}{H:Hp}{d a:Addr}{kn:Kw}{e:Kb}{kvs0:List (qt×V)}(h:KgAt P H d kn)(e0:H d=some (.dK kvs0))(nm:Str)(hl:kn.length<=100)(hb:P H a e)(hp:∀o a e,P H a e->P (upd H d (.dK o)) a e):DPut H d (.str nm) (.ref a) (upd H d (.dK (putK kvs0 (Sum.inr nm) (.ref a))))/\KgAt P (upd H d (.dK (putK kvs0 (Sum.inr nm) (.ref a)))) d (qQ kn nm e):=by
 obtain⟨H',dp,_,kb⟩:=h.put nm hl hb hp
 have hd':H'=upd H d (.dK (putK kvs0 (Sum.inr nm) (.ref a))):=by
  rcases dp with⟨kvs,k,e1,e2,_,e3⟩|⟨kvs,k,b,e1,_⟩
  ·rw[e0]at e1;cases e1
   cases k with
   |inl i=>cases e2
   |inr z=>injection e2 with e2;rw[<- e2]at e3;exact e3
  ·rw[e0]at e1;cases e1
 subst hd'
 exact⟨dp,kb⟩
theorem KlAt.putL{H0 H:Hp}{d l:Addr}{kn:Kw}(h:KlAt H0 d kn)(hl:H0 l=none)(s:Same H0 H)(nm:Str)(hk:kn.length<=100):∃kvs,DPut H d (.str nm) (.ref l) (upd H d (.dK kvs))/\zy kvs (Sum.inr nm:qt)=some (.ref l)/\∀e,KgAt (Pl l e) (upd H d (.dK kvs)) d (qQ kn nm e):=by
 obtain⟨kvs0,e0,_⟩:=h.di
 have e1:=s _ _ e0
 have step:∀e,KgAt (Pl l e) H d kn:=fun e=>KgAt.to (KlAt.pl h hl) (fun o z=>s _ _ z) (fun a x hx=>c6 (S:=[]) s.mv dy (fun _ _ _ _ z=>nomatch z) hx)
 have hp:∀e o a x,Pl l e H a x->Pl l e (upd H d (.dK o)) a x:=fun e o a x hx=>c6 Mv.upd1 (NT.one e1 trivial) (fun a y hy _=>qF (hy.ned e1)) hx
 have hb:∀e,Pl l e H l e:=fun e=>by unfold Pl;rw[if_pos rfl]
 refine⟨_,(KgAt.putE (step ⟨0,0,none⟩) e1 nm hk (hb _) (hp _)).1,by rw[gZ,if_pos rfl],fun e=>(KgAt.putE (step e) e1 nm hk (hb e) (hp e)).2⟩
def gq(K:Frag):Sp:=fun vs H Q _=>∃(b:Addr) (g:Bool) (c:Nat),vs=[.ref b,.bl g]/\BoxC H b c/\c<1000000/\∀(wa:Wad) D ns H',GrC b (c+500) H H'->H wa.m=none->H wa.ml=none->H wa.kd=none->H wa.nl=none->WkAt K H' wa D ns->WkOk D ns->Q (.ref wa.m) H'
theorem eL{t:TE}{σ:L2.St}{H:Hp}{Q:VK}(G:V->Hp->Prop)(h:∀Q':VK,(∀v H',G v H'->Q' v H')->t σ H Q')(hq:∀v H',G v H'->Q v H'):t σ H Q:=h Q hq
def wk6(near far:Int)(mt ml kd:Addr):List (qt×V):=[(.inr "table",.ref mt),(.inr "keys",.ref ml),(.inr "near",.int near),(.inr "far",.int far),(.inr "shut",.int 0),(.inr "known",.ref kd)]
theorem uh(near far:Int)(mt ml kd:Addr):((wk6 near far mt ml kd).map (·.1)).Nodup:=(by decide +kernel:(([.inr "table",.inr "keys",.inr "near",.inr "far",.inr "shut",.inr "known"]:List qt)).Nodup)
theorem nH(near far:Int)(mt ml kd:Addr):zP [] (wk6 near far mt ml kd)=wk6 near far mt ml kd:=by
 have:=ZE (wk6 near far mt ml kd) [] (uh ..)
 rwa [List.nil_append]at this
theorem sL(t:List Int)(kss:List (List Int))(near far:Int)(kn:Kw)(m mt ml kd nl:Addr):putK (wk6 near far mt ml kd) (Sum.inr "names":qt) (.ref nl)=br ⟨t,kss,near,far,12,0,kn⟩ ⟨m,mt,ml,kd,nl⟩:=by
 rw[jF (fun h=>(List.nodup_append.mp (show(((wk6 near far mt ml kd).map (·.1))++[(Sum.inr "names":qt)]).Nodup from nE)).2.2 _ h _ (List.mem_singleton.mpr rfl) rfl)]
 rfl
structure WkP(K:Frag)(H:Hp)(a:Wad)(D:Dr)(ns:List Str)(l:Addr)(kvs:List (qt×V))(nm:Str)(age last:Int)(kn:Kw):Prop where
 di:H a.m=some (.dK (br D a))
 tb:SqT K H a.mt (D.t.map V.int)
 ks:KsAt [] H a.ml D.kss
 kg:∀e,KgAt (Pl l e) H a.kd (qQ kn nm e)
 ek:H a.kd=some (.dK kvs)
 va:zy kvs (Sum.inr nm:qt)=some (.ref l)
 el:H l=some (.lst [.int age,.int last,.non])
 nm:H a.nl=some (.lst (ns.map V.str))
 ne:a.m≠a.kd
 n1:1<=ns.length
section
variable{K:Frag}{H H':Hp}{a:Wad}{D:Dr}{ns:List Str}{l:Addr}{kvs:List (qt×V)}{nm:Str}{age last:Int}{kn:Kw}{b:Addr}{n n':Nat}
theorem WkP.same(w:WkP K H a D ns l kvs nm age last kn)(s:Same H H'):WkP K H' a D ns l kvs nm age last kn:=⟨s _ _ w.di,Same.sqt s w.tb,w.ks.same s,fun e=>KgAt.to (w.kg e) (fun o z=>s _ _ z) (fun a x hx=>c6 (S:=[]) s.mv dy (fun _ _ _ _ z=>nomatch z) hx),s _ _ w.ek,w.va,s _ _ w.el,s _ _ w.nm,w.ne,w.n1⟩
theorem WkP.grc(w:WkP K H a D ns l kvs nm age last kn)(hb:BoxC H b n)(g:GrC b n' H H'):WkP K H' a D ns l kvs nm age last kn:=by
 obtain⟨x,y,z,eb,_⟩:=id hb
 refine⟨g.kp _ _ (qC w.di eb (by intro z;cases z)) w.di,g.mv.sqt (zr hb) w.tb,w.ks.grc hb g,fun e=>KgAt.to (w.kg e) (fun o q=>g.kp _ _ (qC w.ek eb (by intro z;cases z)) q) (fun a x hx=>c6 g.mv (zr hb) (fun a y hy _=>qF (hy.neb hb)) hx),g.kp _ _ (qC w.ek eb (by intro z;cases z)) w.ek,w.va,g.kp _ _ (qC w.el eb (fun q=>?_)) w.el,g.kp _ _ (qC w.nm eb (cm w.n1 _ _ _)) w.nm,w.ne,w.n1⟩
 injection q with q
 injection q with _ q
 injection q with _ q
 injection q with q _
 cases q
theorem WkP.g_known(w:WkP K H a D ns l kvs nm age last kn):DGet H a.m (.str "known") (some (.ref a.kd)):=by
 have:=DGet.k (k:=(Sum.inr "known":qt)) w.di
 rw[aa 5 rfl (io ..)]at this
 exact this
theorem WkP.g_nm(w:WkP K H a D ns l kvs nm age last kn):DGet H a.kd (.str nm) (some (.ref l)):=by
 have:=DGet.k (k:=(Sum.inr nm:qt)) w.ek
 rw[w.va]at this
 exact this
theorem WkP.plain(w:WkP K H a D ns l kvs nm age last kn):WkAt K H a {D with kn:=qQ kn nm ⟨age,last,none⟩} ns:=⟨w.di,w.tb,w.ks,(w.kg _).done ⟨.non,w.el,rfl⟩,w.nm,w.ne,w.n1⟩
theorem WkP.wait(w:WkP K H a D ns l kvs nm age last kn){t:Addr}{x cc:Int}(ht:H t=some (.tup [.int x,.int cc])):WkAt K (upd H l (.lst [.int age,.int last,.ref t])) a {D with kn:=qQ kn nm ⟨age,last,some (x,cc)⟩} ns:=by
 have m:Mv [l] H (upd H l (.lst [.int age,.int last,.ref t])):=Mv.upd1
 have nt:NT [l] H:=NT.one w.el trivial
 obtain⟨as,eh,_⟩:=id w.ks
 refine⟨m _ _ (qF (qC w.di w.el (by intro z;cases z))) w.di,m.sqt nt w.tb,w.ks.mv m nt (qF (qC eh w.el (zH 0 rfl (by intro a z;cases z)))),?_,m _ _ (qF (qC w.nm w.el ?_)) w.nm,w.ne,w.n1⟩
 ·refine(KgAt.to (w.kg ⟨age,last,some (x,cc)⟩) (fun o q=>m _ _ (qF (qC w.ek w.el (by intro z;cases z))) q) (fun a y hy=>c6 m nt (fun a z _ hz=>qF hz) hy)).done ⟨.ref t,qb,t,rfl,?_⟩
  exact m.tup nt ht
 ·have h1:=w.n1
  intro q
  injection q with q
  cases ns with
  |nil=>cases h1
  |cons y r=>cases q
end
def iL(K:Frag)(C:Addr):Sp:=fun vs H Q _=>∃(wa:Wad) (D:Dr) (ns:List Str),vs=[.ref wa.m]/\WkAt K H wa D ns/\WkOk D ns/\∀a L H',Same H H'->H a.p=none->H a.hk=none->H a.bd=none->H a.lg=none->DlAt K C H' a D L->L.length<=30->Q (.ref a.p) H'
theorem sX{K:Frag}{js:List Nat}{te:TE}{σ:L2.St}{H:Hp}{Q:VK}{H0:Hp}{a:Addr}{xs:List V}(sq:Sq K H0 a xs)(hn:xs.length<=sizeLine)(Pv:Nat->List V->Hp->Prop)(h0:Pv 0 [] H)(ps:∀i ys H',Pv i ys H'->Same H0 H')
  (hs:∀i ys H' x,xs[i]? =some x->ys.length=i->Pv i ys H'->te (some x::QU js σ) H' fun v H3=>Pv (i+1) (ys++[v]) H3)
  (hd:∀ys H',ys.length=xs.length->Pv xs.length ys H'->∀p,H' p=none->Q (.ref p) (upd H' p (.lst ys))):((∃xs,SqL K H a xs)/\Zj (cf K a) js te σ H Q)\/((∃xs,SqT K H a xs)/\Zj (et K a) js te σ H Q):=by
 rcases sq with sq|sq
 ·exact .inl ⟨⟨_,(ps _ _ _ h0).seq sq⟩,zx hn Pv h0 (fun i ys H' p=>(ps i ys H' p).seq sq) hs hd⟩
 ·exact .inr ⟨⟨_,Same.sqt (ps _ _ _ h0) sq⟩,cy hn Pv h0 (fun i ys H' p=>Same.sqt (ps i ys H' p) sq) hs hd⟩
def QN(D:Dr)(ps:List Ps):Nat->Kw
 |0=>D.kn
 |i+1=>match ps[i]? with
  |some P=>(qX {D with kn:=QN D ps i} P).2
  |none=>QN D ps i
def cP(D:Dr)(ps:List Ps)(i:Nat)(P:Ps):List V:=(qX {D with kn:=QN D ps i} P).1
theorem am{D:Dr}{ps:List Ps}{i:Nat}{P:Ps}(h:ps[i]? =some P):QN D ps (i+1)=(qX {D with kn:=QN D ps i} P).2:=by
 show(match ps[i]? with|some P=>(qX {D with kn:=QN D ps i} P).2|none=>QN D ps i)=_
 rw[h]
theorem mx(D:Dr)(nm:Str)(age:Int)(r:Option (Int×Int)):(qZ D nm age r).2.map (·.1)=D.kn.map (·.1):=by
 unfold qZ
 cases e:D.kn.lookup nm with
 |none=>rfl
 |some x=>
  simp only
  split
  ·split
   ·rfl
   ·split
    ·exact dw e
    ·exact dw e
  ·rfl
theorem lu{D:Dr}(ok:DrOk D)(P:Ps):DrOk {D with kn:=(qX D P).2}:=by
 have h:(qX D P).2.map (·.1)=D.kn.map (·.1):=mx ..
 have hl:=congrArg List.length h
 rw[List.length_map,List.length_map]at hl
 exact⟨ok.tp,ok.l0,ok.kl,by show(qX D P).2.length<=60;rw[hl];exact ok.nl,by show((qX D P).2.map (·.1)).Nodup;rw[h];exact ok.nd⟩
theorem Z7{D:Dr}(ok:DrOk D)(ps:List Ps):∀i,DrOk {D with kn:=QN D ps i}
 |0=>ok
 |i+1=>by
  have ih:=Z7 ok ps i
  cases h:ps[i]? with
  |none=>
   have e:QN D ps (i+1)=QN D ps i:=by
    show(match ps[i]? with|some P=>(qX {D with kn:=QN D ps i} P).2|none=>QN D ps i)=_
    rw[h]
   rw[e];exact ih
  |some P=>rw[am h];exact lu ih P
structure RsAt(K:Frag)(H:Hp)(r:Addr)(qs:List Ps):Prop where
 h:∃rs:List Addr,Sq K H r (rs.map V.ref)/\rs.length=qs.length/\∀(i:Nat) (p:Addr) (P:Ps),rs[i]? =some p->qs[i]? =some P->PsAt H p P/\PsOk P
def fJ(K:Frag)(C:Addr):Sp:=fun vs H Q _=>∃(a:Da) (r h:Addr) (D:Dr) (L:List Rw) (qs ps:List Ps) (hs:List Nat),vs=[.ref a.p,.ref r,.ref h]/\DlAt K C H a D L/\L.length<=100/\DrOk D/\RsAt K H r qs/\Sq K H h (hs.map fun n:Nat=>V.int (n:Int))/\hs.length<=100/\ps.length=hs.length/\(∀(i n:Nat),hs[i]? =some n->∃P,ps[i]? =some P/\qs[n]? =some P)/\
 ∀q aq kq (as:List Addr) (ss:List Str) H',Same H H'->H' q=some (.tup [.ref aq,.ref kq])->H' aq=some (.tup (as.map V.ref))->as.length=ps.length->(∀(i:Nat) (x:Addr) (P:Ps),as[i]? =some x->ps[i]? =some P->H' x=some (.tup (cP D ps i P)))->ss.Perm ((QN D ps ps.length).map (·.1))->sortedS ss=true->ShAt H' kq ss (QN D ps ps.length)->Q (.ref q) H'
def IdAt(H:Hp)(d:Addr)(ns:List Str)(lo hi:Int)(n:Nat):Prop:=∃kvs:List (qt×V),H d=some (.dK kvs)/\kvs.length<=n/\∀nm∈ns,∃z:Int,zy kvs (Sum.inr nm:qt)=some (.int z)/\lo<=z/\z<=hi
theorem pG(kvs:List (qt×V))(k:qt)(v:V):(putK kvs k v).length<=kvs.length+1:=by
 unfold putK
 split
 ·rw[List.length_map];omega
 ·rw[List.length_append];exact Nat.le_refl _
section
variable{H H':Hp}{d:Addr}{ns:List Str}{lo hi:Int}{n:Nat}{nm:Str}
theorem IdAt.get(h:IdAt H d ns lo hi n)(hn:nm∈ns):∃z:Int,DGet H d (.str nm) (some (.int z))/\lo<=z/\z<=hi:=by
 obtain⟨kvs,e,_,r⟩:=h
 obtain⟨z,hv,h0⟩:=r nm hn
 have g:=DGet.k (k:=(Sum.inr nm:qt)) e
 rw[hv]at g
 exact⟨z,g,h0⟩
theorem IdAt.put(h:IdAt H d ns lo hi n)(nm:Str){z:Int}(z0:lo<=z)(z1:z<=hi)(hn:n<=1000):∃H',DPut H d (.str nm) (.int z) H'/\Mv [d] H H'/\IdAt H' d ns lo hi (n+1):=by
 obtain⟨kvs,e,l,r⟩:=h
 refine⟨_,DPut.k (k:=(Sum.inr nm:qt)) e (by rw[sizeLine_eq];omega),Mv.upd1,_,qb,Nat.le_trans (pG ..) (by omega),fun y hy=>?_⟩
 rw[gZ]
 by_cases q:(Sum.inr y:qt)=Sum.inr nm
 ·rw[if_pos q];exact⟨z,rfl,z0,z1⟩
 ·rw[if_neg q];exact r y hy
theorem IdAt.to(h:IdAt H d ns lo hi n)(hd:∀o,H d=some o->H' d=some o):IdAt H' d ns lo hi n:=let⟨kvs,e,l,r⟩:=h;⟨kvs,hd _ e,l,r⟩
theorem IdAt.same(h:IdAt H d ns lo hi n)(s:Same H H'):IdAt H' d ns lo hi n:=h.to fun o e=>s _ _ e
theorem IdAt.grc{b:Addr}{m m':Nat}(h:IdAt H d ns lo hi n)(hb:BoxC H b m)(g:GrC b m' H H'):IdAt H' d ns lo hi n:=by
 obtain⟨kvs,e,_⟩:=id h
 obtain⟨x,y,z,eb,_⟩:=id hb
 exact h.to fun o q=>g.kp _ _ (qC e eb (by intro z;cases z)) q
theorem IdAt.of{kvs:List (qt×V)}{zs:List Int}(e:H d=some (.dK kvs))(hk:kvs.map (·.1)=ns.map Sum.inr)(nd:ns.Nodup)(hl:ns.length<=n)(hz:∀(i:Nat) (kv:qt×V),kvs[i]? =some kv->∃z:Int,kv.2= .int z/\lo<=z/\z<=hi):IdAt H d ns lo hi n:=by
 have hlen:kvs.length=ns.length:=by have:=congrArg List.length hk;rwa [List.length_map,List.length_map]at this
 have ndk:(kvs.map (·.1)).Nodup:=by rw[hk];exact List.Pairwise.map _ (fun x y (h:x≠y) z=>h (by injection z)) nd
 refine⟨kvs,e,by omega,fun nm hn=>?_⟩
 obtain⟨i,hi⟩:=List.getElem?_of_mem hn
 have hik:i<kvs.length:=by rw[hlen];exact(List.getElem?_eq_some_iff.mp hi).1
 have ek:=List.getElem?_eq_getElem hik
 obtain⟨z,ez,h0⟩:=hz i _ ek
 have e1:(kvs.map (·.1))[i]? =some (Sum.inr nm):=by rw[hk,List.getElem?_map,hi];rfl
 rw[List.getElem?_map,ek]at e1
 have e2:kvs[i].1=Sum.inr nm:=Option.some.inj e1
 refine⟨z,?_,h0⟩
 exact aa i (by rw[ek];congr 1;exact Prod.ext e2 ez) ndk
end
def ScL(H:Hp)(rl:Addr)(ss:List Sc):Prop:=∃as:List Addr,H rl=some (.lst (as.map V.ref))/\as.length=ss.length/\∀(i:Nat) (a:Addr) (s:Sc),as[i]? =some a->ss[i]? =some s->bu H a s
section
variable{S:List Addr}{H H':Hp}{rl a:Addr}{ss:List Sc}{s:Sc}
theorem ScL.mv(h:ScL H rl ss)(m:Mv S H H')(nt:NT S H)(hr:rl∉S):ScL H' rl ss:=let⟨as,e,l,r⟩:=h;⟨as,m _ _ hr e,l,fun i a s h1 h2=>m.tup nt (r i a s h1 h2)⟩
theorem ScL.same(h:ScL H rl ss)(s:Same H H'):ScL H' rl ss:=h.mv (S:=[]) s.mv dy (fun h=>nomatch h)
theorem ScL.grc{b:Addr}{n n':Nat}(h:ScL H rl ss)(hb:BoxC H b n)(g:GrC b n' H H'):ScL H' rl ss:=by
 obtain⟨as,e,_⟩:=id h
 obtain⟨x,y,z,eb,_⟩:=id hb
 exact h.mv g.mv (zr hb) (qF (qC e eb (zH 0 rfl (by intro a z;cases z))))
theorem ScL.add{as:List Addr}(e:H rl=some (.lst (as.map V.ref)))(l:as.length=ss.length)(r:∀(i:Nat) (a:Addr) (s:Sc),as[i]? =some a->ss[i]? =some s->bu H a s)(hs:bu H a s):ScL (upd H rl (.lst (as.map V.ref++[.ref a]))) rl (ss++[s]):=by
 have m:Mv [rl] H (upd H rl (.lst (as.map V.ref++[.ref a]))):=Mv.upd1
 have nt:NT [rl] H:=NT.one e trivial
 refine⟨as++[a],by rw[qb,List.map_append];rfl,by simp [l],fun i x y h1 h2=>?_⟩
 rw[List.getElem?_append]at h1 h2
 by_cases hj:i<as.length
 ·rw[if_pos hj]at h1;rw[if_pos (by omega)]at h2
  exact m.tup nt (r i x y h1 h2)
 ·rw[if_neg hj]at h1;rw[if_neg (by omega)]at h2
  have hj0:i-as.length=0:=by
   cases hj0:i-as.length with
   |zero=>rfl
   |succ k=>rw[hj0]at h1;cases h1
  rw[hj0]at h1
  rw[show i-ss.length=0 by omega]at h2
  cases h1;cases h2
  exact m.tup nt hs
end
def fv(K:Frag):Sp:=fun vs H Q _=>∃(b:Addr) (wa:Wad) (c many:Nat) (D:Dr) (ns:List Str),vs=[.ref b,.ref wa.m,.int (many:Int)]/\BoxC H b c/\c<100000/\WkAt K H wa D ns/\WkOk D ns/\many<=12/\∀rl (ss:List Sc) H',GrC b (c+200) H H'->H rl=none->ScL H' rl ss->(∀s∈ss,ScOk D s)->ss.length=many->Q (.ref rl) H'
def StAt(H:Hp)(q:Addr)(D:Dr)(L:List Rw):Prop:=∃(k lg:Addr) (ss:List Str),H q=some (.tup [.ref k,.ref lg,.int D.least])/\ss.Perm (D.kn.map (·.1))/\sortedS ss=true/\ShAt H k ss D.kn/\LogT H lg L
section
variable{K:Frag}{S:List Addr}{H H':Hp}{q p:Addr}{D:Dr}{L:List Rw}
theorem StAt.mv(h:StAt H q D L)(m:Mv S H H')(nt:NT S H):StAt H' q D L:=by
 obtain⟨k,lg,ss,e,pm,so,sh,lt⟩:=h
 exact⟨k,lg,ss,m.tup nt e,pm,so,sh.mvN m nt,lt.mv m nt⟩
theorem StAt.same(h:StAt H q D L)(s:Same H H'):StAt H' q D L:=h.mv (S:=[]) s.mv dy
theorem StAt.eqk(h1:StAt H q D L)(h2:StAt H p D L)(hl:L.length<=2000):Eqk K H 6 (.ref q) (.ref p):=by
 obtain⟨k,lg,ss,e,pm,so,sh,lt⟩:=h1
 obtain⟨k',lg',ss',e',pm',so',sh',lt'⟩:=h2
 obtain rfl:ss=ss':=cj pm so pm' so'
 refine .tup (SqT.of e) (SqT.of e') rfl fun i x y ex ey=>?_
 match i,ex,ey with
 |0,ex,ey=>cases ex;cases ey;exact(lX sh sh' (fun nm h=>pm.mem_iff.mp h) (fun nm=>rfl)).up.up
 |1,ex,ey=>cases ex;cases ey;exact(lt.eqv lt' hl).eqk.up
 |2,ex,ey=>cases ex;cases ey;exact .int _ _
 |j+3,ex,ey=>cases ex
end
def PsL(H:Hp)(pl:Addr)(ps:List Ps):Prop:=∃as:List Addr,H pl=some (.lst (as.map V.ref))/\as.length=ps.length/\∀(i:Nat) (a:Addr) (P:Ps),as[i]? =some a->ps[i]? =some P->PsAt H a P
def dj(K:Frag)(C:Addr):Sp:=fun vs H Q _=>∃(a:Da) (D:Dr) (L:List Rw),vs=[.ref a.p]/\DlAt K C H a D L/\DrOk D/\∀q H',Same H H'->StAt H' q D L->Q (.ref q) H'
def fH(K:Frag):Sp:=fun vs H Q _=>∃(b:Addr) (wa:Wad) (c most:Nat) (D:Dr) (ns:List Str),vs=[.ref b,.ref wa.m,.int (most:Int)]/\BoxC H b c/\c<90000/\WkAt K H wa D ns/\WkOk D ns/\most<=11/\∀q rl pl (ss:List Sc) H',GrC b (c+201) H H'->H rl=none->H pl=none->H' q=some (.tup [.ref rl,.ref pl])->ScL H' rl ss->PsL H' pl (ss.map (zC D))->(∀s∈ss,ScOk D s)->ss.length<=12->Q (.ref q) H'
def f8(K:Frag)(C:Addr):Sp:=fun vs H Q _=>∃(sc:Addr) (ns:List Int) (k most:Nat),vs=[.ref sc,.int (k:Int),.int (most:Int)]/\SqL K H sc (ns.map V.int)/\k<=1000/\most<=11/\∀q b rl pl (wa:Wad) (a:Da) (D:Dr) (L:List Rw) (nms:List Str) (ss:List Sc) H',Same H H'->H' q=some (.tup [.ref b,.ref wa.m,.ref a.p,.ref rl,.ref pl])->H b=none->BoxC H' b 1000->WkAt K H' wa D nms->WkOk D nms->DlAt K C H' a D L->L.length<=30->b∉dS a->ScL H' rl ss->PsL H' pl (ss.map (zC D))->(∀s∈ss,ScOk D s)->ss.length<=12->Q (.ref q) H'
section
variable{K:Frag}{C:Addr}{S:List Addr}{H H':Hp}
theorem lN{p q:Addr}{ss:List Str}{kn:Kw}(h1:ShAt H p ss kn)(h2:ShAt H q ss kn)(hs:∀nm∈ss,nm∈kn.map (·.1))(hl:ss.length<=60):Eqv H 3 (.ref p) (.ref q):=by
 obtain⟨as,e1,l1,r1⟩:=h1
 obtain⟨bs,e2,l2,r2⟩:=h2
 refine .tup (.inl e1) (.inl e2) (by simp [l1,l2]) (by rw[List.length_map,l1,sizeLine_eq];omega) fun i x y ex ey=>?_
 rw[List.getElem?_map]at ex ey
 cases q1:as[i]? with
 |none=>rw[q1]at ex;cases ex
 |some a=>
  cases q2:bs[i]? with
  |none=>rw[q2]at ey;cases ey
  |some b=>
   rw[q1]at ex;rw[q2]at ey;cases ex;cases ey
   have hi:i<ss.length:=by rw[<- l1];exact(List.getElem?_eq_some_iff.mp q1).1
   have hn:=List.getElem?_eq_getElem hi
   obtain⟨e,hee⟩:=zE (hs _ (List.getElem_mem hi))
   obtain⟨v1,t1,w1⟩:=r1 i a _ e q1 hn hee
   obtain⟨v2,t2,w2⟩:=r2 i b _ e q2 hn hee
   refine .tup (.inl t1) (.inl t2) rfl (by show 4<=sizeLine;decide) fun j x y ex ey=>?_
   match j,ex,ey with
   |0,ex,ey=>cases ex;cases ey;exact .str _ _
   |1,ex,ey=>cases ex;cases ey;exact .int _ _
   |2,ex,ey=>cases ex;cases ey;exact .int _ _
   |3,ex,ey=>
    cases ex;cases ey
    cases hw:e.wt with
    |none=>
     rw[hw]at w1 w2
     have w1:v1= .non:=w1
     have w2:v2= .non:=w2
     rw[w1,w2];exact .non _
    |some xc=>
     rw[hw]at w1 w2
     obtain⟨z1,rfl,u1⟩:=w1
     obtain⟨z2,rfl,u2⟩:=w2
     exact Eqv.ints (ns:=[xc.1,xc.2]) (.inl u1) (.inl u2) (by show 2<=sizeLine;decide)
   |j+4,ex,ey=>cases ex
theorem PsL.mv{pl:Addr}{ps:List Ps}(h:PsL H pl ps)(m:Mv S H H')(nt:NT S H)(hr:pl∉S):PsL H' pl ps:=let⟨as,e,l,r⟩:=h;⟨as,m _ _ hr e,l,fun i a P h1 h2=>PrAt.mv m nt (r i a P h1 h2)⟩
theorem PsL.same{pl:Addr}{ps:List Ps}(h:PsL H pl ps)(s:Same H H'):PsL H' pl ps:=h.mv (S:=[]) s.mv dy (fun h=>nomatch h)
theorem PsL.grc{pl b:Addr}{n n':Nat}{ps:List Ps}(h:PsL H pl ps)(hb:BoxC H b n)(g:GrC b n' H H'):PsL H' pl ps:=by
 obtain⟨as,e,_⟩:=id h
 obtain⟨x,y,z,eb,_⟩:=id hb
 exact h.mv g.mv (zr hb) (qF (qC e eb (zH 0 rfl (by intro a z;cases z))))
theorem StAt.grc{q b:Addr}{n n':Nat}{D:Dr}{L:List Rw}(h:StAt H q D L)(hb:BoxC H b n)(g:GrC b n' H H'):StAt H' q D L:=h.mv g.mv (zr hb)
theorem DlAt.grc{a:Da}{b:Addr}{n n':Nat}{D:Dr}{L:List Rw}(d:DlAt K C H a D L)(hb:BoxC H b n)(g:GrC b n' H H')(nb:b∉dS a):DlAt K C H' a D L:=d.mv g.mv (zr hb) (qF (fun z=>nb (z▸k4 _))) (qF (fun z=>nb (z▸ln _))) (qF (fun z=>nb (z▸aO _))) (qF (fun z=>nb (z▸ZL _)))
structure W24(K:Frag)(C:Addr)(H:Hp)(b:Addr)(n:Nat)(wa:Wad)(da:Da)(D:Dr)(L:List Rw)(nms:List Str)(qa bl:Addr)(t:Nat->Addr)(rl pl:Nat->Addr)(ss:Nat->List Sc):Prop where
 bx:BoxC H b n
 wk:WkAt K H wa D nms
 dl:DlAt K C H da D L
 nb:b∉dS da
 st:StAt H qa D L
 bo:H bl=some (.lst [.ref (t 0),.ref (t 1)])
 tu:∀i,i<2->H (t i)=some (.tup [.ref (rl i),.ref (pl i)])
 sl:∀i,i<2->ScL H (rl i) (ss i)
 ps:∀i,i<2->PsL H (pl i) ((ss i).map (zC D))
section
variable{b:Addr}{n n':Nat}{wa:Wad}{da:Da}{D:Dr}{L:List Rw}{nms:List Str}{qa bl:Addr}{t rl pl:Nat->Addr}{ss:Nat->List Sc}
theorem W24.same(w:W24 K C H b n wa da D L nms qa bl t rl pl ss)(s:Same H H'):W24 K C H' b n wa da D L nms qa bl t rl pl ss:=⟨(s.grc w.bx).bx,w.wk.same s,w.dl.same s,w.nb,w.st.same s,s _ _ w.bo,fun i h=>s _ _ (w.tu i h),fun i h=>(w.sl i h).same s,fun i h=>(w.ps i h).same s⟩
theorem W24.grc(w:W24 K C H b n wa da D L nms qa bl t rl pl ss)(g:GrC b n' H H'):W24 K C H' b n' wa da D L nms qa bl t rl pl ss:=by
 obtain⟨x,y,z,eb,_⟩:=id w.bx
 exact⟨g.bx,w.wk.grc w.bx g,w.dl.grc w.bx g w.nb,w.nb,w.st.grc w.bx g,g.kp _ _ (qC w.bo eb (by intro z;injection z with z;cases z)) w.bo,fun i h=>g.mv.tup (zr w.bx) (w.tu i h),fun i h=>(w.sl i h).grc w.bx g,fun i h=>(w.ps i h).grc w.bx g⟩
end
end
theorem cR{K:Frag}{js:List Nat}{te:TE}{σ:L2.St}{H:Hp}{Q:VK}{lx pa ha:Addr}{A B:List V}(elx:H lx=some (.lst [.ref pa,.ref ha]))(sp:Sq K H pa A)(sh:Sq K H ha B)
  (hte:∀(Hx:Hp) (p:Addr) (ys:List V) (Q':VK),Sq K Hx p ys->(∀l,Hx l=none->Q' (.ref l) (upd Hx l (.lst ys)))->te (some (.ref p)::QU js σ) Hx Q')
  (q:∀l l1 l2 H',Same H H'->H' l=some (.lst [.ref l1,.ref l2])->H' l1=some (.lst A)->H' l2=some (.lst B)->Q (.ref l) H'):Zj (cf K lx) js te σ H Q:=by
 have sq:∀{Hx:Hp} {p:Addr} {ys:List V},Same H Hx->Sq K H p ys->Sq K Hx p ys:=fun s h=>h.elim (fun h=> .inl (s.seq h)) fun h=> .inr (Same.sqt s h)
 refine zx (K:=K) (xs:=[.ref pa,.ref ha]) (by show 2<=sizeLine;decide) (fun i ys Hx=>Same H Hx/\((i=0/\ys=[])\/(i=1/\∃l1,ys=[.ref l1]/\Hx l1=some (.lst A))\/(i=2/\∃l1 l2,ys=[.ref l1,.ref l2]/\Hx l1=some (.lst A)/\Hx l2=some (.lst B)))) ⟨Same.refl _,.inl ⟨rfl,rfl⟩⟩ (fun i ys Hx hx=>SqL.of (hx.1 _ _ elx)) ?_ ?_
 ·rintro i ys Hx v hv hyl ⟨s,h⟩
  rcases h with⟨rfl,rfl⟩|⟨rfl,l1,rfl,e1⟩|⟨rfl,_⟩
  ·cases hv
   exact hte _ _ _ _ (sq s sp) fun l hl=>⟨s.trans (Same.upd hl),.inr (.inl ⟨rfl,l,rfl,qb⟩)⟩
  ·cases hv
   exact hte _ _ _ _ (sq s sh) fun l hl=>⟨s.trans (Same.upd hl),.inr (.inr ⟨rfl,l1,l,rfl,Same.upd hl _ _ e1,qb⟩)⟩
  ·cases hv
 ·rintro ys Hx hyl ⟨s,h⟩ l hl
  rcases h with⟨e,_⟩|⟨e,_⟩|⟨_,l1,l2,rfl,e1,e2⟩
  ·cases e
  ·cases e
  ·have u:=Same.upd (o:= .lst [.ref l1,.ref l2]) hl
   exact q l l1 l2 _ (s.trans u) qb (u _ _ e1) (u _ _ e2)
theorem jl{H:Hp}{aq du:Addr}{as bs:List Addr}{D:Dr}{ps:List Ps}(e1:H aq=some (.tup (as.map V.ref)))(e2:H du=some (.tup (bs.map V.ref)))(l1:as.length=ps.length)(l2:bs.length=ps.length)(h1:∀(i:Nat) (x:Addr) (P:Ps),as[i]? =some x->ps[i]? =some P->H x=some (.tup (cP D ps i P)))(h2:∀(i:Nat) (x:Addr) (P:Ps),bs[i]? =some x->ps[i]? =some P->H x=some (.tup (cP D ps i P)))(hl:ps.length<=100):Eqv H 3 (.ref aq) (.ref du):=by
 refine .tup (n:=2) (.inl e1) (.inl e2) (by simp [l1,l2]) (by rw[List.length_map,l1,sizeLine_eq];omega) fun i x y ex ey=>?_
 rw[List.getElem?_map]at ex ey
 cases q1:as[i]? with
 |none=>rw[q1]at ex;cases ex
 |some a=>
  cases q2:bs[i]? with
  |none=>rw[q2]at ey;cases ey
  |some b=>
   rw[q1]at ex;rw[q2]at ey;cases ex;cases ey
   have hi:i<ps.length:=by rw[<- l1];exact(List.getElem?_eq_some_iff.mp q1).1
   have hP:=List.getElem?_eq_getElem hi
   refine .tup (n:=1) (.inl (h1 i a _ q1 hP)) (.inl (h2 i b _ q2 hP)) rfl (Nat.le_trans (gh _ _) (by decide)) fun j u v eu ev=>?_
   rw[eu]at ev;cases ev
   exact ib (hX _ _ _ (List.mem_of_getElem? eu))
theorem oB{H:Hp}{n:Nat}{l1 l2:Addr}{as:List Addr}{ps:List Ps}(e1:H l1=some (.lst (as.map V.ref)))(e2:H l2=some (.lst (as.map V.ref)))(la:as.length=ps.length)(h:∀(i:Nat) (a:Addr) (P:Ps),as[i]? =some a->ps[i]? =some P->PsAt H a P):Eqd H (n+3) (.ref l1) (.ref l2):=by
 refine .lst e1 e2 rfl fun i x y ex ey=>?_
 rw[ex]at ey;cases ey
 rw[List.getElem?_map]at ex
 cases q:as[i]? with
 |none=>rw[q]at ex;cases ex
 |some a=>
  rw[q]at ex;cases ex
  have hi:i<ps.length:=by rw[<- la];exact(List.getElem?_eq_some_iff.mp q).1
  obtain⟨pc,p1,p2⟩:=h i a _ q (List.getElem?_eq_getElem hi)
  refine .tup (.inl p1) (.inl p1) rfl fun j u v eu ev=>?_
  rw[eu]at ev;cases ev
  match j,eu with
  |0,eu=>cases eu;exact .str _ _
  |1,eu=>cases eu;exact .int _ _
  |2,eu=>
   cases eu
   refine .tup (.inl p2) (.inl p2) rfl fun j u v eu ev=>?_
   rw[eu]at ev;cases ev
   rw[List.getElem?_map]at eu
   obtain⟨z,hz,rfl⟩:=Option.map_eq_some_iff.mp eu
   exact .int _ _
  |j+3,eu=>cases eu
end L3
namespace Lw
open PySem L2 L3
def qU(i:Nat):Stmt:=PySem.Challenge.pw_rollcode_k24_what_is_heard.main.body.getD i (.Pass ⟨0,0,0,0⟩)
abbrev Z2:Stmt:=qU 10
abbrev ar:Stmt:=qU 11
abbrev Zx:Stmt:=qU 12
abbrev ZF:Stmt:=qU 13
abbrev fo:Stmt:=qU 14
abbrev bz:Stmt:=qU 15
abbrev bv:Stmt:=qU 20
abbrev bq:Stmt:=qU 21
abbrev ax:Stmt:=qU 22
abbrev QV:Stmt:=qU 23
abbrev cO:Stmt:=qU 24
abbrev Q4:Stmt:=qU 25
abbrev aE:Stmt:=qU 26
abbrev ZG:Stmt:=qU 27
abbrev bp:Stmt:=qU 29
abbrev bD:Stmt:=qU 30
abbrev Qy:Stmt:=zp (qU 32) 0
abbrev Q6:Stmt:=zp (qU 32) 2
abbrev QJ:Stmt:=zp (qU 32) 8
abbrev QF:Stmt:=zp (qU 32) 11
abbrev Qu:Stmt:=zp (qU 32) 10
abbrev Qs:Stmt:=zp (qU 32) 9
abbrev QK:Stmt:=zp (qU 32) 7
abbrev ZX:Stmt:=zp (qU 32) 6
abbrev Qq:Stmt:=zp (qU 32) 12
abbrev Zw:Stmt:=zp (qU 32) 1
abbrev Qi:Stmt:=zp (qU 32) 5
abbrev QH:Stmt:=zp (qU 32) 13
abbrev Qr:Stmt:=zp (qU 32) 15
abbrev Q1:Stmt:=zp (qU 32) 18
abbrev QC:Stmt:=zp (qU 32) 19
abbrev fe:Stmt:=qU 2
abbrev be:Stmt:=qU 34
abbrev aj:Stmt:=qU 35
abbrev ZT:Stmt:=qU 36
abbrev bF:Stmt:=qU 37
abbrev ZW:Stmt:=qU 38
abbrev ZY:Stmt:=qU 39
abbrev Z4:Stmt:=qU 40
abbrev aP:Stmt:=qU 41
abbrev Zu:Stmt:=qU 42
abbrev aG:Stmt:=qU 43
abbrev aI:Stmt:=qU 44
abbrev bA:Stmt:=qU 45
abbrev aK:Stmt:=qU 46
abbrev QP:Stmt:=qU 47
abbrev ZD:Stmt:=qU 48
abbrev Z3:Stmt:=qU 49
abbrev Zl:Stmt:=qU 50
theorem qV{N P:List Str}{c:Scope}(h1:c.kind= .function:=by rfl)(h2:c.isCoroutine=false:=by rfl)(h3:c.isGenerator=false:=by rfl)(h4:N.Nodup:=by decide +kernel)(h5:N.take P.length=P:=by rfl)(h6:∀x∈P,c.names.lookup x=some .local\/c.names.lookup x=some .cell:=by decide +kernel)(h7:∀y∈c.names,y.2≠ .free:=by decide +kernel):FnScope N P c:=⟨h1,h2,h3,h4,h5,h6,h7⟩
theorem iZ:FnScope (["thing"]:List Str) (["thing"]:List Str) (qi Z2):=qV
theorem jr:FnScope (["thing"]:List Str) (["thing"]:List Str) (qi ar):=qV
theorem gF:FnScope (["things"]:List Str) (["things"]:List Str) (qi Zx):=qV
theorem sc_back_table:FnScope (["table","back","place","digit"]:List Str) (["table"]:List Str) (qi ZF):=qV
theorem sc_coded:FnScope (["table","key","digits","row","shift","place","ahead"]:List Str) (["table","key","digits"]:List Str) (qi fo):=qV
theorem sc_decoded:FnScope (["table","key","digits","back","row","shift","place","ahead"]:List Str) (["table","key","digits"]:List Str) (qi bz):=qV
theorem ky:FnScope (["thing"]:List Str) (["thing"]:List Str) (qi bv):=qV
theorem lB:FnScope (["thing"]:List Str) (["thing"]:List Str) (qi bq):=qV
theorem sc_is_press:FnScope (["thing","name","age","code"]:List Str) (["thing"]:List Str) (qi ax):=qV
theorem sc_letter_digits:FnScope (["name","digits","letter","place"]:List Str) (["name"]:List Str) (qi QV):=qV
theorem sc_key_of:FnScope (["table","key","name","sums","place","digit"]:List Str) (["table","key","name"]:List Str) (qi cO):=qV
theorem eA:FnScope (["count"]:List Str) (["count"]:List Str) (qi Q4):=qV
theorem sc_press_of:FnScope (["table","key","name","age","count","deed","four","five"]:List Str) (["table","key","name","age","count","deed"]:List Str) (qi aE):=qV
theorem sc_read_press:FnScope (["table","key","press","name","age","code","low","middle","high","deed","check"]:List Str) (["table","key","press"]:List Str) (qi ZG):=qV
theorem kR:FnScope (["count","last","near","far"]:List Str) (["count","last","near","far"]:List Str) (qi bp):=qV
theorem sc_step_by:FnScope (["button","age","count","near","far","own_age","last","waiting","word"]:List Str) (["button","age","count","near","far"]:List Str) (qi bD):=qV
theorem ai:FnScope (["self","table","keys","near","far","most"]:List Str) (["self","table","keys","near","far","most"]:List Str) (qi Qy):=qV
theorem dc:FnScope (["self"]:List Str) (["self"]:List Str) (qi Q6):=qV
theorem b9:FnScope (["self","name"]:List Str) (["self","name"]:List Str) (qi QJ):=qV
theorem b8:FnScope (["self","age"]:List Str) (["self","age"]:List Str) (qi QF):=qV
theorem aZ:FnScope (["self","button","age"]:List Str) (["self","button","age"]:List Str) (qi Qu):=qV
theorem bj:FnScope (["self","button","age","count"]:List Str) (["self","button","age","count"]:List Str) (qi Qs):=qV
theorem sc_Door_answer_to:FnScope (["self","press","name","age","code","button","pair","count","deed","word","behind"]:List Str) (["self","press"]:List Str) (qi QK):=qV
theorem sc_Door_hear:FnScope (["self","thing","answer"]:List Str) (["self","thing"]:List Str) (qi ZX):=qV
theorem bg:FnScope (["self","thing"]:List Str) (["self","thing"]:List Str) (qi Qq):=qV
theorem sc_Door_learn:FnScope (["self","one","other","first","second","name","age","code"]:List Str) (["self","one","other"]:List Str) (qi Zw):=qV
theorem aV:FnScope (["self","age"]:List Str) (["self","age"]:List Str) (qi Qi):=qV
theorem bW:FnScope (["self"]:List Str) (["self"]:List Str) (qi QH):=qV
theorem bt:FnScope (["self"]:List Str) (["self"]:List Str) (qi Qr):=qV
theorem cU:FnScope (["self"]:List Str) (["self"]:List Str) (qi Q1):=qV
theorem sc_Door_twin_door:FnScope (["self","twin"]:List Str) (["self"]:List Str) (qi QC):=qV
theorem sc_heard:FnScope (["door","row","hearing","twin","answers"]:List Str) (["door","row","hearing"]:List Str) (qi fe):=qV
theorem sc_law_box:FnScope (["_law_script","_law_k","_law_cells","_law_cell","_law_fold","_law_one"]:List Str) (["_law_script","_law_k"]:List Str) (qi be):=qV
theorem sc_law_take:FnScope (["_law_box_here","_law_many","_law_digit","_law_mix"]:List Str) (["_law_box_here","_law_many"]:List Str) (qi aj):=qV
theorem sc_law_table:FnScope (["_law_box_here","_law_table_here","_law_digit"]:List Str) (["_law_box_here"]:List Str) (qi ZT):=qV
theorem sc_law_key:FnScope (["_law_box_here","_law_long"]:List Str) (["_law_box_here"]:List Str) (qi bF):=qV
theorem sc_law_names:FnScope (["_law_box_here","_law_many","_law_some"]:List Str) (["_law_box_here","_law_many"]:List Str) (qi ZW):=qV
theorem sc_law_world:FnScope (["_law_box_here","_law_great","_law_many","_law_keys","_law_near","_law_far","_law_world_here","_law_name","_law_last","_law_count"]:List Str) (["_law_box_here","_law_great"]:List Str) (qi ZY):=qV
theorem sc_law_press:FnScope (["_law_world_here","_law_spec","_law_name","_law_age","_law_count","_law_deed","_law_fault","_law_own_key","_law_digits","_law_code","_law_far_ages"]:List Str) (["_law_world_here","_law_spec"]:List Str) (qi Z4):=qV
theorem sc_law_door:FnScope (["_law_world_here","_law_door_here","_law_name","_law_age","_law_last","_law_waiting"]:List Str) (["_law_world_here"]:List Str) (qi aP):=qV
theorem sc_law_answer:FnScope (["_law_world_here","_law_known","_law_spec","_law_name","_law_age","_law_count","_law_deed","_law_fault","_law_last"]:List Str) (["_law_world_here","_law_known","_law_spec"]:List Str) (qi Zu):=qV
theorem jk:FnScope (["_law_known"]:List Str) (["_law_known"]:List Str) (qi aG):=qV
theorem jh:FnScope (["_law_known"]:List Str) (["_law_known"]:List Str) (qi aI):=qV
theorem sc_law_row:FnScope (["_law_box_here","_law_world_here","_law_many","_law_ahead","_law_ages","_law_name","_law_row_here","_law_k","_law_jump","_law_fault"]:List Str) (["_law_box_here","_law_world_here","_law_many"]:List Str) (qi bA):=qV
theorem cr:FnScope (["_law_found","_law_due"]:List Str) (["_law_found","_law_due"]:List Str) (qi aK):=qV
theorem sc_law_other_row:FnScope (["_law_box_here","_law_world_here","_law_most","_law_sent"]:List Str) (["_law_box_here","_law_world_here","_law_most"]:List Str) (qi QP):=qV
theorem gA:FnScope (["_law_door_here"]:List Str) (["_law_door_here"]:List Str) (qi ZD):=qV
theorem sc_law_begun:FnScope (["_law_script","_law_k","_law_most","_law_box_here","_law_world_here","_law_sent"]:List Str) (["_law_script","_law_k","_law_most"]:List Str) (qi Z3):=qV
theorem sc_law:FnScope (["_law_script","_law_k","_law_box_here","_law_world_here","_law_door_here","_law_sent","_law_row_here","_law_ahead","_law_both","_law_turn","_law_hearing","_law_known","_law_due","_law_handed","_law_kept","_law_again"]:List Str) (["_law_script"]:List Str) (qi Zl):=qV
structure Txt(K:Frag)(mg:Str->Option Value)(tk:Nat->Tok):Prop where
 g_DIGITS:mg "DIGITS"=some (.int 16 (tk 0))
 g_KEY_PLACES:mg "KEY_PLACES"=some (.int 4 (tk 1))
 g_LONGEST_NAME:mg "LONGEST_NAME"=some (.int 8 (tk 2))
 g_CODE_DIGITS:mg "CODE_DIGITS"=some (.int 5 (tk 3))
 b_isinstance:mg "isinstance"=none
 b_bool:mg "bool"=none
 b_int:mg "int"=none
 b_tuple:mg "tuple"=none
 b_all:mg "all"=none
 b_len:mg "len"=none
 b_abs:mg "abs"=none
 b_list:mg "list"=none
 b_enumerate:mg "enumerate"=none
 b_range:mg "range"=none
 b_max:mg "max"=none
 b_min:mg "min"=none
 b_str:mg "str"=none
 b_zip:mg "zip"=none
 b_ord:mg "ord"=none
 b_sum:mg "sum"=none
 b_reversed:mg "reversed"=none
 b_sorted:mg "sorted"=none
 b_dict:mg "dict"=none
section
variable{P:Program}{w:World}{K:Frag}{mg:Str->Option Value}{base:Heap}{tk:Nat->Tok}
theorem i7(a:At K mg "is_number" Z2 ["thing"])(T:Txt K mg tk):Df P w K mg base "is_number" ["thing"] 1 cB:=by
 refine a.dq iZ (fun vs H Q E h=>?_) (fun f cdv A outer s H vs Q E hr h=>?_)
 ·obtain⟨x,t,rfl,_⟩:=h
  rfl
 ·obtain⟨x,t,rfl,hk,q⟩:=h
  obtain⟨ty,ht⟩:=vN (K:=K) hk
  refine⟨_,(qg (qp (zT (qr gP (by rfl) T.b_isinstance PyProof.Rows.boot_isinstance (qd (qv 0) (qd (qS (v:= .ty "int") rfl T.b_int PyProof.Rows.boot_int rfl) qc))) (Qh (gS (qr gP (by rfl) T.b_isinstance PyProof.Rows.boot_isinstance (qd (qv 0) (qd (qS (v:= .ty "bool") rfl T.b_bool PyProof.Rows.boot_bool rfl) qc)))))))),?_⟩
  rw[rN hk]at q
  refine⟨_,rfl,x,"int",t,rfl,ty,ht,by simp,_,rfl,?_⟩
  cases hi:zk t "int" with
  |false=>
   refine zg ?_
   rw[hi,Bool.false_and]at q
   exact q
  |true=>
   refine zM ?_
   rw[hi,Bool.true_and]at q
   exact⟨_,rfl,x,"bool",t,rfl,ty,ht,by simp,_,rfl,q⟩
theorem jg(a:At K mg "is_digit" ar ["thing"])(T:Txt K mg tk)(dL:Df P w K mg base "is_number" ["thing"] 1 cB):Df P w K mg base "is_digit" ["thing"] 2 jX:=by
 refine a.dq jr (fun vs H Q E h=>?_) (fun f cdv A outer s H vs Q E hr h=>?_)
 ·obtain⟨x,t,rfl,_⟩:=h
  rfl
 ·obtain⟨x,t,rfl,hk,q⟩:=h
  refine⟨_,(qg (qp (zT (qo dL hr.mo (qd (qv 0) qc)) (Qh (cv ZN dz qf (qv 0) (za (v:= .int 16) rfl T.g_DIGITS ⟨_,rfl⟩)))))),?_⟩
  refine⟨_,rfl,x,t,rfl,hk,_,rfl,?_⟩
  cases hn:cK x with
  |false=>
   refine zg ?_
   rw[nr hn]at q
   exact q
  |true=>
   refine zM ?_
   obtain⟨i,rfl⟩:=oG hn
   refine⟨_,rfl,_,_,rfl,rfl,_,rfl,?_⟩
   have q':Q (.bl (decide (0<=i)&&decide (i<16))) H:=q
   refine qL (fun h0=>?_) (fun h0=>?_)
   ·refine⟨_,_,rfl,rfl,?_⟩
    rw[h0,Bool.true_and]at q'
    exact q'
   ·rw[Bool.eq_false_iff.mpr h0,Bool.false_and]at q'
    exact q'
theorem gB(a:At K mg "are_digits" Zx ["things"])(T:Txt K mg tk)(xR:Df P w K mg base "is_digit" ["thing"] 2 jX):Df P w K mg base "are_digits" ["things"] 3 iH:=by
 refine a.dq gF (fun vs H Q E h=>?_) (fun f cdv A outer s H vs Q E hr h=>?_)
 ·obtain⟨x,t,rfl,_⟩:=h
  rfl
 ·obtain⟨p,xs,rfl,hp,hz,hk,q⟩:=h
  refine⟨_,(qg (qp (qr (bG rfl) (by rfl) T.b_all PyProof.Rows.boot_all (qd (q8 (own:=["thing"]) (fr:=[]) (js:=[]) rfl (mz (qv 0)) rfl (fun _ _ h=>nomatch h) rfl (aY rfl (by decide +kernel) (by decide +kernel) (by decide +kernel)) (fun _ _ _ _=>qj (i:=0) (show List.Nodup (["thing"]:List Str)from by decide +kernel) rfl (Or.inl rfl) (.inr rfl)) (fun _ _ _ _=>(qo xR hr.mo (qd (qv 0) qc)))) qc)))),?_⟩
  refine⟨_,rfl,p,rfl,⟨xs,SqT.of hp⟩,cy (xs:=xs) hz (fun i ys H2=>ys=(xs.take i).map (fun x=>V.bl (az x))/\Same H H2) ⟨by simp,Same.refl H⟩ (fun i ys H2 ⟨_,s2⟩=>SqT.of (s2 _ _ hp)) ?_ ?_⟩
  ·rintro i ys H2 x hx _ ⟨rfl,s2⟩
   obtain⟨t,ht⟩:=hk x (List.mem_of_getElem? hx)
   refine⟨_,rfl,x,t,rfl,bR s2 ht,?_,s2⟩
   rw[List.take_add_one,hx]
   simp
  ·rintro ys H2 _ ⟨rfl,s2⟩ l hl
   rw[List.take_length]
   refine⟨l,xs.map az,rfl,SqL.of (by rw[List.map_map];exact qb),?_⟩
   rw[List.all_map]
   exact q _ (s2.trans (Same.upd hl))
theorem kS(a:At K mg "is_name" bv ["thing"])(T:Txt K mg tk):Df P w K mg base "is_name" ["thing"] 1 fN:=by
 refine a.dq ky (fun vs H Q E h=>?_) (fun f cdv A outer s H vs Q E hr h=>?_)
 ·obtain⟨_,_,rfl,_⟩:=h
  rfl
 ·obtain⟨x,b,rfl,hx,q⟩:=h
  refine⟨_,(qe (qK (QW.pt (QX (Qx (zG (qr qT (by rfl) T.b_isinstance PyProof.Rows.boot_isinstance (qd (qv 0) (qd (qS (v:= .ty "str") rfl T.b_str PyProof.Rows.boot_str rfl) qc))))) (QR (Qx (nW ZN ZN qf (qr gT (by rfl) T.b_len PySem.boot_len (qd (qv 0) qc)) (za (v:= .int 8) rfl T.g_LONGEST_NAME ⟨_,rfl⟩)))))) (qg (qp al)) qE)
   (qg (qp (qr (bG rfl) (by rfl) T.b_all PyProof.Rows.boot_all (qd (q8 (own:=["letter"]) (fr:=[]) (js:=[]) rfl (ni (qv 0)) rfl (fun _ _ h=>nomatch h) rfl (aY rfl (by decide +kernel) (by decide +kernel) (by decide +kernel)) (fun _ _ _ _=>qj (i:=0) (show List.Nodup (["letter"]:List Str)from by decide +kernel) rfl (Or.inl rfl) (.inr rfl)) (fun _ _ _ _=>(cv gw gw qk (qv 0) qk))) qc))))),?_⟩
  rcases hx with⟨z,rfl,hz,hl,rfl⟩|⟨t,hk,hs,rfl⟩
  case inr=>
   refine⟨_,rfl,x,"str",t,rfl,gX hk,by simp,_,rfl,?_⟩
   rw[hs]
   exact zM (q _ (Same.refl _))
  have zl:z.length=z.cps.toList.length:=rfl
  refine⟨_,rfl,_,"str","str",rfl,.str z,by simp,_,rfl,?_⟩
  refine zg ?_
  refine⟨_,rfl,z,rfl,by rw[sizeLine_eq];omega,_,_,rfl,rfl,_,rfl,?_⟩
  unfold rb at q
  by_cases h1:1<=z.length
  case neg=>
   refine aJ (decide_eq_false (by omega)) ⟨_,rfl,zM ?_⟩
   rw[decide_eq_false h1,Bool.false_and,Bool.false_and]at q
   exact q _ (Same.refl _)
  refine ZB (decide_eq_true (by omega)) ?_
  refine⟨_,_,rfl,rfl,_,rfl,?_⟩
  rw[decide_eq_true h1,Bool.true_and]at q
  by_cases h8:z.length<=8
  case neg=>
   refine ZB (by rw[decide_eq_false (by omega:¬((z.length:Nat):Int)<=8)];rfl) ?_
   rw[decide_eq_false h8,Bool.false_and]at q
   exact q _ (Same.refl _)
  refine aJ (by rw[decide_eq_true (by omega:((z.length:Nat):Int)<=8)];rfl) ?_
  rw[decide_eq_true h8,Bool.true_and]at q
  refine⟨_,rfl,z,rfl,hz,ow (by show z.cps.toList.length<=_;rw[sizeLine_eq];omega) (fun i ys H2=>H2=H/\ys=((z.cps.toList.take i).map iz).map V.bl) ⟨rfl,rfl⟩ ?_ ?_⟩
  ·rintro i ys H2 c hc _ ⟨rfl,rfl⟩
   have hc':=j8 hc
   obtain⟨l1,l2⟩:=kO c
   refine⟨_,rfl,_,_,rfl,rfl,_,rfl,?_⟩
   rw[List.take_add_one,hc',List.map_append,List.map_append]
   by_cases h97:97<=c
   ·refine ZB (by rw[l1,decide_eq_true h97]) ⟨_,_,rfl,rfl,rfl,?_⟩
    rw[l2]
    show _=_++[V.bl (decide (97<=c)&&decide (c<=122))]
    rw[decide_eq_true h97,Bool.true_and]
   ·refine aJ (by rw[l1,decide_eq_false h97]) ⟨rfl,?_⟩
    show _=_++[V.bl (decide (97<=c)&&decide (c<=122))]
    rw[decide_eq_false h97,Bool.false_and]
  ·rintro ys H2 hl ⟨rfl,rfl⟩ l hl'
   refine⟨l,z.cps.toList.map iz,rfl,SqL.of (by rw[show z.cps.size=z.cps.toList.length from rfl,List.take_length];exact qb),?_⟩
   rw[List.all_map]
   exact q _ (Same.upd hl')
theorem lh(a:At K mg "is_code" bq ["thing"])(T:Txt K mg tk)(xJ:Df P w K mg base "are_digits" ["things"] 3 iH):Df P w K mg base "is_code" ["thing"] 4 fG:=by
 refine a.dq lB (fun vs H Q E h=>?_) (fun f cdv A outer s H vs Q E hr h=>?_)
 ·obtain⟨_,_,rfl,_⟩:=h
  rfl
 ·obtain⟨x,b,rfl,hx,q⟩:=h
  refine⟨_,(qe (qK (Qx (zG (qr qT (by rfl) T.b_isinstance PyProof.Rows.boot_isinstance (qd (qv 0) (qd (qS (v:= .ty "tuple") rfl T.b_tuple PyProof.Rows.boot_tuple rfl) qc))))) (qg (qp al)) qE)
   (qg (qp (zT (zz zj (qr qO (by rfl) T.b_len PySem.boot_len (qd (qv 0) qc)) (za (v:= .int 5) rfl T.g_CODE_DIGITS ⟨_,rfl⟩) (qx _)) (Qh (qo xJ hr.mo (qd (qv 0) qc))))))),?_⟩
  rcases hx with⟨pc,ds,rfl,hp,hl,hk,rfl⟩|⟨t,hk,hs,rfl⟩
  case inr=>
   refine⟨_,rfl,x,"tuple",t,rfl,gX hk,by simp,_,rfl,?_⟩
   rw[hs]
   exact zM (q _ (Same.refl _))
  refine⟨_,rfl,_,"tuple","tuple",rfl,.tup (.inl hp),by simp,_,rfl,?_⟩
  refine zg ?_
  refine⟨_,rfl,pc,_,rfl,.inr (SqT.of hp),rfl,_,rfl,?_⟩
  by_cases h5:ds.length=5
  ·refine ZB (decide_eq_true (by rw[h5];rfl)) ?_
   refine⟨_,rfl,pc,_,rfl,hp,by rw[sizeLine_eq];omega,hk,fun H' s'=>?_⟩
   rw[decide_eq_true h5,Bool.true_and]at q
   exact q _ s'
  ·rw[decide_eq_false h5,Bool.false_and]at q
   refine aJ (decide_eq_false (by intro z;injection z with z;omega)) ?_
   exact q _ (Same.refl _)
theorem jx(a:At K mg "is_press" ax ["thing"])(T:Txt K mg tk)(xU:Df P w K mg base "is_name" ["thing"] 1 fN)(dL:Df P w K mg base "is_number" ["thing"] 1 cB)(xX:Df P w K mg base "is_code" ["thing"] 4 fG):Df P w K mg base "is_press" ["thing"] 5 aF:=by
 refine a.dq sc_is_press (fun vs H Q E h=>?_) (fun f cdv A outer s H vs Q E hr h=>?_)
 ·obtain⟨_,_,rfl,_⟩:=h
  rfl
 ·obtain⟨x,b,rfl,hx,q⟩:=h
  refine⟨_,(qe (qK (QW.pt (QX (Qx (zG (qr qT (by rfl) T.b_isinstance PyProof.Rows.boot_isinstance (qd (qv 0) (qd (qS (v:= .ty "tuple") rfl T.b_tuple PyProof.Rows.boot_tuple rfl) qc))))) (QR (qz cW (qr qO (by rfl) T.b_len PySem.boot_len (qd (qv 0) qc)) qf (qx _))))) (qg (qp al)) qE)
   (qe (zf (qv 0) (Zc rfl (qu (qj (i:=1) sc_is_press.nd rfl (Or.inl rfl)) (qu (qj (i:=2) sc_is_press.nd rfl (Or.inl rfl)) (qu (qj (i:=3) sc_is_press.nd rfl (Or.inl rfl)) zm)))))
   (qg (qp (zT (qo xU hr.mo (qd (qv 1) qc)) (zT (qo dL hr.mo (qd (qv 2) qc)) (Qh (qo xX hr.mo (qd (qv 3) qc))))))))),?_⟩
  cases hx with
  | @kd t hk hs=>
   refine⟨_,rfl,x,"tuple",t,rfl,gX hk,by simp,_,rfl,?_⟩
   rw[hs]
   exact zM (q _ (Same.refl _))
  | @len a xs e h l n=>
   subst e
   refine⟨_,rfl,_,"tuple","tuple",rfl,.tup (.inl h),by simp,_,rfl,?_⟩
   refine zg ?_
   refine⟨_,rfl,a,_,rfl,.inr (SqT.of h),rfl,_,rfl,?_⟩
   refine ZB (by rw[decide_eq_false (by intro z;injection z with z;omega)];rfl) ?_
   exact q _ (Same.refl _)
  | @tup a n y c bn bc ty e h hn hy hc=>
   subst e
   refine⟨_,rfl,_,"tuple","tuple",rfl,.tup (.inl h),by simp,_,rfl,?_⟩
   refine zg ?_
   refine⟨_,rfl,a,_,rfl,.inr (SqT.of h),rfl,_,rfl,?_⟩
   refine bJ rfl ?_
   refine⟨_,rfl,a,_,rfl,.tup h,rfl,_,_,rfl,_,_,rfl,_,_,rfl,rfl,?_⟩
   refine⟨_,rfl,n,bn,rfl,hn,fun H1 s1=>⟨_,rfl,?_⟩⟩
   cases bn with
   |false=>exact zg (q _ s1)
   |true=>
    refine zM ?_
    refine⟨_,rfl,y,ty,rfl,bR s1 hy,_,rfl,?_⟩
    cases hnum:cK y with
    |false=>
     rw[hnum]at q
     exact zg (q _ s1)
    |true=>
     rw[hnum]at q
     refine zM ?_
     exact⟨_,rfl,c,bc,rfl,hc.same s1,fun H2 s2=>q _ (s1.trans s2)⟩
theorem lw(a:At K mg "word_of" bp ["count","last","near","far"])(T:Txt K mg tk):Df P w K mg base "word_of" ["count","last","near","far"] 1 jH:=by
 refine a.dq kR (fun vs H Q E h=>?_) (fun f cdv A outer s H vs Q E hr h=>?_)
 ·obtain⟨c,l,n,f,rfl,_⟩:=h
  rfl
 ·obtain⟨c,l,n,f,rfl,q⟩:=h
  unfold kZ at q
  refine⟨_,(qe (qK (qz ZN (qv 0) (qv 1) (qx _)) (qg (qp qk)) qE)
   (qe (qK (qz ZN (qv 0) (qm qH (qv 1) (qv 2)) (qx _)) (qg (qp qk)) qE)
   (qe (qK (qz ZN (qv 0) (qm qH (qv 1) (qv 3)) (qx _)) (qg (qp qk)) qE)
   (qg (qp qk))))),?_⟩
  refine⟨_,rfl,_,rfl,_,_,rfl,rfl,_,rfl,?_⟩
  refine qL (fun z=>?_) (fun z=>?_)
  ·rw[if_pos (of_decide_eq_true z)]at q;exact q
  ·rw[if_neg (fun y=>z (decide_eq_true y))]at q
   refine⟨_,rfl,_,rfl,_,rfl,_,_,rfl,rfl,_,_,rfl,rfl,_,rfl,?_⟩
   refine qL (fun z=>?_) (fun z=>?_)
   ·rw[if_pos (of_decide_eq_true z)]at q;exact q
   ·rw[if_neg (fun y=>z (decide_eq_true y))]at q
    refine⟨_,rfl,_,rfl,_,rfl,_,_,rfl,rfl,_,_,rfl,rfl,_,rfl,?_⟩
    refine qL (fun z=>?_) (fun z=>?_)
    ·rw[if_pos (of_decide_eq_true z)]at q;exact q
    ·rw[if_neg (fun y=>z (decide_eq_true y))]at q;exact q
theorem kY(a:At K mg "step_by" bD ["button","age","count","near","far"])(T:Txt K mg tk)(xV:Df P w K mg base "word_of" ["count","last","near","far"] 1 jH):Df P w K mg base "step_by" ["button","age","count","near","far"] 2 jS:=by
 refine a.dq sc_step_by (fun vs H Q E h=>?_) (fun f cdv A outer s H vs Q E hr h=>?_)
 ·obtain⟨_,_,_,_,_,_,rfl,_⟩:=h
  rfl
 ·obtain⟨a,e,age,c,near,far,rfl,⟨v,hb,hw⟩,q⟩:=h
  refine⟨_,(qe (zf (qv 0) (Zc rfl (qu (qj (i:=5) sc_step_by.nd rfl (Or.inl rfl)) (qu (qj (i:=6) sc_step_by.nd rfl (Or.inl rfl)) (qu (qj (i:=7) sc_step_by.nd rfl (Or.inl rfl)) zm)))))
   (qe (qy (i:=8) sc_step_by.nd rfl (Or.inl rfl) (qo xV hr.mo (qd (qv 2) (qd (qv 6) (qd (qv 3) (qd (qv 4) qc))))))
   (qe (qK (QW.pt (ae (qz zj (qv 8) qk (qx _)) (ac (qz (vj hr) (qv 7) (qA (qd (qv 1) (qd (qm zO (qv 2) qf) qc))) (qx _))))) (qg (qy (i:=8) sc_step_by.nd rfl (Or.inl rfl) qk)) qE)
   (qe (qK (qz zj (qv 8) qk (qx _)) (qg (qp (qA (qd (qv 8) (qd (qA (qd (qv 1) (qd (qv 2) (qd zS qc)))) qc))))) qE)
   (qe (qK (qz zj (qv 8) qk (qx _)) (qg (qp (qA (qd (qv 8) (qd (qA (qd (qv 5) (qd (qv 6) (qd (qA (qd (qv 1) (qd (qv 2) qc))) qc)))) qc))))) qE)
   (qg (qp (qA (qd (qv 8) (qd (qv 0) qc)))))))))),?_⟩
  refine⟨_,rfl,a,_,rfl,.tup hb,rfl,_,_,rfl,_,_,rfl,_,_,rfl,rfl,?_⟩
  refine⟨_,rfl,_,rfl,_,rfl,_,rfl,c,e.last,near,far,rfl,?_⟩
  unfold zB at q
  unfold kZ
  by_cases h1:c<=e.last
  ·rw[if_pos h1]
   rw[if_pos h1]at q
   refine⟨_,rfl,rfl,_,rfl,?_⟩
   refine qL (fun y=>absurd (of_decide_eq_true y) (by decide +kernel)) (fun _=>?_)
   refine⟨_,rfl,rfl,_,rfl,?_⟩
   refine qL (fun y=>absurd (of_decide_eq_true y) (by decide +kernel)) (fun _=>?_)
   refine⟨_,rfl,rfl,_,rfl,?_⟩
   refine qL (fun y=>absurd (of_decide_eq_true y) (by decide +kernel)) (fun _=>?_)
   refine⟨_,rfl,_,rfl,by show 2<=sizeLine;decide,fun q1 hq1=>?_⟩
   exact q q1 a _ (Same.upd hq1) qb (BuAt.same (Same.upd hq1) ⟨v,hb,hw⟩)
  ·rw[if_neg h1]
   rw[if_neg h1]at q
   by_cases h2:c<=e.last+near
   ·rw[if_pos h2]
    rw[if_pos h2]at q
    refine⟨_,rfl,rfl,_,rfl,?_⟩
    refine qL (fun y=>absurd (of_decide_eq_true y) (by decide +kernel)) (fun _=>?_)
    refine⟨_,rfl,rfl,_,rfl,?_⟩
    refine qL (fun _=>?_) (fun y=>absurd (decide_eq_true rfl) y)
    refine⟨_,rfl,_,rfl,_,rfl,by show 3<=sizeLine;decide,fun t ht=>⟨by show 2<=sizeLine;decide,fun q1 hq1=>?_⟩⟩
    have u1:=Same.upd (o:= .tup [.int age,.int c,.non]) ht
    have u2:=Same.upd (o:= .tup [.str "near",.ref t]) hq1
    exact q q1 t _ (u1.trans u2) qb ⟨.non,u2 _ _ qb,rfl⟩
   ·rw[if_neg h2]
    rw[if_neg h2]at q
    by_cases h3:c<=e.last+far
    ·rw[if_pos h3]
     rw[if_pos h3]at q
     refine⟨_,rfl,rfl,_,rfl,?_⟩
     refine qL (fun _=>?_) (fun y=>absurd (decide_eq_true rfl) y)
     refine⟨_,rfl,_,rfl,_,rfl,_,_,rfl,rfl,by show 2<=sizeLine;decide,fun t0 ht0=>?_⟩
     have u0:=Same.upd (o:= .tup [.int age,.int (c-1)]) ht0
     have hw0:=hw.mv (S:=[]) u0.mv (fun c h=>nomatch h)
     refine⟨e.wt,t0,age,c-1,hw0,rfl,.inl qb,_,rfl,?_⟩
     by_cases h4:e.wt=some (age,c-1)
     ·rw[if_pos h4]at q
      refine ZB (decide_eq_true h4) ?_
      refine⟨_,rfl,rfl,_,rfl,?_⟩
      refine qL (fun _=>?_) (fun y=>absurd (decide_eq_true rfl) y)
      refine⟨_,rfl,_,rfl,_,rfl,by show 3<=sizeLine;decide,fun t ht=>⟨by show 2<=sizeLine;decide,fun q1 hq1=>?_⟩⟩
      have u1:=Same.upd (o:= .tup [.int age,.int c,.non]) ht
      have u2:=Same.upd (o:= .tup [.str "near",.ref t]) hq1
      exact q q1 t _ ((u0.trans u1).trans u2) qb ⟨.non,u2 _ _ qb,rfl⟩
     ·rw[if_neg h4]at q
      refine aJ (decide_eq_false h4) ?_
      refine⟨_,rfl,rfl,_,rfl,?_⟩
      refine qL (fun y=>absurd (of_decide_eq_true y) (by decide +kernel)) (fun _=>?_)
      refine⟨_,rfl,rfl,_,rfl,?_⟩
      refine qL (fun _=>?_) (fun y=>absurd (decide_eq_true rfl) y)
      refine⟨_,rfl,_,rfl,_,rfl,_,rfl,_,rfl,by show 2<=sizeLine;decide,fun t1 ht1=>⟨by show 3<=sizeLine;decide,fun t ht=>⟨by show 2<=sizeLine;decide,fun q1 hq1=>?_⟩⟩⟩
      have u1:=Same.upd (o:= .tup [.int age,.int c]) ht1
      have u2:=Same.upd (o:= .tup [.int e.age,.int e.last,.ref t1]) ht
      have u3:=Same.upd (o:= .tup [.str "far",.ref t]) hq1
      exact q q1 t _ (((u0.trans u1).trans u2).trans u3) qb ⟨.ref t1,u3 _ _ qb,t1,rfl,u3 _ _ (u2 _ _ qb)⟩
    ·rw[if_neg h3]
     rw[if_neg h3]at q
     refine⟨_,rfl,rfl,_,rfl,?_⟩
     refine qL (fun y=>absurd (of_decide_eq_true y) (by decide +kernel)) (fun _=>?_)
     refine⟨_,rfl,rfl,_,rfl,?_⟩
     refine qL (fun y=>absurd (of_decide_eq_true y) (by decide +kernel)) (fun _=>?_)
     refine⟨_,rfl,rfl,_,rfl,?_⟩
     refine qL (fun y=>absurd (of_decide_eq_true y) (by decide +kernel)) (fun _=>?_)
     refine⟨_,rfl,_,rfl,by show 2<=sizeLine;decide,fun q1 hq1=>?_⟩
     exact q q1 a _ (Same.upd hq1) qb (BuAt.same (Same.upd hq1) ⟨v,hb,hw⟩)
end
section
variable{P:Program}{w:World}{K:Frag}{mg:Str->Option Value}{base:Heap}{tk:Nat->Tok}{C:Addr}
theorem fA(a:AtM K C "__init__" "Door.__init__" Qy ["self","table","keys","near","far","most"])(T:Txt K mg tk)(U:DCx K C):Mf P w K mg base C "__init__" ["self","table","keys","near","far","most"] 1 (jG K C):=by
 refine a.mq ai (fun vs H Q E h=>?_) (fun f cdv A outer s H vs Q E hr h=>?_)
 ·obtain⟨_,_,_,_,_,_,_,_,_,rfl,_⟩:=h
  rfl
 ·obtain⟨p,a,b,dx,near,far,most,t,kss,rfl,hp,ha,hb,hl,q⟩:=h
  refine⟨_,(qe (zb (qv 0) (qD cg (by rfl) T.b_tuple PyProof.Rows.boot_tuple (qd (qv 1) qc)))
   (qe (zb (qv 0) (q8 (own:=["key"]) (fr:=[]) (js:=[]) rfl (zq (qv 2)) rfl (fun _ _ h=>nomatch h) rfl (aY rfl (by decide +kernel) (by decide +kernel) (by decide +kernel)) (fun _ _ _ _=>qj (i:=0) (show List.Nodup (["key"]:List Str)from by decide +kernel) rfl (Or.inl rfl) (.inr rfl)) (fun _ _ _ _=>(qD ca (by rfl) T.b_tuple PyProof.Rows.boot_tuple (qd (qv 0) qc)))))
   (qe (zb (qv 0) (qv 3))
   (qe (zb (qv 0) (qv 4))
   (qe (zb (qv 0) (qv 5))
   (qe (zb (qv 0) qf)
   (qe (zb (qv 0) cI)
   (qg (zb (qv 0) (qR qc)))))))))),?_⟩
  refine⟨_,rfl,a,_,rfl,ha,fun ta H2 s2 ht=>⟨_,rfl,p,_,rfl,qY U.cl (s2 _ _ hp) U.n_table 0,?_⟩⟩
  have e2:=s2 _ _ hp
  have hb2:=(hb.same s2).upd (o:= .ins C dx [("table",.ref ta)]) e2
  obtain⟨as,eb,la,hks⟩:=hb2
  have ht2:=bT (o:= .ins C dx [("table",.ref ta)]) e2 ht
  refine⟨_,rfl,b,rfl,⟨_,SqL.of eb⟩,zx (K:=K) (xs:=as.map V.ref) (by rw[List.length_map,la,sizeLine_eq];omega) (fun i ys H3=>Same (upd H2 p (.ins C dx [("table",.ref ta)])) H3/\∃bs:List Addr,ys=bs.map V.ref/\bs.length=i/\∀(j:Nat) (x:Addr) (ks:List Int),bs[j]? =some x->kss[j]? =some ks->SqT [] H3 x (ks.map V.int)) ⟨Same.refl _,[],rfl,rfl,fun j x ks e=>by(cases e)⟩ (fun i ys H3 ⟨s3,_⟩=>s3.seq (SqL.of eb)) ?_ ?_⟩
  ·rintro i ys H3 x hx hyl ⟨s3,bs,rfl,hbl,hbs⟩
   rw[List.getElem?_map]at hx
   cases ea:as[i]? with
   |none=>rw[ea]at hx;cases hx
   |some x0=>
    rw[ea]at hx
    obtain rfl:V.ref x0=x:=Option.some.inj hx
    have hi:i<kss.length:=by rw[<- la];exact(List.getElem?_eq_some_iff.mp ea).1
    have hk0:=hks i x0 kss[i] ea (List.getElem?_eq_getElem hi)
    refine⟨_,rfl,x0,_,rfl,.inr (Same.sqt s3 hk0).rd,fun l H4 s4 hl4=>⟨s3.trans s4,bs++[l],by simp,by simp [hbl],fun j y ks e1 e2'=>?_⟩⟩
    rw[List.getElem?_append]at e1
    split at e1
    ·exact Same.sqt s4 (hbs j y ks e1 e2')
    ·have hj:j-bs.length=0:=by
      cases hj:j-bs.length with
      |zero=>rfl
      |succ k=>rw[hj]at e1;cases e1
     rw[hj]at e1
     cases e1
     have:j=i:=by omega
     subst this
     rw[List.getElem?_eq_getElem hi]at e2'
     cases e2'
     exact .inl hl4
  ·rintro ys H3 hyl ⟨s3,bs,rfl,hbl,hbs⟩ hk hhk
   have u3:=Same.upd (o:= .lst (bs.map V.ref)) hhk
   have e3:=u3 _ _ (s3 _ _ qb)
   refine⟨_,rfl,p,_,rfl,qY U.cl e3 U.n_house_keys 1,?_⟩
   refine⟨_,rfl,_,rfl,p,_,rfl,qY U.cl qb U.n_near 2,?_⟩
   refine⟨_,rfl,_,rfl,p,_,rfl,qY U.cl qb U.n_far 3,?_⟩
   refine⟨_,rfl,_,rfl,p,_,rfl,qY U.cl qb U.n_most 4,?_⟩
   refine⟨_,rfl,p,_,rfl,qY U.cl qb U.n_least_age 5,?_⟩
   refine fun bd hbd=>⟨_,rfl,p,_,rfl,qY U.cl (by rw[qh (ql qb hbd)];exact qb) U.n_buttons 6,?_⟩
   have nbd:=ql qb hbd
   refine⟨by show 0<=sizeLine;decide,fun lg hlg=>⟨_,rfl,p,_,rfl,qY U.cl (by rw[qh (ql qb hlg)];exact qb) U.n_log 7,?_⟩⟩
   have nlg:=ql qb hlg
   have m3:Mv [p] H H3:=((s2.mv (S:=[p])).trans Mv.upd1).trans s3.mv
   have nhk:hk≠p:=(ql (s3 _ _ qb) hhk).symm
   have m4:Mv [p] H (upd H3 hk (.lst (bs.map V.ref))):=m3.trans u3.mv
   have M:∀o1 o2 o3 o4 o5,Mv [p] (upd H3 hk (.lst (bs.map V.ref))) (upd (upd (upd (upd (upd (upd H3 hk (.lst (bs.map V.ref))) p o1) p o2) p o3) p o4) p o5):=fun o1 o2 o3 o4 o5=>(((Mv.upd1.trans Mv.upd1).trans Mv.upd1).trans Mv.upd1).trans Mv.upd1
   have M6:Mv [p] (upd H3 hk (.lst (bs.map V.ref))) _:=(((M _ _ _ _ _).trans (Same.upd hbd).mv).trans Mv.upd1).trans (Same.upd (o:= .lst []) hlg).mv
   have M7:=M6.trans (Mv.upd1 (o:= .ins C dx (dF ⟨t,kss,near,far,most,0,[]⟩ ta hk bd lg)))
   have nt:NT [p] (upd H3 hk (.lst (bs.map V.ref))):=NT.one e3 trivial
   have hbdlg:bd≠lg:=ql (by rw[qh nbd.symm];exact qb) hlg
   have KR:=KsAt.mv M7 nt (qF nhk) (show KsAt [] _ hk kss from⟨bs,qb,by rw[hbl,List.length_map,la],fun j x ks e1 e2'=>Same.sqt u3 (hbs j x ks e1 e2')⟩)
   refine q ta hk bd lg _ (m3.nfree (qF nhk) hhk) ((m4.trans (M _ _ _ _ _)).nfree (qF nbd.symm) hbd) ((m4.trans ((((M _ _ _ _ _).trans (Same.upd hbd).mv).trans Mv.upd1))).nfree (qF nlg.symm) hlg) (m4.trans M7) ⟨⟨dx,qb⟩,?_,KsAt.up KR,?_,?_,?_⟩ KR
   ·exact M7.sqt nt (Same.sqt u3 (Same.sqt s3 ht2))
   ·exact⟨([],fun _=>0),by rw[qh nbd.symm,qh hbdlg,qh nbd.symm];exact qb,fun e he=>by(cases he),.refl _,List.nodup_nil⟩
   ·exact⟨[],by rw[qh nlg.symm];exact qb,Nat.le_refl _⟩
   ·refine(ql (o:= .lst (bs.map V.ref)) ?_ hlg).symm
    rw[qh nhk]
    rw[qh (ql (o:= .lst (bs.map V.ref)) (by rw[qh nhk,qh nhk,qh nhk,qh nhk,qh nhk];exact qb) hbd)]
    rw[qh nhk,qh nhk,qh nhk,qh nhk,qh nhk]
    exact qb
theorem cS(a:AtM K C "is_full" "Door.is_full" Q6 ["self"])(T:Txt K mg tk)(U:DCx K C):Mf P w K mg base C "is_full" ["self"] 1 (jC K C):=by
 refine a.mq dc (fun vs H Q E h=>?_) (fun f cdv A outer s H vs Q E hr h=>?_)
 ·obtain⟨_,_,_,_,_,_,_,rfl,_⟩:=h
  rfl
 ·obtain⟨p,ta,hk,bd,lg,n,D,rfl,b,q⟩:=h
  obtain⟨fn,hd,_,hpm,_⟩:=b.kb
  refine⟨_,(qg (qp (zz kF (qr mr (by rfl) T.b_len PySem.boot_len (qd (qP (qv 0)) qc)) (qP (qv 0)) (qx _)))),?_⟩
  refine⟨_,rfl,p,_,rfl,b.h_buttons U,bd,_,rfl,hd,_,rfl,p,_,rfl,b.h_most U,_,_,rfl,rfl,?_⟩
  rw[show(zo fn.1 fn.2).length=D.kn.length from(List.length_map _).trans hpm.length_eq]
  exact q
theorem bZ(a:AtM K C "button_of" "Door.button_of" QJ ["self","name"])(T:Txt K mg tk)(U:DCx K C):Mf P w K mg base C "button_of" ["self","name"] 1 (p8 K C):=by
 refine a.mq b9 (fun vs H Q E h=>?_) (fun f cdv A outer s H vs Q E hr h=>?_)
 ·obtain⟨_,_,_,_,_,_,_,_,rfl,_⟩:=h
  rfl
 ·obtain⟨p,ta,hk,bd,lg,n,D,nm,rfl,b,q1,q2⟩:=h
  refine⟨_,(qg (qp (pq hr (qP (qv 0)) (qv 1)))),?_⟩
  obtain⟨fn,hd,_⟩:=id b.kb
  refine⟨_,rfl,p,_,rfl,b.h_buttons U,bd,rfl,.inl ⟨_,.inl hd⟩,_,rfl,?_⟩
  rcases b.kb.get nm with⟨e1,g⟩|⟨e,x,e1,g,hx⟩
  ·exact⟨_,g,q1 e1⟩
  ·exact⟨_,g,q2 e x e1 hx⟩
theorem b0(a:AtM K C "takes_age" "Door.takes_age" QF ["self","age"])(T:Txt K mg tk)(U:DCx K C):Mf P w K mg base C "takes_age" ["self","age"] 1 (cN K C):=by
 refine a.mq b8 (fun vs H Q E h=>?_) (fun f cdv A outer s H vs Q E hr h=>?_)
 ·obtain⟨_,_,_,_,_,_,_,_,rfl,_⟩:=h
  rfl
 ·obtain⟨p,ta,hk,bd,lg,n,D,age,rfl,b,q⟩:=h
  obtain⟨as,eh,la,_⟩:=b.ks
  refine⟨_,(qg (qp (cv ZN dz (qP (qv 0)) (qv 1) (qr qO (by rfl) T.b_len PySem.boot_len (qd (qP (qv 0)) qc))))),?_⟩
  unfold zN at q
  refine⟨_,rfl,p,_,rfl,b.h_least_age U,_,rfl,_,_,rfl,rfl,_,rfl,?_⟩
  refine qL (fun z=>?_) (fun z=>?_)
  ·rw[z,Bool.true_and]at q
   refine⟨_,rfl,p,_,rfl,b.h_house_keys U,hk,_,rfl,.inl (SqL.of eh),_,_,rfl,rfl,?_⟩
   rw[List.length_map,la]
   exact q
  ·rw[Bool.eq_false_iff.mpr z,Bool.false_and]at q
   exact q
theorem bf(a:AtM K C "takes_from" "Door.takes_from" Qu ["self","button","age"])(T:Txt K mg tk)(U:DCx K C)(dD:Mf P w K mg base C "takes_age" ["self","age"] 1 (cN K C)):Mf P w K mg base C "takes_from" ["self","button","age"] 2 (eT K C):=by
 refine a.mq aZ (fun vs H Q E h=>?_) (fun f cdv A outer s H vs Q E hr h=>?_)
 ·obtain⟨_,_,_,_,_,_,_,_,_,_,rfl,_⟩:=h
  rfl
 ·obtain⟨p,ta,hk,bd,lg,x,n,D,e,age,rfl,b,⟨v,hx,hw⟩,q⟩:=h
  refine⟨_,(qg (qp (zT (zK dD U.cl hr.mo (qv 0) (qd (qv 2) qc)) (Qh (zz kF (qv 2) (qI Qe (qv 1) qf (fun _ _=>rfl)) (qx _)))))),?_⟩
  unfold zL at q
  refine⟨_,rfl,p,rfl,b.no,_,rfl,p,ta,hk,bd,lg,n,D,age,rfl,b,_,rfl,?_⟩
  refine qL (fun z=>?_) (fun z=>?_)
  ·rw[z,Bool.true_and]at q
   exact⟨_,rfl,_,rfl,x,_,_,_,rfl,rfl,SqT.of hx,rfl,_,_,rfl,rfl,q⟩
  ·rw[Bool.eq_false_iff.mpr z,Bool.false_and]at q
   exact q
theorem a7(a:AtM K C "plain_step" "Door.plain_step" Qs ["self","button","age","count"])(T:Txt K mg tk)(U:DCx K C)(dC:Mf P w K mg base C "takes_from" ["self","button","age"] 2 (eT K C))(xW:Df P w K mg base "step_by" ["button","age","count","near","far"] 2 jS):Mf P w K mg base C "plain_step" ["self","button","age","count"] 3 (jY K C):=by
 refine a.mq bj (fun vs H Q E h=>?_) (fun f cdv A outer s H vs Q E hr h=>?_)
 ·obtain⟨_,_,_,_,_,_,_,_,_,_,_,rfl,_⟩:=h
  rfl
 ·obtain⟨p,ta,hk,bd,lg,x,n,D,e,age,c,rfl,b,hx,ht,q⟩:=h
  refine⟨_,(qe (qK (Qx (zG (zK dC U.cl hr.mo (qv 0) (qd (qv 1) (qd (qv 2) qc))))) (qg (qp (qA (qd qk (qd (qv 1) qc))))) qE)
   (qg (qp (qo xW hr.mo (qd (qv 1) (qd (qv 2) (qd (qv 3) (qd (qP (qv 0)) (qd (qP (qv 0)) qc))))))))),?_⟩
  refine⟨_,rfl,p,rfl,b.no,_,rfl,_,rfl,p,ta,hk,bd,lg,x,n,D,e,age,rfl,b,hx,_,rfl,?_⟩
  rw[ht]
  refine zg ?_
  exact⟨_,rfl,_,rfl,_,rfl,_,rfl,p,_,rfl,b.h_near U,_,rfl,p,_,rfl,b.h_far U,x,e,age,c,D.near,D.far,rfl,hx,q⟩
theorem bX(a:AtM K C "answer_to" "Door.answer_to" QK ["self","press"])(T:Txt K mg tk)(U:DCx K C)(dX:Mf P w K mg base C "button_of" ["self","name"] 1 (p8 K C))(dC:Mf P w K mg base C "takes_from" ["self","button","age"] 2 (eT K C))(dR:Mf P w K mg base C "plain_step" ["self","button","age","count"] 3 (jY K C))
  (dH:Df P w K mg base "read_press" ["table","key","press"] 3 (hU K)):Mf P w K mg base C "answer_to" ["self","press"] 4 (fI K C):=by
 refine a.mq sc_Door_answer_to (fun vs H Q E h=>?_) (fun f cdv A outer s H vs Q E hr h=>?_)
 ·obtain⟨_,_,_,_,_,_,_,_,_,_,_,rfl,_⟩:=h
  rfl
 ·obtain⟨p,ta,hk,bd,lg,pr,n,D,nm,age,ds,rfl,b,ok,⟨pc,hp,hpc⟩,hn,l5,hdd,q⟩:=h
  refine⟨_,(qe (zf (qv 1) (Zc rfl (qu (qj (i:=2) sc_Door_answer_to.nd rfl (Or.inl rfl)) (qu (qj (i:=3) sc_Door_answer_to.nd rfl (Or.inl rfl)) (qu (qj (i:=4) sc_Door_answer_to.nd rfl (Or.inl rfl)) zm)))))
   (qe (qy (i:=5) sc_Door_answer_to.nd rfl (Or.inl rfl) (zK dX U.cl hr.mo (qv 0) (qd (qv 2) qc)))
   (qe (qK (qz Z8 (qv 5) zS (qx _)) (qg (qp (qA (qd qk (qd qk qc))))) qE)
   (qe (qK (Qx (zG (zK dC U.cl hr.mo (qv 0) (qd (qv 5) (qd (qv 3) qc))))) (qg (qp (qA (qd qk (qd qk qc))))) qE)
   (qe (qy (i:=6) sc_Door_answer_to.nd rfl (Or.inl rfl) (qo dH hr.mo (qd (qP (qv 0)) (qd (qI qG (qP (qv 0)) (qv 3) (fun _ _=>rfl)) (qd (qv 1) qc)))))
   (qe (qK (qz Z8 (qv 6) zS (qx _)) (qg (qp (qA (qd qk (qd qk qc))))) qE)
   (qe (zf (qv 6) (Zc rfl (qu (qj (i:=7) sc_Door_answer_to.nd rfl (Or.inl rfl)) (qu (qj (i:=8) sc_Door_answer_to.nd rfl (Or.inl rfl)) zm))))
   (qe (zf (zK dR U.cl hr.mo (qv 0) (qd (qv 5) (qd (qv 3) (qd (qv 7) qc)))) (Zc rfl (qu (qj (i:=9) sc_Door_answer_to.nd rfl (Or.inl rfl)) (qu (qj (i:=10) sc_Door_answer_to.nd rfl (Or.inl rfl)) zm))))
   (qe (zV hr (qP (qv 0)) (qv 2) (qv 10))
   (qe (qK (qz zj (qv 9) qk (qx _)) (qg (qp (qA (qd qk (qd (qv 2) (qd (qv 8) qc)))))) qE)
   (qg (qp (qA (qd qk (qd (qv 9) qc))))))))))))))),?_⟩
  refine⟨_,rfl,pr,_,rfl,.tup hp,rfl,_,_,rfl,_,_,rfl,_,_,rfl,rfl,?_⟩
  refine⟨_,rfl,p,rfl,b.no,_,rfl,p,ta,hk,bd,lg,n,D,nm,rfl,b,fun e1=>?_,fun e x e1 hx=>?_⟩
  ·have eJ:qZ D nm age (Qa D.t (zD D age) nm ds)=([.str "held",.str "unknown"],D.kn):=by unfold qZ;rw[e1]
   rw[eJ]at q
   refine⟨_,rfl,rfl,_,rfl,?_⟩
   refine qL (fun _=>?_) (fun y=>absurd (decide_eq_true rfl) y)
   refine⟨by show 2<=sizeLine;decide,fun q1 hq1=>?_⟩
   exact q q1 _ (Same.upd hq1).mv qb (b.same (Same.upd hq1))
  ·refine⟨_,rfl,rfl,_,rfl,?_⟩
   refine qL (fun y=>nomatch (of_decide_eq_true y)) (fun _=>?_)
   refine⟨_,rfl,p,rfl,b.no,_,rfl,_,rfl,p,ta,hk,bd,lg,x,n,D,e,age,rfl,b,hx,_,rfl,?_⟩
   cases ht:zL D e age with
   |false=>
    have eJ:qZ D nm age (Qa D.t (zD D age) nm ds)=([.str "held",.str "age"],D.kn):=by unfold qZ;rw[e1];simp only;rw[ht];rfl
    rw[eJ]at q
    refine zM ?_
    refine⟨by show 2<=sizeLine;decide,fun q1 hq1=>?_⟩
    exact q q1 _ (Same.upd hq1).mv qb (b.same (Same.upd hq1))
   |true=>
    refine zg ?_
    obtain⟨a0,a1⟩:=fC ht ok.l0
    obtain⟨xs,ak,eh,hat,hak⟩:=b.ks.at a0 a1
    refine⟨_,rfl,p,_,rfl,b.h_table U,_,rfl,p,_,rfl,b.h_house_keys U,_,rfl,hk,_,_,_,rfl,rfl,SqL.of eh,hat,_,rfl,ta,ak,pr,pc,nm,age,D.t,zD D age,ds,rfl,.inr b.tb,.inr hak,.tup hp,.tup hpc,hn,ok.tp,l5,hdd,fun y H1 s1 told=>?_⟩
    have b1:=b.same s1
    have hx1:=hx.same s1
    have told':bw H1 y (Qa D.t (zD D age) nm ds):=told
    cases er:Qa D.t (zD D age) nm ds with
    |none=>
     rw[er]at told' q
     have ey:y= .non:=told'
     subst ey
     have eJ:qZ D nm age none=([.str "held",.str "false"],D.kn):=by unfold qZ;rw[e1];simp only;rw[ht];rfl
     rw[eJ]at q
     refine⟨_,rfl,rfl,_,rfl,?_⟩
     refine qL (fun _=>?_) (fun y=>absurd (decide_eq_true rfl) y)
     refine⟨by show 2<=sizeLine;decide,fun q1 hq1=>?_⟩
     exact q q1 _ (s1.trans (Same.upd hq1)).mv qb (b1.same (Same.upd hq1))
    |some cd=>
     obtain⟨c,d⟩:=cd
     rw[er]at told' q
     obtain⟨pp,ey,hpp⟩:=told'
     subst ey
     refine⟨_,rfl,rfl,_,rfl,?_⟩
     refine qL (fun y=>nomatch (of_decide_eq_true y)) (fun _=>?_)
     refine⟨_,rfl,pp,_,rfl,.tup hpp,rfl,_,_,rfl,_,_,rfl,rfl,?_⟩
     refine⟨_,rfl,p,rfl,b1.no,_,rfl,_,rfl,_,rfl,p,ta,hk,bd,lg,x,n,D,e,age,c,rfl,b1,hx1,ht,fun q1 a' H2 s2 hq1 hb'=>⟨q1,_,rfl,.tup hq1,rfl,_,_,rfl,_,_,rfl,rfl,?_⟩⟩
     have b2:=b1.same s2
     obtain⟨H3,dp,m3,kb3⟩:=b2.kb.put nm (by have:=ok.nl;omega) hb'
     refine⟨_,rfl,_,rfl,p,_,rfl,b2.h_buttons U,_,rfl,bd,H3,rfl,dp,?_⟩
     have b3:=b2.putK m3 kb3
     have mm:Mv [bd] H H3:=(s1.trans s2).mv.trans m3
     refine⟨_,rfl,rfl,_,rfl,?_⟩
     by_cases hw:(zB D.near D.far e age c).1="near"
     ·have eJ:qZ D nm age (some (c,d))=([.str "open",.str nm,.int d],qQ D.kn nm (zB D.near D.far e age c).2):=by unfold qZ;rw[e1];simp only;rw[if_pos ht,if_pos hw]
      rw[eJ]at q
      refine qL (fun _=>?_) (fun y=>absurd (decide_eq_true (by rw[hw])) y)
      refine⟨_,rfl,_,rfl,by show 3<=sizeLine;decide,fun q2 hq2=>?_⟩
      exact q q2 _ (mm.trans (Same.upd hq2).mv) qb (b3.same (Same.upd hq2))
     ·have eJ:qZ D nm age (some (c,d))=([.str "held",.str (zB D.near D.far e age c).1],qQ D.kn nm (zB D.near D.far e age c).2):=by unfold qZ;rw[e1];simp only;rw[if_pos ht,if_neg hw]
      rw[eJ]at q
      refine qL (fun y=>absurd (of_decide_eq_true y) (by intro z;injection z with z;exact hw z)) (fun _=>?_)
      refine⟨_,rfl,by show 2<=sizeLine;decide,fun q2 hq2=>?_⟩
      exact q q2 _ (mm.trans (Same.upd hq2).mv) qb (b3.same (Same.upd hq2))
theorem bH(a:AtM K C "read_right" "Door.read_right" Qq ["self","thing"])(T:Txt K mg tk)(U:DCx K C)(dO:Df P w K mg base "is_press" ["thing"] 5 aF)(dD:Mf P w K mg base C "takes_age" ["self","age"] 1 (cN K C))(dH:Df P w K mg base "read_press" ["table","key","press"] 3 (hU K)):Mf P w K mg base C "read_right" ["self","thing"] 6 (fW K C):=by
 refine a.mq bg (fun vs H Q E h=>?_) (fun f cdv A outer s H vs Q E hr h=>?_)
 ·obtain⟨_,_,_,_,_,_,_,_,_,rfl,_⟩:=h
  rfl
 ·obtain⟨p,ta,hk,bd,lg,n,D,x,o,rfl,b,ok,tg,q⟩:=h
  refine⟨_,(qe (qK (QW.pt (QX (Qx (zG (qo dO hr.mo (qd (qv 1) qc)))) (QR (Qx (zG (zK dD U.cl hr.mo (qv 0) (qd (qI Qe (qv 1) qf (fun _ _=>rfl)) qc))))))) (qg (qp zS)) qE)
   (qg (qp (qo dH hr.mo (qd (qP (qv 0)) (qd (qI qG (qP (qv 0)) (qI Qe (qv 1) qf (fun _ _=>rfl)) (fun _ _=>rfl)) (qd (qv 1) qc))))))),?_⟩
  refine⟨_,rfl,x,_,rfl,tg.b,fun H1 s1=>⟨_,rfl,?_⟩⟩
  cases o with
  |none=>exact zM (zM (q .non _ s1 rfl))
  |some PP=>
  obtain⟨pr,rfl,hp,hn,l5,hdd⟩:=tg
  have q:∀y H',Same H H'->bw H' y (a6 D PP)->Q y H':=q
  obtain⟨nm,age,ds⟩:=PP
  simp only at hn l5 hdd
  refine zg ?_
  have b1:=b.same s1
  obtain⟨pc,hp1,hpc1⟩:=PrAt.same s1 hp
  refine⟨_,rfl,p,rfl,b1.no,_,rfl,pr,_,_,_,rfl,rfl,SqT.of hp1,rfl,p,ta,hk,bd,lg,n,D,age,rfl,b1,_,rfl,?_⟩
  unfold a6 at q
  cases ht:zN D age with
  |false=>
   rw[if_neg (by rw[ht];intro z;cases z)]at q
   exact zM (q _ _ s1 rfl)
  |true=>
  rw[if_pos ht]at q
  refine zg ?_
  have ht':zL D ⟨age,0,none⟩ age=true:=by unfold zL;rw[ht,decide_eq_true (Int.le_refl _)];rfl
  obtain⟨a0,a1⟩:=fC ht' ok.l0
  obtain⟨xs,ak,eh,hat,hak⟩:=b1.ks.at a0 a1
  exact⟨_,rfl,p,_,rfl,b1.h_table U,_,rfl,p,_,rfl,b1.h_house_keys U,_,rfl,pr,_,_,_,rfl,rfl,SqT.of hp1,rfl,hk,_,_,_,rfl,rfl,SqL.of eh,hat,_,rfl,ta,ak,pr,pc,nm,age,D.t,zD D age,ds,rfl,.inr b1.tb,.inr hak,.tup hp1,.tup hpc1,hn,ok.tp,l5,hdd,fun y H2 s2 told=>q y H2 (s1.trans s2) told⟩
theorem bV(a:AtM K C "known_now" "Door.known_now" QH ["self"])(T:Txt K mg tk)(U:DCx K C):Mf P w K mg base C "known_now" ["self"] 1 (cC K C):=by
 refine a.mq bW (fun vs H Q E h=>?_) (fun f cdv A outer s H vs Q E hr h=>?_)
 ·obtain⟨_,_,_,_,_,_,_,rfl,_⟩:=h
  rfl
 ·obtain⟨p,ta,hk,bd,lg,n,D,rfl,b,ok,q⟩:=h
  obtain⟨fn,hd,hbu,hpm,_⟩:=id b.kb
  refine⟨_,(qg (qp (qD qJ (by rfl) T.b_tuple PyProof.Rows.boot_tuple (qd (q8 (own:=["name"]) (fr:=["self"]) (js:=[0]) rfl (zq (qr (bB rfl) (by rfl) T.b_sorted PyProof.Rows.boot_sorted (qd (qP (qv 0)) qc))) rfl (aL rfl) rfl (aA rfl (by decide +kernel) (by decide +kernel) (by decide +kernel) rfl rfl rfl) (fun _ _ _ _=>qj (i:=0) (show List.Nodup (["name","self"]:List Str)from by decide +kernel) rfl (Or.inl rfl) (.inr rfl)) (fun _ _ _ _=>(qm bI (qA (qd (qv 0) qc)) (qw hr (tm (K:=K) rfl (qv 1)) (qv 0))))) qc)))),?_⟩
  refine⟨_,rfl,p,_,rfl,b.h_buttons U,bd,_,fn.1.map (·.1),rfl,hd,fy _ _,by rw[List.length_map,hpm.length_eq];have:=ok.nl;omega,fun l ss hl pm0 so=>⟨l,rfl,⟨_,SqL.of qb⟩,?_⟩⟩
  have pm:=pm0.trans (hpm.map (·.1))
  have u1:=Same.upd (o:= .lst (ss.map V.str)) hl
  have ls:ss.length<=60:=by rw[pm.length_eq,List.length_map];exact ok.nl
  refine zx (K:=K) (xs:=ss.map V.str) (by rw[List.length_map,sizeLine_eq];omega) (fun i ys H3=>Same (upd H l (.lst (ss.map V.str))) H3/\∃as:List Addr,ys=as.map V.ref/\as.length=i/\∀(j:Nat) (x:Addr) (nm:Str) (e:Kb),as[j]? =some x->ss[j]? =some nm->D.kn.lookup nm=some e->∃v,H3 x=some (.tup [.str nm,.int e.age,.int e.last,v])/\Wt H3 v e.wt) ⟨Same.refl _,[],rfl,rfl,fun j x nm e h=>by(cases h)⟩ (fun i ys H3 ⟨s3,_⟩=>s3.seq (SqL.of qb)) ?_ ?_
  ·rintro i ys H3 x hx hyl ⟨s3,as,rfl,hal,has⟩
   rw[List.getElem?_map]at hx
   cases es:ss[i]? with
   |none=>rw[es]at hx;cases hx
   |some nm=>
    rw[es]at hx
    obtain rfl:V.str nm=x:=Option.some.inj hx
    have hmem:nm∈D.kn.map (·.1):=pm.mem_iff.mp (List.mem_of_getElem? es)
    obtain⟨e,he⟩:=zE hmem
    have b3:=b.same (u1.trans s3)
    obtain⟨e',x0,he',g,v0,hx0,hw0⟩:=(b3.kb.get nm).resolve_left (fun z=>by rw[he]at z;cases z.1)
    rw[he]at he'
    cases he'
    refine⟨_,rfl,by show 1<=sizeLine;decide,fun t ht=>?_⟩
    have u4:=Same.upd (o:= .tup [.str nm]) ht
    have b4:=b3.same u4
    obtain⟨e',x0,he',g,v0,hx0,hw0⟩:=(b4.kb.get nm).resolve_left (fun z=>by rw[he]at z;cases z.1)
    rw[he]at he'
    cases he'
    refine⟨_,rfl,p,_,rfl,b4.h_buttons U,_,rfl,bd,_,rfl,g,t,x0,_,_,rfl,rfl,qb,hx0,by show 4<=sizeLine;decide,fun q1 H5 s5 hq1=>?_⟩
    refine⟨(s3.trans u4).trans s5,as++[q1],by simp,by simp [hal],fun j y m2 e2 h1 h2 h3=>?_⟩
    rw[List.getElem?_append]at h1
    split at h1
    ·obtain⟨v,a1,a2⟩:=has j y m2 e2 h1 h2 h3
     exact⟨v,s5 _ _ (u4 _ _ a1),a2.mv (S:=[]) (u4.trans s5).mv (fun c h=>nomatch h)⟩
    ·have hj:j-as.length=0:=by
      cases hj:j-as.length with
      |zero=>rfl
      |succ k=>rw[hj]at h1;cases h1
     rw[hj]at h1
     cases h1
     obtain rfl:j=i:=by omega
     rw[es]at h2
     cases h2
     rw[he]at h3
     cases h3
     exact⟨v0,hq1,hw0.mv (S:=[]) s5.mv (fun c h=>nomatch h)⟩
  ·rintro ys H3 hyl ⟨s3,as,rfl,hal,has⟩ l2 hl2
   have u4:=Same.upd (o:= .lst (as.map V.ref)) hl2
   refine⟨l2,_,rfl,.inl ⟨SqL.of qb,fun q1 hq1=>?_⟩⟩
   have u5:=Same.upd (o:= .tup (as.map V.ref)) hq1
   have S:=u4.trans u5
   refine q q1 ss _ ((u1.trans s3).trans S) pm so ⟨as,qb,by rw[hal,List.length_map],fun j x nm e h1 h2 h3=>?_⟩
   obtain⟨v,a1,a2⟩:=has j x nm e h1 h2 h3
   exact⟨v,S _ _ a1,a2.mv (S:=[]) S.mv (fun c h=>nomatch h)⟩
end
section
variable{P:Program}{w:World}{K:Frag}{mg:Str->Option Value}{base:Heap}{tk:Nat->Tok}{C:Addr}
theorem i5(a:AtM K C "hear" "Door.hear" ZX ["self","thing"])(T:Txt K mg tk)(U:DCx K C)(dO:Df P w K mg base "is_press" ["thing"] 5 aF)(dW:Mf P w K mg base C "answer_to" ["self","press"] 4 (fI K C)):Mf P w K mg base C "hear" ["self","thing"] 6 (eR K C):=by
 refine a.mq sc_Door_hear (fun vs H Q E h=>?_) (fun f cdv A outer s H vs Q E hr h=>?_)
 ·obtain⟨_,_,_,_,_,rfl,_⟩:=h
  rfl
 ·obtain⟨⟨p,ta,hk,bd,lg⟩,D,L,x,o,rfl,⟨b,⟨rs,el,ro⟩,kr⟩,n1,ok,tg,qn,qs⟩:=h
  simp only at b el kr qs
  refine⟨_,(qe (qK (Qx (zG (qo dO hr.mo (qd (qv 1) qc)))) (qg (qp (qA (qd qk (qd qk qc))))) qE)
   (qe (qy (i:=2) sc_Door_hear.nd rfl (Or.inl rfl) (zK dW U.cl hr.mo (qv 0) (qd (qv 1) qc)))
   (qe (zJ (QZ PySem.F.plainAttrs_list PySem.F.slot_list_append PySem.F.type_list_append zR (qP (qv 0)) (qd (qA (qd qk (qd (qv 1) (qd (qv 2) qc)))) qc)))
   (qg (qp (qv 2)))))),?_⟩
  refine⟨_,rfl,x,_,rfl,tg.b,fun H1 s1=>⟨_,rfl,?_⟩⟩
  cases o with
  |none=>exact zM ⟨by show 2<=sizeLine;decide,fun q hq=>qn rfl q _ (s1.trans (Same.upd hq)) qb⟩
  |some PP=>
  obtain⟨pr,rfl,hp,okP⟩:=tg
  have q:=qs PP rfl
  refine zg ?_
  have b1:=b.same s1
  obtain⟨f0,hd,_⟩:=id b1.kb
  have ntb:NT [bd] H1:=NT.one hd trivial
  refine⟨_,rfl,p,rfl,b1.no,_,rfl,p,ta,hk,bd,lg,pr,L.length,D,PP.nm,PP.age,PP.ds,rfl,b1,ok,PrAt.same s1 hp,okP.nm,okP.l,okP.dg,fun q1 H2 m2 hq1 b2=>?_⟩
  have el2:=m2 _ _ (qF (qC (s1 _ _ el) hd (by intro z;cases z))) (s1 _ _ el)
  have ro2:=(ro.same s1).mv m2 ntb
  refine⟨_,rfl,p,_,rfl,b2.h_log U,.inl ⟨rfl,_,SqL.of el2⟩,_,rfl,_,rfl,by show 3<=sizeLine;decide,fun r hr'=>?_⟩
  have u3:=Same.upd (o:= .tup [.str "hear",.ref pr,.ref q1]) hr'
  have b3:=b2.same u3
  have pr3:=PrAt.same u3 (PrAt.mv m2 ntb (PrAt.same s1 hp))
  have ntl:NT [lg] _:=NT.one (u3 _ _ el2) trivial
  refine⟨lg,_,_,rfl,rfl,u3 _ _ el2,by rw[List.length_map,ro.1,sizeLine_eq];omega,⟨_,rfl,?_⟩⟩
  exact q pr q1 _ rfl (((s1.mv.trans (m2.mono (fun c h z=>h (by rw[List.mem_singleton.mp z];exact List.mem_cons_self ..)))).trans u3.mv).trans (Mv.upd1.mono (fun c h z=>h (by rw[List.mem_singleton.mp z];exact List.mem_cons_of_mem _ (List.mem_cons_self ..))))) (PrAt.mv Mv.upd1 ntl pr3) (Mv.upd1.tup ntl (u3 _ _ hq1)) (DlAt.push (a:=⟨p,ta,hk,bd,lg⟩) b3 (u3 _ _ el2) (ro2.same u3) ((KsAt.mv m2 ntb (qF (pU hd b1)) (KsAt.same s1 kr)).same u3) ⟨pr,q1,.inl qb,pr3,okP,u3 _ _ hq1,gh D PP,hX D PP⟩)
theorem aW(a:AtM K C "close_below" "Door.close_below" Qi ["self","age"])(T:Txt K mg tk)(U:DCx K C):Mf P w K mg base C "close_below" ["self","age"] 1 (iP K C):=by
 refine a.mq aV (fun vs H Q E h=>?_) (fun f cdv A outer s H vs Q E hr h=>?_)
 ·obtain⟨_,_,_,_,rfl,_⟩:=h
  rfl
 ·obtain⟨⟨p,ta,hk,bd,lg⟩,D,L,age,rfl,⟨b,⟨rs,el,ro⟩,kr⟩,n1,q⟩:=h
  simp only at b el kr q
  refine⟨_,(qe (zb (qv 0) (qr (gu rfl) (by rfl) T.b_max PyProof.Rows.boot_max (qd (qP (qv 0)) (qd (qv 1) qc))))
   (qg (zJ (QZ PySem.F.plainAttrs_list PySem.F.slot_list_append PySem.F.type_list_append zR (qP (qv 0)) (qd (qA (qd qk (qd (qv 1) qc))) qc))))),?_⟩
  have q:=q _ _ rfl
  obtain⟨z,hz⟩:∃z:Int,z=if age>D.least then age else D.least:=⟨_,rfl⟩
  rw[<- hz]at q
  obtain⟨dx0,ep⟩:=id b.ob
  obtain⟨dx,pf,m,b3⟩:=b.putLeast U z
  have el3:=m _ _ (qF (qC el ep (by intro z;cases z))) el
  have ro3:=ro.mv m (NT.one ep trivial)
  refine⟨_,rfl,p,_,rfl,b.h_least_age U,_,rfl,_,_,rfl,_,rfl,p,_,rfl,by rw[<- hz];exact pf,?_⟩
  refine⟨_,rfl,p,_,rfl,b3.h_log U,.inl ⟨rfl,_,SqL.of el3⟩,_,rfl,by show 2<=sizeLine;decide,fun r hr'=>?_⟩
  have u7:=Same.upd (o:= .tup [.str "close",.int age]) hr'
  have b7:=b3.same u7
  refine⟨lg,_,_,rfl,rfl,u7 _ _ el3,by rw[List.length_map,ro.1,sizeLine_eq];omega,?_⟩
  exact q _ (((m.mono (fun c h z=>h (by rw[List.mem_singleton.mp z];exact List.mem_cons_self ..))).trans u7.mv).trans (Mv.upd1.mono (fun c h z=>h (by rw[List.mem_singleton.mp z];exact List.mem_cons_of_mem _ (List.mem_cons_self ..))))) (DlAt.push (a:=⟨p,ta,hk,bd,lg⟩) b7 (u7 _ _ el3) (ro3.same u7) ((KsAt.mv m (NT.one ep trivial) (qF (tQ ep b)) kr).same u7) (show RwAt _ r (.close age)from .inl qb))
theorem ef(a:AtM K C "log_now" "Door.log_now" Q1 ["self"])(T:Txt K mg tk)(U:DCx K C):Mf P w K mg base C "log_now" ["self"] 1 (m9 K C):=by
 refine a.mq cU (fun vs H Q E h=>?_) (fun f cdv A outer s H vs Q E hr h=>?_)
 ·obtain⟨_,_,_,rfl,_⟩:=h
  rfl
 ·obtain⟨⟨p,ta,hk,bd,lg⟩,D,L,rfl,⟨b,⟨rs,el,ro⟩,kr⟩,q⟩:=h
  simp only at b el kr
  refine⟨_,(qg (qp (qD qJ (by rfl) T.b_tuple PyProof.Rows.boot_tuple (qd (qP (qv 0)) qc)))),?_⟩
  exact⟨_,rfl,p,_,rfl,b.h_log U,lg,_,rfl,.inl ⟨SqL.of el,fun t ht=>q t _ (Same.upd ht) ⟨rs,.inl qb,ro.same (Same.upd ht)⟩⟩⟩
theorem gI(a:AtM K C "learn" "Door.learn" Zw ["self","one","other"])(T:Txt K mg tk)(U:DCx K C)(dG:Mf P w K mg base C "read_right" ["self","thing"] 6 (fW K C))(xE:Mf P w K mg base C "is_full" ["self"] 1 (jC K C)):Mf P w K mg base C "learn" ["self","one","other"] 7 (fB K C):=by
 refine a.mq sc_Door_learn (fun vs H Q E h=>?_) (fun f cdv A outer s H vs Q E hr h=>?_)
 ·obtain⟨_,_,_,_,_,_,_,_,_,_,rfl,_⟩:=h
  rfl
 ·obtain⟨⟨p,ta,hk,bd,lg⟩,D,L,p1,p2,⟨nm,age,ds1⟩,⟨nm2,age2,ds2⟩,c,d1,d2,rfl,⟨b,⟨rs,el,ro⟩,kr⟩,n1,ok,hp1,hp2,ok1,ok2,r1,r2,en,ea,hno,hmo,q⟩:=h
  simp only at b el kr q en ea hno
  subst en;subst ea
  refine⟨_,(qe (qy (i:=3) sc_Door_learn.nd rfl (Or.inl rfl) (zK dG U.cl hr.mo (qv 0) (qd (qv 1) qc)))
   (qe (qK (qz Z8 (qv 3) zS (qx _)) Zb qE)
   (qe (qy (i:=4) sc_Door_learn.nd rfl (Or.inl rfl) (zK dG U.cl hr.mo (qv 0) (qd (qv 2) qc)))
   (qe (qK (QW.pt (QX (qz Z8 (qv 4) zS (qx _)) (QX (qz (lF hr) (cz jV (qv 2) fu (eZ qf)) (cz jV (qv 1) fu (eZ qf)) (qx _)) (QR (qz cW (qI Qe (qv 4) qf (fun _ _=>rfl)) (qm qH (qI Qe (qv 3) qf (fun _ _=>rfl)) qf) (qx _)))))) Zb qE)
   (qe (zf (qv 1) (Zc rfl (qu (qj (i:=5) sc_Door_learn.nd rfl (Or.inl rfl)) (qu (qj (i:=6) sc_Door_learn.nd rfl (Or.inl rfl)) (qu (qj (i:=7) sc_Door_learn.nd rfl (Or.inl rfl)) zm)))))
   (qe (qK (t7 hr (qv 5) (qP (qv 0))) Zb qE)
   (qe (qK (zG (Q3 xE U.cl hr.mo (qv 0))) Zb qE)
   (qe (zV hr (qP (qv 0)) (qv 5) (qA (qd (qv 6) (qd (qI Qe (qv 4) qf (fun _ _=>rfl)) (qd zS qc)))))
   (qg (zJ (QZ PySem.F.plainAttrs_list PySem.F.slot_list_append PySem.F.type_list_append zR (qP (qv 0)) (qd (qA (qd qk (qd (qv 1) (qd (qv 2) qc)))) qc)))))))))))),?_⟩
  refine⟨_,rfl,p,rfl,b.no,_,rfl,p,ta,hk,bd,lg,L.length,D,.ref p1,some _,rfl,b,ok,⟨p1,rfl,hp1,ok1⟩,fun y1 H1 s1 t1=>?_⟩
  have t1:bw H1 y1 (a6 D _):=t1
  rw[r1]at t1
  obtain⟨f1,rfl,hf1⟩:=t1
  refine⟨_,rfl,rfl,_,rfl,qL (fun y=>nomatch (of_decide_eq_true y)) (fun _=>?_)⟩
  have b1:=b.same s1
  refine⟨_,rfl,p,rfl,b1.no,_,rfl,p,ta,hk,bd,lg,L.length,D,.ref p2,some _,rfl,b1,ok,⟨p2,rfl,PrAt.same s1 hp2,ok2⟩,fun y2 H2 s2 t2=>?_⟩
  have t2:bw H2 y2 (a6 D _):=t2
  rw[r2]at t2
  obtain⟨f2,rfl,hf2⟩:=t2
  have b2:=b1.same s2
  have hp1':=PrAt.same (s1.trans s2) hp1
  have hp2':=PrAt.same (s1.trans s2) hp2
  obtain⟨c1,e1,_⟩:=id hp1'
  obtain⟨c2,e2,_⟩:=id hp2'
  simp only at e1 e2
  refine⟨_,rfl,rfl,_,rfl,?_⟩
  refine qL (fun y=>nomatch (of_decide_eq_true y)) (fun _=>?_)
  refine⟨_,rfl,_,rfl,p2,_,rfl,e2,fun t3 H3 s3 h3 _=>⟨_,rfl,_,rfl,p1,_,rfl,s3 _ _ e1,fun t4 H4 s4 h4 _=>?_⟩⟩
  have h3':H4 t3=some (.tup [.str nm2,.int age2]):=s4 _ _ h3
  have h4':H4 t4=some (.tup [.str nm2,.int age2]):=h4
  have S4:=(s3.trans s4)
  have SS:=(s1.trans s2).trans S4
  refine⟨1,by decide,Eqd.pair h3' h4',_,rfl,zg ?_⟩
  refine⟨_,rfl,f2,_,_,_,rfl,rfl,SqT.of (S4 _ _ hf2),rfl,_,rfl,f1,_,_,_,rfl,rfl,SqT.of (S4 _ _ (s2 _ _ hf1)),rfl,_,_,rfl,rfl,rfl,_,rfl,?_⟩
  refine bJ rfl ?_
  have b4:=b2.same S4
  refine⟨_,rfl,p1,_,rfl,.tup (S4 _ _ e1),rfl,_,_,rfl,_,_,rfl,_,_,rfl,rfl,?_⟩
  have g4:DGet H4 bd (.str nm2) none:=by
   rcases b4.kb.get nm2 with⟨_,g⟩|⟨e,x,e5,_⟩
   ·exact g
   ·rw[hno]at e5;cases e5
  refine⟨_,rfl,_,rfl,p,_,rfl,b4.h_buttons U,bd,_,rfl,g4,_,rfl,?_⟩
  refine zg ?_
  refine⟨_,rfl,p,rfl,b4.no,p,ta,hk,bd,lg,L.length,D,rfl,b4,_,rfl,?_⟩
  refine qL (fun y=>absurd (of_decide_eq_true y) (by omega)) (fun _=>?_)
  refine⟨_,rfl,_,rfl,f2,_,_,_,rfl,rfl,SqT.of (S4 _ _ hf2),rfl,by show 3<=sizeLine;decide,fun t5 ht5=>?_⟩
  have u5:=Same.upd (o:= .tup [.int age2,.int (c+1),.non]) ht5
  have b5:=b4.same u5
  obtain⟨f0,hd,_⟩:=id b5.kb
  have SQ:=SS.trans u5
  obtain⟨H6,dp,m6,kb6⟩:=b5.kb.put nm2 (a:=t5) (e:=⟨age2,c+1,none⟩) (by have:=ok.nl;omega) ⟨.non,qb,rfl⟩
  refine⟨_,rfl,p,_,rfl,b5.h_buttons U,_,rfl,bd,H6,rfl,dp,?_⟩
  have b6:=b5.putK m6 kb6
  have el6:=m6 _ _ (qF (qC (SQ _ _ el) hd (by intro z;cases z))) (SQ _ _ el)
  have nt5:NT [bd] _:=NT.one hd trivial
  have ro6:=(ro.same SQ).mv m6 nt5
  refine⟨_,rfl,p,_,rfl,b6.h_log U,.inl ⟨rfl,_,SqL.of el6⟩,_,rfl,_,rfl,by show 3<=sizeLine;decide,fun r hr'=>?_⟩
  have u7:=Same.upd (o:= .tup [.str "learn",.ref p1,.ref p2]) hr'
  have b7:=b6.same u7
  refine⟨lg,_,_,rfl,rfl,u7 _ _ el6,by rw[List.length_map,ro.1,sizeLine_eq];omega,?_⟩
  exact q _ (((SQ.mv.trans (m6.mono (fun c h z=>h (by rw[List.mem_singleton.mp z];exact List.mem_cons_self ..)))).trans u7.mv).trans (Mv.upd1.mono (fun c h z=>h (by rw[List.mem_singleton.mp z];exact List.mem_cons_of_mem _ (List.mem_cons_self ..))))) (DlAt.push (a:=⟨p,ta,hk,bd,lg⟩) b7 (u7 _ _ el6) (ro6.same u7) ((KsAt.mv m6 nt5 (qF (pU hd b5)) (KsAt.same SQ kr)).same u7) ⟨p1,p2,.inl qb,PrAt.same u7 (PrAt.mv m6 nt5 (PrAt.same SQ hp1)),PrAt.same u7 (PrAt.mv m6 nt5 (PrAt.same SQ hp2)),ok1,ok2⟩)
theorem bY(a:AtM K C "twin_door" "Door.twin_door" QC ["self"])(T:Txt K mg tk)(U:DCx K C)(xI:Mi P w K mg base C "Door" ["self","table","keys","near","far","most"] 1 (jG K C)):Mf P w K mg base C "twin_door" ["self"] 3 (jL K C):=by
 refine a.mq sc_Door_twin_door (fun vs H Q E h=>?_) (fun f cdv A outer s H vs Q E hr h=>?_)
 ·obtain⟨_,_,_,rfl,_⟩:=h
  rfl
 ·obtain⟨⟨p,ta,hk,bd,lg⟩,D,L,rfl,⟨b,⟨rs,el,ro⟩,kr⟩,k8,q⟩:=h
  simp only at b el kr q
  refine⟨_,(qe (qy (i:=1) sc_Door_twin_door.nd rfl (Or.inl rfl) (j7 xI hr.mo (qd (qP (qv 0)) (qd (qP (qv 0)) (qd (qP (qv 0)) (qd (qP (qv 0)) (qd (qP (qv 0)) qc)))))))
   (qe (zb (qv 1) (qP (qv 0)))
   (qe (zb (qv 1) (qD kL (by rfl) T.b_dict PyProof.Rows.boot_dict (qd (qP (qv 0)) qc)))
   (qe (zb (qv 1) (qD Ql (by rfl) T.b_list PyProof.Rows.boot_list (qd (qP (qv 0)) qc)))
   (qg (qp (qv 1))))))),?_⟩
  refine⟨_,rfl,p,_,rfl,b.h_table U,_,rfl,p,_,rfl,b.h_house_keys U,_,rfl,p,_,rfl,b.h_near U,_,rfl,p,_,rfl,b.h_far U,_,rfl,p,_,rfl,b.h_most U,fun x dx nx ndx nex=>?_⟩
  have sJ:Same H (upd (upd H dx (.own x)) x (.ins C dx [])):=(Same.upd ndx).trans (Same.upd (by rw[qh nex.symm];exact nx))
  refine⟨x,ta,hk,dx,D.near,D.far,D.most,D.t,D.kss,rfl,qb,.inr (Same.sqt sJ b.tb),KsAt.same sJ kr,k8,fun ta' hk' bd0 lg0 H1 h1 h2 h3 mv dr krn=>⟨rfl,?_⟩⟩
  have S1:Same H H1:=fun c o e=>mv c o (qF (ql e nx)) (sJ c o e)
  obtain⟨dx',e1⟩:=id dr.ob
  obtain⟨as,eh1,_⟩:=id dr.ks
  have nhx:hk'≠x:=qC eh1 e1 (by intro z;cases z)
  obtain⟨f0,hd,hbu,hpm,nd⟩:=id b.kb
  have b1:=b.same S1
  refine⟨_,rfl,p,_,rfl,b1.h_least_age U,_,rfl,x,_,rfl,fE U e1 D.least,?_⟩
  have S2:=S1.put (o:= .ins C dx' (dF ⟨D.t,D.kss,D.near,D.far,D.most,D.least,[]⟩ ta' hk' bd0 lg0)) nx
  have b2:=b.same S2
  refine⟨_,rfl,p,_,rfl,b2.h_buttons U,bd,_,rfl,S2 _ _ hd,fun bd' hbd'=>?_⟩
  have nbx:bd'≠x:=(ql qb hbd').symm
  have fbd:H bd'=none:=zZ hbd' S2
  have S3:=S2.put (o:= .dK (zo f0.1 f0.2)) fbd
  refine⟨_,rfl,x,_,rfl,ji U (by rw[qh nbx.symm];exact qb) bd',?_⟩
  have S4:=S3.put (o:= .ins C dx' (dF ⟨D.t,D.kss,D.near,D.far,D.most,D.least,[]⟩ ta' hk' bd' lg0)) nx
  have b4:=b.same S4
  refine⟨_,rfl,p,_,rfl,b4.h_log U,lg,_,rfl,.inl (SqL.of (S4 _ _ el)),fun lg' hlg'=>?_⟩
  have nlx:lg'≠x:=(ql qb hlg').symm
  have flg:H lg'=none:=zZ hlg' S4
  have S5:=S4.put (o:= .lst (rs.map V.ref)) flg
  refine⟨_,rfl,x,_,rfl,sY U (by rw[qh nlx.symm];exact qb) lg',?_⟩
  have S6:=S5.put (o:= .ins C dx' (dF ⟨D.t,D.kss,D.near,D.far,D.most,D.least,[]⟩ ta' hk' bd' lg')) nx
  have e4b:_=some (HO.dK (zo f0.1 f0.2)):=(qh (o:= .ins C dx' (dF ⟨D.t,D.kss,D.near,D.far,D.most,D.least,[]⟩ ta' hk' bd' lg0)) nbx).trans (qb (H:=upd H1 x (.ins C dx' (dF ⟨D.t,D.kss,D.near,D.far,D.most,D.least,[]⟩ ta' hk' bd0 lg0))) (a:=bd') (o:= .dK (zo f0.1 f0.2)))
  have nlb:lg'≠bd':=(ql e4b hlg').symm
  have nhb:hk'≠bd':=ql (by rw[qh nhx];exact eh1) hbd'
  have nhl:hk'≠lg':=ql (by rw[qh nhx,qh nhb,qh nhx];exact eh1) hlg'
  have M:Mv [x] H1 _:=(((Mv.upd1 (a:=x) (H:=H1) (o:= .ins C dx' (dF ⟨D.t,D.kss,D.near,D.far,D.most,D.least,[]⟩ ta' hk' bd0 lg0))).trans (Same.upd (o:= .dK (zo f0.1 f0.2)) hbd').mv).trans (Mv.upd1 (o:= .ins C dx' (dF ⟨D.t,D.kss,D.near,D.far,D.most,D.least,[]⟩ ta' hk' bd' lg0)))).trans (Same.upd (o:= .lst (rs.map V.ref)) hlg').mv
  have M6:=M.trans (Mv.upd1 (o:= .ins C dx' (dF ⟨D.t,D.kss,D.near,D.far,D.most,D.least,[]⟩ ta' hk' bd' lg')))
  have nt:NT [x] H1:=NT.one e1 trivial
  have eL6:∀(G:Hp) (o:HO),upd (upd G lg' (.lst (rs.map V.ref))) x o lg'=some (HO.lst (rs.map V.ref)):=fun G o=>by rw[qh nlx];exact qb
  refine⟨_,rfl,q ⟨x,ta',hk',bd',lg'⟩ _ S6 nx (zZ h1 sJ) fbd flg ⟨⟨⟨dx',qb⟩,M6.sqt nt dr.tb,dr.ks.mv M6 nt (qF nhx),⟨f0,?_,fun e he=>(hbu e he).same S6,hpm,nd⟩,⟨rs,eL6 _ _,Nat.le_of_eq ro.1⟩,nhl.symm⟩,⟨rs,eL6 _ _,ro.same S6⟩,KsAt.mv M6 nt (qF nhx) krn⟩⟩
  rw[qh nbx,qh nlb.symm];exact e4b
theorem eG(a:AtM K C "__init__" "Door.__init__" Qy ["self","table","keys","near","far","most"])(T:Txt K mg tk)(U:DCx K C):Mf P w K mg base C "__init__" ["self","table","keys","near","far","most"] 1 (gU K C):=by
 refine a.mq ai (fun vs H Q E h=>?_) (fun f cdv A outer s H vs Q E hr h=>?_)
 ·obtain⟨_,_,_,_,_,_,_,_,_,rfl,_⟩:=h
  rfl
 ·obtain⟨p,a,b,dx,near,far,most,t,kss,rfl,hp,ha,hb,hl,q⟩:=h
  refine⟨_,(qe (zb (qv 0) (qD cg (by rfl) T.b_tuple PyProof.Rows.boot_tuple (qd (qv 1) qc)))
   (qe (zb (qv 0) (q8 (own:=["key"]) (fr:=[]) (js:=[]) rfl (mz (qv 2)) rfl (fun _ _ h=>nomatch h) rfl (aY rfl (by decide +kernel) (by decide +kernel) (by decide +kernel)) (fun _ _ _ _=>qj (i:=0) (show List.Nodup (["key"]:List Str)from by decide +kernel) rfl (Or.inl rfl) (.inr rfl)) (fun _ _ _ _=>(qD ca (by rfl) T.b_tuple PyProof.Rows.boot_tuple (qd (qv 0) qc)))))
   (qe (zb (qv 0) (qv 3))
   (qe (zb (qv 0) (qv 4))
   (qe (zb (qv 0) (qv 5))
   (qe (zb (qv 0) qf)
   (qe (zb (qv 0) cI)
   (qg (zb (qv 0) (qR qc)))))))))),?_⟩
  refine⟨_,rfl,a,_,rfl,ha,fun ta H2 s2 ht=>⟨_,rfl,p,_,rfl,qY U.cl (s2 _ _ hp) U.n_table 0,?_⟩⟩
  have e2:=s2 _ _ hp
  have hb2:=(hb.same s2).upd (o:= .ins C dx [("table",.ref ta)]) e2
  obtain⟨as,eb,la,hks⟩:=hb2
  have ht2:=bT (o:= .ins C dx [("table",.ref ta)]) e2 ht
  refine⟨_,rfl,b,rfl,⟨_,eb.up⟩,cy (K:=K) (xs:=as.map V.ref) (by rw[List.length_map,la,sizeLine_eq];omega) (fun i ys H3=>Same (upd H2 p (.ins C dx [("table",.ref ta)])) H3/\∃bs:List Addr,ys=bs.map V.ref/\bs.length=i/\∀(j:Nat) (x:Addr) (ks:List Int),bs[j]? =some x->kss[j]? =some ks->SqT [] H3 x (ks.map V.int)) ⟨Same.refl _,[],rfl,rfl,fun j x ks e=>by(cases e)⟩ (fun i ys H3 ⟨s3,_⟩=>(Same.sqt s3 eb).up) ?_ ?_⟩
  ·rintro i ys H3 x hx hyl ⟨s3,bs,rfl,hbl,hbs⟩
   rw[List.getElem?_map]at hx
   cases ea:as[i]? with
   |none=>rw[ea]at hx;cases hx
   |some x0=>
    rw[ea]at hx
    obtain rfl:V.ref x0=x:=Option.some.inj hx
    have hi:i<kss.length:=by rw[<- la];exact(List.getElem?_eq_some_iff.mp ea).1
    have hk0:=hks i x0 kss[i] ea (List.getElem?_eq_getElem hi)
    refine⟨_,rfl,x0,_,rfl,.inr (Same.sqt s3 hk0).rd,fun l H4 s4 hl4=>⟨s3.trans s4,bs++[l],by simp,by simp [hbl],fun j y ks e1 e2'=>?_⟩⟩
    rw[List.getElem?_append]at e1
    split at e1
    ·exact Same.sqt s4 (hbs j y ks e1 e2')
    ·have hj:j-bs.length=0:=by
      cases hj:j-bs.length with
      |zero=>rfl
      |succ k=>rw[hj]at e1;cases e1
     rw[hj]at e1
     cases e1
     have:j=i:=by omega
     subst this
     rw[List.getElem?_eq_getElem hi]at e2'
     cases e2'
     exact .inl hl4
  ·rintro ys H3 hyl ⟨s3,bs,rfl,hbl,hbs⟩ hk hhk
   have u3:=Same.upd (o:= .lst (bs.map V.ref)) hhk
   have e3:=u3 _ _ (s3 _ _ qb)
   refine⟨_,rfl,p,_,rfl,qY U.cl e3 U.n_house_keys 1,?_⟩
   refine⟨_,rfl,_,rfl,p,_,rfl,qY U.cl qb U.n_near 2,?_⟩
   refine⟨_,rfl,_,rfl,p,_,rfl,qY U.cl qb U.n_far 3,?_⟩
   refine⟨_,rfl,_,rfl,p,_,rfl,qY U.cl qb U.n_most 4,?_⟩
   refine⟨_,rfl,p,_,rfl,qY U.cl qb U.n_least_age 5,?_⟩
   refine fun bd hbd=>⟨_,rfl,p,_,rfl,qY U.cl (by rw[qh (ql qb hbd)];exact qb) U.n_buttons 6,?_⟩
   have nbd:=ql qb hbd
   refine⟨by show 0<=sizeLine;decide,fun lg hlg=>⟨_,rfl,p,_,rfl,qY U.cl (by rw[qh (ql qb hlg)];exact qb) U.n_log 7,?_⟩⟩
   have nlg:=ql qb hlg
   have m3:Mv [p] H H3:=((s2.mv (S:=[p])).trans Mv.upd1).trans s3.mv
   have nhk:hk≠p:=(ql (s3 _ _ qb) hhk).symm
   have m4:Mv [p] H (upd H3 hk (.lst (bs.map V.ref))):=m3.trans u3.mv
   have M:∀o1 o2 o3 o4 o5,Mv [p] (upd H3 hk (.lst (bs.map V.ref))) (upd (upd (upd (upd (upd (upd H3 hk (.lst (bs.map V.ref))) p o1) p o2) p o3) p o4) p o5):=fun o1 o2 o3 o4 o5=>(((Mv.upd1.trans Mv.upd1).trans Mv.upd1).trans Mv.upd1).trans Mv.upd1
   have M6:Mv [p] (upd H3 hk (.lst (bs.map V.ref))) _:=(((M _ _ _ _ _).trans (Same.upd hbd).mv).trans Mv.upd1).trans (Same.upd (o:= .lst []) hlg).mv
   have M7:=M6.trans (Mv.upd1 (o:= .ins C dx (dF ⟨t,kss,near,far,most,0,[]⟩ ta hk bd lg)))
   have nt:NT [p] (upd H3 hk (.lst (bs.map V.ref))):=NT.one e3 trivial
   have hbdlg:bd≠lg:=ql (by rw[qh nbd.symm];exact qb) hlg
   have KR:=KsAt.mv M7 nt (qF nhk) (show KsAt [] _ hk kss from⟨bs,qb,by rw[hbl,List.length_map,la],fun j x ks e1 e2'=>Same.sqt u3 (hbs j x ks e1 e2')⟩)
   refine q ta hk bd lg _ (m3.nfree (qF nhk) hhk) ((m4.trans (M _ _ _ _ _)).nfree (qF nbd.symm) hbd) ((m4.trans ((((M _ _ _ _ _).trans (Same.upd hbd).mv).trans Mv.upd1))).nfree (qF nlg.symm) hlg) (m4.trans M7) ⟨⟨dx,qb⟩,?_,KsAt.up KR,?_,?_,?_⟩ KR
   ·exact M7.sqt nt (Same.sqt u3 (Same.sqt s3 ht2))
   ·exact⟨([],fun _=>0),by rw[qh nbd.symm,qh hbdlg,qh nbd.symm];exact qb,fun e he=>by(cases he),.refl _,List.nodup_nil⟩
   ·exact⟨[],by rw[qh nlg.symm];exact qb,Nat.le_refl _⟩
   ·refine(ql (o:= .lst (bs.map V.ref)) ?_ hlg).symm
    rw[qh nhk]
    rw[qh (ql (o:= .lst (bs.map V.ref)) (by rw[qh nhk,qh nhk,qh nhk,qh nhk,qh nhk];exact qb) hbd)]
    rw[qh nhk,qh nhk,qh nhk,qh nhk,qh nhk]
    exact qb
end
section
variable{P:Program}{w:World}{K:Frag}{mg:Str->Option Value}{base:Heap}{tk:Nat->Tok}{C:Addr}{x:Xa}
theorem a8(a:AtM K C "closed_now" "Door.closed_now" Qr ["self"])(T:Txt K mg tk)(U:DCx K C):Mf P w K mg base C "closed_now" ["self"] 1 (gr K C):=by
 refine a.mq bt (fun vs H Q E h=>?_) (fun f cdv A outer s H vs Q E hr h=>?_)
 ·obtain⟨_,_,_,_,_,_,_,rfl,_⟩:=h
  rfl
 ·obtain⟨p,ta,hk,bd,lg,n,D,rfl,b,q⟩:=h
  refine⟨_,(qg (qp (qP (qv 0)))),?_⟩
  exact⟨_,rfl,p,_,rfl,b.h_least_age U,q⟩
end
def mR(K:Frag):Sp:=fun vs H Q _=>∃(a:Addr) (ns:List Int) (k:Nat),vs=[.ref a,.int k]/\SqL K H a (ns.map V.int)/\k<=1000/\∀b H',H b=none->Same H H'->BoxC H' b 0->Q (.ref b) H'
def lQ:Sp:=fun vs H Q _=>∃(b:Addr) (c:Nat),vs=[.ref b]/\BoxC H b c/\c<100000000/\∀p (ks:List Int) H',GrC b (c+10) H H'->H p=none->H' p=some (.tup (ks.map V.int))->q9 ks->1<=ks.length->ks.length<=8->Q (.ref p) H'
section
variable{P:Program}{w:World}{K:Frag}{mg:Str->Option Value}{base:Heap}{tk:Nat->Tok}
theorem je(a:At K mg "_law_take" aj ["_law_box_here","_law_many"])(T:Txt K mg tk):Df P w K mg base "_law_take" ["_law_box_here","_law_many"] 1 Qn:=by
 refine a.dq sc_law_take (fun vs H Q E h=>?_) (fun f cdv A outer s H vs Q E hr h=>?_)
 ·obtain⟨b,many,c,rfl,_⟩:=h
  rfl
 ·obtain⟨b,many,c,rfl,⟨n,m,k,hb,m0,m1,k0,k1⟩,hc,h0,h1,q⟩:=h
  refine⟨_,(qe (qK (qz bK (qI qG (qv 0) qf (fun _ _=>rfl)) qf (qx _)) (qe (qy (i:=2) sc_law_take.nd rfl (Or.inl rfl) (qm ze (qI qG (qv 0) qf (fun _ _=>rfl)) (qv 1)))
   (qe (zf (qm Q5 (qI qG (qv 0) qf (fun _ _=>rfl)) (qv 1)) (Zs (qv 0) qf Qj))
   (qg (qp (qv 2))))) qE)
   (qe (zf (qm qH (qI qG (qv 0) qf (fun _ _=>rfl)) qf) (Zs (qv 0) qf Qj))
   (qe (qy (i:=3) sc_law_take.nd rfl (Or.inl rfl) (qm ze (qm qH (qm qH (qm Qg (qI qG (qv 0) qf (fun _ _=>rfl)) qf) (qm Qg (qI qG (qv 0) qf (fun _ _=>rfl)) qf)) qf) qf))
   (qe (zf (qm qH (qm ze (qm Qg (qv 3) (qv 3)) qf) (qI qG (qv 0) qf (fun _ _=>rfl))) (Zs (qv 0) qf Qj))
   (qg (qp (qm ze (qm Q5 (qI qG (qv 0) qf (fun _ _=>rfl)) qf) (qv 1)))))))),?_⟩
  refine⟨_,rfl,b,_,_,_,rfl,rfl,SqL.of hb,rfl,_,_,rfl,rfl,_,rfl,?_⟩
  refine qL (fun _=>?_) (fun _=>?_)
  ·refine⟨_,rfl,b,_,_,_,rfl,rfl,SqL.of hb,rfl,_,rfl,_,_,rfl,rfl,h0,?_⟩
   refine⟨_,rfl,b,_,_,_,rfl,rfl,SqL.of hb,rfl,_,rfl,_,_,rfl,rfl,⟨h0,h1⟩,_,rfl,b,_,_,0,rfl,rfl,hb,rfl,?_⟩
   refine⟨_,rfl,?_⟩
   refine q _ _ (Int.emod_nonneg _ (by omega)) (Int.emod_lt_of_pos _ h0) ⟨fun c o hc e=>?_,_,_,_,qb,m0,m1,k0,by omega⟩
   rw[qh hc]
   exact e
  ·refine⟨_,rfl,b,_,_,_,rfl,rfl,SqL.of hb,rfl,_,_,rfl,rfl,_,rfl,b,_,_,2,rfl,rfl,hb,rfl,?_⟩
   have hb2:(upd H b (fx n m (k+1))) b=some (fx n m (k+1)):=qb
   refine⟨_,rfl,b,_,_,_,rfl,rfl,SqL.of hb2,rfl,_,_,rfl,rfl,.inr ⟨by decide,by decide⟩,_,rfl,b,_,_,_,rfl,rfl,SqL.of hb2,rfl,_,_,rfl,rfl,.inr ⟨by decide,by decide⟩,_,_,rfl,rfl,_,_,rfl,rfl,_,_,rfl,rfl,(by decide:(0:Int)<2305843009213693921),?_⟩
   have g0:=Int.emod_nonneg (m*48271+(k+1)*39373+11) (by decide:(2305843009213693921:Int)≠0)
   have g1:=Int.emod_lt_of_pos (m*48271+(k+1)*39373+11) (by decide:(0:Int)<2305843009213693921)
   refine⟨_,rfl,_,rfl,_,_,rfl,rfl,.inl ⟨by omega,by omega⟩,_,_,rfl,rfl,(by decide:(0:Int)<2305843009213693907),_,rfl,b,_,_,_,rfl,rfl,SqL.of hb2,rfl,_,_,rfl,rfl,_,rfl,b,_,_,1,rfl,rfl,hb2,rfl,?_⟩
   have i0:=Int.emod_nonneg ((m*48271+(k+1)*39373+11)%2305843009213693921*((m*48271+(k+1)*39373+11)%2305843009213693921)) (by decide:(2305843009213693907:Int)≠0)
   have i1:=Int.emod_lt_of_pos ((m*48271+(k+1)*39373+11)%2305843009213693921*((m*48271+(k+1)*39373+11)%2305843009213693921)) (by decide:(0:Int)<2305843009213693907)
   refine⟨_,rfl,b,_,_,_,rfl,rfl,SqL.of qb,rfl,_,_,rfl,rfl,⟨by decide,by decide⟩,_,rfl,_,_,rfl,rfl,h0,?_⟩
   refine q _ _ (Int.emod_nonneg _ (by omega)) (Int.emod_lt_of_pos _ h0) ⟨fun c o hc e=>?_,_,_,_,qb,Int.add_nonneg i0 (by omega),Int.lt_of_lt_of_le (Int.add_lt_add_right i1 _) (by omega),by omega,by omega⟩
   rw[qh hc,qh hc]
   exact e
theorem kA(a:At K mg "_law_box" be ["_law_script","_law_k"])(T:Txt K mg tk):Df P w K mg base "_law_box" ["_law_script","_law_k"] 1 (mR K):=by
 refine a.dq sc_law_box (fun vs H Q E h=>?_) (fun f cdv A outer s H vs Q E hr h=>?_)
 ·obtain⟨b,ns,k,rfl,_⟩:=h
  rfl
 ·obtain⟨b,ns,k,rfl,hS,hk1,q⟩:=h
  refine⟨_,(qe (qy (i:=2) sc_law_box.nd rfl (Or.inl rfl) (qD Ql (by rfl) T.b_list PyProof.Rows.boot_list (qd (cz sQ (qv 0) fu (eZ qf)) qc)))
   (qe (qy (i:=3) sc_law_box.nd rfl (Or.inl rfl) (qI qG (qm vD (qv 2) (qm ir (qR (qd qf qc)) (qm qH (qv 1) qf))) (qv 1) (fun _ _=>rfl)))
   (qe (qy (i:=4) sc_law_box.nd rfl (Or.inl rfl) qf)
   (qe (zF PassesOwn.never rfl (zq (qv 2)) (qj (i:=5) sc_law_box.nd rfl (Or.inl rfl))
   (qg (qy (i:=4) sc_law_box.nd rfl (Or.inl rfl) (qm ze (qm qH (qm Qg (qv 4) qf) (qv 5)) qf))))
   (qg (qp (qR (qd (qm Qg (qr iK (by rfl) T.b_abs PyProof.Rows.boot_abs (qd (qv 3) qc)) (qD fL (by rfl) T.b_int PyProof.Rows.boot_int (qd (zz kF (qr iK (by rfl) T.b_abs PyProof.Rows.boot_abs (qd (qv 3) qc)) (qm mV qf qf) (qx _)) qc))) (qd (qm ze (qm qH (qm qH (qv 3) (qm Qg qf (qv 4))) (qm Qg qf (qv 1))) qf) (qd qf qc)))))))))),?_⟩
  refine⟨_,rfl,_,rfl,b,_,rfl,hS,fun l hl=>?_⟩
  rw[pF]
  have lc:(fz ns none (some 63)).length<=63:=by
   rw[pI]
   have:HT.sIx ns.length ns.length (some 63)<=63:=by unfold HT.sIx;simp only;split<;>omega
   omega
  generalize fz ns none (some 63)=cs at lc⊢
  have u1:=Same.upd (o:= .lst (cs.map V.int)) hl
  refine⟨l,_,rfl,.inl (SqL.of qb),fun l2 hl2=>?_⟩
  have u2:=u1.trans (Same.upd (o:= .lst (cs.map V.int)) hl2)
  have e2:(upd (upd H l (.lst (cs.map V.int))) l2 (.lst (cs.map V.int))) l2=some (.lst (cs.map V.int)):=qb
  generalize upd (upd H l (.lst (cs.map V.int))) l2 (.lst (cs.map V.int))=H2 at u2 e2⊢
  refine⟨_,rfl,by show 1<=sizeLine;decide,fun l3 hl3=>?_⟩
  have u3:=Same.upd (o:= .lst [.int 0]) hl3
  refine⟨_,rfl,_,_,rfl,rfl,l3,_,_,rfl,rfl,qb,by omega,by omega,by show 1*_<=_;rw[sizeLine_eq];omega,fun l4 hl4=>?_⟩
  have e4:(List.replicate ((k:Int)+1).toNat [V.int 0]).flatten=(List.replicate (k+1) (0:Int)).map V.int:=by
   rw[show((k:Int)+1).toNat=k+1 by omega]
   simp [List.flatten_replicate_singleton]
  rw[e4]
  have u4:=Same.upd (o:= .lst ((List.replicate (k+1) (0:Int)).map V.int)) hl4
  refine⟨l2,l4,_,_,rfl,rfl,u4 _ _ (u3 _ _ e2),qb,by rw[List.length_map,List.length_map,List.length_replicate,sizeLine_eq];omega,fun l5 hl5=>?_⟩
  rw[<- List.map_append]
  have hlt:k<(cs++List.replicate (k+1) (0:Int)).length:=by rw[List.length_append,List.length_replicate];omega
  refine⟨_,rfl,l5,_,_,.int (cs++List.replicate (k+1) (0:Int))[k],rfl,rfl,SqL.of qb,zY (by rw[List.getElem?_map,List.getElem?_eq_getElem hlt];rfl),?_⟩
  have u5:=Same.upd (o:= .lst ((cs++List.replicate (k+1) (0:Int)).map V.int)) hl5
  generalize (cs++List.replicate (k+1) (0:Int))[k]=cell
  have S:=u2.trans (u3.trans (u4.trans u5))
  have e5:=u5 _ _ (u4 _ _ (u3 _ _ e2))
  generalize upd (upd (upd H2 l3 (.lst [.int 0])) l4 (.lst ((List.replicate (k+1) (0:Int)).map V.int))) l5 (.lst ((cs++List.replicate (k+1) (0:Int)).map V.int))=H5 at S e5⊢
  refine⟨_,rfl,l2,rfl,⟨_,SqL.of e5⟩,?_⟩
  refine ZI (K:=K) (a:=l2) (xs:=cs.map V.int) (fun i σ Hx=>Hx=H5/\∃(z:Int) (o:Option V),σ=[some (.ref b),some (.int (k:Int)),some (.ref l2),some (.int cell),some (.int z),o]/\0<=z/\z<2305843009213693951) ⟨rfl,_,_,rfl,by decide,by decide⟩ (fun i σ Hx _ ⟨e,_⟩=>by subst e;exact SqL.of e5) ?_ ?_
  ·rintro i x σ Hx hx ⟨rfl,z,o,rfl,z0,z1⟩
   obtain⟨y,rfl,hy⟩:=Qk hx
   refine⟨_,rfl,_,_,rfl,rfl,.inl ⟨by omega,by omega⟩,_,rfl,_,_,rfl,rfl,_,_,rfl,rfl,(by decide:(0:Int)<2305843009213693951),rfl,_,_,rfl,Int.emod_nonneg _ (by decide),Int.emod_lt_of_pos _ (by decide)⟩
  ·rintro σ Hx ⟨rfl,z,o,rfl,z0,z1⟩
   refine⟨_,rfl,_,rfl,_,rfl,_,rfl,_,_,rfl,rfl,⟨by decide,by decide,by decide⟩,_,_,rfl,rfl,.inr ⟨_,rfl,?_⟩⟩
   refine⟨_,_,rfl,rfl,.inr ⟨mS _,lC _⟩,_,rfl,_,rfl,_,_,rfl,rfl,.inl ⟨by decide,by decide⟩,_,_,rfl,rfl,_,rfl,_,_,rfl,rfl,.inl ⟨by decide,by decide⟩,_,_,rfl,rfl,_,_,rfl,rfl,(by decide:(0:Int)<2305843009213693951),?_⟩
   have g0:=Int.emod_nonneg (cell+39373*z+7919*(k:Int)) (by decide:(2305843009213693951:Int)≠0)
   have g1:=Int.emod_lt_of_pos (cell+39373*z+7919*(k:Int)) (by decide:(0:Int)<2305843009213693951)
   exact⟨by show 3<=sizeLine;decide,fun p hp=>q _ _ (zZ hp S) (S.trans (Same.upd hp)) ⟨_,_,_,qb,g0,by omega,by decide,by decide⟩⟩
theorem iS(a:At K mg "_law_table" ZT ["_law_box_here"])(T:Txt K mg tk)(dA:Df P w K mg base "_law_take" ["_law_box_here","_law_many"] 1 Qn):Df P w K mg base "_law_table" ["_law_box_here"] 2 iO:=by
 refine a.dq sc_law_table (fun vs H Q E h=>?_) (fun f cdv A outer s H vs Q E hr h=>?_)
 ·obtain⟨x,c,rfl,_⟩:=h
  rfl
 ·obtain⟨b,c,rfl,hb,hc,q⟩:=h
  refine⟨_,(qe (qy (i:=1) sc_law_table.nd rfl (Or.inl rfl) (qR qc))
   (qe (zF PassesOwn.never rfl (zI rfl T.b_range (qd qf qc)) (qj (i:=2) sc_law_table.nd rfl (Or.inl rfl))
   (qg (zJ (QZ PySem.F.plainAttrs_list PySem.F.slot_list_insert PySem.F.type_list_insert nI (qv 1) (qd (qo dA hr.mo (qd (qv 0) (qd (qm qH (qv 2) qf) qc))) (qd (qv 2) qc))))))
   (qg (qp (qD qJ (by rfl) T.b_tuple PyProof.Rows.boot_tuple (qd (qv 1) qc)))))),?_⟩
  refine⟨by show 0<=sizeLine;decide,fun l hl=>?_⟩
  have nlb:l≠b:=zU hb hl
  refine⟨16,rfl,by decide,by decide,QM (n:=16) (Pv:=fun i σ H2=>GrC b (c+i) H H2/\∃(zs:List Int) (o:Option V),H2 l=some (.lst (zs.map V.int))/\zs.Perm (digs.take i)/\σ=[some (.ref b),some (.ref l),o]) ⟨(Same.upd hl).grc hb,[],_,qb,.refl _,rfl⟩ ?_ ?_⟩
  ·rintro i σ H2 hi ⟨G2,zs,o,hz,pm,rfl⟩
   have zl:zs.length=i:=by rw[pm.length_eq,List.length_take,show digs.length=16 from rfl];omega
   refine⟨_,rfl,.inl ⟨rfl,_,SqL.of hz⟩,_,rfl,_,rfl,_,_,rfl,rfl,b,_,_,rfl,G2.bx,by omega,by omega,by omega,fun x H3 x0 x1 g3=>?_⟩
   have hz3:=g3.kp _ _ nlb hz
   refine⟨_,rfl,l,_,_,_,rfl,rfl,hz3,x0,by rw[List.length_map,zl];omega,by rw[List.length_map,zl,sizeLine_eq];omega,?_⟩
   refine⟨⟨fun c o hcb e=>?_,?_⟩,zs.take x.toNat++(i:Int)::zs.drop x.toNat,_,?_,?_,rfl⟩
   ·by_cases z:c=l
    ·subst z
     rw[e]at hl;cases hl
    ·rw[qh z];exact g3.kp _ _ hcb (G2.kp _ _ hcb e)
   ·obtain⟨n,m,k',e,r⟩:=g3.bx
    exact⟨n,m,k',by rw[qh nlb.symm];exact e,r⟩
   ·rw[qb,List.map_append,List.map_cons,List.map_take,List.map_drop]
    simp
   ·refine(List.perm_middle.trans (List.Perm.cons _ (by rw[List.take_append_drop]))).trans ?_
    have ht:digs.take (i+1)=digs.take i++[(i:Int)]:=(by decide:∀j:Nat,j<16->digs.take (j+1)=digs.take j++[(j:Int)]) i hi
    rw[ht]
    exact(List.Perm.cons _ pm).trans (List.perm_append_comm (l₁:=[(i:Int)]))
  ·rintro σ H2 ⟨G2,zs,o,hz,pm,rfl⟩
   refine⟨_,rfl,l,_,rfl,.inl ⟨SqL.of hz,fun t ht=>?_⟩⟩
   exact q t zs _ (G2.same (Same.upd ht)) (G2.fresh (hb.mono (by omega)) ht) qb pm
theorem li(a:At K mg "_law_key" bF ["_law_box_here"])(T:Txt K mg tk)(dA:Df P w K mg base "_law_take" ["_law_box_here","_law_many"] 1 Qn):Df P w K mg base "_law_key" ["_law_box_here"] 2 lQ:=by
 refine a.dq sc_law_key (fun vs H Q E h=>?_) (fun f cdv A outer s H vs Q E hr h=>?_)
 ·obtain⟨x,c,rfl,_⟩:=h
  rfl
 ·obtain⟨b,c,rfl,hb,hc,q⟩:=h
  refine⟨_,(qe (qy (i:=1) sc_law_key.nd rfl (Or.inl rfl) (qI qG (qR (qd qf (qd qf (qd qf (qd qf (qd (qm qH qf (qo dA hr.mo (qd (qv 0) (qd qf qc)))) qc)))))) (qo dA hr.mo (qd (qv 0) (qd qf qc))) (fun _ _=>rfl)))
   (qg (qp (qD qJ (by rfl) T.b_tuple PyProof.Rows.boot_tuple (qd (q8 (own:=["_law_k"]) (fr:=["_law_box_here"]) (js:=[0]) rfl (zI rfl T.b_range (qd (qv 1) qc)) rfl (aL rfl) rfl (aA rfl (by decide +kernel) (by decide +kernel) (by decide +kernel) rfl rfl rfl) (fun _ _ _ _=>qj (i:=0) (show List.Nodup (["_law_k","_law_box_here"]:List Str)from by decide +kernel) rfl (Or.inl rfl) (.inr rfl)) (fun _ _ _ _=>(qo dA hr.mo (qd (qv 1) (qd qf qc))))) qc))))),?_⟩
  refine⟨_,rfl,b,_,_,rfl,hb,by omega,by decide,by decide,fun r H1 r0 r1 g1=>⟨_,_,rfl,rfl,by show 5<=sizeLine;decide,fun l hl=>?_⟩⟩
  have u2:=Same.upd (o:= .lst [.int 1,.int 2,.int 4,.int 8,.int (1+r)]) hl
  refine⟨_,rfl,b,_,_,rfl,(u2.grc g1.bx).bx,by omega,by decide,by decide,fun r2 H2 r20 r21 g2=>?_⟩
  obtain⟨v,hv,hvm⟩:=Zq (xs:=[V.int 1,.int 2,.int 4,.int 8,.int (1+r)]) r20 r21
  obtain⟨n,rfl,n1,n8⟩:∃z:Nat,v= .int (z:Int)/\1<=z/\z<=8:=by
   simp only[List.mem_cons,List.not_mem_nil,or_false]at hvm
   rcases hvm with rfl|rfl|rfl|rfl|rfl
   ·exact⟨1,rfl,by decide,by decide⟩
   ·exact⟨2,rfl,by decide,by decide⟩
   ·exact⟨4,rfl,by decide,by decide⟩
   ·exact⟨8,rfl,by decide,by decide⟩
   ·exact⟨(1+r).toNat,by congr 1;omega,by omega,by omega⟩
  have G2:GrC b (c+2) H H2:=((g1.same u2).trans g2).mono (by omega)
  refine⟨l,_,_,_,rfl,rfl,SqL.of (g2.kp _ _ (zU g1.bx hl) qb),hv,_,rfl,_,rfl,by omega,by omega,?_⟩
  rw[Int.toNat_natCast]
  refine Zp (n:=n) (Nat.le_trans (by omega:n<=8) (by decide)) (fun i ys H2=>GrC b (c+2+i) H H2/\∃ks:List Int,ys=ks.map V.int/\q9 ks) ⟨G2,[],rfl,fun _ h=>nomatch h⟩ ?_ ?_
  ·rintro i ys H2 hi hl2 ⟨G2,ks,rfl,hk⟩
   refine⟨_,rfl,b,_,_,rfl,G2.bx,by omega,by decide,by decide,fun x H3 x0 x1 g3=>⟨G2.trans g3,ks++[x],by simp,fun z hz=>?_⟩⟩
   rcases List.mem_append.mp hz with y|y
   ·exact hk z y
   ·rw[List.mem_singleton.mp y];exact⟨x0,x1⟩
  ·rintro ys H2 hyl ⟨G2,ks,rfl,hk⟩ p hp
   rw[List.length_map]at hyl
   refine⟨p,_,rfl,.inl ⟨SqL.of qb,fun t ht=>?_⟩⟩
   have G3:=G2.same (Same.upd (o:= .lst (ks.map V.int)) hp)
   exact q t ks _ ((G3.same (Same.upd ht)).mono (by omega)) (G3.fresh (hb.mono (by omega)) ht) qb hk (by omega) (by omega)
end
section
variable{P:Program}{w:World}{K:Frag}{mg:Str->Option Value}{base:Heap}{tk:Nat->Tok}
theorem gC(a:At K mg "back_table" ZF ["table"])(T:Txt K mg tk):Df P w K mg base "back_table" ["table"] 1 (ng K):=by
 refine a.dq sc_back_table (fun vs H Q E h=>?_) (fun f cdv A outer s H vs Q E hr h=>?_)
 ·obtain⟨x,t,rfl,_⟩:=h
  rfl
 ·obtain⟨c,t,rfl,hS,pm,q⟩:=h
  refine⟨_,(qe (qy (i:=1) sc_back_table.nd rfl (Or.inl rfl) (qm ir (qR (qd qf qc)) (za (v:= .int 16) rfl T.g_DIGITS ⟨_,rfl⟩)))
   (qe (zF PassesOwn.never rfl (ph rfl T.b_enumerate (qd (qv 0) qc)) (Zv rfl (qu (qj (i:=2) sc_back_table.nd rfl (Or.inl rfl)) (qu (qj (i:=3) sc_back_table.nd rfl (Or.inl rfl)) zm)))
   (qg (zf (qv 2) (Zs (qv 1) (qv 3) Qj))))
   (qg (qp (qD qJ (by rfl) T.b_tuple PyProof.Rows.boot_tuple (qd (qv 1) qc)))))),?_⟩
  refine⟨by show 1<=sizeLine;decide,fun p hp=>⟨p,16,_,rfl,rfl,qb,by decide,by decide,by show 16<=sizeLine;decide,fun l hl=>?_⟩⟩
  have e0:(List.replicate (16:Int).toNat [V.int 0]).flatten=(Qp t 0).map V.int:=by rw[oN];rfl
  rw[e0]
  have s1:=(Same.upd (o:= .lst [V.int 0]) hp)
  have s2:=s1.trans (Same.upd (o:= .lst ((Qp t 0).map V.int)) hl)
  have step:∀(i:Nat) (x:V) (H2:Hp) (pp:Addr),(t.map V.int)[i]? =some x->H2 l=some (.lst ((Qp t i).map V.int))->Same H H2->H2 pp=none->
    ∃j:Nat,∃z:Int,x= .int z/\aS ((Qp t i).map V.int).length z=some j/\(upd H2 pp (.tup [.int i,x])) l=some (.lst ((Qp t i).map V.int))/\
     (upd (upd H2 pp (.tup [.int i,x])) l (.lst (((Qp t i).map V.int).set j (.int i)))) l=some (.lst ((Qp t (i+1)).map V.int))/\Same H (upd (upd H2 pp (.tup [.int i,x])) l (.lst (((Qp t i).map V.int).set j (.int i)))):=by
   intro i x H2 pp hx hm sm hpp
   obtain⟨z,rfl,hz⟩:=Qk hx
   have hi:i<t.length:=(List.getElem?_eq_some_iff.mp hz).1
   have ez:t[i]=z:=(List.getElem?_eq_some_iff.mp hz).2
   have bd:=iU pm hi
   have sp:=Same.upd (o:= .tup [.int i,.int z]) hpp
   refine⟨z.toNat,z,rfl,fk (by omega) (by rw[List.length_map,af];omega),sp _ _ hm,?_,fun d o e=>?_⟩
   ·rw[qb,aN,<- ez,ot pm hi]
   ·have ndl:d≠l:=fun y=>by
     rw[y]at e
     rw[s1 _ _ e]at hl
     cases hl
    rw[qh ndl]
    exact sp _ _ (sm _ _ e)
  have fin:∀(o:Option V) (o':Option V) (H2:Hp),H2 l=some (.lst ((Qp t t.length).map V.int))->Same H H2->∀p',H2 p'=none->Q (.ref p') (upd H2 p' (.tup ((Qp t t.length).map V.int))):=fun _ _ H2 hm sm p' hp'=>
   q _ _ (sm.trans (Same.upd hp')) (by rw[qb,sR pm])
  rcases hS with hS|hS
  ·refine⟨_,rfl,c,rfl,.inl ⟨⟨_,s2.seq hS⟩,?_⟩⟩
   refine iV (K:=K) (a:=c) (xs:=t.map V.int) (fun i σ H2=>∃(o2 o3:Option V),σ=[some (.ref c),some (.ref l),o2,o3]/\H2 l=some (.lst ((Qp t i).map V.int))/\Same H H2) ⟨none,none,rfl,qb,s2⟩ (fun i σ H2 _ ⟨_,_,_,_,sm⟩=>sm.seq hS) ?_ ?_
   ·rintro i x σ H2 pp hx ⟨o2,o3,rfl,hm,sm⟩ hpp
    obtain⟨j,z,rfl,hj,e1,e2,s3⟩:=step i x H2 pp hx hm sm hpp
    refine⟨pp,_,rfl,SqT.of qb,rfl,_,_,rfl,_,_,rfl,rfl,?_⟩
    exact⟨_,rfl,_,rfl,_,rfl,l,_,_,j,rfl,rfl,e1,hj,_,_,rfl,e2,s3⟩
   ·rintro σ H2 ⟨o2,o3,rfl,hm,sm⟩
    rw[List.length_map]at hm
    exact⟨_,rfl,l,_,rfl,.inl ⟨SqL.of hm,fin o2 o3 H2 hm sm⟩⟩
  ·refine⟨_,rfl,c,rfl,.inr ⟨⟨_,Same.sqt s2 hS⟩,?_⟩⟩
   refine mP (K:=K) (a:=c) (xs:=t.map V.int) (fun i σ H2=>∃(o2 o3:Option V),σ=[some (.ref c),some (.ref l),o2,o3]/\H2 l=some (.lst ((Qp t i).map V.int))/\Same H H2) ⟨none,none,rfl,qb,s2⟩ (fun i σ H2 _ ⟨_,_,_,_,sm⟩=>Same.sqt sm hS) ?_ ?_
   ·rintro i x σ H2 pp hx ⟨o2,o3,rfl,hm,sm⟩ hpp
    obtain⟨j,z,rfl,hj,e1,e2,s3⟩:=step i x H2 pp hx hm sm hpp
    refine⟨pp,_,rfl,SqT.of qb,rfl,_,_,rfl,_,_,rfl,rfl,?_⟩
    exact⟨_,rfl,_,rfl,_,rfl,l,_,_,j,rfl,rfl,e1,hj,_,_,rfl,e2,s3⟩
   ·rintro σ H2 ⟨o2,o3,rfl,hm,sm⟩
    rw[List.length_map]at hm
    exact⟨_,rfl,l,_,rfl,.inl ⟨SqL.of hm,fin o2 o3 H2 hm sm⟩⟩
theorem oU(a:At K mg "coded" fo ["table","key","digits"])(T:Txt K mg tk):Df P w K mg base "coded" ["table","key","digits"] 1 (bN K):=by
 refine a.dq sc_coded (fun vs H Q E h=>?_) (fun f cdv A outer s H vs Q E hr h=>?_)
 ·obtain⟨a,b,c,t,ks,ds,rfl,_⟩:=h
  rfl
 ·obtain⟨a,b,c,t,ks,ds,rfl,ha,hb,hc,lt,l1,l64,q⟩:=h
  refine⟨_,(qe (qy (i:=3) sc_coded.nd rfl (Or.inl rfl) (qD Ql (by rfl) T.b_list PyProof.Rows.boot_list (qd (qv 2) qc)))
   (qe (zF PassesOwn.never rfl (lE (qv 1)) (qj (i:=4) sc_coded.nd rfl (Or.inl rfl))
   (qg (zF PassesOwn.never rfl (zI rfl T.b_range (qd (qr qO (by rfl) T.b_len PySem.boot_len (qd (qv 2) qc)) qc)) (qj (i:=5) sc_coded.nd rfl (Or.inl rfl))
   (qe (qy (i:=6) sc_coded.nd rfl (Or.inl rfl) (qI qG (qv 3) (qm zO (qv 5) qf) (fun _ _=>rfl)))
   (qg (zf (qI (IxR.or qG Qe) (qv 0) (qm ze (qm qH (qm qH (qm qH (qI qG (qv 3) (qv 5) (fun _ _=>rfl)) (qv 4)) (qv 5)) (qv 6)) (za (v:= .int 16) rfl T.g_DIGITS ⟨_,rfl⟩)) (fun _ _=>rfl)) (Zs (qv 3) (qv 5) Qj)))))))
   (qg (qp (qD qJ (by rfl) T.b_tuple PyProof.Rows.boot_tuple (qd (qv 3) qc)))))),?_⟩
  refine⟨_,rfl,c,_,rfl,hc,fun l hl=>?_⟩
  have s1:Same H _:=Same.upd (o:= .lst (ds.map V.int)) hl
  refine⟨_,rfl,b,rfl,sW (K:=K) (H0:=H) hb (fun j σ H2=>Same H H2/\∃o4 o5 o6,σ=[some (.ref a),some (.ref b),some (.ref c),some (.ref l),o4,o5,o6]/\H2 l=some (.lst ((zW t (ks.take j) ds).map V.int))) ⟨s1,_,_,_,rfl,qb⟩ (fun j σ' H' h=>h.1) ?_ ?_⟩
  ·rintro j x σ H2 hx ⟨s2,o4,o5,o6,rfl,hm⟩
   obtain⟨shift,rfl,hks⟩:=Qk hx
   rw[eW hks,i4]
   have hrl:(zW t (ks.take j) ds).length=ds.length:=Zy
   generalize zW t (ks.take j) ds=r at hm hrl
   refine⟨_,rfl,c,_,rfl,hc.same s2,_,rfl,?_,?_,?_⟩
   ·omega
   ·rw[List.length_map];omega
   rw[show((((ds.map V.int).length:Nat):Int)).toNat=ds.length by rw[List.length_map];rfl]
   refine QM (n:=ds.length) (Pv:=fun i σ H3=>Same H H3/\∃o5 o6,σ=[some (.ref a),some (.ref b),some (.ref c),some (.ref l),some (.int shift),o5,o6]/\H3 l=some (.lst ((Zf t shift r i).map V.int))) ⟨s2,_,_,rfl,hm⟩ ?_ ?_
   ·rintro i σ H3 hi ⟨s3,o5,o6,rfl,hm3⟩
    have hrl3:(Zf t shift r i).length=ds.length:=by rw[Qf,hrl]
    generalize hr':Zf t shift r i=r' at hm3 hrl3
    have hi':i<r'.length:=by omega
    refine⟨_,rfl,_,rfl,_,_,rfl,rfl,l,_,_,_,rfl,rfl,SqL.of hm3,nB (i:=i) (by omega) hi',?_⟩
    refine⟨_,rfl,_,rfl,_,rfl,l,_,_,_,rfl,rfl,SqL.of hm3,ZC (i:=i) (by omega) hi',_,rfl,_,_,rfl,rfl,_,rfl,_,_,rfl,rfl,_,rfl,_,_,rfl,rfl,_,_,rfl,rfl,(by decide:(0:Int)<16),?_⟩
    have dm:=Qo (r'.getD i 0+shift+(0+(i:Int))+ah r' i)
    refine(ha.same s3).ix (ZC (i:=((r'.getD i 0+shift+(0+(i:Int))+ah r' i)%16).toNat) (by have:=dm.1;omega) (by rw[lt];have:=dm.1;have:=dm.2;omega)) ?_
    refine⟨_,rfl,_,rfl,l,_,_,i,rfl,rfl,hm3,fk (by omega) (by rw[List.length_map];exact hi'),QQ s3 hl,_,_,rfl,?_⟩
    rw[qb,aN,Zf,hr',fc,Int.zero_add]
   ·rintro σ H3 ⟨s3,o5,o6,rfl,hm3⟩
    exact⟨s3,_,_,_,rfl,hm3⟩
  ·rintro σ H2 ⟨s2,o4,o5,o6,rfl,hm⟩
   rw[List.length_map,List.take_length]at hm
   exact⟨_,rfl,l,_,rfl,.inl ⟨SqL.of hm,fun p hp=>q p _ (s2.trans (Same.upd hp)) (zZ hp s2) qb⟩⟩
theorem kz(a:At K mg "decoded" bz ["table","key","digits"])(T:Txt K mg tk)(xG:Df P w K mg base "back_table" ["table"] 1 (ng K)):Df P w K mg base "decoded" ["table","key","digits"] 2 (fU K):=by
 refine a.dq sc_decoded (fun vs H Q E h=>?_) (fun f cdv A outer s H vs Q E hr h=>?_)
 ·obtain⟨a,b,c,t,ks,ds,rfl,_⟩:=h
  rfl
 ·obtain⟨a,b,c,t,ks,ds,rfl,ha,hb,hc,pm,hdd,l1,l64,q⟩:=h
  refine⟨_,(qe (qy (i:=3) sc_decoded.nd rfl (Or.inl rfl) (qo xG hr.mo (qd (qv 0) qc)))
   (qe (qy (i:=4) sc_decoded.nd rfl (Or.inl rfl) (qD Ql (by rfl) T.b_list PyProof.Rows.boot_list (qd (qv 2) qc)))
   (qe (zF PassesOwn.never rfl (lW rfl T.b_reversed (qd (qv 1) qc)) (qj (i:=5) sc_decoded.nd rfl (Or.inl rfl))
   (qg (zF PassesOwn.never rfl (lW rfl T.b_reversed (qd (qD np (by rfl) T.b_range PyProof.Rows.boot_range (qd (qr qO (by rfl) T.b_len PySem.boot_len (qd (qv 2) qc)) qc)) qc)) (qj (i:=6) sc_decoded.nd rfl (Or.inl rfl))
   (qe (qy (i:=7) sc_decoded.nd rfl (Or.inl rfl) (qI qG (qv 4) (qm zO (qv 6) qf) (fun _ _=>rfl)))
   (qg (zf (qm ze (qm zO (qm zO (qm zO (qI Qe (qv 3) (qI qG (qv 4) (qv 6) (fun _ _=>rfl)) (fun _ _=>rfl)) (qv 5)) (qv 6)) (qv 7)) (za (v:= .int 16) rfl T.g_DIGITS ⟨_,rfl⟩)) (Zs (qv 4) (qv 6) Qj)))))))
   (qg (qp (qD qJ (by rfl) T.b_tuple PyProof.Rows.boot_tuple (qd (qv 4) qc))))))),?_⟩
  refine⟨_,rfl,a,t,rfl,ha,pm,fun pb H1 s1 hpb=>?_⟩
  refine⟨_,rfl,c,_,rfl,hc.same s1,fun l hl=>?_⟩
  have s2:Same H1 _:=Same.upd (o:= .lst (ds.map V.int)) hl
  refine⟨_,rfl,b,rfl,oW (K:=K) (H0:=H1) (hb.same s1) (fun j σ H2=>Same H1 H2/\∃o4 o5 o6,σ=[some (.ref a),some (.ref b),some (.ref c),some (.ref pb),some (.ref l),o4,o5,o6]/\H2 l=some (.lst ((QD (zi t) (ks.drop (ks.length-j)) ds).map V.int))) ⟨s2,_,_,_,rfl,by rw[Nat.sub_zero,List.drop_length];exact qb⟩ (fun j σ' H' h=>h.1) ?_ ?_⟩
  ·rintro j x σ H2 hj hx ⟨s2,o4,o5,o6,rfl,hm⟩
   obtain⟨shift,rfl,hks⟩:=Qk hx
   rw[List.length_map]at hj hks
   have ed:ks.drop (ks.length-(j+1))=shift::ks.drop (ks.length-j):=by
    have:=mB hks
    rw[show ks.length-1-j+1=ks.length-j by omega]at this
    rw[show ks.length-(j+1)=ks.length-1-j by omega]
    exact this
   rw[ed,QD]
   have hrl:(QD (zi t) (ks.drop (ks.length-j)) ds).length=ds.length:=cM
   have hrd:q9 (QD (zi t) (ks.drop (ks.length-j)) ds):=il hdd
   generalize QD (zi t) (ks.drop (ks.length-j)) ds=r at hm hrl hrd
   refine⟨_,rfl,c,_,rfl,(hc.same s1).same s2,_,rfl,fun pr hpr=>⟨pr,rfl,.inr (.inr ⟨ds.length,?_,by omega,?_⟩)⟩⟩
   ·rw[qb,List.length_map]
   have s2':=s2.trans (Same.upd (o:= .rng 0 ((ds.map V.int).length:Nat)) hpr)
   have hm':=Same.upd (o:= .rng 0 ((ds.map V.int).length:Nat)) hpr _ _ hm
   refine nX (n:=ds.length) (Pv:=fun i σ H3=>Same H1 H3/\∃o5 o6 r',σ=[some (.ref a),some (.ref b),some (.ref c),some (.ref pb),some (.ref l),some (.int shift),o5,o6]/\H3 l=some (.lst (r'.map V.int))/\r'.length=ds.length/\q9 r'/\ZH (zi t) shift r' (ds.length-i)=ZH (zi t) shift r ds.length) ⟨s2',_,_,r,rfl,hm',hrl,hrd,rfl⟩ ?_ ?_
   ·rintro i σ H3 hi ⟨s3,o5,o6,r',rfl,hm3,hrl3,hrd3,er⟩
    have hi':ds.length-1-i<r'.length:=by omega
    have ep:(ds.length:Int)-1-i=((ds.length-1-i:Nat):Int):=by omega
    rw[ep]
    generalize hpl:ds.length-1-i=pl at hi'
    rw[show ds.length-i=pl+1 by omega,ZH]at er
    refine⟨_,rfl,_,rfl,_,_,rfl,rfl,l,_,_,_,rfl,rfl,SqL.of hm3,nB (i:=pl) rfl hi',?_⟩
    have dr:=fj hrd3 pl
    refine⟨_,rfl,_,rfl,_,rfl,l,_,_,_,rfl,rfl,SqL.of hm3,ZC (i:=pl) rfl hi',pb,_,_,_,rfl,rfl,SqT.of (s3 _ _ hpb),ZC (i:=(r'.getD pl 0).toNat) (by have:=dr.1;omega) (by rw[ZP];have:=dr.1;have:=dr.2;omega),?_⟩
    refine⟨_,rfl,_,_,rfl,rfl,_,rfl,_,_,rfl,rfl,_,rfl,_,_,rfl,rfl,_,_,rfl,rfl,(by decide:(0:Int)<16),?_⟩
    refine⟨_,rfl,_,rfl,l,_,_,pl,rfl,rfl,hm3,j5 (by rw[List.length_map];exact hi'),QQ s3 hl,_,_,cF (zi t) shift r' pl,rfl,?_,by rw[im];exact hrl3,iJ hrd3,?_⟩
    ·rw[qb,aN,cF]
    ·rw[show ds.length-(i+1)=pl by omega];exact er
   ·rintro σ H3 ⟨s3,o5,o6,r',rfl,hm3,hrl3,hrd3,er⟩
    rw[Nat.sub_self,ZH]at er
    rw[er]at hm3
    exact⟨s3,_,_,_,rfl,hm3⟩
  ·rintro σ H2 ⟨s2,o4,o5,o6,rfl,hm⟩
   rw[List.length_map,Nat.sub_self,List.drop_zero]at hm
   exact⟨_,rfl,l,_,rfl,.inl ⟨SqL.of hm,fun p hp=>q p _ ((s1.trans s2).trans (Same.upd hp)) (zZ hp (s1.trans s2)) qb⟩⟩
theorem cH(a:At K mg "letter_digits" QV ["name"])(T:Txt K mg tk):Df P w K mg base "letter_digits" ["name"] 1 gs:=by
 refine a.dq sc_letter_digits (fun vs H Q E h=>?_) (fun f cdv A outer s H vs Q E hr h=>?_)
 ·obtain⟨z,rfl,_⟩:=h
  rfl
 ·obtain⟨z,rfl,hz,q⟩:=h
  refine⟨_,(qe (qy (i:=1) sc_letter_digits.nd rfl (Or.inl rfl) (qR qc))
   (qe (zF PassesOwn.never rfl (ni (qv 0)) (qj (i:=2) sc_letter_digits.nd rfl (Or.inl rfl))
   (qe (qy (i:=3) sc_letter_digits.nd rfl (Or.inl rfl) (qm zO (qr iW (by rfl) T.b_ord PyProof.Rows.boot_ord (qd (qv 2) qc)) (qr iW (by rfl) T.b_ord PyProof.Rows.boot_ord (qd qk qc))))
   (qe (zJ (QZ PySem.F.plainAttrs_list PySem.F.slot_list_append PySem.F.type_list_append zR (qv 1) (qd (qm ze (qv 3) (za (v:= .int 16) rfl T.g_DIGITS ⟨_,rfl⟩)) qc)))
   (qg (zJ (QZ PySem.F.plainAttrs_list PySem.F.slot_list_append PySem.F.type_list_append zR (qv 1) (qd (qm Q5 (qv 3) (za (v:= .int 16) rfl T.g_DIGITS ⟨_,rfl⟩)) qc)))))))
   (qg (qp (qv 1))))),?_⟩
  refine⟨by show 0<=sizeLine;decide,fun l hl=>?_⟩
  refine⟨_,rfl,z,rfl,ie hz,rW (fun i σ H2=>Same H H2/\∃o2 o3,σ=[some (.str z),some (.ref l),o2,o3]/\H2 l=some (.lst ((Qz (z.cps.toList.take i)).map V.int))) ⟨Same.upd hl,_,_,rfl,qb⟩ ?_ ?_⟩
  ·rintro i c σ H2 hc ⟨s2,o2,o3,rfl,hm⟩
   have hc':=j8 hc
   rw[sF hc',mh]
   have hln:(Qz (z.cps.toList.take i)).length<=16:=by rw[fO,List.length_take];have:=hz.2.2;omega
   generalize Qz (z.cps.toList.take i)=ds at hm hln
   have eX:((((⟨#[c]⟩:Str).cps.getD 0 0:Nat):Int)-((("a":Str).cps.getD 0 0:Nat):Int))=(c:Int)-97:=rfl
   have big:(100:Nat)<sizeLine:=by decide
   refine⟨_,rfl,_,rfl,rfl,_,rfl,rfl,_,_,rfl,rfl,?_⟩
   show cE _ _ _ [some (V.str z),some (V.ref l),some (V.str ⟨#[c]⟩),some (V.int ((c:Int)-97))] H2
   refine⟨_,rfl,.inl ⟨rfl,_,SqL.of hm⟩,_,rfl,_,_,rfl,rfl,(by decide:(0:Int)<16),l,_,_,rfl,rfl,hm,by rw[List.length_map];omega,?_⟩
   have w1:Same H (upd H2 l (.lst (ds.map V.int++[V.int (((c:Int)-97)%16)]))):=QQ s2 hl
   refine⟨_,rfl,.inl ⟨rfl,_,SqL.of qb⟩,_,rfl,_,_,rfl,rfl,⟨by decide,by decide⟩,l,_,_,rfl,rfl,qb,by rw[List.length_append,List.length_map,List.length_singleton];omega,QQ w1 hl,_,_,rfl,?_⟩
   rw[qb,List.map_append,List.append_assoc]
   rfl
  ·rintro σ H2 ⟨s2,o2,o3,rfl,hm⟩
   rw[show z.cps.size=z.cps.toList.length from rfl,List.take_length]at hm
   exact⟨_,rfl,q l H2 s2 hl hm⟩
theorem lU(a:At K mg "key_of" cO ["table","key","name"])(T:Txt K mg tk)(xB:Df P w K mg base "letter_digits" ["name"] 1 gs)(dP:Df P w K mg base "coded" ["table","key","digits"] 1 (bN K)):Df P w K mg base "key_of" ["table","key","name"] 2 (bP K):=by
 refine a.dq sc_key_of (fun vs H Q E h=>?_) (fun f cdv A outer s H vs Q E hr h=>?_)
 ·obtain⟨a,b,z,t,ks,rfl,_⟩:=h
  rfl
 ·obtain⟨a,b,z,t,ks,rfl,ha,hb,hz,lt,q⟩:=h
  refine⟨_,(qe (qy (i:=3) sc_key_of.nd rfl (Or.inl rfl) (qm ir (qR (qd qf qc)) (za (v:= .int 4) rfl T.g_KEY_PLACES ⟨_,rfl⟩)))
   (qe (zF PassesOwn.never rfl (tI rfl T.b_enumerate (qd (qo xB hr.mo (qd (qv 2) qc)) qc)) (Zv rfl (qu (qj (i:=4) sc_key_of.nd rfl (Or.inl rfl)) (qu (qj (i:=5) sc_key_of.nd rfl (Or.inl rfl)) zm)))
   (qg (sH (qv 3) (qm ze (qv 4) (za (v:= .int 4) rfl T.g_KEY_PLACES ⟨_,rfl⟩)) nO (qv 5) tP Qj)))
   (qg (qp (qo dP hr.mo (qd (qv 0) (qd (qv 1) (qd (q8 (own:=["total"]) (fr:=[]) (js:=[]) rfl (zq (qv 3)) rfl (fun _ _ h=>nomatch h) rfl (aY rfl (by decide +kernel) (by decide +kernel) (by decide +kernel)) (fun _ _ _ _=>qj (i:=0) (show List.Nodup (["total"]:List Str)from by decide +kernel) rfl (Or.inl rfl) (.inr rfl)) (fun _ _ _ _=>(qm ze (qv 0) (za (v:= .int 16) rfl T.g_DIGITS ⟨_,rfl⟩)))) qc)))))))),?_⟩
  refine⟨by show 1<=sizeLine;decide,fun p0 hp0=>⟨p0,4,_,rfl,rfl,qb,by decide,by decide,by show 4<=sizeLine;decide,fun l hl=>?_⟩⟩
  have s1:=(Same.upd (o:= .lst [V.int 0]) hp0)
  have s2:=s1.trans (Same.upd (o:= .lst (List.replicate (4:Int).toNat [V.int 0]).flatten) hl)
  have hlH:H l=none:=zZ hl s1
  refine⟨_,rfl,z,rfl,hz,fun ld H1 s3 hldn hld=>?_⟩
  have hm1:=s3 _ _ (qb (H:=upd H p0 (.lst [V.int 0])) (a:=l) (o:= .lst (List.replicate (4:Int).toNat [V.int 0]).flatten))
  have ndl:ld≠l:=fun y=>by rw[y,qb]at hldn;cases hldn
  generalize hds:Qz z.cps.toList=ds at hld q
  have hdl:ds.length<=16:=by rw[<- hds,fO];have:=hz.2.2;omega
  refine⟨ld,rfl,⟨_,SqL.of hld⟩,iV (K:=K) (a:=ld) (xs:=ds.map V.int) (fun i σ H2=>∃(o4 o5:Option V),σ=[some (.ref a),some (.ref b),some (.str z),some (.ref l),o4,o5]/\H2 l=some (.lst ((Q9 ds i).map V.int))/\H2 ld=some (.lst (ds.map V.int))/\Same H H2)
   ⟨none,none,rfl,hm1,hld,s2.trans s3⟩ (fun i σ H2 _ ⟨_,_,_,_,hd,_⟩=>SqL.of hd) ?_ ?_⟩
  ·rintro i x σ H2 pp hx ⟨o4,o5,rfl,hm,hd2,sm⟩ hpp
   obtain⟨dg,rfl,hz'⟩:=Qk hx
   have hi:i<ds.length:=(List.getElem?_eq_some_iff.mp hz').1
   have eg:ds.getD i 0=dg:=by rw[List.getD_eq_getElem?_getD,hz'];rfl
   have sp2:=Same.upd (o:= .tup [.int i,.int dg]) hpp
   have hm':=sp2 _ _ hm
   have h4:i%4<(Q9 ds i).length:=Nat.mod_lt i (by decide)
   have e4:(i:Int)%4=((i%4:Nat):Int):=by omega
   refine⟨pp,_,rfl,SqT.of qb,rfl,_,_,rfl,_,_,rfl,rfl,?_⟩
   refine⟨_,rfl,_,rfl,_,_,rfl,rfl,(by decide:(0:Int)<4),l,_,i%4,.int ((Q9 ds i).getD (i%4) 0),rfl,(by show V.int ((i:Int)%4)=_;rw[e4]),hm',?_,_,rfl,_,_,rfl,rfl,l,_,_,i%4,rfl,rfl,hm',fk e4 (by rw[List.length_map];exact h4),_,_,rfl,?_,?_,?_⟩
   ·rw[fi h4,List.getD_eq_getElem?_getD,List.getElem?_eq_getElem h4];rfl
   ·rw[qb,aN,<- eg,mX]
   ·rw[qh ndl];exact sp2 _ _ hd2
   ·exact QQ (sm.trans sp2) hlH
  ·rintro σ H2 ⟨o4,o5,rfl,hm,hd2,sm⟩
   rw[List.length_map]at hm
   refine⟨_,rfl,_,rfl,_,rfl,l,rfl,⟨_,SqL.of hm⟩,zx (xs:=(Q9 ds ds.length).map V.int) (by show 4<=sizeLine;decide) (fun i ys H3=>ys=((ZV ds).take i).map V.int/\H3=H2) ⟨by simp,rfl⟩ (fun i ys H3 ⟨_,e⟩=>by rw[e];exact SqL.of hm) ?_ ?_⟩
   ·rintro i ys H3 x hx _ ⟨rfl,rfl⟩
    obtain⟨y,rfl,hy⟩:=Qk hx
    refine⟨_,rfl,_,_,rfl,rfl,(by decide:(0:Int)<16),?_,rfl⟩
    have:(ZV ds)[i]? =some (y%16):=by unfold ZV;rw[List.getElem?_map,hy];rfl
    rw[List.take_add_one,this];simp
   ·rintro ys H3 hyl ⟨rfl,rfl⟩ p hp
    rw[show(ZV ds).take ((Q9 ds ds.length).map V.int).length=ZV ds from rfl]
    have su:=Same.upd (o:= .lst ((ZV ds).map V.int)) hp
    exact⟨a,b,p,t,ks,ZV ds,rfl,(ha.same sm).same su,(hb.same sm).same su,.lst qb,lt,by rw[iq];decide,by rw[iq];decide,fun p' H' s' hn' hp'=>q p' H' ((sm.trans su).trans s') (zZ hn' (sm.trans su)) hp'⟩
theorem eB(a:At K mg "count_digits" Q4 ["count"])(T:Txt K mg tk):Df P w K mg base "count_digits" ["count"] 1 tJ:=by
 refine a.dq eA (fun vs H Q E h=>?_) (fun f cdv A outer s H vs Q E hr h=>?_)
 ·obtain⟨c,rfl,_⟩:=h
  rfl
 ·obtain⟨c,rfl,q⟩:=h
  refine⟨_,(qg (qp (qA (qd (qm ze (qv 0) (za (v:= .int 16) rfl T.g_DIGITS ⟨_,rfl⟩)) (qd (qm ze (qm Q5 (qv 0) (za (v:= .int 16) rfl T.g_DIGITS ⟨_,rfl⟩)) (za (v:= .int 16) rfl T.g_DIGITS ⟨_,rfl⟩)) (qd (qm Q5 (qv 0) qf) qc)))))),?_⟩
  exact⟨_,rfl,_,_,rfl,rfl,(by decide:(0:Int)<16),_,rfl,_,_,rfl,rfl,⟨by decide,by decide⟩,_,_,rfl,rfl,(by decide:(0:Int)<16),_,rfl,_,_,rfl,rfl,⟨by decide,by decide⟩,by show 3<=sizeLine;decide,fun p hp=>q p _ (Same.upd hp) qb⟩
theorem jK{c d:Int}(h0:0<=c)(h1:c<4096)(hd:ZO d):∀z∈zn c d,0<=z/\z<=1000000:=fun z hz=>by
 have:=cL h0 h1 hd z (List.mem_append_left _ hz)
 exact⟨this.1,Int.le_trans (Int.le_of_lt this.2) (by decide)⟩
theorem jw(a:At K mg "press_of" aE ["table","key","name","age","count","deed"])(T:Txt K mg tk)(xD:Df P w K mg base "count_digits" ["count"] 1 tJ)(dI:Df P w K mg base "key_of" ["table","key","name"] 2 (bP K))(dP:Df P w K mg base "coded" ["table","key","digits"] 1 (bN K)):Df P w K mg base "press_of" ["table","key","name","age","count","deed"] 3 (jO K):=by
 refine a.dq sc_press_of (fun vs H Q E h=>?_) (fun f cdv A outer s H vs Q E hr h=>?_)
 ·obtain⟨a,b,z,age,c,d,t,ks,rfl,_⟩:=h
  rfl
 ·obtain⟨a,b,z,age,c,d,t,ks,rfl,ha,hb,hz,lt,c0,c1,hd,q⟩:=h
  refine⟨_,(qe (qy (i:=6) sc_press_of.nd rfl (Or.inl rfl) (qm bI (qo xD hr.mo (qd (qv 4) qc)) (qA (qd (qv 5) qc))))
   (qe (qy (i:=7) sc_press_of.nd rfl (Or.inl rfl) (qm bI (qv 6) (qA (qd (qm ze (qr (fV rfl) (by rfl) T.b_sum PyProof.Rows.boot_sum (qd (qv 6) qc)) (za (v:= .int 16) rfl T.g_DIGITS ⟨_,rfl⟩)) qc))))
   (qg (qp (qA (qd (qv 2) (qd (qv 3) (qd (qo dP hr.mo (qd (qv 0) (qd (qo dI hr.mo (qd (qv 0) (qd (qv 1) (qd (qv 2) qc)))) (qd (qv 7) qc)))) qc)))))))),?_⟩
  refine⟨_,rfl,c,rfl,fun p1 H1 s1 hp1=>?_⟩
  refine⟨_,rfl,by show 1<=sizeLine;decide,fun p2 hp2=>?_⟩
  have u2:=Same.upd (o:= .tup [V.int d]) hp2
  refine⟨p1,p2,_,_,rfl,rfl,u2 _ _ hp1,qb,by show 4<=sizeLine;decide,fun p3 H3 s3 hp3=>?_⟩
  have hp3':H3 p3=some (.tup ((zn c d).map V.int)):=hp3
  have S3:=(s1.trans u2).trans s3
  refine⟨_,rfl,_,rfl,p3,zn c d,rfl,.tup hp3',by show 4<=1000;decide,jK c0 c1 hd,_,_,rfl,rfl,(by decide:(0:Int)<16),by show 1<=sizeLine;decide,fun p4 hp4=>?_⟩
  have u4:=Same.upd (o:= .tup [V.int ((zn c d).sum%16)]) hp4
  refine⟨p3,p4,_,_,rfl,rfl,u4 _ _ hp3',qb,by show 5<=sizeLine;decide,fun p5 H5 s5 hp5=>?_⟩
  have hp5':H5 p5=some (.tup ((Zo c d).map V.int)):=hp5
  have S5:=(S3.trans u4).trans s5
  refine⟨_,rfl,_,rfl,_,rfl,_,rfl,_,rfl,_,rfl,a,b,z,t,ks,rfl,ha.same S5,hb.same S5,hz,lt,fun pk H6 s6 _ hpk=>?_⟩
  refine⟨_,rfl,a,pk,p5,t,ZU t ks z,Zo c d,rfl,(ha.same S5).same s6,.tup hpk,.tup (s6 _ _ hp5'),lt,by rw[au];decide,by rw[au];decide,fun pc H7 s7 _ hpc=>?_⟩
  refine⟨by show 3<=sizeLine;decide,fun p hp=>?_⟩
  have u8:=Same.upd (o:= .tup [V.str z,.int age,.ref pc]) hp
  exact q p pc _ (((S5.trans s6).trans s7).trans u8) qb (u8 _ _ hpc)
theorem gH(a:At K mg "read_press" ZG ["table","key","press"])(T:Txt K mg tk)(dI:Df P w K mg base "key_of" ["table","key","name"] 2 (bP K))(xY:Df P w K mg base "decoded" ["table","key","digits"] 2 (fU K)):Df P w K mg base "read_press" ["table","key","press"] 3 (hU K):=by
 refine a.dq sc_read_press (fun vs H Q E h=>?_) (fun f cdv A outer s H vs Q E hr h=>?_)
 ·obtain⟨a,b,pr,pc,z,age,t,ks,ds,rfl,_⟩:=h
  rfl
 ·obtain⟨a,b,pr,pc,z,age,t,ks,ds,rfl,ha,hb,hpr,hpc,hz,pm,l5,hdd,q⟩:=h
  refine⟨_,(qe (zf (qv 2) (Zc rfl (qu (qj (i:=3) sc_read_press.nd rfl (Or.inl rfl)) (qu (qj (i:=4) sc_read_press.nd rfl (Or.inl rfl)) (qu (qj (i:=5) sc_read_press.nd rfl (Or.inl rfl)) zm)))))
   (qe (zf (qo xY hr.mo (qd (qv 0) (qd (qo dI hr.mo (qd (qv 0) (qd (qv 1) (qd (qv 3) qc)))) (qd (qv 5) qc)))) (Zv rfl (qu (qj (i:=6) sc_read_press.nd rfl (Or.inl rfl)) (qu (qj (i:=7) sc_read_press.nd rfl (Or.inl rfl)) (qu (qj (i:=8) sc_read_press.nd rfl (Or.inl rfl)) (qu (qj (i:=9) sc_read_press.nd rfl (Or.inl rfl)) (qu (qj (i:=10) sc_read_press.nd rfl (Or.inl rfl)) zm)))))))
   (qe (qK (qz cW (qv 10) (qm ze (qm qH (qm qH (qm qH (qv 6) (qv 7)) (qv 8)) (qv 9)) (za (v:= .int 16) rfl T.g_DIGITS ⟨_,rfl⟩)) (qx _)) (qg (qp zS)) qE)
   (qg (qp (qA (qd (qm qH (qm qH (qv 6) (qm Qg (qv 7) (za (v:= .int 16) rfl T.g_DIGITS ⟨_,rfl⟩))) (qm Qg (qv 8) qf)) (qd (qv 9) qc)))))))),?_⟩
  refine⟨_,rfl,pr,_,rfl,hpr,rfl,_,_,rfl,_,_,rfl,_,_,rfl,rfl,?_⟩
  refine⟨_,rfl,_,rfl,_,rfl,_,rfl,a,b,z,t,ks,rfl,ha,hb,hz,eU pm,fun pk H1 s1 _ hpk=>?_⟩
  refine⟨_,rfl,a,pk,pc,t,ZU t ks z,ds,rfl,ha.same s1,.tup hpk,hpc.same s1,pm,hdd,by omega,by omega,fun pd H2 s2 _ hpd=>?_⟩
  have q':∀x H',Same H2 H'->bw H' x (db (QD (zi t) (ZU t ks z) ds))->Q x H':=fun x H' s' ht=>q x H' ((s1.trans s2).trans s') ht
  have hl:(QD (zi t) (ZU t ks z) ds).length=5:=by rw[cM,l5]
  obtain⟨lo,mi,hi,de,ck,er⟩:=sj hl
  rw[er]at hpd q'
  refine⟨pd,_,rfl,SqT.of hpd,rfl,_,_,rfl,_,_,rfl,_,_,rfl,_,_,rfl,_,_,rfl,rfl,?_⟩
  refine⟨_,rfl,_,rfl,_,rfl,_,_,rfl,rfl,_,rfl,_,_,rfl,rfl,_,rfl,_,_,rfl,rfl,_,_,rfl,rfl,(by decide:(0:Int)<16),rfl,_,rfl,?_⟩
  have q2:∀x H',Same H2 H'->bw H' x (if ck=(lo+mi+hi+de)%16 then some (lo+mi*16+hi*256,de)else none)->Q x H':=q'
  by_cases e:ck=(lo+mi+hi+de)%16
  ·rw[if_pos e]at q2
   refine bJ (c:=V.int ck=V.int ((lo+mi+hi+de)%16)) (by rw[e]) ?_
   refine⟨_,rfl,_,rfl,_,_,rfl,rfl,.inr ⟨by decide,by decide⟩,_,_,rfl,rfl,_,rfl,_,_,rfl,rfl,.inr ⟨by decide,by decide⟩,_,_,rfl,rfl,_,rfl,by show 2<=sizeLine;decide,fun p hp=>?_⟩
   exact q2 _ _ (Same.upd hp) ⟨p,rfl,qb⟩
  ·rw[if_neg e]at q2
   refine qL (fun _=>q2 _ _ (Same.refl _) rfl) (fun y=>absurd ?_ y)
   have:¬V.int ck=V.int ((lo+mi+hi+de)%16):=fun w'=>e (by injection w')
   show(!decide (V.int ck=V.int ((lo+mi+hi+de)%16)))=true
   rw[decide_eq_false this];rfl
end
section
variable{P:Program}{w:World}{K:Frag}{mg:Str->Option Value}{base:Heap}{tk:Nat->Tok}
theorem cp(a:At K mg "_law_same" aK ["_law_found","_law_due"])(T:Txt K mg tk):∀n:Nat,n<=8->Df P w K mg base "_law_same" ["_law_found","_law_due"] (n+1) (vc n)
 |0,_=>by
  refine a.dq cr (fun vs H Q E h=>?_) (fun f cdv A outer s H vs Q E hr h=>?_)
  ·obtain⟨x,y,rfl,_⟩:=h
   rfl
  ·obtain⟨x,y,rfl,e,q⟩:=h
   refine⟨_,(qe (qK (zG (qr fT (by rfl) T.b_isinstance PyProof.Rows.boot_isinstance (qd (qv 1) (qd (qA (qd (qS (v:= .ty "list") rfl T.b_list PyProof.Rows.boot_list rfl) (qd (qS (v:= .ty "tuple") rfl T.b_tuple PyProof.Rows.boot_tuple rfl) qc))) qc)))) Zb qE)
   (qe (qK (QW.pt (QX (qz Z8 (qv 1) zS (qx _)) (QR (zG (qr qT (by rfl) T.b_isinstance PyProof.Rows.boot_isinstance (qd (qv 1) (qd (qS (v:= .ty "str") rfl T.b_str PyProof.Rows.boot_str rfl) qc))))))) (qg (qp (zT (zz zj (qv 0) (qv 1) (qx _)) (Qh (zz zj (qr qT (by rfl) T.b_isinstance PyProof.Rows.boot_isinstance (qd (qv 0) (qd (qS (v:= .ty "str") rfl T.b_str PyProof.Rows.boot_str rfl) qc))) (qr qT (by rfl) T.b_isinstance PyProof.Rows.boot_isinstance (qd (qv 1) (qd (qS (v:= .ty "str") rfl T.b_str PyProof.Rows.boot_str rfl) qc))) (qx _)))))) qE)
   (qg (qp (zT (qr qT (by rfl) T.b_isinstance PyProof.Rows.boot_isinstance (qd (qv 0) (qd (qS (v:= .ty "int") rfl T.b_int PyProof.Rows.boot_int rfl) qc))) (zT (gS (qr qT (by rfl) T.b_isinstance PyProof.Rows.boot_isinstance (qd (qv 0) (qd (qS (v:= .ty "bool") rfl T.b_bool PyProof.Rows.boot_bool rfl) qc)))) (Qh (zz zj (qv 0) (qv 1) (qx _))))))))),?_⟩
   cases e with
   |int _ i=>
    refine⟨_,rfl,by show 2<=sizeLine;decide,fun p hp=>⟨_,p,["list","tuple"],"int",rfl,qb,.int i,by simp,_,rfl,?_⟩⟩
    rw[show(["list","tuple"].any (zk "int"))=false from by decide]
    refine zg ⟨_,rfl,rfl,_,rfl,?_⟩
    refine qL (fun z=>nomatch (of_decide_eq_true z)) (fun _=>⟨_,rfl,_,"str","int",rfl,.int i,by simp,_,rfl,?_⟩)
    rw[show zk "int" "str"=false from by decide]
    refine zg ⟨_,rfl,_,"int","int",rfl,.int i,by simp,_,rfl,?_⟩
    rw[show zk "int" "int"=true from by decide]
    refine zM ⟨_,rfl,_,"bool","int",rfl,.int i,by simp,_,rfl,?_⟩
    rw[show zk "int" "bool"=false from by decide]
    refine⟨_,rfl,zM ⟨_,rfl,_,rfl,rfl,?_⟩⟩
    rw[decide_eq_true rfl]
    exact q _ (Same.upd hp)
   |str _ z=>
    refine⟨_,rfl,by show 2<=sizeLine;decide,fun p hp=>⟨_,p,["list","tuple"],"str",rfl,qb,.str z,by simp,_,rfl,?_⟩⟩
    rw[show(["list","tuple"].any (zk "str"))=false from by decide]
    refine zg ⟨_,rfl,rfl,_,rfl,?_⟩
    refine qL (fun z=>nomatch (of_decide_eq_true z)) (fun _=>⟨_,rfl,_,"str","str",rfl,.str z,by simp,_,rfl,?_⟩)
    rw[show zk "str" "str"=true from by decide]
    refine zM ⟨_,rfl,_,rfl,rfl,_,rfl,?_⟩
    refine qL (fun _=>?_) (fun y=>absurd (decide_eq_true rfl) y)
    refine⟨_,rfl,_,"str","str",rfl,.str z,by simp,_,rfl,_,"str","str",rfl,.str z,by simp,rfl,?_⟩
    rw[decide_eq_true rfl]
    exact q _ (Same.upd hp)
   |non _=>
    refine⟨_,rfl,by show 2<=sizeLine;decide,fun p hp=>⟨_,p,["list","tuple"],"NoneType",rfl,qb,.non,by simp,_,rfl,?_⟩⟩
    rw[show(["list","tuple"].any (zk "NoneType"))=false from by decide]
    refine zg ⟨_,rfl,rfl,_,rfl,?_⟩
    refine qL (fun _=>⟨_,rfl,_,rfl,rfl,_,rfl,?_⟩) (fun z=>absurd (decide_eq_true rfl) z)
    refine qL (fun _=>?_) (fun y=>absurd (decide_eq_true rfl) y)
    refine⟨_,rfl,_,"str","NoneType",rfl,.non,by simp,_,rfl,_,"str","NoneType",rfl,.non,by simp,rfl,?_⟩
    rw[decide_eq_true rfl]
    exact q _ (Same.upd hp)
 |n+1,hn=>by
  have xA:=cp a T n (by omega)
  refine a.dq cr (fun vs H Q E h=>?_) (fun f cdv A outer s H vs Q E hr h=>?_)
  ·obtain⟨x,y,rfl,_⟩:=h
   rfl
  ·obtain⟨x,y,rfl,e,q⟩:=h
   refine⟨_,(qe (qK (zG (qr fT (by rfl) T.b_isinstance PyProof.Rows.boot_isinstance (qd (qv 1) (qd (qA (qd (qS (v:= .ty "list") rfl T.b_list PyProof.Rows.boot_list rfl) (qd (qS (v:= .ty "tuple") rfl T.b_tuple PyProof.Rows.boot_tuple rfl) qc))) qc)))) (qe (qK (QW.pt (QX (qz cW (qr qT (by rfl) T.b_isinstance PyProof.Rows.boot_isinstance (qd (qv 0) (qd (qS (v:= .ty "list") rfl T.b_list PyProof.Rows.boot_list rfl) qc))) (qr qT (by rfl) T.b_isinstance PyProof.Rows.boot_isinstance (qd (qv 1) (qd (qS (v:= .ty "list") rfl T.b_list PyProof.Rows.boot_list rfl) qc))) (qx _)) (QR (qz cW (qr qT (by rfl) T.b_isinstance PyProof.Rows.boot_isinstance (qd (qv 0) (qd (qS (v:= .ty "tuple") rfl T.b_tuple PyProof.Rows.boot_tuple rfl) qc))) (qr qT (by rfl) T.b_isinstance PyProof.Rows.boot_isinstance (qd (qv 1) (qd (qS (v:= .ty "tuple") rfl T.b_tuple PyProof.Rows.boot_tuple rfl) qc))) (qx _))))) (qg (qp al)) qE)
   (qg (qp (zT (zz zj (qr qO (by rfl) T.b_len PySem.boot_len (qd (qv 0) qc)) (qr qO (by rfl) T.b_len PySem.boot_len (qd (qv 1) qc)) (qx _)) (Qh (qr (bG rfl) (by rfl) T.b_all PyProof.Rows.boot_all (qd (q8 (own:=["_law_one","_law_other"]) (fr:=[]) (js:=[]) rfl (uo rfl T.b_zip (qd (qv 0) (qd (qv 1) qc))) rfl (fun _ _ h=>nomatch h) rfl (aY rfl (by decide +kernel) (by decide +kernel) (by decide +kernel)) (fun _ _ _ _=>rJ (K:=K) rfl 2 rfl (qu (qj (i:=0) (show List.Nodup (["_law_one","_law_other"]:List Str)from by decide +kernel) rfl (Or.inl rfl) (.inr rfl)) (qu (qj (i:=1) (show List.Nodup (["_law_one","_law_other"]:List Str)from by decide +kernel) rfl (Or.inl rfl) (.inr rfl)) zm))) (fun _ _ _ _=>(qo xA hr.mo (qd (qv 0) (qd (qv 1) qc))))) qc))))))) qE)
   (qe (qK (QW.pt (QX (qz Z8 (qv 1) zS (qx _)) (QR (zG (qr qT (by rfl) T.b_isinstance PyProof.Rows.boot_isinstance (qd (qv 1) (qd (qS (v:= .ty "str") rfl T.b_str PyProof.Rows.boot_str rfl) qc))))))) (qg (qp (zT (zz zj (qv 0) (qv 1) (qx _)) (Qh (zz zj (qr qT (by rfl) T.b_isinstance PyProof.Rows.boot_isinstance (qd (qv 0) (qd (qS (v:= .ty "str") rfl T.b_str PyProof.Rows.boot_str rfl) qc))) (qr qT (by rfl) T.b_isinstance PyProof.Rows.boot_isinstance (qd (qv 1) (qd (qS (v:= .ty "str") rfl T.b_str PyProof.Rows.boot_str rfl) qc))) (qx _)))))) qE)
   (qg (qp (zT (qr qT (by rfl) T.b_isinstance PyProof.Rows.boot_isinstance (qd (qv 0) (qd (qS (v:= .ty "int") rfl T.b_int PyProof.Rows.boot_int rfl) qc))) (zT (gS (qr qT (by rfl) T.b_isinstance PyProof.Rows.boot_isinstance (qd (qv 0) (qd (qS (v:= .ty "bool") rfl T.b_bool PyProof.Rows.boot_bool rfl) qc)))) (Qh (zz zj (qv 0) (qv 1) (qx _))))))))),?_⟩
   cases e with
   |int _ i=>
    refine⟨_,rfl,by show 2<=sizeLine;decide,fun p hp=>⟨_,p,["list","tuple"],"int",rfl,qb,.int i,by simp,_,rfl,?_⟩⟩
    rw[show(["list","tuple"].any (zk "int"))=false from by decide]
    refine zg ⟨_,rfl,rfl,_,rfl,?_⟩
    refine qL (fun z=>nomatch (of_decide_eq_true z)) (fun _=>⟨_,rfl,_,"str","int",rfl,.int i,by simp,_,rfl,?_⟩)
    rw[show zk "int" "str"=false from by decide]
    refine zg ⟨_,rfl,_,"int","int",rfl,.int i,by simp,_,rfl,?_⟩
    rw[show zk "int" "int"=true from by decide]
    refine zM ⟨_,rfl,_,"bool","int",rfl,.int i,by simp,_,rfl,?_⟩
    rw[show zk "int" "bool"=false from by decide]
    refine⟨_,rfl,zM ⟨_,rfl,_,rfl,rfl,?_⟩⟩
    rw[decide_eq_true rfl]
    exact q _ (Same.upd hp)
   |str _ z=>
    refine⟨_,rfl,by show 2<=sizeLine;decide,fun p hp=>⟨_,p,["list","tuple"],"str",rfl,qb,.str z,by simp,_,rfl,?_⟩⟩
    rw[show(["list","tuple"].any (zk "str"))=false from by decide]
    refine zg ⟨_,rfl,rfl,_,rfl,?_⟩
    refine qL (fun z=>nomatch (of_decide_eq_true z)) (fun _=>⟨_,rfl,_,"str","str",rfl,.str z,by simp,_,rfl,?_⟩)
    rw[show zk "str" "str"=true from by decide]
    refine zM ⟨_,rfl,_,rfl,rfl,_,rfl,?_⟩
    refine qL (fun _=>?_) (fun y=>absurd (decide_eq_true rfl) y)
    refine⟨_,rfl,_,"str","str",rfl,.str z,by simp,_,rfl,_,"str","str",rfl,.str z,by simp,rfl,?_⟩
    rw[decide_eq_true rfl]
    exact q _ (Same.upd hp)
   |non _=>
    refine⟨_,rfl,by show 2<=sizeLine;decide,fun p hp=>⟨_,p,["list","tuple"],"NoneType",rfl,qb,.non,by simp,_,rfl,?_⟩⟩
    rw[show(["list","tuple"].any (zk "NoneType"))=false from by decide]
    refine zg ⟨_,rfl,rfl,_,rfl,?_⟩
    refine qL (fun _=>⟨_,rfl,_,rfl,rfl,_,rfl,?_⟩) (fun z=>absurd (decide_eq_true rfl) z)
    refine qL (fun _=>?_) (fun y=>absurd (decide_eq_true rfl) y)
    refine⟨_,rfl,_,"str","NoneType",rfl,.non,by simp,_,rfl,_,"str","NoneType",rfl,.non,by simp,rfl,?_⟩
    rw[decide_eq_true rfl]
    exact q _ (Same.upd hp)
   | @tup _ c d xs ys h1 h2 hl hz hi=>
    refine⟨_,rfl,by show 2<=sizeLine;decide,fun p hp=>⟨_,p,["list","tuple"],"tuple",rfl,qb,.tup (Rd.same (Same.upd hp) h2),by simp,_,rfl,?_⟩⟩
    rw[show(["list","tuple"].any (zk "tuple"))=true from by decide]
    have s1:Same H _:=Same.upd (o:= .tup (["list","tuple"].map V.ty)) hp
    have k1:=Rd.same s1 h1
    have k2:=Rd.same s1 h2
    refine zM ⟨_,rfl,_,"list","tuple",rfl,.tup k1,by simp,_,rfl,_,"list","tuple",rfl,.tup k2,by simp,rfl,_,rfl,?_⟩
    refine bJ rfl ⟨_,rfl,_,"tuple","tuple",rfl,.tup k1,by simp,_,rfl,_,"tuple","tuple",rfl,.tup k2,by simp,rfl,_,rfl,?_⟩
    refine bJ rfl ?_
    refine⟨_,rfl,c,_,rfl,.inr (.inl k1),_,rfl,d,_,rfl,.inr (.inl k2),rfl,_,rfl,?_⟩
    refine qL (fun _=>?_) (fun z=>absurd (decide_eq_true (by rw[hl])) z)
    refine⟨_,rfl,_,rfl,c,d,xs,ys,rfl,k1,k2,pv hl hz (fun i zs H2=>zs=(List.replicate i true).map V.bl/\Same H H2) ⟨rfl,s1⟩ (fun i zs H2 ⟨_,s2⟩=>⟨Rd.same s2 h1,Rd.same s2 h2⟩) ?_ ?_⟩
    ·rintro i zs H2 pp x y hx hy hzl ⟨rfl,s2⟩ hpp
     have s3:=s2.trans (Same.upd (o:= .tup [x,y]) hpp)
     refine⟨_,rfl,_,rfl,x,y,rfl,(hi i x y hx hy).same s3,fun H4 s4=>⟨?_,s3.trans s4⟩⟩
     rw[List.replicate_succ',List.map_append];rfl
    ·rintro zs H2 hzl ⟨rfl,s2⟩ p2 hp2
     refine⟨p2,_,rfl,SqL.of qb,?_⟩
     rw[show(List.replicate xs.length true).all id=true from by simp]
     exact q _ (s2.trans (Same.upd hp2))
end
section
variable{P:Program}{w:World}{K:Frag}{mg:Str->Option Value}{base:Heap}{tk:Nat->Tok}
theorem jf(a:At K mg "_law_told" aG ["_law_known"])(T:Txt K mg tk):Df P w K mg base "_law_told" ["_law_known"] 1 iT:=by
 refine a.dq jk (fun vs H Q E h=>?_) (fun f cdv A outer s H vs Q E hr h=>?_)
 ·obtain⟨_,_,rfl,_⟩:=h
  rfl
 ·obtain⟨kd,kn,rfl,b,hl,q⟩:=h
  obtain⟨fn,hd,hbu,hpm,nd⟩:=id b
  refine⟨_,(qg (qp (qD qJ (by rfl) T.b_tuple PyProof.Rows.boot_tuple (qd (q8 (own:=["_law_name"]) (fr:=["_law_known"]) (js:=[0]) rfl (zq (qr (bB rfl) (by rfl) T.b_sorted PyProof.Rows.boot_sorted (qd (qv 0) qc))) rfl (aL rfl) rfl (aA rfl (by decide +kernel) (by decide +kernel) (by decide +kernel) rfl rfl rfl) (fun _ _ _ _=>qj (i:=0) (show List.Nodup (["_law_name","_law_known"]:List Str)from by decide +kernel) rfl (Or.inl rfl) (.inr rfl)) (fun _ _ _ _=>(qm bI (qA (qd (qv 0) qc)) (qD (fq (K:=K) rfl) (by rfl) T.b_tuple PyProof.Rows.boot_tuple (qd (qw hr (qv 1) (qv 0)) qc))))) qc)))),?_⟩
  refine⟨_,rfl,kd,_,fn.1.map (·.1),rfl,hd,fy _ _,by rw[List.length_map,hpm.length_eq];omega,fun l ss hl' pm0 so=>⟨l,rfl,⟨_,SqL.of qb⟩,?_⟩⟩
  have pm:=pm0.trans (hpm.map (·.1))
  have u1:=Same.upd (o:= .lst (ss.map V.str)) hl'
  have ls:ss.length<=60:=by rw[pm.length_eq,List.length_map];exact hl
  refine zx (K:=K) (xs:=ss.map V.str) (by rw[List.length_map,sizeLine_eq];omega) (fun i ys H3=>Same (upd H l (.lst (ss.map V.str))) H3/\∃as:List Addr,ys=as.map V.ref/\as.length=i/\∀(j:Nat) (x:Addr) (nm:Str) (e:Kb),as[j]? =some x->ss[j]? =some nm->kn.lookup nm=some e->∃v,H3 x=some (.tup [.str nm,.int e.age,.int e.last,v])/\Wt H3 v e.wt) ⟨Same.refl _,[],rfl,rfl,fun j x nm e h=>by(cases h)⟩ (fun i ys H3 ⟨s3,_⟩=>s3.seq (SqL.of qb)) ?_ ?_
  ·rintro i ys H3 x hx hyl ⟨s3,as,rfl,hal,has⟩
   rw[List.getElem?_map]at hx
   cases es:ss[i]? with
   |none=>rw[es]at hx;cases hx
   |some nm=>
    rw[es]at hx
    obtain rfl:V.str nm=x:=Option.some.inj hx
    have hmem:nm∈kn.map (·.1):=pm.mem_iff.mp (List.mem_of_getElem? es)
    obtain⟨e,he⟩:=zE hmem
    refine⟨_,rfl,by show 1<=sizeLine;decide,fun t ht=>?_⟩
    have u4:=Same.upd (o:= .tup [.str nm]) ht
    have b4:KlAt _ kd kn:=KlAt.same (KlAt.same (KlAt.same b u1) s3) u4
    obtain⟨e',x0,he',g,v0,hx0,hw0⟩:=(b4.get nm).resolve_left (fun z=>by rw[he]at z;cases z.1)
    rw[he]at he'
    cases he'
    refine⟨_,rfl,_,rfl,kd,_,rfl,g,x0,_,rfl,.inl ⟨SqL.of hx0,fun t2 ht2=>?_⟩⟩
    have u5:=Same.upd (o:= .tup [.int e.age,.int e.last,v0]) ht2
    refine⟨t,t2,_,_,rfl,rfl,u5 _ _ qb,qb,by show 4<=sizeLine;decide,fun q1 H5 s5 hq1=>?_⟩
    have S5:=u4.trans (u5.trans s5)
    refine⟨s3.trans S5,as++[q1],by simp,by simp [hal],fun j y m2 e2 h1 h2 h3=>?_⟩
    rw[List.getElem?_append]at h1
    split at h1
    ·obtain⟨v,a1,a2⟩:=has j y m2 e2 h1 h2 h3
     exact⟨v,S5 _ _ a1,a2.mv (S:=[]) S5.mv (fun c h=>nomatch h)⟩
    ·have hj:j-as.length=0:=by
      cases hj:j-as.length with
      |zero=>rfl
      |succ k=>rw[hj]at h1;cases h1
     rw[hj]at h1
     cases h1
     obtain rfl:j=i:=by omega
     rw[es]at h2
     cases h2
     rw[he]at h3
     cases h3
     exact⟨v0,hq1,hw0.mv (S:=[]) (u5.trans s5).mv (fun c h=>nomatch h)⟩
  ·rintro ys H3 hyl ⟨s3,as,rfl,hal,has⟩ l2 hl2
   have u4:=Same.upd (o:= .lst (as.map V.ref)) hl2
   refine⟨l2,_,rfl,.inl ⟨SqL.of qb,fun q1 hq1=>?_⟩⟩
   have u5:=Same.upd (o:= .tup (as.map V.ref)) hq1
   have S:=u4.trans u5
   refine q q1 ss _ ((u1.trans s3).trans S) pm so ⟨as,qb,by rw[hal,List.length_map],fun j x nm e h1 h2 h3=>?_⟩
   obtain⟨v,a1,a2⟩:=has j x nm e h1 h2 h3
   exact⟨v,S _ _ a1,a2.mv (S:=[]) S.mv (fun c h=>nomatch h)⟩
theorem gE(a:At K mg "_law_answer" Zu ["_law_world_here","_law_known","_law_spec"])(T:Txt K mg tk):Df P w K mg base "_law_answer" ["_law_world_here","_law_known","_law_spec"] 1 (c7 K):=by
 refine a.dq sc_law_answer (fun vs H Q E h=>?_) (fun f cdv A outer s H vs Q E hr h=>?_)
 ·obtain⟨_,_,_,_,_,_,_,rfl,_⟩:=h
  rfl
 ·obtain⟨wa,kd,sp,D,ns,kn,⟨nm,age,c,d,ft⟩,rfl,wk,wo,kb,hl,nkm,hs,so,q⟩:=h
  refine⟨_,(qe (zf (qv 2) (Zv rfl (qu (qj (i:=3) sc_law_answer.nd rfl (Or.inl rfl)) (qu (qj (i:=4) sc_law_answer.nd rfl (Or.inl rfl)) (qu (qj (i:=5) sc_law_answer.nd rfl (Or.inl rfl)) (qu (qj (i:=6) sc_law_answer.nd rfl (Or.inl rfl)) (qu (qj (i:=7) sc_law_answer.nd rfl (Or.inl rfl)) zm)))))))
   (qe (qK (mF hr (qv 3) (qv 1)) (qg (qp (qA (qd qk (qd qk qc))))) qE)
   (qe (qK (QW.pt (QX (qz bK (qv 7) qf (qx _)) (QX (qz dz (qv 4) (qw hr (qv 0) qk) (qx _)) (QR (qz dz (qv 4) (qI qG (qw hr (qv 1) (qv 3)) qf (fun _ _=>rfl)) (qx _)))))) (qg (qp (qA (qd qk (qd qk qc))))) qE)
   (qe (qK (qz zj (qv 7) qf (qx _)) (qg (qp (qA (qd qk (qd qk qc))))) qE)
   (qe (qy (i:=8) sc_law_answer.nd rfl (Or.inl rfl) (qI qG (qw hr (qv 1) (qv 3)) qf (fun _ _=>rfl)))
   (qe (qK (qz ZN (qv 5) (qv 8) (qx _)) (qg (qp (qA (qd qk (qd qk qc))))) qE)
   (qe (qK (qz bK (qv 5) (qm qH (qv 8) (qw hr (qv 0) qk)) (qx _)) (qg (qp (qA (qd qk (qd qk qc))))) qE)
   (qe (qK (QW.pt (ae (qz bK (qv 5) (qm qH (qv 8) (qw hr (qv 0) qk)) (qx _)) (ac (qz (uR hr) (qI qG (qw hr (qv 1) (qv 3)) qf (fun _ _=>rfl)) (qA (qd (qv 4) (qd (qm zO (qv 5) qf) qc))) (qx _))))) (qe (zV hr (qv 1) (qv 3) (qR (qd (qI qG (qw hr (qv 1) (qv 3)) qf (fun _ _=>rfl)) (qd (qv 8) (qd (qA (qd (qv 4) (qd (qv 5) qc))) qc)))))
   (qg (qp (qA (qd qk (qd qk qc)))))) qE)
   (qe (zV hr (qv 1) (qv 3) (qR (qd (qv 4) (qd (qv 5) (qd zS qc)))))
   (qg (qp (qA (qd qk (qd (qv 3) (qd (qv 6) qc))))))))))))))),?_⟩
  have okk:DrOk {D with kn:=kn}:=by
   obtain⟨_,_,_,pm,nd⟩:=kb
   exact⟨wo.ok.tp,wo.ok.l0,wo.ok.kl,hl,nd⟩
  have hJ0:qX {D with kn:=kn} (zC D ⟨nm,age,c,d,ft⟩)=qZ {D with kn:=kn} nm (zd D ⟨nm,age,c,d,ft⟩) (if ft=0 then some (c,d)else if ft=1 then none else Qa D.t (zD D (zd D ⟨nm,age,c,d,ft⟩)) nm (zW D.t (ZU D.t (zD D age) nm) (Qc ⟨nm,age,c,d,ft⟩))):=oz (D:={D with kn:=kn}) (s:=⟨nm,age,c,d,ft⟩) ⟨so.nm,so.a0,so.a1,so.c0,so.c1,so.dg,so.f0,so.f1⟩ okk wo.k1
  have f0:0<=ft:=so.f0
  have f3:ft<=3:=so.f1
  have a0:0<=age:=so.a0
  have a1:age<D.kss.length:=so.a1
  refine⟨_,rfl,sp,_,rfl,SqT.of hs,rfl,_,_,rfl,_,_,rfl,_,_,rfl,_,_,rfl,_,_,rfl,rfl,?_⟩
  have held:∀(z:Str),qX {D with kn:=kn} (zC D ⟨nm,age,c,d,ft⟩)=([.str "held",.str z],kn)->∀q1,H q1=none->Q (.ref q1) (upd H q1 (.tup [.str "held",.str z])):=fun z eJ q1 hq1=>by
   rw[eJ]at q
   exact q q1 _ (Same.upd hq1).mv qb (KlAt.same kb (Same.upd hq1))
  rcases kb.get nm with⟨e1,g⟩|⟨e,x,e1,g,v,hx,hw⟩
  ·refine⟨_,rfl,_,rfl,kd,_,rfl,g,_,rfl,zM ?_⟩
   refine⟨by show 2<=sizeLine;decide,fun q1 hq1=>held _ ?_ q1 hq1⟩
   rw[hJ0];unfold qZ;simp only;rw[e1]
  ·refine⟨_,rfl,_,rfl,kd,_,rfl,g,_,rfl,zg ?_⟩
   have hage:∀r,zL {D with kn:=kn} e (zd D ⟨nm,age,c,d,ft⟩)=false->qZ {D with kn:=kn} nm (zd D ⟨nm,age,c,d,ft⟩) r=([.str "held",.str "age"],kn):=fun r ht=>by
    unfold qZ;simp only;rw[e1];simp only;rw[ht];rfl
   have bad1:ft<=1->zd D ⟨nm,age,c,d,ft⟩=age:=fun h=>by unfold zd;rw[if_pos h]
   refine kj (fun bb H'=>H'=H/\bb=(decide (ft>1)||(decide (age<D.least)||decide (age<e.age)))) (fun Q' hQ=>?_) (fun H' ⟨eH,ht⟩=>?_) (fun H' ⟨eH,ht⟩=>?_)
   ·refine⟨_,rfl,_,_,rfl,rfl,_,rfl,?_⟩
    refine qL (fun y=>hQ _ _ ⟨rfl,by rw[y];rfl⟩) (fun y=>?_)
    refine⟨_,rfl,_,rfl,wa.m,_,rfl,wk.g_shut,_,_,rfl,rfl,_,rfl,?_⟩
    refine qL (fun z=>hQ _ _ ⟨rfl,by rw[Bool.eq_false_iff.mpr y,z];rfl⟩) (fun z=>?_)
    exact⟨_,rfl,_,rfl,_,rfl,kd,_,rfl,g,x,_,_,_,rfl,rfl,SqL.of hx,rfl,_,_,rfl,rfl,_,rfl,hQ _ _ ⟨rfl,by rw[Bool.eq_false_iff.mpr y,Bool.eq_false_iff.mpr z];rfl⟩⟩
   ·subst eH
    refine⟨by show 2<=sizeLine;decide,fun q1 hq1=>held _ ?_ q1 hq1⟩
    rw[hJ0]
    refine hage _ ?_
    by_cases hf:ft>1
    ·unfold zL
     rw[show zN {D with kn:=kn} (zd D ⟨nm,age,c,d,ft⟩)=zN D (zd D ⟨nm,age,c,d,ft⟩)from rfl,tF so hf wo.ok.kl wo.k1 wo.ok.l0];rfl
    ·rw[bad1 (by omega)]
     rw[decide_eq_false hf,Bool.false_or]at ht
     unfold zL zN
     rcases Bool.or_eq_true_iff.mp ht.symm with h|h
     ·rw[decide_eq_false (show¬D.least<=age by have:=of_decide_eq_true h;omega)];rfl
     ·rw[decide_eq_false (show¬e.age<=age by have:=of_decide_eq_true h;omega),Bool.and_false]
   ·subst eH
    have ht:=ht.symm
    rw[Bool.or_eq_false_iff,Bool.or_eq_false_iff]at ht
    have g1:=of_decide_eq_false ht.1
    have g2:=of_decide_eq_false ht.2.1
    have g3:=of_decide_eq_false ht.2.2
    have eb:=bad1 (by omega)
    rw[eb]at hJ0
    have tb:zL {D with kn:=kn} e age=true:=by unfold zL zN;rw[decide_eq_true (show D.least<=age by omega),decide_eq_true (show age<D.kss.length from a1),decide_eq_true (by omega:e.age<=age)];rfl
    refine⟨_,rfl,rfl,_,rfl,?_⟩
    by_cases hf1:ft=1
    ·refine ZB (decide_eq_true (by rw[hf1])) ?_
     refine⟨by show 2<=sizeLine;decide,fun q1 hq1=>held _ ?_ q1 hq1⟩
     rw[hJ0,if_neg (show¬ft=0 by omega),if_pos hf1];unfold qZ;simp only;rw[e1];simp only;rw[if_pos tb]
    ·have hf0:ft=0:=by omega
     refine aJ (decide_eq_false (by intro z;injection z with z;exact hf1 z)) ?_
     rw[if_pos hf0]at hJ0
     have hJ:qX {D with kn:=kn} (zC D ⟨nm,age,c,d,ft⟩)=if(zB D.near D.far e age c).1="near" then([.str "open",.str nm,.int d],qQ kn nm (zB D.near D.far e age c).2)else([.str "held",.str (zB D.near D.far e age c).1],qQ kn nm (zB D.near D.far e age c).2):=by rw[hJ0];unfold qZ;simp only;rw[e1];simp only;rw[if_pos tb]
     have pself:=ma okk.nd e1
     have nold:¬(("old":Str)="near"):=by decide +kernel
     have nfar:¬(("far":Str)="near"):=by decide +kernel
     have nbey:¬(("beyond":Str)="near"):=by decide +kernel
     have nf:=wo.nf
     unfold zB at hJ
     refine⟨_,rfl,_,rfl,kd,_,rfl,g,x,_,_,_,rfl,rfl,SqL.of hx,rfl,?_⟩
     refine⟨_,rfl,_,rfl,_,_,rfl,rfl,_,rfl,?_⟩
     by_cases h1:c<=e.last
     ·rw[if_pos h1,if_neg (show¬(("old",e):Str×Kb).1="near" from nold),pself]at hJ
      exact ZB (decide_eq_true h1) ⟨by show 2<=sizeLine;decide,fun q1 hq1=>held _ hJ q1 hq1⟩
     ·rw[if_neg h1]at hJ
      refine aJ (decide_eq_false h1) ?_
      refine⟨_,rfl,_,rfl,_,rfl,wa.m,_,rfl,wk.g_far,_,_,rfl,rfl,_,_,rfl,rfl,_,rfl,?_⟩
      by_cases h2:c>e.last+D.far
      ·rw[if_neg (show¬c<=e.last+D.near by omega),if_neg (show¬c<=e.last+D.far by omega),if_neg (show¬(("beyond",e):Str×Kb).1="near" from nbey),pself]at hJ
       exact ZB (decide_eq_true h2) ⟨by show 2<=sizeLine;decide,fun q1 hq1=>held _ hJ q1 hq1⟩
      ·refine aJ (decide_eq_false h2) ?_
       have open_:∀H1,Same H' H1->qX {D with kn:=kn} (zC D ⟨nm,age,c,d,ft⟩)=([.str "open",.str nm,.int d],qQ kn nm ⟨age,c,none⟩)->∀t2,H1 t2=none->∃H3,DPut (upd H1 t2 (.lst [.int age,.int c,.non])) kd (.str nm) (.ref t2) H3/\∀q1,H3 q1=none->Q (.ref q1) (upd H3 q1 (.tup [.str "open",.str nm,.int d])):=fun H1 s1 eJ t2 ht2=>by
        have u2:=Same.upd (o:= .lst [.int age,.int c,.non]) ht2
        obtain⟨H3,dp,m3,kb3⟩:=KlAt.put (KlAt.same (KlAt.same kb s1) u2) nm (a:=t2) (e:=⟨age,c,none⟩) (by omega) ⟨.non,qb,rfl⟩
        refine⟨H3,dp,fun q1 hq1=>?_⟩
        rw[eJ]at q
        exact q q1 _ (((s1.trans u2).mv.trans m3).trans (Same.upd hq1).mv) qb (KlAt.same kb3 (Same.upd hq1))
       refine kj (fun bb Hx=>Same H' Hx/\bb=(decide (c>e.last+D.near)&& !decide (e.wt=some (age,c-1)))) (fun Q' hQ=>?_) (fun H1 ⟨s1,ht⟩=>?_) (fun H1 ⟨s1,ht⟩=>?_)
       ·refine⟨_,rfl,_,rfl,_,rfl,wa.m,_,rfl,wk.g_near,_,_,rfl,rfl,_,_,rfl,rfl,_,rfl,?_⟩
        refine qL (fun y=>?_) (fun y=>hQ _ _ ⟨Same.refl _,by rw[Bool.eq_false_iff.mpr y];rfl⟩)
        refine⟨_,rfl,_,rfl,kd,_,rfl,g,x,_,_,_,rfl,rfl,SqL.of hx,rfl,_,rfl,_,rfl,_,_,rfl,rfl,by show 2<=sizeLine;decide,fun t0 ht0=>?_⟩
        have u0:=Same.upd (o:= .tup [.int age,.int (c-1)]) ht0
        have hw0:=hw.mv (S:=[]) u0.mv (fun c h=>nomatch h)
        exact⟨e.wt,t0,age,c-1,hw0,rfl,.inl qb,_,rfl,hQ _ _ ⟨u0,by rw[y];rfl⟩⟩
       ·have ht:=ht.symm
        rw[Bool.and_eq_true_iff]at ht
        have h3:=of_decide_eq_true ht.1
        have h4:¬e.wt=some (age,c-1):=fun z=>by have:=ht.2;rw[decide_eq_true z]at this;cases this
        rw[if_neg (show¬c<=e.last+D.near by omega),if_pos (show c<=e.last+D.far by omega),if_neg h4,if_neg (show¬(("far",_):Str×Kb).1="near" from nfar)]at hJ
        obtain⟨e',x',e1',g',v',hx',hw'⟩:=((KlAt.same kb s1).get nm).resolve_left (fun z=>by rw[e1]at z;cases z.1)
        rw[e1]at e1';cases e1'
        refine⟨_,rfl,_,rfl,kd,_,rfl,g',x',_,_,_,rfl,rfl,SqL.of hx',rfl,_,rfl,_,rfl,_,rfl,by show 2<=sizeLine;decide,fun t1 ht1=>?_⟩
        have u1:=Same.upd (o:= .tup [.int age,.int c]) ht1
        refine⟨by show 3<=sizeLine;decide,fun t2 ht2=>?_⟩
        have u2:=Same.upd (o:= .lst [.int e.age,.int e.last,.ref t1]) ht2
        obtain⟨H3,dp,m3,kb3⟩:=KlAt.put (KlAt.same (KlAt.same (KlAt.same kb s1) u1) u2) nm (a:=t2) (e:=⟨e.age,e.last,some (age,c)⟩) (by omega) ⟨.ref t1,qb,t1,rfl,u2 _ _ qb⟩
        refine⟨_,rfl,_,rfl,kd,H3,rfl,dp,?_⟩
        refine⟨by show 2<=sizeLine;decide,fun q1 hq1=>?_⟩
        rw[hJ]at q
        exact q q1 _ (((s1.trans (u1.trans u2)).mv.trans m3).trans (Same.upd hq1).mv) qb (KlAt.same kb3 (Same.upd hq1))
       ·have eJ:qX {D with kn:=kn} (zC D ⟨nm,age,c,d,ft⟩)=([.str "open",.str nm,.int d],qQ kn nm ⟨age,c,none⟩):=by
         have ht:=ht.symm
         rw[Bool.and_eq_false_iff]at ht
         rcases ht with h|h
         ·have h:=of_decide_eq_false h
          rw[if_pos (show c<=e.last+D.near by omega),if_pos rfl]at hJ
          exact hJ
         ·have h:e.wt=some (age,c-1):=of_decide_eq_true (by cases z:decide (e.wt=some (age,c-1))with|true=>rfl|false=>rw[z]at h;cases h)
          by_cases h3:c<=e.last+D.near
          ·rw[if_pos h3,if_pos rfl]at hJ;exact hJ
          ·rw[if_neg h3,if_pos (show c<=e.last+D.far by omega),if_pos h,if_pos rfl]at hJ;exact hJ
        refine⟨_,rfl,_,rfl,by show 3<=sizeLine;decide,fun t2 ht2=>?_⟩
        obtain⟨H3,dp,q3⟩:=open_ H1 s1 eJ t2 ht2
        exact⟨_,rfl,_,rfl,kd,H3,rfl,dp,_,rfl,_,rfl,by show 3<=sizeLine;decide,fun q1 hq1=>q3 q1 hq1⟩
end
section
variable{P:Program}{w:World}{K:Frag}{mg:Str->Option Value}{base:Heap}{tk:Nat->Tok}
theorem jy(a:At K mg "_law_copy" aI ["_law_known"])(T:Txt K mg tk):Df P w K mg base "_law_copy" ["_law_known"] 1 iw:=by
 refine a.dq jh (fun vs H Q E h=>?_) (fun f cdv A outer s H vs Q E hr h=>?_)
 ·obtain⟨_,_,rfl,_⟩:=h
  rfl
 ·obtain⟨kd,kn,rfl,b,hl,q⟩:=h
  obtain⟨f0,ekd,hbu,pm0,nd0⟩:=id b
  refine⟨_,(qg (qp (qD (aC rfl) (by rfl) T.b_dict PyProof.Rows.boot_dict (qd (rZ (q8 (own:=["_law_name"]) (fr:=["_law_known"]) (js:=[0]) rfl (sS (qv 0)) rfl (aL rfl) rfl (aA rfl (by decide +kernel) (by decide +kernel) (by decide +kernel) rfl rfl rfl) (fun _ _ _ _=>qj (i:=0) (show List.Nodup (["_law_name","_law_known"]:List Str)from by decide +kernel) rfl (Or.inl rfl) (.inr rfl)) (fun _ _ _ _=>(qA (qd (qv 0) (qd (qD (Zg (K:=K) rfl) (by rfl) T.b_list PyProof.Rows.boot_list (qd (qw hr (qv 1) (qv 0)) qc)) qc)))))) qc)))),?_⟩
  refine⟨_,rfl,kd,_,rfl,ekd,fun ob=>?_⟩
  have hl0:f0.1.length<=60:=by rw[pm0.length_eq];exact hl
  have nd1:(f0.1.map (·.1)).Nodup:=(pm0.map (·.1)).nodup_iff.mpr nd0
  have ndk:((zo f0.1 f0.2).map (·.1)).Nodup:=by
   unfold zo
   rw[List.map_map]
   exact List.Pairwise.map (l:=f0.1) _ (fun x y (h:x.1≠y.1) z=>h (by injection z)) (List.pairwise_map.mp nd1)
  refine nJ (by unfold zo;rw[List.length_map,sizeLine_eq];omega) (fun i ys H4=>Same (upd H kd (.frz ob (.dK (zo f0.1 f0.2)))) H4/\∃as ls:List Addr,ys=as.map V.ref/\as.length=i/\ls.length=i/\∀(j:Nat) (x l:Addr) (e:Str×Kb),as[j]? =some x->ls[j]? =some l->f0.1[j]? =some e->H4 x=some (.tup [.str e.1,.ref l])/\LuAt H4 l e.2) ⟨Same.refl _,[],[],rfl,rfl,rfl,fun j x l e h=>by(cases h)⟩ (fun i ys H4 ⟨s4,_⟩=>s4 _ _ qb) ?_ ?_
  ·rintro i ys H4 kv hkv hlen' ⟨s4,as,ls,rfl,las,lls,has⟩
   obtain⟨e,he,rfl⟩:∃e,f0.1[i]? =some e/\kv=(Sum.inr e.1,V.ref (f0.2 e.1)):=by
    unfold zo at hkv
    rw[List.getElem?_map]at hkv
    cases z:f0.1[i]? with
    |none=>rw[z]at hkv;cases hkv
    |some e=>rw[z]at hkv;cases hkv;exact⟨e,rfl,rfl⟩
   have hlu:=hbu e (pm0.mem_iff.mp (List.mem_of_getElem? he))
   obtain⟨v,hv,hw⟩:=LuAt.same s4 (hlu.mv (Mv.upd1 (o:= .frz ob (.dK (zo f0.1 f0.2)))) (NT.one ekd trivial) (qF (hlu.ned ekd)))
   refine⟨_,rfl,_,rfl,_,rfl,kd,_,rfl,.inl ⟨_,Sum.inr e.1,.inr ⟨ob,s4 _ _ qb⟩,rfl,(aa i hkv ndk).symm⟩,_,_,rfl,.inl (SqL.of hv),fun l hl2=>?_⟩
   have u5:=Same.upd (o:= .lst [.int e.2.age,.int e.2.last,v]) hl2
   refine⟨by show 2<=sizeLine;decide,fun t ht=>?_⟩
   have u6:=Same.upd (o:= .tup [.str e.1,.ref l]) ht
   have S6:=u5.trans u6
   refine⟨s4.trans S6,as++[t],ls++[l],by simp,by simp [las],by simp [lls],fun j x l' e' hj hj2 he'=>?_⟩
   by_cases hja:j<as.length
   ·rw[List.getElem?_append_left hja]at hj
    rw[List.getElem?_append_left (by omega)]at hj2
    obtain⟨h1,h2⟩:=has j x l' e' hj hj2 he'
    exact⟨S6 _ _ h1,h2.same S6⟩
   ·have hl':=(List.getElem?_eq_some_iff.mp hj).1
    rw[List.length_append]at hl'
    have hj3:j=as.length:=by have:j<as.length+1:=hl';omega
    subst hj3
    rw[List.getElem?_append_right (Nat.le_refl _),Nat.sub_self]at hj
    rw[List.getElem?_append_right (by omega),show as.length-ls.length=0 by omega]at hj2
    rw[las,he]at he'
    cases hj;cases hj2;cases he'
    exact⟨qb,v,u6 _ _ qb,hw.mv (S:=[]) S6.mv (fun c h=>nomatch h)⟩
  ·rintro ys H4 hly ⟨s4,as,ls,rfl,las,lls,has⟩ l hl2
   have ul:=Same.upd (o:= .lst (as.map V.ref)) hl2
   have lkd:l≠kd:=(ql (s4 _ _ qb) hl2).symm
   refine⟨kd,ob,_,ul _ _ (s4 _ _ qb),(fun o u z=>by have z':H kd=_:=z;rw[ekd]at z';cases z'),?_⟩
   have S5:=mC ekd (s4.trans ul)
   have lkn:(zo f0.1 f0.2).length=f0.1.length:=List.length_map _
   rw[lkn]at las lls
   obtain⟨g,hg⟩:=nA f0.1 ls nd1
   have m5:Mv [kd] (upd H4 l (.lst (as.map V.ref))) (upd (upd H4 l (.lst (as.map V.ref))) kd (.dK (zo f0.1 f0.2))):=Mv.upd1
   have efz:=ul _ _ (s4 _ _ (qb (H:=H) (a:=kd) (o:= .frz ob (.dK (zo f0.1 f0.2)))))
   have hx5:∀(i:Nat) (x:Addr) (e:Str×Kb),as[i]? =some x->f0.1[i]? =some e->(upd (upd H4 l (.lst (as.map V.ref))) kd (.dK (zo f0.1 f0.2))) x=some (.tup [.str e.1,.ref (g e.1)])/\LuAt (upd (upd H4 l (.lst (as.map V.ref))) kd (.dK (zo f0.1 f0.2))) (g e.1) e.2:=fun i x e e1 e2=>by
    have hi:i<ls.length:=by rw[lls,<- las];exact(List.getElem?_eq_some_iff.mp e1).1
    have e3:=List.getElem?_eq_getElem hi
    obtain⟨h1,h2⟩:=has i x _ e e1 e3 e2
    rw[hg i e _ e2 e3]
    obtain⟨v,hv,hw⟩:=h2
    refine⟨m5 _ _ (qF (qC (ul _ _ h1) efz (by intro z;cases z))) (ul _ _ h1),v,m5 _ _ (qF (qC (ul _ _ hv) efz (by intro z;cases z))) (ul _ _ hv),?_⟩
    cases hwt:e.2.wt with
    |none=>rw[hwt]at hw;exact hw
    |some c=>
     rw[hwt]at hw
     obtain⟨p,r,h⟩:=hw
     exact⟨p,r,m5 _ _ (qF (qC (ul _ _ h) efz (by intro z;cases z))) (ul _ _ h)⟩
   have el5:(upd (upd H4 l (.lst (as.map V.ref))) kd (.dK (zo f0.1 f0.2))) l=some (.lst (as.map V.ref)):=by rw[qh lkd];exact qb
   generalize upd (upd H4 l (.lst (as.map V.ref))) kd (.dK (zo f0.1 f0.2))=H5 at S5 hx5 el5⊢
   refine⟨l,as,zo f0.1 g,rfl,el5,by unfold zo;rw[las,List.length_map],fun i x kv e1 e2=>?_,fun d hd=>?_⟩
   ·unfold zo at e2
    rw[List.getElem?_map]at e2
    cases z:f0.1[i]? with
    |none=>rw[z]at e2;cases e2
    |some e=>rw[z]at e2;cases e2;exact(hx5 i x e e1 z).1
   ·rw[oJ nd1]
    have u6:=Same.upd (o:= .dK (zo f0.1 g)) hd
    refine q d _ (S5.trans u6) (zZ hd S5) ⟨(f0.1,g),qb,fun e he=>?_,pm0,nd0⟩
    obtain⟨i,hi⟩:=List.getElem?_of_mem (pm0.mem_iff.mpr he)
    have hia:i<as.length:=by rw[las];exact(List.getElem?_eq_some_iff.mp hi).1
    exact((hx5 i _ e (List.getElem?_eq_getElem hia) hi).2).same u6
end
section
variable{P:Program}{w:World}{K:Frag}{mg:Str->Option Value}{base:Heap}{tk:Nat->Tok}
theorem hW(a:At K mg "_law_press" Z4 ["_law_world_here","_law_spec"])(T:Txt K mg tk)(xS:Df P w K mg base "press_of" ["table","key","name","age","count","deed"] 3 (jO K))(dI:Df P w K mg base "key_of" ["table","key","name"] 2 (bP K))(dP:Df P w K mg base "coded" ["table","key","digits"] 1 (bN K)):Df P w K mg base "_law_press" ["_law_world_here","_law_spec"] 4 (ZS K):=by
 refine a.dq sc_law_press (fun vs H Q E h=>?_) (fun f cdv A outer s H vs Q E hr h=>?_)
 ·obtain⟨_,_,_,_,_,rfl,_⟩:=h
  rfl
 ·obtain⟨wa,sp,D,ns,⟨nm,age,c,d,ft⟩,rfl,wk,tp,hs,so,q⟩:=h
  refine⟨_,(qe (zf (qv 1) (Zv rfl (qu (qj (i:=2) sc_law_press.nd rfl (Or.inl rfl)) (qu (qj (i:=3) sc_law_press.nd rfl (Or.inl rfl)) (qu (qj (i:=4) sc_law_press.nd rfl (Or.inl rfl)) (qu (qj (i:=5) sc_law_press.nd rfl (Or.inl rfl)) (qu (qj (i:=6) sc_law_press.nd rfl (Or.inl rfl)) zm)))))))
   (qe (qy (i:=7) sc_law_press.nd rfl (Or.inl rfl) (qI qG (qw hr (qv 0) qk) (qv 3) (fun _ _=>rfl)))
   (qe (qK (qz zj (qv 6) qf (qx _)) (qg (qp (qo xS hr.mo (qd (qw hr (qv 0) qk) (qd (qv 7) (qd (qv 2) (qd (qv 3) (qd (qv 4) (qd (qv 5) qc))))))))) qE)
   (qe (qy (i:=8) sc_law_press.nd rfl (Or.inl rfl) (qR (qd (qm ze (qv 4) qf) (qd (qm ze (qm Q5 (qv 4) qf) qf) (qd (qm Q5 (qv 4) qf) (qd (qv 5) qc))))))
   (qe (zJ (QZ PySem.F.plainAttrs_list PySem.F.slot_list_append PySem.F.type_list_append zR (qv 8) (qd (qm ze (qm qH (qm qH (qr (fV rfl) (by rfl) T.b_sum PyProof.Rows.boot_sum (qd (qv 8) qc)) qf) (qm Qg (qm zO (qv 6) qf) qf)) qf) qc)))
   (qe (qy (i:=9) sc_law_press.nd rfl (Or.inl rfl) (qo dP hr.mo (qd (qw hr (qv 0) qk) (qd (qo dI hr.mo (qd (qw hr (qv 0) qk) (qd (qv 7) (qd (qv 2) qc)))) (qd (qD qJ (by rfl) T.b_tuple PyProof.Rows.boot_tuple (qd (qv 8) qc)) qc)))))
   (qe (qy (i:=10) sc_law_press.nd rfl (Or.inl rfl) (qR (qd (rC lT qf) (qd (rC lT qf) (qd qf (qd (qm mV qf qf) qc))))))
   (qg (qp (qA (qd (qv 2) (qd (qI qG (qR (qd (qv 3) (qd (qm qH (qr qO (by rfl) T.b_len PySem.boot_len (qd (qw hr (qv 0) qk) qc)) (qv 3)) (qd (qI qG (qv 10) (qm ze (qv 4) qf) (fun _ _=>rfl)) qc)))) (qm zO (qv 6) qf) (fun _ _=>rfl)) (qd (qv 9) qc))))))))))))),?_⟩
  have tl:=eU tp
  have f0:0<=ft:=so.f0
  have f3:ft<=3:=so.f1
  have c0:0<=c:=so.c0
  have c1:c<4096:=so.c1
  have hn:QY nm:=so.nm
  have hd:ZO d:=so.dg
  refine⟨_,rfl,sp,_,rfl,SqT.of hs,rfl,_,_,rfl,_,_,rfl,_,_,rfl,_,_,rfl,_,_,rfl,rfl,?_⟩
  obtain⟨xs,ak,eh,hat,hak0⟩:=wk.ks.at so.a0 so.a1
  have hak:SqT K H ak ((zD D age).map V.int):=hak0.up
  refine⟨_,rfl,wa.m,_,rfl,wk.g_keys,_,rfl,wa.ml,_,_,_,rfl,rfl,SqL.of eh,hat,?_⟩
  refine⟨_,rfl,rfl,_,rfl,?_⟩
  by_cases hf:ft=0
  ·refine ZB (decide_eq_true (by rw[hf])) ?_
   refine⟨_,rfl,wa.m,_,rfl,wk.g_table,_,rfl,_,rfl,_,rfl,_,rfl,_,rfl,wa.mt,ak,nm,age,c,d,D.t,zD D age,rfl,.inr wk.tb,.inr hak,hn,tl,c0,c1,hd,fun p pc H' s' h1 h2=>q p H' s' ?_⟩
   unfold zC
   rw[if_pos hf]
   exact⟨pc,h1,h2⟩
  ·refine aJ (decide_eq_false (by intro z;injection z with z;exact hf z)) ?_
   refine⟨_,rfl,_,_,rfl,rfl,(by decide:(0:Int)<16),_,rfl,_,_,rfl,rfl,⟨by decide,by decide⟩,_,_,rfl,rfl,(by decide:(0:Int)<16),_,rfl,_,_,rfl,rfl,⟨by decide,by decide⟩,_,rfl,by show 4<=sizeLine;decide,fun l hl=>?_⟩
   have u1:=Same.upd (o:= .lst ((zn c d).map V.int)) hl
   have e1:(upd H l (.lst ((zn c d).map V.int))) l=some (.lst ((zn c d).map V.int)):=qb
   have fl:=hl
   refine⟨_,rfl,.inl ⟨rfl,_,SqL.of e1⟩,_,rfl,l,zn c d,rfl,.inl (SqL.of e1),by show 4<=1000;decide,jK c0 c1 hd,_,_,rfl,rfl,_,rfl,_,_,rfl,rfl,_,_,rfl,rfl,.inr ⟨by decide,by decide⟩,_,_,rfl,rfl,_,_,rfl,rfl,(by decide:(0:Int)<16),l,_,_,rfl,rfl,e1,by show 4<sizeLine;decide,?_⟩
   have s2:Same H (upd (upd H l (.lst ((zn c d).map V.int))) l (.lst ((zn c d).map V.int++[.int (((zn c d).sum+1+(ft-1)*5)%16)]))):=u1.put fl
   have e2:(upd (upd H l (.lst ((zn c d).map V.int))) l (.lst ((zn c d).map V.int++[.int (((zn c d).sum+1+(ft-1)*5)%16)]))) l=some (.lst ((Qc ⟨nm,age,c,d,ft⟩).map V.int)):=qb
   have wk2:=wk.same s2
   refine⟨_,rfl,wa.m,_,rfl,wk2.g_table,_,rfl,wa.m,_,rfl,wk2.g_table,_,rfl,_,rfl,wa.mt,ak,nm,D.t,zD D age,rfl,.inr wk2.tb,.inr (Same.sqt s2 hak),hn,tl,fun pk H3 s3 _ hpk=>?_⟩
   refine⟨_,rfl,l,_,rfl,.inl ⟨SqL.of (s3 _ _ e2),fun tt htt=>?_⟩⟩
   have u4:=Same.upd (o:= .tup ((Qc ⟨nm,age,c,d,ft⟩).map V.int)) htt
   refine⟨wa.mt,pk,tt,D.t,ZU D.t (zD D age) nm,Qc ⟨nm,age,c,d,ft⟩,rfl,.inr (Same.sqt (s3.trans u4) wk2.tb),.inr (SqT.of (u4 _ _ hpk)),.inr (SqT.of qb),tl,by show 1<=5;decide,by show 5<64;decide,fun pc H5 s5 _ hpc=>?_⟩
   have S5:=s2.trans (s3.trans (u4.trans s5))
   refine⟨_,rfl,_,rfl,_,_,rfl,rfl,⟨by decide,by decide,by decide⟩,by show 4<=sizeLine;decide,fun l6 hl6=>?_⟩
   have u6:=Same.upd (o:= .lst [.int (-1),.int (-9),.int 8,.int (10 ^ (30:Int).toNat)]) hl6
   have e6:(upd H5 l6 (.lst [.int (-1),.int (-9),.int 8,.int (10 ^ (30:Int).toNat)])) l6=some (.lst [.int (-1),.int (-9),.int 8,.int (10 ^ (30:Int).toNat)]):=qb
   have wk6:=(wk.same S5).same u6
   obtain⟨as,eh6,la,_⟩:=id wk6.ks
   have hat4:Q0 [V.int (-1),.int (-9),.int 8,.int (10 ^ (30:Int).toNat)] (c%4)=some (.int (farAges.getD (c%4).toNat 0)):=by
    obtain⟨j,hj,h4⟩:∃j:Nat,c%4=(j:Int)/\j<4:=⟨(c%4).toNat,by omega,by omega⟩
    rw[hj]
    refine zY ?_
    rw[Int.toNat_natCast]
    match j,h4 with
    |0,_=>rfl
    |1,_=>rfl
    |2,_=>rfl
    |3,_=>rfl
   refine⟨_,rfl,_,rfl,_,rfl,wa.m,_,rfl,wk6.g_keys,wa.ml,_,rfl,.inl (SqL.of eh6),_,rfl,_,_,rfl,rfl,_,rfl,_,rfl,_,_,rfl,rfl,(by decide:(0:Int)<4),l6,_,_,_,rfl,rfl,SqL.of e6,hat4,by show 3<=sizeLine;decide,fun l7 hl7=>?_⟩
   rw[List.length_map,la]
   have u7:=Same.upd (o:= .lst [.int age,.int ((D.kss.length:Int)+age),.int (farAges.getD (c%4).toNat 0)]) hl7
   have hat3:Q0 [V.int age,.int ((D.kss.length:Int)+age),.int (farAges.getD (c%4).toNat 0)] (ft-1)=some (.int (zd D ⟨nm,age,c,d,ft⟩)):=by
    obtain⟨j,hj,h3⟩:∃j:Nat,ft-1=(j:Int)/\j<3:=⟨(ft-1).toNat,by omega,by omega⟩
    rw[hj]
    refine zY ?_
    unfold zd
    match j,h3,hj with
    |0,_,hj=>rw[if_pos (show ft<=1 by omega)];rfl
    |1,_,hj=>rw[if_neg (show¬ft<=1 by omega),if_pos (show ft=2 by omega)];rfl
    |2,_,hj=>rw[if_neg (show¬ft<=1 by omega),if_neg (show¬ft=2 by omega)];rfl
   refine⟨_,rfl,_,_,rfl,rfl,l7,_,_,_,rfl,rfl,SqL.of qb,hat3,_,rfl,by show 3<=sizeLine;decide,fun p hp=>?_⟩
   have u8:=Same.upd (o:= .tup [.str nm,.int (zd D ⟨nm,age,c,d,ft⟩),.ref pc]) hp
   refine q p _ (S5.trans (u6.trans (u7.trans u8))) ?_
   unfold zC
   rw[if_neg hf]
   exact⟨pc,qb,(u6.trans (u7.trans u8)) _ _ hpc⟩
end
def lawNames4:List Str:=["a","b","ab","ba","aa","gate","gates","button","buttonaa","buttonab","z","zzzzzzzz"]
section
variable{P:Program}{w:World}{K:Frag}{mg:Str->Option Value}{base:Heap}{tk:Nat->Tok}{C:Addr}
theorem iy(a:At K mg "_law_names" ZW ["_law_box_here","_law_many"])(T:Txt K mg tk)(dA:Df P w K mg base "_law_take" ["_law_box_here","_law_many"] 1 Qn):Df P w K mg base "_law_names" ["_law_box_here","_law_many"] 2 jD:=by
 refine a.dq sc_law_names (fun vs H Q E h=>?_) (fun f cdv A outer s H vs Q E hr h=>?_)
 ·obtain⟨_,_,_,rfl,_⟩:=h
  rfl
 ·obtain⟨b,many,c,rfl,hb,hc,hm,q⟩:=h
  refine⟨_,(qe (qy (i:=2) sc_law_names.nd rfl (Or.inr rfl) (qR (qd qk (qd qk (qd qk (qd qk (qd qk (qd qk (qd qk (qd qk (qd qk (qd qk (qd qk (qd qk qc))))))))))))))
   (qg (qp (q8 (own:=["_law_k"]) (fr:=["_law_some","_law_box_here"]) (js:=[2,0]) rfl (zI rfl T.b_range (qd (qv 1) qc)) rfl (oR rfl rfl) rfl (oS rfl (by decide +kernel) (by decide +kernel) (by decide +kernel) rfl rfl rfl rfl rfl rfl) (fun _ _ _ _=>qj (i:=0) (show List.Nodup (["_law_k","_law_some","_law_box_here"]:List Str)from by decide +kernel) rfl (Or.inl rfl) (.inr rfl)) (fun _ _ _ _=>(uX (K:=K) rfl PySem.F.plainAttrs_list PySem.F.slot_list_pop PySem.F.type_list_pop oq (qv 1) (qd (qo dA hr.mo (qd (qv 2) (qd (qr (aR (K:=K) rfl) (by rfl) T.b_len PySem.boot_len (qd (qv 1) qc)) qc))) qc))))))),?_⟩
  refine⟨by show 12<=sizeLine;decide,fun l hl=>?_⟩
  have u1:=Same.upd (o:= .lst (lawNames4.map V.str)) hl
  have nlb:l≠b:=zU hb hl
  refine⟨_,rfl,_,rfl,by omega,by omega,?_⟩
  rw[Int.toNat_natCast]
  refine Zp (n:=many) (Nat.le_trans hm (by decide)) (fun i ys H2=>GrC b (c+i) H H2/\∃ms zs:List Str,H2 l=some (.lst (ms.map V.str))/\ys=zs.map V.str/\ms.length+i=12/\(zs++ms).Perm lawNames4) ⟨u1.grc hb,lawNames4,[],qb,rfl,rfl,.refl _⟩ ?_ ?_
  ·rintro i ys H2 hi hl2 ⟨G2,ms,zs,hms,rfl,hml,pm⟩
   refine⟨_,rfl,.inl ⟨rfl,_,SqL.of hms⟩,?_⟩
   refine⟨_,rfl,_,rfl,l,_,rfl,.inl (SqL.of hms),b,_,_,rfl,G2.bx,by omega,by rw[List.length_map];omega,by rw[List.length_map];omega,fun x H3 x0 x1 g3=>?_⟩
   rw[List.length_map]at x1
   obtain⟨k,rfl⟩:∃k:Nat,x=(k:Int):=⟨x.toNat,by omega⟩
   have hk:k<ms.length:=by omega
   have hm3:=g3.kp _ _ nlb hms
   refine⟨l,_,_,k,.str ms[k],rfl,rfl,hm3,by omega,by omega,?_,?_,?_⟩
   ·rw[List.length_map];exact iG hk
   ·rw[List.getElem?_map,List.getElem?_eq_getElem hk];rfl
   ·refine⟨⟨fun c o hcb e=>?_,?_⟩,ms.eraseIdx k,zs++[ms[k]],?_,by simp,?_,?_⟩
    ·by_cases z:c=l
     ·subst z
      rw[e]at hl;cases hl
     ·rw[qh z];exact g3.kp _ _ hcb (G2.kp _ _ hcb e)
    ·obtain⟨n,m,k',e,r⟩:=g3.bx
     exact⟨n,m,k',by rw[qh nlb.symm];exact e,r⟩
    ·rw[qb,kU]
    ·rw[List.length_eraseIdx_of_lt hk];omega
    ·exact(mf hk).trans pm
  ·rintro ys H2 hyl ⟨G2,ms,zs,hms,rfl,hml,pm⟩ p hp
   rw[List.length_map]at hyl
   have nd:(zs++ms).Nodup:=pm.nodup_iff.mpr (by decide +kernel)
   refine q p zs _ (G2.same (Same.upd hp)) (G2.fresh (hb.mono (by omega)) hp) qb hyl (List.nodup_append.mp nd).1 (fun z hz=>?_)
   have hz':=pm.mem_iff.mp (List.mem_append_left _ hz)
   simp only[lawNames4,List.mem_cons,List.not_mem_nil,or_false]at hz'
   rcases hz' with rfl|rfl|rfl|rfl|rfl|rfl|rfl|rfl|rfl|rfl|rfl|rfl
   all_goals exact⟨by decide +kernel,by decide +kernel,by decide +kernel⟩
end
section
variable{P:Program}{w:World}{K:Frag}{mg:Str->Option Value}{base:Heap}{tk:Nat->Tok}
theorem iN(a:At K mg "_law_world" ZY ["_law_box_here","_law_great"])(T:Txt K mg tk)(dA:Df P w K mg base "_law_take" ["_law_box_here","_law_many"] 1 Qn)(xL:Df P w K mg base "_law_table" ["_law_box_here"] 2 iO)(xZ:Df P w K mg base "_law_key" ["_law_box_here"] 2 lQ)(xO:Df P w K mg base "_law_names" ["_law_box_here","_law_many"] 2 jD):Df P w K mg base "_law_world" ["_law_box_here","_law_great"] 3 (gq K):=by
 refine a.dq sc_law_world (fun vs H Q E h=>?_) (fun f cdv A outer s H vs Q E hr h=>?_)
 ·obtain⟨_,_,_,rfl,_⟩:=h
  rfl
 ·obtain⟨b,g,c,rfl,hb,hc,q⟩:=h
  refine⟨_,(qe (qy (i:=2) sc_law_world.nd rfl (Or.inl rfl) (cw (zG (qv 1)) (qm qH qf (qo dA hr.mo (qd (qv 0) (qd qf qc)))) (qm qH qf (qo dA hr.mo (qd (qv 0) (qd qf qc))))))
   (qe (e9 (i:=3) sc_law_world.nd rfl (Or.inl rfl) (own:=["_law_k"]) (fr:=["_law_box_here"]) (js:=[0]) rfl (zI rfl T.b_range (qd (cw (zG (qv 1)) qf (qm qH qf (qo dA hr.mo (qd (qv 0) (qd qf qc))))) qc)) rfl (aL rfl) rfl (aA rfl (by decide +kernel) (by decide +kernel) (by decide +kernel) rfl rfl rfl) (fun _ _ _ _=>qj (i:=0) (show List.Nodup (["_law_k","_law_box_here"]:List Str)from by decide +kernel) rfl (Or.inl rfl) (.inr rfl)) (fun _ _ _ _=>(qo xZ hr.mo (qd (qv 1) qc))))
   (qe (qy (i:=4) sc_law_world.nd rfl (Or.inl rfl) (qI qG (qR (qd (qm qH qf (qo dA hr.mo (qd (qv 0) (qd qf qc)))) (qd (qm qH qf (qo dA hr.mo (qd (qv 0) (qd qf qc)))) (qd qf qc)))) (qo dA hr.mo (qd (qv 0) (qd qf qc))) (fun _ _=>rfl)))
   (qe (qy (i:=5) sc_law_world.nd rfl (Or.inl rfl) (qm qH (qv 4) (qI qG (qR (qd qf (qd qf (qd qf (qd (qo dA hr.mo (qd (qv 0) (qd qf qc))) qc))))) (qo dA hr.mo (qd (qv 0) (qd qf qc))) (fun _ _=>rfl))))
   (qe (qy (i:=6) sc_law_world.nd rfl (Or.inl rfl) (tq (Q2 qk (qo xL hr.mo (qd (qv 0) qc)) (Q2 qk (qv 3) (Q2 qk (qv 4) (Q2 qk (qv 5) (Q2 qk qf (Q2 qk cI sO))))))))
   (qe (zV hr (qv 6) qk (qo xO hr.mo (qd (qv 0) (qd (qv 2) qc))))
   (qe (zF PassesOwn.never rfl (zq (qw hr (qv 6) qk)) (qj (i:=7) sc_law_world.nd rfl (Or.inl rfl))
   (qe (qy (i:=8) sc_law_world.nd rfl (Or.inl rfl) (qI qG (qR (qd qf (qd qf (qd qf (qd qf (qd qf (qd qf (qd (qm zO qf (qo dA hr.mo (qd (qv 0) (qd qf qc)))) (qd (qm qH qf (qo dA hr.mo (qd (qv 0) (qd qf qc)))) qc))))))))) (qo dA hr.mo (qd (qv 0) (qd qf qc))) (fun _ _=>rfl)))
   (qe (zV hr (qw hr (qv 6) qk) (qv 7) (qR (qd (qo dA hr.mo (qd (qv 0) (qd (qr qO (by rfl) T.b_len PySem.boot_len (qd (qv 3) qc)) qc))) (qd (qv 8) (qd zS qc)))))
   (qe (qy (i:=9) sc_law_world.nd rfl (Or.inl rfl) (qm qH (qm qH (qm qH (qv 8) (qv 4)) qf) (qo dA hr.mo (qd (qv 0) (qd (qr (gu rfl) (by rfl) T.b_max PyProof.Rows.boot_max (qd qf (qd (qm zO (qv 5) (qv 4)) qc))) qc)))))
   (qg (qK (QW.pt (ae (qz bK (qv 5) (qv 4) (qx _)) (ae (qz dz (qv 9) qf (qx _)) (ac (qz zj (qo dA hr.mo (qd (qv 0) (qd qf qc))) qf (qx _)))))) (qg (zf (qA (qd (qI qG (qw hr (qw hr (qv 6) qk) (qv 7)) qf (fun _ _=>rfl)) (qd (qv 9) qc))) (Zs (qw hr (qw hr (qv 6) qk) (qv 7)) qf Qj))) qE))))))
   (qe (qK (qz zj (qo dA hr.mo (qd (qv 0) (qd qf qc))) qf (qx _)) (qg (zV hr (qv 6) qk (qo dA hr.mo (qd (qv 0) (qd (qr qO (by rfl) T.b_len PySem.boot_len (qd (qv 3) qc)) qc))))) qE)
   (qg (qp (qv 6))))))))))),?_⟩
  refine sD (fun σ' H'=>∃many:Nat,1<=many/\many<=9/\GrC b (c+1) H H'/\σ'=[some (.ref b),some (.bl g),some (.int (many:Int)),none,none,none,none,none,none,none]) (fun D' hrt hnx=>?_) ?_
  ·refine⟨_,rfl,_,rfl,?_⟩
   cases g with
   |true=>
    refine zM ⟨_,rfl,b,_,_,rfl,hb,by omega,by decide,by decide,fun r H1 r0 r1 g1=>⟨_,_,rfl,rfl,hnx _ _ ⟨(7+r).toNat,by omega,by omega,g1,?_⟩⟩⟩
    rw[Int.toNat_of_nonneg (by omega)];rfl
   |false=>
    refine zg ⟨_,rfl,b,_,_,rfl,hb,by omega,by decide,by decide,fun r H1 r0 r1 g1=>⟨_,_,rfl,rfl,hnx _ _ ⟨(1+r).toNat,by omega,by omega,g1,?_⟩⟩⟩
    rw[Int.toNat_of_nonneg (by omega)];rfl
  rintro σ' H1 ⟨many,my1,my9,g1,rfl⟩
  refine eL (t:=rz _ _ _) (fun v H'=>∃nk:Nat,v= .int (nk:Int)/\1<=nk/\nk<=8/\GrC b (c+2) H H') (fun Q' hQ=>?_) (fun v H2 ⟨nk,ev,k1,k8,g2⟩=>?_)
  ·refine⟨_,rfl,_,rfl,?_⟩
   cases g with
   |true=>exact zM (hQ _ _ ⟨8,rfl,by decide,by decide,g1.mono (by omega)⟩)
   |false=>
    refine zg ⟨_,rfl,b,_,_,rfl,g1.bx,by omega,by decide,by decide,fun r H2 r0 r1 g2=>⟨_,_,rfl,rfl,hQ _ _ ⟨(1+r).toNat,?_,by omega,by omega,(g1.trans g2).mono (by omega)⟩⟩⟩
    rw[Int.toNat_of_nonneg (by omega)]
  subst ev
  refine⟨_,rfl,by omega,by omega,?_⟩
  rw[Int.toNat_natCast]
  refine Zp (n:=nk) (by rw[sizeLine_eq];omega) (fun i ys H4=>GrC b (c+2+10*i) H H4/\∃(as:List Addr) (kss:List (List Int)),ys=as.map V.ref/\as.length=i/\kss.length=i/\∀(j:Nat) (x:Addr) (ks:List Int),as[j]? =some x->kss[j]? =some ks->H4 x=some (.tup (ks.map V.int))) ⟨g2,[],[],rfl,rfl,rfl,fun j x ks e=>by(cases e)⟩ ?_ ?_
  ·rintro i ys H4 hi hyl ⟨G4,as,kss,rfl,hal,hkl,hak⟩
   refine⟨_,rfl,b,_,rfl,G4.bx,by omega,fun x ks H5 g5 _ hx dk _ _=>?_⟩
   refine⟨(G4.trans g5).mono (by omega),as++[x],kss++[ks],by simp,by simp [hal],by simp [hkl],fun j y ks' h1 h2=>?_⟩
   rw[List.getElem?_append]at h1 h2
   by_cases hj:j<i
   ·rw[if_pos (by omega)]at h1 h2
    have hy:=hak j y ks' h1 h2
    obtain⟨x1,x2,x3,eb,_⟩:=G4.bx
    exact g5.kp _ _ (qC hy eb (by intro z;cases z)) hy
   ·rw[if_neg (by omega)]at h1 h2
    have hj0:j-as.length=0:=by
     cases hj0:j-as.length with
     |zero=>rfl
     |succ k=>rw[hj0]at h1;cases h1
    have hj1:j-kss.length=0:=by omega
    rw[hj0]at h1
    rw[hj1]at h2
    cases h1
    cases h2
    exact hx
  rintro ys H4 hyl ⟨G4,as,kss,rfl,hal,hkl,hak⟩ ml hml
  have u5:=Same.upd (o:= .lst (as.map V.ref)) hml
  have e5:(upd H4 ml (.lst (as.map V.ref))) ml=some (.lst (as.map V.ref)):=qb
  have G5:GrC b (c+82) H _:=(G4.same u5).mono (by omega)
  have hak5:∀(j:Nat) (x:Addr) (ks:List Int),as[j]? =some x->kss[j]? =some ks->(upd H4 ml (.lst (as.map V.ref))) x=some (.tup (ks.map V.int)):=fun j x ks h1 h2=>u5 _ _ (hak j x ks h1 h2)
  have fml:H ml=none:=G4.fresh (hb.mono (by omega)) hml
  generalize upd H4 ml (.lst (as.map V.ref))=H5 at e5 G5 hak5⊢
  have ks5:KsAt [] H5 ml kss:=⟨as,e5,by omega,fun i a z h1 h2=>SqT.of (hak5 i a z h1 h2)⟩
  refine⟨_,rfl,b,_,_,rfl,G5.bx,by omega,by decide,by decide,fun r1 H6 r10 r11 g6=>⟨_,_,rfl,rfl,?_⟩⟩
  refine⟨_,rfl,b,_,_,rfl,g6.bx,by omega,by decide,by decide,fun r2 H7 r20 r21 g7=>⟨_,_,rfl,rfl,by show 3<=sizeLine;decide,fun l8 hl8=>?_⟩⟩
  have u8:=Same.upd (o:= .lst [.int (1+r1),.int (1+r2),.int 64]) hl8
  refine⟨_,rfl,b,_,_,rfl,(u8.grc g7.bx).bx,by omega,by decide,by decide,fun r3 H9 r30 r31 g9=>?_⟩
  obtain⟨v,hv,hvm⟩:=Zq (xs:=[V.int (1+r1),.int (1+r2),.int 64]) r30 r31
  obtain⟨near,rfl,n0,n64⟩:∃z:Int,v= .int z/\1<=z/\z<=64:=by
   simp only[List.mem_cons,List.not_mem_nil,or_false]at hvm
   rcases hvm with rfl|rfl|rfl
   ·exact⟨_,rfl,by omega,by omega⟩
   ·exact⟨_,rfl,by omega,by omega⟩
   ·exact⟨_,rfl,by omega,by omega⟩
  refine⟨l8,_,_,_,rfl,rfl,SqL.of (g9.kp _ _ (zU g7.bx hl8) qb),hv,?_⟩
  have ks9:KsAt [] H9 ml kss:=(((ks5.grc G5.bx g6).grc g6.bx g7).same u8).grc (u8.grc g7.bx).bx g9
  have G9:GrC b (c+85) H H9:=((((G5.trans g6).trans g7).same u8).trans g9).mono (by omega)
  refine⟨_,rfl,_,rfl,b,_,_,rfl,G9.bx,by omega,by decide,by decide,fun r4 Ha r40 r41 ga=>⟨by show 4<=sizeLine;decide,fun lb hlb=>?_⟩⟩
  have ub:=Same.upd (o:= .lst [.int 0,.int 1,.int 2,.int r4]) hlb
  refine⟨_,rfl,b,_,_,rfl,(ub.grc ga.bx).bx,by omega,by decide,by decide,fun r5 Hc r50 r51 gc=>?_⟩
  obtain⟨v2,hv2,hvm2⟩:=Zq (xs:=[V.int 0,.int 1,.int 2,.int r4]) r50 r51
  obtain⟨more,rfl,o0,o1⟩:∃z:Int,v2= .int z/\0<=z/\z<=30:=by
   simp only[List.mem_cons,List.not_mem_nil,or_false]at hvm2
   rcases hvm2 with rfl|rfl|rfl|rfl<;>exact⟨_,rfl,by omega,by omega⟩
  refine⟨lb,_,_,_,rfl,rfl,SqL.of (gc.kp _ _ (zU ga.bx hlb) qb),hv2,_,_,rfl,rfl,?_⟩
  have ksc:KsAt [] Hc ml kss:=((ks9.grc G9.bx ga).same ub).grc (ub.grc ga.bx).bx gc
  have Gc:GrC b (c+87) H Hc:=(((G9.trans ga).same ub).trans gc).mono (by omega)
  refine fun m hm=>?_
  have um:=Same.upd (o:= .dK []) hm
  have Gm:=Gc.same um
  refine⟨_,rfl,b,_,rfl,Gm.bx,by omega,fun mt t Hd gd fmt hmt pt=>?_⟩
  have Gd:=Gm.trans gd
  obtain⟨x1,x2,x3,eb,_⟩:=id Gm.bx
  have em:(upd Hc m (.dK [])) m=some (HO.dK []):=qb
  have nmb:m≠b:=qC em eb (by intro z;cases z)
  have emd:=gd.kp _ _ nmb em
  have ksd:KsAt [] Hd ml kss:=(ksc.same um).grc Gm.bx gd
  refine⟨_,rfl,_,rfl,_,rfl,fun kd hkd=>?_⟩
  have uk:=Same.upd (o:= .dK []) hkd
  have nmk:m≠kd:=ql emd hkd
  refine⟨uk _ _ emd,wk6 near (near+more) mt ml kd,rfl,by show 6<=15;decide,?_⟩
  rw[nH]
  have fm:H m=none:=Gc.fresh (hb.mono (by omega)) hm
  have fkd:H kd=none:=Gd.fresh (hb.mono (by omega)) hkd
  have Ge:GrC b (c+110) H (upd (upd Hd kd (.dK [])) m (.dK (wk6 near (near+more) mt ml kd))):=by
   have G8:=Gd.same uk
   refine⟨fun x o hx e=>?_,?_⟩
   ·rw[qh (ql e fm)];exact G8.kp x o hx e
   ·obtain⟨y1,y2,y3,e,e1,e2,e3,e4⟩:=G8.bx
    exact⟨y1,y2,y3,by rw[qh nmb.symm];exact e,e1,e2,e3,by omega⟩
  have ntm:NT [m] (upd Hd kd (.dK [])):=NT.one (uk _ _ emd) trivial
  have me:Mv [m] (upd Hd kd (.dK [])) (upd (upd Hd kd (.dK [])) m (.dK (wk6 near (near+more) mt ml kd))):=Mv.upd1
  obtain⟨asd,ehd,_⟩:=id ksd
  have kse:KsAt [] (upd (upd Hd kd (.dK [])) m (.dK (wk6 near (near+more) mt ml kd))) ml kss:=(ksd.same uk).mv me ntm (qF (qC ehd emd (by intro z;cases z)))
  have tbe:SqT K (upd (upd Hd kd (.dK [])) m (.dK (wk6 near (near+more) mt ml kd))) mt (t.map V.int):=me.sqt ntm (SqT.of (uk _ _ hmt))
  have ede:(upd (upd Hd kd (.dK [])) m (.dK (wk6 near (near+more) mt ml kd))) m=some (.dK (wk6 near (near+more) mt ml kd)):=qb
  have ekde:(upd (upd Hd kd (.dK [])) m (.dK (wk6 near (near+more) mt ml kd))) kd=some (.dK []):=by rw[qh nmk.symm];exact qb
  generalize upd (upd Hd kd (.dK [])) m (.dK (wk6 near (near+more) mt ml kd))=He at Ge kse tbe ede ekde⊢
  refine⟨_,rfl,_,rfl,b,many,_,rfl,Ge.bx,by omega,by omega,fun nl nms Hf gf fnl hnl nlen nd nnm=>?_⟩
  have Gf:=Ge.trans gf
  have edf:=gf.kp _ _ nmb ede
  have dpn:=DPut.k (k:=(Sum.inr "names":qt)) (v:= .ref nl) edf (by show 6<sizeLine;decide)
  refine⟨_,rfl,m,_,rfl,dpn,?_⟩
  rw[sL t kss near (near+more) [] m mt ml kd nl]
  obtain⟨wa,hwa⟩:∃wa:Wad,wa=⟨m,mt,ml,kd,nl⟩:=⟨_,rfl⟩
  obtain⟨D0,hD0⟩:∃D0:Dr,D0=⟨t,kss,near,near+more,12,0,[]⟩:=⟨_,rfl⟩
  have ug:Mv [m] Hf (upd Hf m (.dK (br ⟨t,kss,near,near+more,12,0,[]⟩ ⟨m,mt,ml,kd,nl⟩))):=Mv.upd1
  have ntg:NT [m] Hf:=NT.one edf trivial
  obtain⟨z1,z2,z3,ebe,_⟩:=id Ge.bx
  have ekf:=gf.kp _ _ (qC ekde ebe (by intro z;cases z)) ekde
  have wk0:WkAt K (upd Hf m (.dK (br D0 wa))) wa D0 nms:=by
   rw[hwa,hD0]
   obtain⟨asf,ehf,_⟩:=id (kse.grc Ge.bx gf)
   exact⟨qb,ug.sqt ntg (gf.mv.sqt (zr Ge.bx) tbe),(kse.grc Ge.bx gf).mv ug ntg (qF (qC ehf edf (by intro z;cases z))),⟨([],fun _=>0),ug _ _ (qF nmk.symm) ekf,(fun e he=>by cases he),.refl _,List.nodup_nil⟩,ug _ _ (qF (qC hnl edf (by intro z;cases z))) hnl,nmk,by omega⟩
  have fnl':H nl=none:=Ge.fresh (hb.mono (by omega)) fnl
  have Gg:GrC b (c+120) H (upd Hf m (.dK (br D0 wa))):=by
   refine⟨fun x o hx e=>?_,?_⟩
   ·rw[qh (ql e fm)];exact Gf.kp x o hx e
   ·obtain⟨y1,y2,y3,e,e1,e2,e3,e4⟩:=Gf.bx
    exact⟨y1,y2,y3,by rw[qh nmb.symm];exact e,e1,e2,e3,by omega⟩
  rw[<- hD0,<- hwa]
  generalize upd Hf m (.dK (br D0 wa))=Hg at wk0 Gg⊢
  have ewm:wa.m=m:=by rw[hwa]
  have ewl:wa.ml=ml:=by rw[hwa]
  have ewn:wa.nl=nl:=by rw[hwa]
  have ewk:wa.kd=kd:=by rw[hwa]
  rw[<- ewm]at fm⊢
  rw[<- ewl]at fml
  rw[<- ewn]at fnl'
  rw[<- ewk]at fkd
  have dn:D0.near=near:=by rw[hD0]
  have df:D0.far=near+more:=by rw[hD0]
  have dk:D0.kss.length=kss.length:=by rw[hD0]
  have dk0:D0.kn=[]:=by rw[hD0]
  refine⟨_,rfl,wa.m,_,rfl,wk0.g_names,wa.nl,rfl,⟨_,SqL.of wk0.nm⟩,?_⟩
  refine ZI (K:=K) (xs:=nms.map V.str) (Pv:=fun i σ Hx=>∃(kn:Kw) (o7 o8 o9:Option V),GrC b (c+120+10*i) H Hx/\WkAt K Hx wa {D0 with kn:=kn} nms/\kn.map (·.1)=nms.take i/\(∀e∈kn,KbOk D0 e.2/\1<=e.2.last)/\(∀e∈kn,∀x cc,e.2.wt=some (x,cc)->x=e.2.age/\e.2.last+D0.near<cc/\cc<=e.2.last+D0.far)/\σ=[some (.ref b),some (.bl g),some (.int (many:Int)),some (.ref ml),some (.int near),some (.int (near+more)),some (.ref wa.m),o7,o8,o9]) ⟨[],_,_,_,Gg.mono (by omega),by rw[<- dk0];exact wk0,rfl,(fun e he=>by cases he),(fun e he=>by cases he),rfl⟩ (fun i σ Hx _ ⟨_,_,_,_,_,wx,_⟩=>SqL.of wx.nm) ?_ ?_
  ·rintro i v σ Hx hv ⟨kn,o7,o8,o9,Gx,wx,ek,kbx,wtx,rfl⟩
   obtain⟨nm,rfl,hnmi⟩:∃nm,v= .str nm/\nms[i]? =some nm:=by
    rw[List.getElem?_map]at hv
    cases z:nms[i]? with
    |none=>rw[z]at hv;cases hv
    |some y=>rw[z]at hv;cases hv;exact⟨y,rfl,rfl⟩
   have hi:i<nms.length:=(List.getElem?_eq_some_iff.mp hnmi).1
   have hkl:kn.length=i:=by have:=congrArg List.length ek;rw[List.length_map,List.length_take]at this;omega
   have hnin:nm∉kn.map (·.1):=fun z=>by
    rw[ek]at z
    have nd':(nms.take i++nms.drop i).Nodup:=by rw[List.take_append_drop];exact nd
    refine(List.nodup_append.mp nd').2.2 nm z nm (List.mem_of_getElem? (i:=0) ?_) rfl
    rw[List.getElem?_drop];exact hnmi
   refine⟨_,rfl,b,_,_,rfl,Gx.bx,by omega,by decide,by decide,fun r1 H1 r10 r11 g1=>⟨_,_,rfl,rfl,?_⟩⟩
   refine⟨_,rfl,b,_,_,rfl,g1.bx,by omega,by decide,by decide,fun r2 H2 r20 r21 g2=>⟨_,_,rfl,rfl,by show 8<=sizeLine;decide,fun l3 hl3=>?_⟩⟩
   have u3:=Same.upd (o:= .lst [.int 1,.int 2,.int 15,.int 255,.int 256,.int 4000,.int (4095-r1),.int (1+r2)]) hl3
   refine⟨_,rfl,b,_,_,rfl,(u3.grc g2.bx).bx,by omega,by decide,by decide,fun r3 H4 r30 r31 g4=>?_⟩
   obtain⟨v3,hv3,hvm3⟩:=Zq (xs:=[V.int 1,.int 2,.int 15,.int 255,.int 256,.int 4000,.int (4095-r1),.int (1+r2)]) r30 r31
   obtain⟨last,rfl,la1,la2⟩:∃z:Int,v3= .int z/\1<=z/\z<=4095:=by
    simp only[List.mem_cons,List.not_mem_nil,or_false]at hvm3
    rcases hvm3 with rfl|rfl|rfl|rfl|rfl|rfl|rfl|rfl<;>exact⟨_,rfl,by omega,by omega⟩
   refine⟨l3,_,_,_,rfl,rfl,SqL.of (g4.kp _ _ (zU g2.bx hl3) qb),hv3,?_⟩
   have w4:=(((wx.grc Gx.bx g1).grc g1.bx g2).same u3).grc (u3.grc g2.bx).bx g4
   have G4':GrC b (c+120+10*i+3) H H4:=((((Gx.trans g1).trans g2).same u3).trans g4).mono (by omega)
   obtain⟨as4,eh4,la4,_⟩:=id w4.ks
   rw[ewl]at eh4
   have lks:(as4.map V.ref).length=kss.length:=by rw[List.length_map,la4];exact dk
   refine⟨_,rfl,_,rfl,ml,_,rfl,.inl (SqL.of eh4),b,_,_,rfl,G4'.bx,by omega,by rw[lks];omega,by rw[lks];omega,fun age H5 a0 a1 g5=>⟨_,rfl,by show 3<=sizeLine;decide,fun l6 hl6=>?_⟩⟩
   rw[lks]at a1
   have w5:=w4.grc G4'.bx g5
   have u6:=Same.upd (o:= .lst [.int age,.int last,.non]) hl6
   obtain⟨kvs,dp,hval,hkg⟩:=KlAt.putL w5.kb hl6 u6 nm (by show kn.length<=100;omega)
   have w6:=w5.same u6
   refine⟨_,rfl,wa.m,_,rfl,w6.g_known,_,rfl,wa.kd,_,rfl,dp,?_⟩
   have m7:Mv [wa.kd] (upd H5 l6 (.lst [.int age,.int last,.non])) (upd (upd H5 l6 (.lst [.int age,.int last,.non])) wa.kd (.dK kvs)):=Mv.upd1
   obtain⟨kv6,ek6,_⟩:=w6.kb.di
   have nt7:NT [wa.kd] (upd H5 l6 (.lst [.int age,.int last,.non])):=NT.one ek6 trivial
   obtain⟨as6,eh6,_⟩:=id w6.ks
   have wp:WkP K (upd (upd H5 l6 (.lst [.int age,.int last,.non])) wa.kd (.dK kvs)) wa D0 nms l6 kvs nm age last kn:=⟨m7 _ _ (qF w6.ne) w6.di,m7.sqt nt7 w6.tb,w6.ks.mv m7 nt7 (qF (qC eh6 ek6 (by intro z;cases z))),hkg,qb,hval,m7 _ _ (qF (qC qb ek6 (by intro z;cases z))) qb,m7 _ _ (qF (qC w6.nm ek6 (by intro z;cases z))) w6.nm,w6.ne,w6.n1⟩
   have G7:GrC b (c+120+10*i+4) H (upd (upd H5 l6 (.lst [.int age,.int last,.non])) wa.kd (.dK kvs)):=by
    have Gy:=((G4'.trans g5).same u6)
    refine⟨fun x o hx e=>?_,?_⟩
    ·rw[qh (ql e fkd)];exact Gy.kp x o hx e
    ·obtain⟨y1,y2,y3,e,e1,e2,e3,e4⟩:=Gy.bx
     exact⟨y1,y2,y3,by rw[qh (qC ek6 e (by intro z;cases z)).symm];exact e,e1,e2,e3,by omega⟩
   have f6:H l6=none:=(G4'.trans g5).fresh (hb.mono (by omega)) hl6
   generalize upd (upd H5 l6 (.lst [.int age,.int last,.non])) wa.kd (.dK kvs)=H7 at wp G7⊢
   have fin:∀(e:Kb) (H':Hp) (o9:Option V) (n':Nat),GrC b n' H H'->n'<=c+120+10*(i+1)->WkAt K H' wa {D0 with kn:=qQ kn nm e} nms->KbOk D0 e/\1<=e.last->(∀x cc,e.wt=some (x,cc)->x=e.age/\e.last+D0.near<cc/\cc<=e.last+D0.far)->∃(kn:Kw) (o7 o8 o9':Option V),GrC b (c+120+10*(i+1)) H H'/\WkAt K H' wa {D0 with kn:=kn} nms/\kn.map (·.1)=nms.take (i+1)/\(∀e∈kn,KbOk D0 e.2/\1<=e.2.last)/\(∀e∈kn,∀x cc,e.2.wt=some (x,cc)->x=e.2.age/\e.2.last+D0.near<cc/\cc<=e.2.last+D0.far)/\[some (.ref b),some (.bl g),some (.int (many:Int)),some (.ref ml),some (.int near),some (.int (near+more)),some (.ref wa.m),some (.str nm),some (.int last),o9]=[some (.ref b),some (.bl g),some (.int (many:Int)),some (.ref ml),some (.int near),some (.int (near+more)),some (.ref wa.m),o7,o8,o9']:=fun e H' o9 n' G' hn' w' ke kw=>by
    have ep:qQ kn nm e=kn++[(nm,e)]:=by unfold qQ;rw[if_neg hnin]
    refine⟨qQ kn nm e,_,_,_,G'.mono hn',w',?_,fun x hx=>?_,fun x hx=>?_,rfl⟩
    ·rw[ep,List.map_append,ek,List.take_succ,hnmi];rfl
    ·rw[ep]at hx
     rcases List.mem_append.mp hx with hx|hx
     ·exact kbx x hx
     ·rw[List.mem_singleton.mp hx];exact ke
    ·rw[ep]at hx
     rcases List.mem_append.mp hx with hx|hx
     ·exact wtx x hx
     ·rw[List.mem_singleton.mp hx];exact kw
   have ke0:KbOk D0 ⟨age,last,none⟩:=⟨a0,by show age<(D0.kss.length:Int);rw[dk];exact a1,by show 0<=last;omega,by show last<4096;omega,fun x y z=>by cases z⟩
   refine⟨_,rfl,_,rfl,_,_,rfl,rfl,_,_,rfl,rfl,_,rfl,_,rfl,_,rfl,_,_,rfl,rfl,_,_,rfl,b,_,_,rfl,G7.bx,by omega,by split<;>omega,by split<;>omega,fun r8 H8 r80 r81 g8=>⟨_,_,rfl,rfl,?_⟩⟩
   have wp8:=wp.grc G7.bx g8
   have G8:=G7.trans g8
   refine⟨_,rfl,_,rfl,_,_,rfl,rfl,_,rfl,?_⟩
   refine qL (fun y1=>?_) (fun _=>fin ⟨age,last,none⟩ _ _ _ G8 (by omega) wp8.plain ⟨ke0,la1⟩ (fun x cc z=>by cases z))
   refine⟨_,rfl,_,_,rfl,rfl,_,rfl,?_⟩
   refine qL (fun y2=>?_) (fun _=>fin ⟨age,last,none⟩ _ _ _ G8 (by omega) wp8.plain ⟨ke0,la1⟩ (fun x cc z=>by cases z))
   refine⟨_,rfl,b,_,_,rfl,G8.bx,by omega,by decide,by decide,fun r9 H9 r90 r91 g9=>⟨rfl,_,rfl,?_⟩⟩
   have wp9:=wp8.grc G8.bx g9
   have G9':=G8.trans g9
   refine qL (fun _=>?_) (fun _=>fin ⟨age,last,none⟩ _ _ _ G9' (by omega) wp9.plain ⟨ke0,la1⟩ (fun x cc z=>by cases z))
   have h1:=of_decide_eq_true y1
   have h2:=of_decide_eq_true y2
   refine⟨_,rfl,wa.m,_,rfl,wp9.g_known,_,rfl,wa.kd,_,rfl,wp9.g_nm,l6,_,_,_,rfl,rfl,SqL.of wp9.el,rfl,_,rfl,by show 2<=sizeLine;decide,fun t0 ht0=>?_⟩
   have u0:=Same.upd (o:= .tup [.int age,.int (last+near+1+r8)]) ht0
   have wp0:=wp9.same u0
   refine⟨_,rfl,wa.m,_,rfl,wp0.g_known,_,rfl,wa.kd,_,rfl,wp0.g_nm,l6,_,_,2,rfl,rfl,wp0.el,rfl,?_⟩
   have w':=wp0.wait (t:=t0) (x:=age) (cc:=last+near+1+r8) qb
   have G0:=G9'.same u0
   refine fin ⟨age,last,some (age,last+near+1+r8)⟩ _ _ (c+120+10*i+6) ⟨fun x o hx e=>?_,?_⟩ (by omega) w' ⟨⟨ke0.a0,ke0.a1,ke0.l0,ke0.l1,fun x y z=>?_⟩,la1⟩ (fun x cc z=>?_)
   ·show upd _ l6 _ x=_
    rw[qh (ql e f6)];exact G0.kp x o hx e
   ·obtain⟨y1',y2',y3',e,e1,e2,e3,e4⟩:=G0.bx
    have nb6:b≠l6:=(qC wp0.el e (fun q=>by injection q with q;injection q with _ q;injection q with _ q;injection q with q _;cases q)).symm
    exact⟨y1',y2',y3',by show upd _ l6 _ b=_;rw[qh nb6];exact e,e1,e2,e3,by omega⟩
   ·cases z;exact⟨by omega,by omega⟩
   ·cases z
    refine⟨rfl,?_,?_⟩
    ·show last+D0.near<_;rw[dn];omega
    ·show _<=last+D0.far;rw[df];revert r81;split<;>intro r81<;>omega
  ·rintro σ Hx ⟨kn,o7,o8,o9,Gx,wx,ek,kbx,wtx,rfl⟩
   have okD:∀l:Int,0<=l->l<kss.length->WkOk {D0 with kn:=kn,least:=l} nms:=fun l l0 l1=>by
    have ek':kn.map (·.1)=nms:=by rw[ek,List.length_map,List.take_length]
    have hkl:kn.length=nms.length:=by have:=congrArg List.length ek';rwa [List.length_map]at this
    refine⟨⟨by rw[hD0];exact pt,l0,by show D0.kss.length<=8;omega,by show kn.length<=60;omega,by show(kn.map (·.1)).Nodup;rw[ek'];exact nd⟩,by show 1<=D0.kss.length;omega,by show 1<=D0.near;omega,by show D0.near<=D0.far;omega,by show D0.far<=2000;omega,by show l<(D0.kss.length:Int);omega,by rw[hD0],fun e he=>?_,wtx,nnm,ek',by omega,by omega⟩
    have z:=kbx e he
    exact⟨⟨z.1.a0,z.1.a1,z.1.l0,z.1.l1,z.1.w⟩,z.2⟩
   rw[List.length_map]at Gx
   refine⟨_,rfl,b,_,_,rfl,Gx.bx,by omega,by decide,by decide,fun r1 H1 r10 r11 g1=>⟨rfl,_,rfl,?_⟩⟩
   have w1:=wx.grc Gx.bx g1
   have G1':=Gx.trans g1
   have eD:({D0 with kn:=kn}:Dr)={D0 with kn:=kn,least:=0}:=by rw[hD0]
   refine qL (fun _=>?_) (fun _=>⟨_,rfl,q wa _ nms _ (G1'.mono (by omega)) fm fml fkd fnl' w1 (by rw[eD];exact okD 0 (by omega) (by omega))⟩)
   obtain⟨as4,eh4,la4,_⟩:=id w1.ks
   rw[ewl]at eh4
   have lks:(as4.map V.ref).length=kss.length:=by rw[List.length_map,la4];exact dk
   refine⟨_,rfl,_,rfl,ml,_,rfl,.inl (SqL.of eh4),b,_,_,rfl,G1'.bx,by omega,by rw[lks];omega,by rw[lks];omega,fun sh H2 s0 s1 g2=>?_⟩
   rw[lks]at s1
   have w2:=w1.grc G1'.bx g2
   have G2':=G1'.trans g2
   have dp:=DPut.k (k:=(Sum.inr "shut":qt)) (v:= .int sh) w2.di (Nat.lt_of_le_of_lt (show 7<=100 by decide) (by decide))
   rw[nQ 4 rfl (io ..)]at dp
   refine⟨_,rfl,wa.m,_,rfl,dp,?_⟩
   have m3:Mv [wa.m] H2 (upd H2 wa.m (.dK (br {D0 with kn:=kn,least:=sh} wa))):=Mv.upd1
   have nt3:NT [wa.m] H2:=NT.one w2.di trivial
   obtain⟨as2,eh2,_⟩:=id w2.ks
   have w3:WkAt K (upd H2 wa.m (.dK (br {D0 with kn:=kn,least:=sh} wa))) wa {D0 with kn:=kn,least:=sh} nms:=⟨qb,m3.sqt nt3 w2.tb,w2.ks.mv m3 nt3 (qF (qC eh2 w2.di (by intro z;cases z))),KgAt.to w2.kb (fun o z=>m3 _ _ (qF w2.ne.symm) z) (fun a e h=>h.mv m3 nt3 (qF (h.ned w2.di))),m3 _ _ (qF (qC w2.nm w2.di (by intro z;cases z))) w2.nm,w2.ne,w2.n1⟩
   refine⟨_,rfl,q wa _ nms _ ⟨fun x o hx e=>?_,?_⟩ fm fml fkd fnl' w3 (okD sh s0 s1)⟩
   ·show upd H2 wa.m _ x=_
    rw[qh (ql e fm)];exact G2'.kp x o hx e
   ·obtain⟨y1,y2,y3,e,e1,e2,e3,e4⟩:=G2'.bx
    exact⟨y1,y2,y3,by show upd H2 wa.m _ b=_;rw[qh (qC w2.di e (by intro z;cases z)).symm];exact e,e1,e2,e3,by omega⟩
end
section
variable{P:Program}{w:World}{K:Frag}{mg:Str->Option Value}{base:Heap}{tk:Nat->Tok}{C:Addr}
theorem ju(a:At K mg "_law_door" aP ["_law_world_here"])(T:Txt K mg tk)(U:DCx K C)(xI:Mi P w K mg base C "Door" ["self","table","keys","near","far","most"] 1 (gU K C))(xK:Mf P w K mg base C "learn" ["self","one","other"] 7 (fB K C))(dJ:Mf P w K mg base C "hear" ["self","thing"] 6 (eR K C))(dM:Mf P w K mg base C "close_below" ["self","age"] 1 (iP K C))(dB:Df P w K mg base "_law_press" ["_law_world_here","_law_spec"] 4 (ZS K)):Df P w K mg base "_law_door" ["_law_world_here"] 8 (iL K C):=by
 refine a.dq sc_law_door (fun vs H Q E h=>?_) (fun f cdv A outer s H vs Q E hr h=>?_)
 ·obtain⟨_,_,_,rfl,_⟩:=h
  rfl
 ·obtain⟨wa,D,ns,rfl,wk,wo,q⟩:=h
  refine⟨_,(qe (qy (i:=1) sc_law_door.nd rfl (Or.inl rfl) (j7 xI hr.mo (qd (qw hr (qv 0) qk) (qd (qD qJ (by rfl) T.b_tuple PyProof.Rows.boot_tuple (qd (qw hr (qv 0) qk) qc)) (qd (qw hr (qv 0) qk) (qd (qw hr (qv 0) qk) (qd qf qc)))))))
   (qe (zF PassesOwn.never rfl (zq (qw hr (qv 0) qk)) (qj (i:=2) sc_law_door.nd rfl (Or.inl rfl))
   (qe (zf (qw hr (qw hr (qv 0) qk) (qv 2)) (Zc rfl (qu (qj (i:=3) sc_law_door.nd rfl (Or.inl rfl)) (qu (qj (i:=4) sc_law_door.nd rfl (Or.inl rfl)) (qu (qj (i:=5) sc_law_door.nd rfl (Or.inl rfl)) zm)))))
   (qe (zJ (zK xK U.cl hr.mo (qv 1) (qd (qo dB hr.mo (qd (qv 0) (qd (qA (qd (qv 2) (qd (qv 3) (qd (qm zO (qv 4) qf) (qd qf (qd qf qc)))))) qc))) (qd (qo dB hr.mo (qd (qv 0) (qd (qA (qd (qv 2) (qd (qv 3) (qd (qv 4) (qd qf (qd qf qc)))))) qc))) qc))))
   (qg (qK (qz ki (qv 5) zS (qx _)) (qg (zJ (zK dJ U.cl hr.mo (qv 1) (qd (qo dB hr.mo (qd (qv 0) (qd (qA (qd (qv 2) (qd (qv 3) (qd (qI Qe (qv 5) qf (fun _ _=>rfl)) (qd qf (qd qf qc)))))) qc))) qc)))) qE)))))
   (qe (qK (qz bK (qw hr (qv 0) qk) qf (qx _)) (qg (zJ (zK dM U.cl hr.mo (qv 1) (qd (qw hr (qv 0) qk) qc)))) qE)
   (qg (qp (qv 1)))))),?_⟩
  have k1:=wo.k1
  have k8:=wo.ok.kl
  obtain⟨as,eh,la,hks⟩:=id wk.ks
  refine⟨_,rfl,wa.m,_,rfl,wk.g_table,_,rfl,wa.m,_,rfl,wk.g_keys,wa.ml,_,rfl,.inl ⟨SqL.of eh,fun tt htt=>?_⟩⟩
  have u1:=Same.upd (o:= .tup (as.map V.ref)) htt
  have wk1:=wk.same u1
  refine⟨_,rfl,wa.m,_,rfl,wk1.g_near,_,rfl,wa.m,_,rfl,wk1.g_far,fun x dx nx ndx nex=>?_⟩
  have sJ:Same (upd H tt (.tup (as.map V.ref))) (upd (upd (upd H tt (.tup (as.map V.ref))) dx (.own x)) x (.ins C dx [])):=(Same.upd ndx).trans (Same.upd (by rw[qh nex.symm];exact nx))
  refine⟨x,wa.mt,tt,dx,D.near,D.far,12,D.t,D.kss,rfl,qb,.inr (Same.sqt sJ wk1.tb),⟨as,SqT.of (sJ _ _ qb),la,fun i a z h1 h2=>Same.sqt (u1.trans sJ) (hks i a z h1 h2)⟩,k8,fun ta hk bd lg H2 h1 h2 h3 mv dr krn=>⟨rfl,?_⟩⟩
  have S2:Same H H2:=fun c o e=>mv c o (qF (ql (u1 _ _ e) nx)) (sJ c o (u1 _ _ e))
  have fp:H x=none:=zZ nx u1
  have f1:=zZ (zZ h1 sJ) u1
  have f2:=zZ (zZ h2 sJ) u1
  have f3:=zZ (zZ h3 sJ) u1
  have dl0:DlAt K C H2 ⟨x,ta,hk,bd,lg⟩ ⟨D.t,D.kss,D.near,D.far,12,0,[]⟩ []:=dr.dl krn
  obtain⟨da,hda⟩:∃da:Da,da=⟨x,ta,hk,bd,lg⟩:=⟨_,rfl⟩
  have hx:x=da.p:=by rw[hda]
  rw[<- hda]at dl0
  have fd:∀z∈dS da,H z=none:=by rw[hda];exact eY fp f1 f2 f3
  have wk2:=wk.same S2
  refine⟨_,rfl,wa.m,_,rfl,wk2.g_names,wa.nl,rfl,⟨_,SqL.of wk2.nm⟩,?_⟩
  have e00:({D with least:=0,kn:=D.kn.take 0}:Dr)=⟨D.t,D.kss,D.near,D.far,12,0,[]⟩:=by rw[<- wo.ms];rfl
  refine ZI (K:=K) (xs:=ns.map V.str) (Pv:=fun i σ Hx=>∃(L:List Rw) (o2 o3 o4 o5:Option V),Same H Hx/\DlAt K C Hx da {D with least:=0,kn:=D.kn.take i} L/\L.length<=2*i/\σ=[some (.ref wa.m),some (.ref da.p),o2,o3,o4,o5]) ⟨[],_,_,_,_,S2,(by rw[e00];exact dl0),by decide,by rw[hx];rfl⟩ (fun i σ Hx _ ⟨_,_,_,_,_,sx,_⟩=>SqL.of (sx _ _ wk.nm)) ?_ ?_
  ·rintro i v σ Hx hv ⟨L,o2,o3,o4,o5,sx,dl,hL,rfl⟩
   obtain⟨nm,rfl,hnmi⟩:∃nm,v= .str nm/\ns[i]? =some nm:=by
    rw[List.getElem?_map]at hv
    cases z:ns[i]? with
    |none=>rw[z]at hv;cases hv
    |some y=>rw[z]at hv;cases hv;exact⟨y,rfl,rfl⟩
   have hi:i<ns.length:=(List.getElem?_eq_some_iff.mp hnmi).1
   have n12:=wo.nl
   have hkl:D.kn.length=ns.length:=by have:=congrArg List.length wo.nn;rwa [List.length_map]at this
   obtain⟨e,hei⟩:∃e,D.kn[i]? =some (nm,e):=by
    have h0:=hnmi
    rw[<- wo.nn,List.getElem?_map]at h0
    cases z:D.kn[i]? with
    |none=>rw[z]at h0;cases h0
    |some y=>rw[z]at h0;obtain⟨y1,y2⟩:=y;cases h0;exact⟨y2,rfl⟩
   have wkx:=wk.same sx
   have hmem:=List.mem_of_getElem? hei
   obtain⟨e',x0,he',gg,vv,hx0,hw0⟩:=(wkx.kb.get nm).resolve_left (fun z=>by have:=zE (List.mem_map.mpr ⟨_,hmem,rfl⟩);obtain⟨y,hy⟩:=this;rw[hy]at z;cases z.1)
   obtain rfl:e=e':=by have:=Qv wo.ok.nd he' (nm,e) hmem rfl;injection this
   have kbe:=wo.kb _ hmem
   have wte:=wo.wt _ hmem
   simp only at kbe wte
   have ea0:=kbe.1.a0
   have ea1:=kbe.1.a1
   have el1:=kbe.1.l1
   have el0:=kbe.2
   have hn:=wo.nm nm (List.mem_of_getElem? hnmi)
   have tp:=wo.ok.tp
   have z5:ZO 0:=⟨by decide,by decide⟩
   have sc:∀c,0<=c->c<4096->ScOk D ⟨nm,e.age,c,0,0⟩:=fun c c0 c1=>⟨hn,ea0,ea1,c0,c1,z5,by show(0:Int)<=0;decide,by show(0:Int)<=3;decide⟩
   have eP:∀c,zC D ⟨nm,e.age,c,0,0⟩=⟨nm,e.age,Zm D.t (zD D e.age) nm c 0⟩:=fun c=>by unfold zC;rw[if_pos rfl]
   refine⟨_,rfl,wa.m,_,rfl,wkx.g_known,_,rfl,wa.kd,_,rfl,gg,x0,_,rfl,.inl (SqL.of hx0),rfl,_,_,rfl,_,_,rfl,_,_,rfl,rfl,?_⟩
   refine⟨_,rfl,da.p,rfl,dl.dr.no,_,rfl,_,rfl,_,rfl,_,rfl,_,_,rfl,rfl,by show 5<=sizeLine;decide,fun sp1 hsp1=>?_⟩
   have v1:=Same.upd (o:= .tup [.str nm,.int e.age,.int (e.last-1),.int 0,.int 0]) hsp1
   refine⟨wa,sp1,D,ns,⟨nm,e.age,e.last-1,0,0⟩,rfl,wkx.same v1,tp,qb,sc _ (by omega) (by omega),fun p1 H3 s3 hp1=>?_⟩
   have S3:=v1.trans s3
   refine⟨_,rfl,_,rfl,_,rfl,_,rfl,by show 5<=sizeLine;decide,fun sp2 hsp2=>?_⟩
   have v2:=Same.upd (o:= .tup [.str nm,.int e.age,.int e.last,.int 0,.int 0]) hsp2
   refine⟨wa,sp2,D,ns,⟨nm,e.age,e.last,0,0⟩,rfl,(wkx.same S3).same v2,tp,qb,sc _ (by omega) (by omega),fun p2 H5 s5 hp2=>?_⟩
   have S5:=S3.trans (v2.trans s5)
   have dl5:=dl.same S5
   have ht:zN {D with least:=0,kn:=D.kn.take i} e.age=true:=by unfold zN;rw[decide_eq_true (show(0:Int)<=e.age from ea0),decide_eq_true (show e.age<(D.kss.length:Int)from ea1)];rfl
   have okd:DrOk {D with least:=0,kn:=D.kn.take i}:=⟨tp,Int.le_refl _,wo.ok.kl,by show(D.kn.take i).length<=60;rw[List.length_take];omega,by show((D.kn.take i).map (·.1)).Nodup;rw[List.map_take];exact wo.ok.nd.sublist (List.take_sublist ..)⟩
   have hnin:nm∉(D.kn.take i).map (·.1):=fun z=>by
    rw[List.map_take,wo.nn]at z
    have nd':(ns.take i++ns.drop i).Nodup:=by rw[List.take_append_drop,<- wo.nn];exact wo.ok.nd
    refine(List.nodup_append.mp nd').2.2 nm z nm (List.mem_of_getElem? (i:=0) ?_) rfl
    rw[List.getElem?_drop];exact hnmi
   have hno:(D.kn.take i).lookup nm=none:=by
    cases z:(D.kn.take i).lookup nm with
    |none=>rfl
    |some y=>exact absurd (List.mem_map.mpr ⟨_,zQ z,rfl⟩) hnin
   have r1:∀c,0<=c->c<4096->a6 {D with least:=0,kn:=D.kn.take i} (zC D ⟨nm,e.age,c,0,0⟩)=some (c,0):=fun c c0 c1=>by
    rw[eP];unfold a6;simp only;rw[ht,if_pos rfl]
    exact bE tp c0 c1 z5
   refine⟨da,_,L,p1,p2,zC D ⟨nm,e.age,e.last-1,0,0⟩,zC D ⟨nm,e.age,e.last,0,0⟩,e.last-1,0,0,rfl,dl5,by omega,okd,PrAt.same (v2.trans s5) hp1,hp2,cT (sc _ (by omega) (by omega)) tp,cT (sc _ (by omega) (by omega)) tp,r1 _ (by omega) (by omega),by rw[r1 _ (by omega) (by omega)];congr 2;omega,by rw[eP,eP],by rw[eP,eP],by rw[eP];exact hno,by show((D.kn.take i).length:Int)<D.most;rw[List.length_take,wo.ms];omega,fun H6 m6 d6=>?_⟩
   rw[eP e.last,show e.last-1+1=e.last by omega]at d6
   simp only at d6
   have ep:∀y,qQ (D.kn.take i) nm y=D.kn.take i++[(nm,y)]:=fun y=>by unfold qQ;rw[if_neg hnin]
   rw[ep]at d6
   have m6':Mv (dS da) H5 H6:=m6.mono fun c h z=>h (by simp only[List.mem_cons,List.not_mem_nil,or_false]at z;rcases z with rfl|rfl;exact aO _;exact ZL _)
   have S6:Same H H6:=fun c o q0=>m6' c o (fun z=>by rw[fd c z]at q0;cases q0) (S5 _ _ (sx _ _ q0))
   have etk:D.kn.take (i+1)=D.kn.take i++[(nm,e)]:=by rw[List.take_succ,hei];rfl
   refine⟨_,rfl,rfl,_,rfl,?_⟩
   cases hwt:e.wt with
   |none=>
    rw[hwt]at hw0
    have hvv:vv= .non:=hw0
    refine bJ hvv ?_
    have ee:(⟨e.age,e.last,none⟩:Kb)=e:=by rw[<- hwt]
    rw[ee,<- etk]at d6
    exact⟨_,_,_,_,_,S6,d6,by rw[List.length_append];show L.length+1<=_;omega,rfl⟩
   |some xc=>
    obtain⟨x9,cc⟩:=xc
    rw[hwt]at hw0
    obtain⟨p9,rfl,hp9⟩:=hw0
    obtain⟨rfl,c1,c2⟩:=wte x9 cc hwt
    have cb:=kbe.1.w _ _ hwt
    refine ZB (by rw[decide_eq_false (by intro z;cases z)];rfl) ?_
    have hp6:H6 p9=some (.tup [.int e.age,.int cc]):=m6'.tup dl5.nt (S5 _ _ hp9)
    refine⟨_,rfl,da.p,rfl,d6.dr.no,_,rfl,_,rfl,_,rfl,_,rfl,p9,_,_,_,rfl,rfl,SqT.of hp6,rfl,by show 5<=sizeLine;decide,fun sp3 hsp3=>?_⟩
    have v3:=Same.upd (o:= .tup [.str nm,.int e.age,.int cc,.int 0,.int 0]) hsp3
    refine⟨wa,sp3,D,ns,⟨nm,e.age,cc,0,0⟩,rfl,(wk.same S6).same v3,tp,qb,sc _ cb.1 cb.2,fun p3 H8 s8 hp3=>?_⟩
    have ok6:DrOk {D with least:=0,kn:=D.kn.take i++[(nm,⟨e.age,e.last,none⟩)]}:=⟨tp,Int.le_refl _,wo.ok.kl,by show(D.kn.take i++[_]).length<=60;rw[List.length_append,List.length_take];show _+1<=60;omega,by rw[<- ep];exact bS okd.nd nm _⟩
    refine⟨da,_,_,.ref p3,some (zC D ⟨nm,e.age,cc,0,0⟩),rfl,d6.same (v3.trans s8),by rw[List.length_append];show L.length+1<=1000;omega,ok6,⟨p3,rfl,hp3,cT (sc _ cb.1 cb.2) tp⟩,(fun z=>nomatch z),fun P eP' pr' q2 He epr me _ hq2 de=>?_⟩
    obtain rfl:_=P:=Option.some.inj eP'
    have hkn:(qX {D with least:=0,kn:=D.kn.take i++[(nm,⟨e.age,e.last,none⟩)]} (zC D ⟨nm,e.age,cc,0,0⟩)).2=D.kn.take (i+1):=by
     have lk:(D.kn.take i++[(nm,(⟨e.age,e.last,none⟩:Kb))]).lookup nm=some ⟨e.age,e.last,none⟩:=by rw[<- ep];exact nV okd.nd
     rw[eP]
     unfold qX
     simp only
     rw[show Qa D.t (zD {D with least:=0,kn:=D.kn.take i++[(nm,⟨e.age,e.last,none⟩)]} e.age) nm (Zm D.t (zD D e.age) nm cc 0)=some (cc,0)from bE tp cb.1 cb.2 z5]
     unfold qZ
     simp only
     rw[lk]
     simp only
     rw[if_pos (by unfold zL zN;rw[decide_eq_true (show(0:Int)<=e.age from ea0),decide_eq_true (show e.age<(D.kss.length:Int)from ea1),decide_eq_true (Int.le_refl e.age)];rfl)]
     have es:zB D.near D.far ⟨e.age,e.last,none⟩ e.age cc=(("far":Str),(⟨e.age,e.last,some (e.age,cc)⟩:Kb)):=by
      unfold zB
      have n0:=wo.n0
      rw[if_neg (show¬cc<=e.last by omega),if_neg (show¬cc<=e.last+D.near by omega),if_pos (show cc<=e.last+D.far by omega),if_neg (by intro z;cases z)]
     have nfar:¬(("far":Str)="near"):=by decide +kernel
     rw[es,if_neg (show¬(("far":Str),(⟨e.age,e.last,some (e.age,cc)⟩:Kb)).1="near" from nfar)]
     show qQ (D.kn.take i++[(nm,_)]) nm ⟨e.age,e.last,some (e.age,cc)⟩=_
     have ee:(⟨e.age,e.last,some (e.age,cc)⟩:Kb)=e:=by rw[<- hwt]
     unfold qQ
     rw[if_pos (by simp),List.map_append,etk,ee]
     congr 1
     ·refine(List.map_congr_left fun p hp=>?_).trans (List.map_id _)
      rw[if_neg (fun z=>hnin (List.mem_map.mpr ⟨p,hp,z⟩))];rfl
     ·simp
    rw[hkn]at de
    have me':Mv (dS da) H8 He:=me.mono fun c h z=>h (by simp only[List.mem_cons,List.not_mem_nil,or_false]at z;rcases z with rfl|rfl;exact aO _;exact ZL _)
    refine⟨_,_,_,_,_,(fun c o q0=>me' c o (fun z=>by rw[fd c z]at q0;cases q0) ((v3.trans s8) _ _ (S6 _ _ q0))),de,by rw[List.length_append,List.length_append];show L.length+1+1<=_;omega,rfl⟩
  ·rintro σ Hx ⟨L,o2,o3,o4,o5,sx,dl,hL,rfl⟩
   have hkl:D.kn.length=ns.length:=by have:=congrArg List.length wo.nn;rwa [List.length_map]at this
   have n12:=wo.nl
   have l0:=wo.ok.l0
   rw[List.length_map]at dl hL
   rw[show D.kn.take ns.length=D.kn by rw[<- hkl,List.take_length]]at dl
   have wkx:=wk.same sx
   refine⟨_,rfl,wa.m,_,rfl,wkx.g_shut,_,_,rfl,rfl,_,rfl,?_⟩
   refine qL (fun y=>?_) (fun y=>?_)
   ·refine⟨_,rfl,da.p,rfl,dl.dr.no,_,rfl,wa.m,_,rfl,wkx.g_shut,da,_,L,D.least,rfl,dl,by omega,fun D' r hd' H' m' d'=>?_⟩
    obtain⟨rfl,rfl⟩:_=D'/\_=r:=by injection hd' with w;injection w with w1 w2;exact⟨w1,w2⟩
    have hy:=of_decide_eq_true y
    have eD:({D with least:=if D.least>0 then D.least else 0}:Dr)=D:=by rw[if_pos hy]
    have m6':Mv (dS da) Hx H':=m'.mono fun c h z=>h (by simp only[List.mem_cons,List.not_mem_nil,or_false]at z;rcases z with rfl|rfl;exact k4 _;exact ZL _)
    refine⟨_,rfl,q da _ H' (fun c o q0=>m6' c o (fun z=>by rw[fd c z]at q0;cases q0) (sx _ _ q0)) (fd _ (k4 _)) (fd _ (ln _)) (fd _ (aO _)) (fd _ (ZL _)) (eD▸d') (by rw[List.length_append];show L.length+1<=30;omega)⟩
   ·have hy:D.least=0:=by have h:=of_decide_eq_false (Bool.eq_false_iff.mpr y);omega
    have eD:({D with least:=0}:Dr)=D:=by rw[<- hy]
    exact⟨_,rfl,q da _ Hx sx (fd _ (k4 _)) (fd _ (ln _)) (fd _ (aO _)) (fd _ (ZL _)) (eD▸dl) (by omega)⟩
end
section
variable{P:Program}{w:World}{K:Frag}{mg:Str->Option Value}{base:Heap}{tk:Nat->Tok}{C:Addr}
theorem oy(a:At K mg "heard" fe ["door","row","hearing"])(T:Txt K mg tk)(U:DCx K C)(dU:Mf P w K mg base C "twin_door" ["self"] 3 (jL K C))(dJ:Mf P w K mg base C "hear" ["self","thing"] 6 (eR K C))(dE:Mf P w K mg base C "known_now" ["self"] 1 (cC K C)):Df P w K mg base "heard" ["door","row","hearing"] 7 (fJ K C):=by
 refine a.dq sc_heard (fun vs H Q E h=>?_) (fun f cdv A outer s H vs Q E hr h=>?_)
 ·obtain⟨_,_,_,_,_,_,_,_,rfl,_⟩:=h
  rfl
 ·obtain⟨da,r,h,D,L,qs,ps,hs,rfl,dl,hL,ok,⟨rs,sqr,lr,hrs⟩,sqh,hh,lp,hp,q⟩:=h
  refine⟨_,(qe (qy (i:=3) sc_heard.nd rfl (Or.inr rfl) (Q3 dU U.cl hr.mo (qv 0)))
   (qe (qy (i:=4) sc_heard.nd rfl (Or.inl rfl) (qD qJ (by rfl) T.b_tuple PyProof.Rows.boot_tuple (qd (q8 (own:=["number"]) (fr:=["twin","row"]) (js:=[3,1]) rfl (lE (qv 2)) rfl (oR rfl rfl) rfl (oS rfl (by decide +kernel) (by decide +kernel) (by decide +kernel) rfl rfl rfl rfl rfl rfl) (fun _ _ _ _=>qj (i:=0) (show List.Nodup (["number","twin","row"]:List Str)from by decide +kernel) rfl (Or.inl rfl) (.inr rfl)) (fun _ _ _ _=>(zK dJ U.cl hr.mo (qv 1) (qd (qI (IxR.or (aB (K:=K) rfl) (rE (K:=K) rfl)) (qv 2) (qv 0) (fun _ _=>rfl)) qc)))) qc)))
   (qg (qp (qA (qd (qv 4) (qd (Q3 dE U.cl hr.mo (qv 3)) qc))))))),?_⟩
  refine⟨_,rfl,da.p,rfl,dl.dr.no,da,D,L,rfl,dl,ok.kl,fun tw H1 s1 f1 f2 f3 f4 dt=>?_⟩
  have fd:=eY f1 f2 f3 f4
  refine⟨_,rfl,h,rfl,sX (H0:=H) (xs:=hs.map fun n:Nat=>V.int (n:Int)) sqh (by rw[List.length_map,sizeLine_eq];omega) (fun i ys Hx=>Same H Hx/\∃(as:List Addr) (L':List Rw),ys=as.map V.ref/\as.length=i/\DlAt K C Hx tw {D with kn:=QN D ps i} L'/\L'.length<=L.length+i/\∀(j:Nat) (x:Addr) (P:Ps),as[j]? =some x->ps[j]? =some P->Hx x=some (.tup (cP D ps j P))) ⟨s1,[],L,rfl,rfl,dt,Nat.le_refl _,fun j x P e=>(by cases e)⟩ (fun i ys Hx hx=>hx.1) ?_ ?_⟩
  ·rintro i ys Hx v hv hyl ⟨sx,as,L',rfl,la,dx,hL',ha⟩
   obtain⟨n,rfl,hni⟩:∃n:Nat,v= .int (n:Int)/\hs[i]? =some n:=by
    rw[List.getElem?_map]at hv
    cases z:hs[i]? with
    |none=>rw[z]at hv;cases hv
    |some y=>rw[z]at hv;cases hv;exact⟨y,rfl,rfl⟩
   obtain⟨P,hpi,hqn⟩:=hp i n hni
   have hi:i<hs.length:=(List.getElem?_eq_some_iff.mp hni).1
   have hn:n<rs.length:=by rw[lr];exact(List.getElem?_eq_some_iff.mp hqn).1
   have hrn:=List.getElem?_eq_getElem hn
   obtain⟨pa,pok⟩:=hrs n _ P hrn hqn
   have hat:Q0 (rs.map V.ref) (n:Int)=some (.ref rs[n]):=zY (by rw[List.getElem?_map,hrn];rfl)
   have ok':=Z7 ok ps i
   refine⟨_,rfl,tw.p,rfl,dx.dr.no,_,rfl,_,rfl,?_⟩
   rcases sqr with sq|sq
   ·refine .inl ⟨r,_,_,_,rfl,rfl,sx.seq sq,hat,?_⟩
    refine⟨tw,_,L',.ref rs[n],some P,rfl,dx,by omega,ok',⟨_,rfl,PrAt.same sx pa,pok⟩,(fun z=>nomatch z),fun P' eP' pr' q2 He epr me _ hq2 de=>?_⟩
    obtain rfl:P=P':=Option.some.inj eP'
    have me':Mv (dS tw) Hx He:=me.mono fun c h z=>h (by simp only[List.mem_cons,List.not_mem_nil,or_false]at z;rcases z with rfl|rfl;exact aO _;exact ZL _)
    rw[<- am hpi]at de
    refine⟨fun c o q0=>me' c o (fun z=>by rw[fd c z]at q0;cases q0) (sx _ _ q0),as++[q2],_,by simp,by simp [la],de,by rw[List.length_append];show L'.length+1<=_;omega,fun j x P2 h1 h2=>?_⟩
    rw[List.getElem?_append]at h1
    split at h1
    ·exact me'.tup dx.nt (ha j x P2 h1 h2)
    ·have hj:j-as.length=0:=by
      cases hj:j-as.length with
      |zero=>rfl
      |succ k=>rw[hj]at h1;cases h1
     rw[hj]at h1
     cases h1
     obtain rfl:j=i:=by omega
     rw[hpi]at h2
     cases h2
     exact hq2
   ·refine .inr ⟨r,_,_,_,rfl,rfl,Same.sqt sx sq,hat,?_⟩
    refine⟨tw,_,L',.ref rs[n],some P,rfl,dx,by omega,ok',⟨_,rfl,PrAt.same sx pa,pok⟩,(fun z=>nomatch z),fun P' eP' pr' q2 He epr me _ hq2 de=>?_⟩
    obtain rfl:P=P':=Option.some.inj eP'
    have me':Mv (dS tw) Hx He:=me.mono fun c h z=>h (by simp only[List.mem_cons,List.not_mem_nil,or_false]at z;rcases z with rfl|rfl;exact aO _;exact ZL _)
    rw[<- am hpi]at de
    refine⟨fun c o q0=>me' c o (fun z=>by rw[fd c z]at q0;cases q0) (sx _ _ q0),as++[q2],_,by simp,by simp [la],de,by rw[List.length_append];show L'.length+1<=_;omega,fun j x P2 h1 h2=>?_⟩
    rw[List.getElem?_append]at h1
    split at h1
    ·exact me'.tup dx.nt (ha j x P2 h1 h2)
    ·have hj:j-as.length=0:=by
      cases hj:j-as.length with
      |zero=>rfl
      |succ k=>rw[hj]at h1;cases h1
     rw[hj]at h1
     cases h1
     obtain rfl:j=i:=by omega
     rw[hpi]at h2
     cases h2
     exact hq2
  ·rintro ys Hx hyl ⟨sx,as,L',rfl,la,dx,hL',ha⟩ l hl
   rw[List.length_map]at la dx
   have u2:=Same.upd (o:= .lst (as.map V.ref)) hl
   refine⟨l,_,rfl,.inl ⟨SqL.of qb,fun aq haq=>?_⟩⟩
   have u3:=Same.upd (o:= .tup (as.map V.ref)) haq
   have S3:=u2.trans u3
   have dx3:=dx.same S3
   rw[<- lp]at la dx3
   refine⟨_,rfl,_,rfl,tw.p,rfl,dx3.dr.no,tw.p,tw.ta,tw.hk,tw.bd,tw.lg,_,_,rfl,dx3.dr,Z7 ok ps ps.length,fun kq ss H4 s4 pm so sh=>⟨by show 2<=sizeLine;decide,fun q5 hq5=>?_⟩⟩
   have u5:=Same.upd (o:= .tup [.ref aq,.ref kq]) hq5
   exact q q5 aq kq as ss _ (sx.trans (S3.trans (s4.trans u5))) qb (u5 _ _ (s4 _ _ qb)) la (fun j x P h1 h2=>(S3.trans (s4.trans u5)) _ _ (ha j x P h1 h2)) pm so (sh.same u5)
end
section
variable{P:Program}{w:World}{K:Frag}{mg:Str->Option Value}{base:Heap}{tk:Nat->Tok}
theorem ku(a:At K mg "_law_row" bA ["_law_box_here","_law_world_here","_law_many"])(T:Txt K mg tk)(dA:Df P w K mg base "_law_take" ["_law_box_here","_law_many"] 1 Qn):Df P w K mg base "_law_row" ["_law_box_here","_law_world_here","_law_many"] 2 (fv K):=by
 refine a.dq sc_law_row (fun vs H Q E h=>?_) (fun f cdv A outer s H vs Q E hr h=>?_)
 ·obtain⟨_,_,_,_,_,_,rfl,_⟩:=h
  rfl
 ·obtain⟨b,wa,c,many,D,ns,rfl,hb,hc,wk,wo,hm,q⟩:=h
  refine⟨_,(qe (qy (i:=3) sc_law_row.nd rfl (Or.inl rfl) (qD (aC rfl) (by rfl) T.b_dict PyProof.Rows.boot_dict (qd (q8 (own:=["_law_name"]) (fr:=["_law_world_here"]) (js:=[1]) rfl (zq (qw hr (qv 1) qk)) rfl (aL rfl) rfl (aA rfl (by decide +kernel) (by decide +kernel) (by decide +kernel) rfl rfl rfl) (fun _ _ _ _=>qj (i:=0) (show List.Nodup (["_law_name","_law_world_here"]:List Str)from by decide +kernel) rfl (Or.inl rfl) (.inr rfl)) (fun _ _ _ _=>(qA (qd (qv 0) (qd (qI (aB (K:=K) rfl) (qw hr (qw hr (qv 1) qk) (qv 0)) qf (fun _ _=>rfl)) qc))))) qc)))
   (qe (qy (i:=4) sc_law_row.nd rfl (Or.inl rfl) (qD (aC rfl) (by rfl) T.b_dict PyProof.Rows.boot_dict (qd (q8 (own:=["_law_name"]) (fr:=["_law_world_here"]) (js:=[1]) rfl (zq (qw hr (qv 1) qk)) rfl (aL rfl) rfl (aA rfl (by decide +kernel) (by decide +kernel) (by decide +kernel) rfl rfl rfl) (fun _ _ _ _=>qj (i:=0) (show List.Nodup (["_law_name","_law_world_here"]:List Str)from by decide +kernel) rfl (Or.inl rfl) (.inr rfl)) (fun _ _ _ _=>(qA (qd (qv 0) (qd (qI (aB (K:=K) rfl) (qw hr (qw hr (qv 1) qk) (qv 0)) qf (fun _ _=>rfl)) qc))))) qc)))
   (qe (zF PassesOwn.never rfl (zq (qw hr (qv 1) qk)) (qj (i:=5) sc_law_row.nd rfl (Or.inl rfl))
   (qg (qK (QW.pt (ae (qz ki (qI qG (qw hr (qw hr (qv 1) qk) (qv 5)) qf (fun _ _=>rfl)) zS (qx _)) (ac (qz zj (qo dA hr.mo (qd (qv 0) (qd qf qc))) qf (qx _))))) (qg (zV hr (qv 3) (qv 5) (qI Qe (qI qG (qw hr (qw hr (qv 1) qk) (qv 5)) qf (fun _ _=>rfl)) qf (fun _ _=>rfl)))) qE)))
   (qe (qy (i:=6) sc_law_row.nd rfl (Or.inl rfl) (qR qc))
   (qe (zF PassesOwn.never rfl (zI rfl T.b_range (qd (qv 2) qc)) (qj (i:=7) sc_law_row.nd rfl (Or.inl rfl))
   (qe (qy (i:=5) sc_law_row.nd rfl (Or.inl rfl) (qI qG (qw hr (qv 1) qk) (qo dA hr.mo (qd (qv 0) (qd (qr (ZQ rfl) (by rfl) T.b_min PyProof.Rows.boot_min (qd qf (qd (qr qO (by rfl) T.b_len PySem.boot_len (qd (qw hr (qv 1) qk) qc)) qc))) qc))) (fun _ _=>rfl)))
   (qe (qy (i:=8) sc_law_row.nd rfl (Or.inl rfl) (qI qG (qR (qd qf (qd qf (qd qf (qd qf (qd qf (qd (qw hr (qv 1) qk) (qd (qm qH (qw hr (qv 1) qk) qf) (qd (qw hr (qv 1) qk) (qd (qm qH (qw hr (qv 1) qk) qf) (qd qf qc))))))))))) (qo dA hr.mo (qd (qv 0) (qd qf qc))) (fun _ _=>rfl)))
   (qe (zV hr (qv 3) (qv 5) (qr (ZQ rfl) (by rfl) T.b_min PyProof.Rows.boot_min (qd qf (qd (qm qH (qw hr (qv 3) (qv 5)) (qv 8)) qc))))
   (qe (qK (qz zj (qo dA hr.mo (qd (qv 0) (qd qf qc))) qf (qx _)) (qg (zV hr (qv 4) (qv 5) (qr (ZQ rfl) (by rfl) T.b_min PyProof.Rows.boot_min (qd (qm zO (qr qO (by rfl) T.b_len PySem.boot_len (qd (qw hr (qv 1) qk) qc)) qf) (qd (qm qH (qw hr (qv 4) (qv 5)) qf) qc))))) qE)
   (qe (qy (i:=9) sc_law_row.nd rfl (Or.inl rfl) (cw (qz zj (qo dA hr.mo (qd (qv 0) (qd qf qc))) qf (qx _)) (qI qG (qR (qd qf (qd qf (qd qf (qd qf (qd qf (qd qf (qd qf (qd qf qc))))))))) (qo dA hr.mo (qd (qv 0) (qd qf qc))) (fun _ _=>rfl)) qf))
   (qg (qK (QW.pt (ae (qz (mW hr) (qv 6) (qR qc) (qx _)) (ac (qz zj (qo dA hr.mo (qd (qv 0) (qd qf qc))) qf (qx _))))) (qg (zJ (QZ PySem.F.plainAttrs_list PySem.F.slot_list_append PySem.F.type_list_append zR (qv 6) (qd (qI qG (qv 6) (qo dA hr.mo (qd (qv 0) (qd (qr qO (by rfl) T.b_len PySem.boot_len (qd (qv 6) qc)) qc))) (fun _ _=>rfl)) qc)))) (qg (qK (qz zj (qo dA hr.mo (qd (qv 0) (qd qf qc))) qf (qx _)) (qg (zJ (QZ PySem.F.plainAttrs_list PySem.F.slot_list_append PySem.F.type_list_append zR (qv 6) (qd (qA (qd qk (qd (qw hr (qv 4) (qv 5)) (qd (qw hr (qv 3) (qv 5)) (qd qf (qd (qv 9) qc)))))) qc)))) (qg (zJ (QZ PySem.F.plainAttrs_list PySem.F.slot_list_append PySem.F.type_list_append zR (qv 6) (qd (qA (qd (qv 5) (qd (qw hr (qv 4) (qv 5)) (qd (qw hr (qv 3) (qv 5)) (qd (qo dA hr.mo (qd (qv 0) (qd qf qc))) (qd (qv 9) qc)))))) qc))))))))))))))
   (qg (qp (qv 6)))))))),?_⟩
  have n12:=wo.nl
  have k1:=wo.k1
  have k8:=wo.ok.kl
  have ndn:ns.Nodup:=wo.nn▸wo.ok.nd
  have known:∀nm∈ns,∃e,D.kn.lookup nm=some e/\KbOk D e/\1<=e.last/\∀x cc,e.wt=some (x,cc)->0<=cc/\cc<4096/\1<=cc:=fun nm hn=>by
   rw[<- wo.nn]at hn
   obtain⟨e,he⟩:=zE hn
   have z:=wo.kb _ (zQ he)
   have n0:=wo.n0
   exact⟨e,he,z.1,z.2,fun x cc hw=>⟨(z.1.w x cc hw).1,(z.1.w x cc hw).2,by have:=(wo.wt _ (zQ he) x cc hw).2.1;have:=z.2;simp only at *;omega⟩⟩
  refine⟨_,rfl,wa.m,_,rfl,wk.g_names,wa.nl,rfl,⟨_,SqL.of wk.nm⟩,?_⟩
  refine zx (K:=K) (xs:=ns.map V.str) (by rw[List.length_map,sizeLine_eq];omega) (fun i ys H3=>Same H H3/\∃(as:List Addr) (zs:List Int),ys=as.map V.ref/\as.length=i/\zs.length=i/\(∀z∈zs,1<=z/\z<=4095)/\∀(j:Nat) (x:Addr) (nm:Str) (z:Int),as[j]? =some x->ns[j]? =some nm->zs[j]? =some z->H3 x=some (.tup [.str nm,.int z])) ⟨Same.refl _,[],[],rfl,rfl,rfl,(fun z h=>nomatch h),fun j x nm z h=>(by cases h)⟩ (fun i ys H3 ⟨s3,_⟩=>s3.seq (SqL.of wk.nm)) ?_ ?_
  ·rintro i ys H3 v hv hyl ⟨s3,as,zs,rfl,la,lz,hz,ha⟩
   obtain⟨nm,rfl,hnmi⟩:∃nm,v= .str nm/\ns[i]? =some nm:=by
    rw[List.getElem?_map]at hv
    cases z:ns[i]? with
    |none=>rw[z]at hv;cases hv
    |some y=>rw[z]at hv;cases hv;exact⟨y,rfl,rfl⟩
   have w3:=wk.same s3
   obtain⟨e,he,kbe,la1,_⟩:=known nm (List.mem_of_getElem? hnmi)
   obtain⟨e',x0,he',gg,vv,hx0,hw0⟩:=(w3.kb.get nm).resolve_left (fun z=>by rw[he]at z;cases z.1)
   rw[he]at he';cases he'
   refine⟨_,rfl,_,rfl,wa.m,_,rfl,w3.g_known,_,rfl,wa.kd,_,rfl,gg,x0,_,_,_,rfl,rfl,SqL.of hx0,rfl,by show 2<=sizeLine;decide,fun t ht=>?_⟩
   have u4:=Same.upd (o:= .tup [.str nm,.int e.last]) ht
   refine⟨s3.trans u4,as++[t],zs++[e.last],by simp,by simp [la],by simp [lz],(fun z h=>(List.mem_append.mp h).elim (hz z) fun h=>by rw[List.mem_singleton.mp h];exact⟨la1,by have:=kbe.l1;omega⟩),fun j x nm' z h1 h2 h3=>?_⟩
   rw[List.getElem?_append]at h1 h3
   by_cases hj:j<i
   ·rw[if_pos (by omega)]at h1 h3
    exact u4 _ _ (ha j x nm' z h1 h2 h3)
   ·rw[if_neg (by omega)]at h1 h3
    have hj0:j-as.length=0:=by
     cases hj0:j-as.length with
     |zero=>rfl
     |succ k=>rw[hj0]at h1;cases h1
    rw[hj0]at h1
    rw[show j-zs.length=0 by omega]at h3
    cases h1
    cases h3
    obtain rfl:j=i:=by omega
    rw[hnmi]at h2
    cases h2
    exact qb
  rintro ys HA3 hyl ⟨s3,as,zs,rfl,la,lz,hz,ha⟩ l hl
  rw[List.length_map]at la lz
  have HAu:=Same.upd (o:= .lst (as.map V.ref)) hl
  have lzip:(ns.zip zs).length=ns.length:=by rw[List.length_zip];omega
  have ezip:∀(i:Nat) (p:Str×Int),(ns.zip zs)[i]? =some p->ns[i]? =some p.1/\zs[i]? =some p.2:=fun i p h=>by rw[List.getElem?_zip_eq_some]at h;exact h
  refine⟨l,as,(ns.zip zs).map fun p=>((Sum.inr p.1:qt),V.int p.2),rfl,qb,by rw[List.length_map,lzip,la],fun i x kv h1 h2=>?_,fun da hda=>?_⟩
  ·rw[List.getElem?_map]at h2
   cases z:(ns.zip zs)[i]? with
   |none=>rw[z]at h2;cases h2
   |some p=>
    rw[z]at h2;cases h2
    exact HAu _ _ (ha i x p.1 p.2 h1 (ezip i p z).1 (ezip i p z).2)
  have HAk:((ns.zip zs).map fun p=>((Sum.inr p.1:qt),V.int p.2)).map (·.1)=ns.map Sum.inr:=by
   rw[List.map_map]
   show(ns.zip zs).map (fun p=>(Sum.inr p.1:qt))=_
   rw[show(fun p:Str×Int=>(Sum.inr p.1:qt))=(Sum.inr∘Prod.fst)from rfl,<- List.map_map,List.map_fst_zip (by omega)]
  have HAnd:((ns.zip zs).map fun p=>((Sum.inr p.1:qt),V.int p.2)).map (·.1) |>.Nodup:=by rw[HAk];exact List.Pairwise.map _ (fun x y (h:x≠y) z=>h (by injection z)) ndn
  rw[ZE _ [] (by rw[List.nil_append];exact HAnd),List.nil_append]
  have HAs:Same H _:=(s3.trans HAu).trans (Same.upd (o:= .dK ((ns.zip zs).map fun p=>((Sum.inr p.1:qt),V.int p.2))) hda)
  have HAi:IdAt _ da ns 1 4095 12:=IdAt.of (zs:=zs) (qb (H:=upd HA3 l (.lst (as.map V.ref))) (a:=da) (o:= .dK ((ns.zip zs).map fun p=>((Sum.inr p.1:qt),V.int p.2)))) HAk ndn n12 (fun i kv h=>by
   rw[List.getElem?_map]at h
   cases z:(ns.zip zs)[i]? with
   |none=>rw[z]at h;cases h
   |some p=>rw[z]at h;cases h;exact⟨p.2,rfl,hz p.2 (List.mem_of_getElem? (ezip i p z).2)⟩)
  have HAf:H da=none:=zZ hda (s3.trans HAu)
  generalize upd (upd HA3 l (.lst (as.map V.ref))) da (.dK ((ns.zip zs).map fun p=>((Sum.inr p.1:qt),V.int p.2)))=HA at HAs HAi⊢
  clear ha hz ezip lzip HAk HAnd HAu s3
  have wkHA:=wk.same HAs
  refine⟨_,rfl,wa.m,_,rfl,wkHA.g_names,wa.nl,rfl,⟨_,SqL.of wkHA.nm⟩,?_⟩
  refine zx (K:=K) (xs:=ns.map V.str) (by rw[List.length_map,sizeLine_eq];omega) (fun i ys H3=>Same HA H3/\∃(as:List Addr) (zs:List Int),ys=as.map V.ref/\as.length=i/\zs.length=i/\(∀z∈zs,0<=z/\z<=(D.kss.length:Int)-1)/\∀(j:Nat) (x:Addr) (nm:Str) (z:Int),as[j]? =some x->ns[j]? =some nm->zs[j]? =some z->H3 x=some (.tup [.str nm,.int z])) ⟨Same.refl _,[],[],rfl,rfl,rfl,(fun z h=>nomatch h),fun j x nm z h=>(by cases h)⟩ (fun i ys H3 ⟨s3,_⟩=>s3.seq (SqL.of wkHA.nm)) ?_ ?_
  ·rintro i ys H3 v hv hyl ⟨s3,as,zs,rfl,la,lz,hz,ha⟩
   obtain⟨nm,rfl,hnmi⟩:∃nm,v= .str nm/\ns[i]? =some nm:=by
    rw[List.getElem?_map]at hv
    cases z:ns[i]? with
    |none=>rw[z]at hv;cases hv
    |some y=>rw[z]at hv;cases hv;exact⟨y,rfl,rfl⟩
   have w3:=wkHA.same s3
   obtain⟨e,he,kbe,la1,_⟩:=known nm (List.mem_of_getElem? hnmi)
   obtain⟨e',x0,he',gg,vv,hx0,hw0⟩:=(w3.kb.get nm).resolve_left (fun z=>by rw[he]at z;cases z.1)
   rw[he]at he';cases he'
   refine⟨_,rfl,_,rfl,wa.m,_,rfl,w3.g_known,_,rfl,wa.kd,_,rfl,gg,x0,_,_,_,rfl,rfl,SqL.of hx0,rfl,by show 2<=sizeLine;decide,fun t ht=>?_⟩
   have u4:=Same.upd (o:= .tup [.str nm,.int e.age]) ht
   refine⟨s3.trans u4,as++[t],zs++[e.age],by simp,by simp [la],by simp [lz],(fun z h=>(List.mem_append.mp h).elim (hz z) fun h=>by rw[List.mem_singleton.mp h];exact⟨kbe.a0,by have:=kbe.a1;omega⟩),fun j x nm' z h1 h2 h3=>?_⟩
   rw[List.getElem?_append]at h1 h3
   by_cases hj:j<i
   ·rw[if_pos (by omega)]at h1 h3
    exact u4 _ _ (ha j x nm' z h1 h2 h3)
   ·rw[if_neg (by omega)]at h1 h3
    have hj0:j-as.length=0:=by
     cases hj0:j-as.length with
     |zero=>rfl
     |succ k=>rw[hj0]at h1;cases h1
    rw[hj0]at h1
    rw[show j-zs.length=0 by omega]at h3
    cases h1
    cases h3
    obtain rfl:j=i:=by omega
    rw[hnmi]at h2
    cases h2
    exact qb
  rintro ys HB3 hyl ⟨s3,as,zs,rfl,la,lz,hz,ha⟩ l hl
  rw[List.length_map]at la lz
  have HBu:=Same.upd (o:= .lst (as.map V.ref)) hl
  have lzip:(ns.zip zs).length=ns.length:=by rw[List.length_zip];omega
  have ezip:∀(i:Nat) (p:Str×Int),(ns.zip zs)[i]? =some p->ns[i]? =some p.1/\zs[i]? =some p.2:=fun i p h=>by rw[List.getElem?_zip_eq_some]at h;exact h
  refine⟨l,as,(ns.zip zs).map fun p=>((Sum.inr p.1:qt),V.int p.2),rfl,qb,by rw[List.length_map,lzip,la],fun i x kv h1 h2=>?_,fun dg hdg=>?_⟩
  ·rw[List.getElem?_map]at h2
   cases z:(ns.zip zs)[i]? with
   |none=>rw[z]at h2;cases h2
   |some p=>
    rw[z]at h2;cases h2
    exact HBu _ _ (ha i x p.1 p.2 h1 (ezip i p z).1 (ezip i p z).2)
  have HBk:((ns.zip zs).map fun p=>((Sum.inr p.1:qt),V.int p.2)).map (·.1)=ns.map Sum.inr:=by
   rw[List.map_map]
   show(ns.zip zs).map (fun p=>(Sum.inr p.1:qt))=_
   rw[show(fun p:Str×Int=>(Sum.inr p.1:qt))=(Sum.inr∘Prod.fst)from rfl,<- List.map_map,List.map_fst_zip (by omega)]
  have HBnd:((ns.zip zs).map fun p=>((Sum.inr p.1:qt),V.int p.2)).map (·.1) |>.Nodup:=by rw[HBk];exact List.Pairwise.map _ (fun x y (h:x≠y) z=>h (by injection z)) ndn
  rw[ZE _ [] (by rw[List.nil_append];exact HBnd),List.nil_append]
  have HBs:Same HA _:=(s3.trans HBu).trans (Same.upd (o:= .dK ((ns.zip zs).map fun p=>((Sum.inr p.1:qt),V.int p.2))) hdg)
  have HBi:IdAt _ dg ns 0 ((D.kss.length:Int)-1) 12:=IdAt.of (zs:=zs) (qb (H:=upd HB3 l (.lst (as.map V.ref))) (a:=dg) (o:= .dK ((ns.zip zs).map fun p=>((Sum.inr p.1:qt),V.int p.2)))) HBk ndn n12 (fun i kv h=>by
   rw[List.getElem?_map]at h
   cases z:(ns.zip zs)[i]? with
   |none=>rw[z]at h;cases h
   |some p=>rw[z]at h;cases h;exact⟨p.2,rfl,hz p.2 (List.mem_of_getElem? (ezip i p z).2)⟩)
  have HBf:HA dg=none:=zZ hdg (s3.trans HBu)
  generalize upd (upd HB3 l (.lst (as.map V.ref))) dg (.dK ((ns.zip zs).map fun p=>((Sum.inr p.1:qt),V.int p.2)))=HB at HBs HBi⊢
  clear ha hz ezip lzip HBk HBnd HBu s3
  have wkHB:=wkHA.same HBs
  have IA:=HAi.same HBs
  have nag:da≠dg:=fun z=>by obtain⟨kv,e,_⟩:=HAi;rw[z,HBf]at e;cases e
  have S0:=HAs.trans HBs
  have fg:H dg=none:=zZ HBf HAs
  have G0:GrC b c H HB:=⟨fun x o _ e=>S0 _ _ e,(S0.grc hb).bx⟩
  have put:∀{Hx H':Hp} {d:Addr} {n:Nat},GrC b n H Hx->H d=none->Mv [d] Hx H'->(∀x y z:Int,Hx d≠some (fx x y z))->GrC b n H H':=fun{Hx H' d n} G fd m nb=>⟨fun x o hx e=>m _ _ (qF (ql e fd)) (G.kp x o hx e),G.bx.moved m (qF (fun z=>by obtain⟨x1,x2,x3,e,_⟩:=G.bx;rw[z]at e;exact nb _ _ _ e))⟩
  have idb:∀{Hx:Hp} {d:Addr} {lo hi:Int} {n:Nat},IdAt Hx d ns lo hi n->∀x y z:Int,Hx d≠some (fx x y z):=fun h x y z w=>by obtain⟨kv,e,_⟩:=h;rw[e]at w;cases w
  refine⟨_,rfl,wa.m,_,rfl,wkHB.g_names,wa.nl,rfl,⟨_,SqL.of wkHB.nm⟩,?_⟩
  refine ZI (K:=K) (xs:=ns.map V.str) (Pv:=fun i σ Hx=>∃(o5:Option V),GrC b (c+i) H Hx/\IdAt Hx da ns 1 4095 (12+i)/\IdAt Hx dg ns 0 ((D.kss.length:Int)-1) 12/\σ=[some (.ref b),some (.ref wa.m),some (.int (many:Int)),some (.ref da),some (.ref dg),o5,none,none,none,none]) ⟨_,G0,IA,HBi,rfl⟩ (fun i σ Hx _ ⟨_,G,_⟩=>SqL.of (wk.grc hb G).nm) ?_ ?_
  ·rintro i v σ Hx hv ⟨o5,G,ia,ig,rfl⟩
   obtain⟨nm,rfl,hnmi⟩:∃nm,v= .str nm/\ns[i]? =some nm:=by
    rw[List.getElem?_map]at hv
    cases z:ns[i]? with
    |none=>rw[z]at hv;cases hv
    |some y=>rw[z]at hv;cases hv;exact⟨y,rfl,rfl⟩
   have hi:i<ns.length:=(List.getElem?_eq_some_iff.mp hnmi).1
   have wx:=wk.grc hb G
   obtain⟨e,he,kbe,la1,hwt⟩:=known nm (List.mem_of_getElem? hnmi)
   obtain⟨e',x0,he',gg,vv,hx0,hw0⟩:=(wx.kb.get nm).resolve_left (fun z=>by rw[he]at z;cases z.1)
   rw[he]at he';cases he'
   have stay:∀{H':Hp} {n':Nat} {o:Option V},GrC b n' H H'->n'<=c+(i+1)->IdAt H' da ns 1 4095 (12+i)->IdAt H' dg ns 0 ((D.kss.length:Int)-1) 12->∃(o5:Option V),GrC b (c+(i+1)) H H'/\IdAt H' da ns 1 4095 (12+(i+1))/\IdAt H' dg ns 0 ((D.kss.length:Int)-1) 12/\[some (.ref b),some (.ref wa.m),some (.int (many:Int)),some (.ref da),some (.ref dg),o,none,none,none,none]=[some (.ref b),some (.ref wa.m),some (.int (many:Int)),some (.ref da),some (.ref dg),o5,none,none,none,none]:=fun{H' n' o} G' hn' h1 h2=>⟨o,G'.mono hn',let⟨kv,e,l,r⟩:=h1;⟨kv,e,by omega,r⟩,h2,rfl⟩
   refine⟨_,rfl,wa.m,_,rfl,wx.g_known,_,rfl,wa.kd,_,rfl,gg,x0,_,_,_,rfl,rfl,SqL.of hx0,rfl,rfl,_,rfl,?_⟩
   refine qL (fun y=>?_) (fun _=>stay G (by omega) ia ig)
   refine⟨_,rfl,b,_,_,rfl,G.bx,by omega,by decide,by decide,fun r H1 r0 r1 g1=>⟨rfl,_,rfl,?_⟩⟩
   have G1:=G.trans g1
   refine qL (fun _=>?_) (fun _=>stay G1 (by omega) (ia.grc G.bx g1) (ig.grc G.bx g1))
   have w1:=wk.grc hb G1
   obtain⟨e',x1,he',gg1,vv1,hx1,hw1⟩:=(w1.kb.get nm).resolve_left (fun z=>by rw[he]at z;cases z.1)
   rw[he]at he';cases he'
   cases hw:e.wt with
   |none=>rw[hw]at hw0;have hw0:vv= .non:=hw0;rw[hw0]at y;simp at y
   |some xc=>
    rw[hw]at hw1
    obtain⟨p,rfl,hp⟩:=hw1
    have hc':=hwt _ _ hw
    obtain⟨H2,dp,m2,ia2⟩:=(ia.grc G.bx g1).put nm (z:=xc.2) (by omega) (by omega) (by omega)
    refine⟨_,rfl,wa.m,_,rfl,w1.g_known,_,rfl,wa.kd,_,rfl,gg1,x1,_,_,_,rfl,rfl,SqL.of hx1,rfl,p,_,_,_,rfl,rfl,SqT.of hp,rfl,_,rfl,_,rfl,da,H2,rfl,dp,?_⟩
    exact⟨_,(put G1 HAf m2 (idb (ia.grc G.bx g1))).mono (by omega),by rw[show 12+(i+1)=12+i+1 by omega];exact ia2,(ig.grc G.bx g1).to (fun o q=>m2 _ _ (qF nag.symm) q),rfl⟩
  rintro σ Hx ⟨o5,G,ia,ig,rfl⟩
  rw[List.length_map]at G ia
  refine⟨by show 0<=sizeLine;decide,fun rl hrl=>?_⟩
  have ur:=Same.upd (o:= .lst []) hrl
  have frl:H rl=none:=G.fresh (hb.mono (by omega)) hrl
  have Gr0:GrC b (c+12) H (upd Hx rl (.lst [])):=(G.same ur).mono (by omega)
  have sl0:ScL (upd Hx rl (.lst [])) rl []:=⟨[],qb,rfl,fun i a s h=>(by cases h)⟩
  have ia0:=ia.same ur
  have ig0:=ig.same ur
  generalize upd Hx rl (.lst [])=Hr at Gr0 sl0 ia0 ig0⊢
  refine⟨_,rfl,_,rfl,by omega,by omega,?_⟩
  rw[Int.toNat_natCast]
  refine QM (n:=many) (Pv:=fun i σ Hx=>∃(ss:List Sc) (o5 o7 o8 o9:Option V),GrC b (c+12+10*i) H Hx/\IdAt Hx da ns 1 4095 (24+i)/\IdAt Hx dg ns 0 ((D.kss.length:Int)-1) (12+i)/\ScL Hx rl ss/\ss.length=i/\(∀s∈ss,ScOk D s)/\σ=[some (.ref b),some (.ref wa.m),some (.int (many:Int)),some (.ref da),some (.ref dg),o5,some (.ref rl),o7,o8,o9]) ⟨[],_,_,_,_,Gr0,(let⟨kv,e,l,r⟩:=ia0;⟨kv,e,by omega,r⟩),ig0,sl0,rfl,(fun s h=>nomatch h),rfl⟩ ?_ ?_
  ·rintro i σ Hy hi ⟨ss,o5,o7,o8,o9,G,ia,ig,sl,ls,hss,rfl⟩
   have n1:=wo.n1
   have wy:=wk.grc hb G
   refine⟨_,rfl,wa.m,_,rfl,wy.g_names,_,rfl,_,rfl,wa.m,_,rfl,wy.g_names,wa.nl,_,rfl,.inl (SqL.of wy.nm),_,_,rfl,b,_,_,rfl,G.bx,by omega,by rw[List.length_map];split<;>omega,by rw[List.length_map];split<;>omega,fun xj H1 j0 j1 g1=>?_⟩
   rw[List.length_map]at j1
   obtain⟨j,rfl⟩:∃j:Nat,xj=(j:Int):=⟨xj.toNat,by omega⟩
   have hj:j<ns.length:=by revert j1;split<;>intro j1<;>omega
   have G1:=G.trans g1
   have w1:=wk.grc hb G1
   refine⟨wa.nl,_,_,.str ns[j],rfl,rfl,SqL.of w1.nm,zY (by rw[List.getElem?_map,List.getElem?_eq_getElem hj];rfl),?_⟩
   have hnm:=List.getElem_mem hj
   generalize ns[j]=nm at hnm
   refine⟨_,rfl,wa.m,_,rfl,w1.g_near,_,rfl,wa.m,_,rfl,w1.g_near,_,_,rfl,rfl,_,rfl,wa.m,_,rfl,w1.g_far,_,rfl,wa.m,_,rfl,w1.g_far,_,_,rfl,rfl,by show 10<=sizeLine;decide,fun l2 hl2=>?_⟩
   have u2:=Same.upd (o:= .lst [.int 1,.int 1,.int 1,.int 1,.int 2,.int D.near,.int (D.near+1),.int D.far,.int (D.far+1),.int 0]) hl2
   refine⟨_,rfl,b,_,_,rfl,(u2.grc G1.bx).bx,by omega,by decide,by decide,fun r3 H3 r30 r31 g3=>?_⟩
   obtain⟨v,hv,hvm⟩:=Zq (xs:=[V.int 1,.int 1,.int 1,.int 1,.int 2,.int D.near,.int (D.near+1),.int D.far,.int (D.far+1),.int 0]) r30 r31
   have n0:=wo.n0
   have nf:=wo.nf
   have f2:=wo.f2
   obtain⟨jump,rfl,jm0⟩:∃z:Int,v= .int z/\0<=z:=by
    simp only[List.mem_cons,List.not_mem_nil,or_false]at hvm
    rcases hvm with rfl|rfl|rfl|rfl|rfl|rfl|rfl|rfl|rfl|rfl<;>exact⟨_,rfl,by omega⟩
   refine⟨l2,_,_,_,rfl,rfl,SqL.of (g3.kp _ _ (zU G1.bx hl2) qb),hv,?_⟩
   have G3:GrC b (c+12+10*i+2) H H3:=((G1.same u2).trans g3).mono (by omega)
   have ia3:=((ia.grc G.bx g1).same u2).grc (u2.grc G1.bx).bx g3
   have ig3:=((ig.grc G.bx g1).same u2).grc (u2.grc G1.bx).bx g3
   have sl3:=((sl.grc G.bx g1).same u2).grc (u2.grc G1.bx).bx g3
   obtain⟨z,gz,z0,z1⟩:=ia3.get hnm
   obtain⟨H4,dp4,m4,ia4⟩:=ia3.put nm (z:=if z+jump<4095 then z+jump else 4095) (by split<;>omega) (by split<;>omega) (by omega)
   refine⟨_,rfl,_,rfl,da,_,rfl,gz,_,rfl,_,_,rfl,rfl,_,_,rfl,_,rfl,_,rfl,da,H4,rfl,dp4,?_⟩
   obtain⟨kv3,ek3,_⟩:=id ia3
   have nt4:NT [da] H3:=NT.one ek3 trivial
   obtain⟨as3,er3,_⟩:=id sl3
   have G4:=put G3 HAf m4 (idb ia3)
   have ig4:=ig3.to (fun o q0=>m4 _ _ (qF nag.symm) q0)
   have sl4:=sl3.mv m4 nt4 (qF (qC er3 ek3 (by intro z;cases z)))
   refine vh (fun σ' H'=>GrC b (c+12+10*i+3) H H'/\IdAt H' da ns 1 4095 (24+(i+1))/\IdAt H' dg ns 0 ((D.kss.length:Int)-1) (12+(i+1))/\ScL H' rl ss/\σ'=[some (.ref b),some (.ref wa.m),some (.int (many:Int)),some (.ref da),some (.ref dg),some (.str nm),some (.ref rl),some (.int (0+(i:Int))),some (.int jump),o9]) (fun D' hrt hnx=>?_) ?_
   ·refine⟨_,rfl,b,_,_,rfl,G4.bx,by omega,by decide,by decide,fun r H5 r0 r1 g5=>⟨rfl,_,rfl,?_⟩⟩
    have G5:=G4.trans g5
    have ia5:=ia4.grc G4.bx g5
    have ig5:=ig4.grc G4.bx g5
    have sl5:=sl4.grc G4.bx g5
    have ia5':IdAt H5 da ns 1 4095 (24+(i+1)):=by rw[show 24+(i+1)=24+i+1 by omega];exact ia5
    refine qL (fun _=>?_) (fun _=>hnx _ _ ⟨G5.mono (by omega),ia5',(let⟨kv,e,l,r⟩:=ig5;⟨kv,e,by omega,r⟩),sl5,rfl⟩)
    have w5:=wk.grc hb G5
    obtain⟨as5,eh5,la5,_⟩:=id w5.ks
    obtain⟨y,gy,y0,y1⟩:=ig5.get hnm
    obtain⟨H6,dp6,m6,ig6⟩:=ig5.put nm (z:=if y+1<(D.kss.length:Int)-1 then y+1 else(D.kss.length:Int)-1) (by split<;>omega) (by split<;>omega) (by omega)
    have lks:(as5.map V.ref).length=D.kss.length:=by rw[List.length_map];exact la5
    refine⟨_,rfl,wa.m,_,rfl,w5.g_keys,wa.ml,_,rfl,.inl (SqL.of eh5),_,_,rfl,rfl,_,rfl,_,rfl,dg,_,rfl,gy,_,_,rfl,rfl,_,_,rfl,?_⟩
    rw[lks]
    refine⟨_,rfl,_,rfl,dg,H6,rfl,dp6,?_⟩
    obtain⟨kv5,ek5,_⟩:=id ig5
    obtain⟨as6,er5,_⟩:=id sl5
    exact hnx _ _ ⟨(put G5 fg m6 (idb ig5)).mono (by omega),ia5'.to (fun o q0=>m6 _ _ (qF nag) q0),by rw[show 12+(i+1)=12+i+1 by omega];exact ig6,sl5.mv m6 (NT.one ek5 trivial) (qF (qC er5 ek5 (by intro z;cases z))),rfl⟩
   rintro σ' H7 ⟨G7,ia7,ig7,sl7,rfl⟩
   refine eL (t:=rz _ _ _) (fun v H'=>∃ft:Int,v= .int ft/\0<=ft/\ft<=3/\GrC b (c+12+10*i+5) H7 H') (fun Q' hQ=>?_) (fun v H8 ⟨ft,ev,ft0,ft3,g8⟩=>?_)
   ·refine⟨_,rfl,b,_,_,rfl,G7.bx,by omega,by decide,by decide,fun r H8 r0 r1 g8=>⟨rfl,_,rfl,?_⟩⟩
    refine qL (fun _=>?_) (fun _=>hQ _ _ ⟨0,rfl,by decide,by decide,g8.mono (by omega)⟩)
    refine⟨by show 8<=sizeLine;decide,fun l9 hl9=>?_⟩
    have u9:=Same.upd (o:= .lst [.int 0,.int 0,.int 0,.int 0,.int 0,.int 1,.int 2,.int 3]) hl9
    refine⟨_,rfl,b,_,_,rfl,(u9.grc g8.bx).bx,by omega,by decide,by decide,fun r9 H9 r90 r91 g9=>?_⟩
    obtain⟨v,hv,hvm⟩:=Zq (xs:=[V.int 0,.int 0,.int 0,.int 0,.int 0,.int 1,.int 2,.int 3]) r90 r91
    refine⟨l9,_,_,_,rfl,rfl,SqL.of (g9.kp _ _ (zU g8.bx hl9) qb),hv,hQ _ _ ?_⟩
    have gg:GrC b (c+12+10*i+5) H7 H9:=((g8.same u9).trans g9).mono (by omega)
    simp only[List.mem_cons,List.not_mem_nil,or_false]at hvm
    rcases hvm with rfl|rfl|rfl|rfl|rfl|rfl|rfl|rfl<;>exact⟨_,rfl,by decide,by decide,gg⟩
   subst ev
   have G8:=G7.trans g8
   have ia8:=ia7.grc G7.bx g8
   have ig8:=ig7.grc G7.bx g8
   have sl8:=sl7.grc G7.bx g8
   have nobn:QY "nobody":=⟨by decide +kernel,by decide +kernel,by decide +kernel⟩
   have dg3:ZO 3:=⟨by decide,by decide⟩
   have fin:∀(s:Sc) (x:Addr) (as:List Addr) (Hz:Hp) (n':Nat),GrC b n' H Hz->n'<=c+12+10*(i+1)->IdAt Hz da ns 1 4095 (24+(i+1))->IdAt Hz dg ns 0 ((D.kss.length:Int)-1) (12+(i+1))->Hz rl=some (.lst (as.map V.ref))->as.length=ss.length->(∀(i:Nat) (a:Addr) (s:Sc),as[i]? =some a->ss[i]? =some s->bu Hz a s)->bu Hz x s->ScOk D s->∃(ss':List Sc) (o5 o7 o8 o9:Option V),GrC b (c+12+10*(i+1)) H (upd Hz rl (.lst (as.map V.ref++[.ref x])))/\IdAt (upd Hz rl (.lst (as.map V.ref++[.ref x]))) da ns 1 4095 (24+(i+1))/\IdAt (upd Hz rl (.lst (as.map V.ref++[.ref x]))) dg ns 0 ((D.kss.length:Int)-1) (12+(i+1))/\ScL (upd Hz rl (.lst (as.map V.ref++[.ref x]))) rl ss'/\ss'.length=i+1/\(∀s∈ss',ScOk D s)/\[some (.ref b),some (.ref wa.m),some (.int (many:Int)),some (.ref da),some (.ref dg),some (.str nm),some (.ref rl),some (.int (0+(i:Int))),some (.int jump),some (.int ft)]=[some (.ref b),some (.ref wa.m),some (.int (many:Int)),some (.ref da),some (.ref dg),o5,some (.ref rl),o7,o8,o9]:=fun s x as Hz n' G' hn' ia' ig' er la' hs hx hok=>by
    obtain⟨kva,ea,_⟩:=id ia'
    obtain⟨kvg,eg,_⟩:=id ig'
    refine⟨ss++[s],_,_,_,_,(put G' frl Mv.upd1 (fun x y z w=>by rw[er]at w;exact zH (as:=as) 0 rfl (by intro a z;cases z) (Option.some.inj w))).mono hn',ia'.to (fun o q0=>by rw[qh (qC ea er (by intro z;cases z))];exact q0),ig'.to (fun o q0=>by rw[qh (qC eg er (by intro z;cases z))];exact q0),ScL.add er la' hs hx,by simp [ls],fun y hy=>(List.mem_append.mp hy).elim (hss y) fun h=>by rw[List.mem_singleton.mp h];exact hok,rfl⟩
   refine nM ?_
   refine uU (fun bb H'=>∃n',GrC b n' H H'/\n'<=c+12+10*i+6/\IdAt H' da ns 1 4095 (24+(i+1))/\IdAt H' dg ns 0 ((D.kss.length:Int)-1) (12+(i+1))/\ScL H' rl ss/\(bb=true->1<=ss.length)) (fun Q' hQ=>?_) (fun H' ⟨n',G',hn',ia',ig',sl',h1⟩=>?_) (fun H' ⟨n',G',hn',ia',ig',sl',_⟩=>?_)
   ·obtain⟨as8,er8,lr8,_⟩:=id sl8
    refine⟨_,rfl,by show 0<=sizeLine;decide,fun le hle=>?_⟩
    have ue:=Same.upd (o:= .lst []) hle
    refine⟨rl,le,_,rfl,rfl,SqL.of (ue _ _ er8),SqL.of qb,_,rfl,?_⟩
    have Ge:=G8.same ue
    refine qL (fun y=>?_) (fun _=>hQ _ _ ⟨_,Ge,by omega,ia8.same ue,ig8.same ue,sl8.same ue,fun z=>nomatch z⟩)
    refine⟨_,rfl,b,_,_,rfl,Ge.bx,by omega,by decide,by decide,fun r H9 r0 r1 g9=>⟨rfl,_,rfl,hQ _ _ ⟨_,Ge.trans g9,by omega,(ia8.same ue).grc Ge.bx g9,(ig8.same ue).grc Ge.bx g9,(sl8.same ue).grc Ge.bx g9,fun _=>?_⟩⟩⟩
    rw[<- lr8]
    cases as8 with
    |nil=>simp at y
    |cons p r=>show 1<=r.length+1;omega
   ·have h1:=h1 rfl
    obtain⟨as9,er9,lr9,hr9⟩:=id sl'
    refine⟨_,rfl,.inl ⟨rfl,_,SqL.of er9⟩,_,rfl,_,rfl,_,rfl,rl,_,rfl,.inl (SqL.of er9),b,_,_,rfl,G'.bx,by omega,by rw[List.length_map];omega,by rw[List.length_map];omega,fun xk Ha k0 k1' ga=>?_⟩
    rw[List.length_map]at k1'
    obtain⟨k,rfl⟩:∃k:Nat,xk=(k:Int):=⟨xk.toNat,by omega⟩
    have hk:k<as9.length:=by omega
    have sla:=sl'.grc G'.bx ga
    have era:=ga.kp _ _ (by obtain⟨y1,y2,y3,eb,_⟩:=G'.bx;exact qC er9 eb (zH 0 rfl (by intro a z;cases z))) er9
    have hra:∀(i:Nat) (a:Addr) (s:Sc),as9[i]? =some a->ss[i]? =some s->bu Ha a s:=fun i a s h1 h2=>ga.mv.tup (zr G'.bx) (hr9 i a s h1 h2)
    have hks:k<ss.length:=by omega
    refine⟨rl,_,_,.ref as9[k],rfl,rfl,SqL.of era,zY (by rw[List.getElem?_map,List.getElem?_eq_getElem hk];rfl),rl,_,_,rfl,rfl,era,by rw[List.length_map,sizeLine_eq];omega,?_⟩
    exact fin ss[k] as9[k] as9 Ha _ (G'.trans ga) (by omega) (ia'.grc G'.bx ga) (ig'.grc G'.bx ga) era lr9 hra (hra k _ _ (List.getElem?_eq_getElem hk) (List.getElem?_eq_getElem hks)) (hss _ (List.getElem_mem hks))
   ·refine⟨_,rfl,b,_,_,rfl,G'.bx,by omega,by decide,by decide,fun r Ha r0 r1 ga=>⟨rfl,_,rfl,?_⟩⟩
    have Ga:=G'.trans ga
    have iaa:=ia'.grc G'.bx ga
    have iga:=ig'.grc G'.bx ga
    obtain⟨as9,er9,lr9,hr9⟩:=id (sl'.grc G'.bx ga)
    obtain⟨y,gy,y0,y1⟩:=iga.get hnm
    obtain⟨z9,gz9,z90,z91⟩:=iaa.get hnm
    refine qL (fun _=>?_) (fun _=>?_)
    ·refine⟨_,rfl,.inl ⟨rfl,_,SqL.of er9⟩,_,rfl,_,rfl,dg,_,rfl,gy,_,rfl,_,rfl,da,_,rfl,gz9,_,rfl,by show 5<=sizeLine;decide,fun tt htt=>?_⟩
     have ut:=Same.upd (o:= .tup [.str "nobody",.int y,.int z9,.int 3,.int ft]) htt
     refine⟨rl,_,_,rfl,rfl,ut _ _ er9,by rw[List.length_map,sizeLine_eq];omega,?_⟩
     exact fin ⟨"nobody",y,z9,3,ft⟩ tt as9 _ _ (Ga.same ut) (by omega) (iaa.same ut) (iga.same ut) (ut _ _ er9) lr9 (fun i a s h1 h2=>ut _ _ (hr9 i a s h1 h2)) qb ⟨nobn,y0,by show y<(D.kss.length:Int);omega,by show 0<=z9;omega,by show z9<4096;omega,dg3,ft0,ft3⟩
    ·refine⟨_,rfl,.inl ⟨rfl,_,SqL.of er9⟩,_,rfl,_,rfl,_,rfl,dg,_,rfl,gy,_,rfl,_,rfl,da,_,rfl,gz9,_,rfl,b,_,_,rfl,Ga.bx,by omega,by decide,by decide,fun d Hb d0 d1 gb=>⟨_,rfl,by show 5<=sizeLine;decide,fun tt htt=>?_⟩⟩
     have Gb:=Ga.trans gb
     obtain⟨as7,er7,lr7,hr7⟩:=id ((sl'.grc G'.bx ga).grc Ga.bx gb)
     have ut:=Same.upd (o:= .tup [.str nm,.int y,.int z9,.int d,.int ft]) htt
     refine⟨rl,_,_,rfl,rfl,ut _ _ er7,by rw[List.length_map,sizeLine_eq];omega,?_⟩
     exact fin ⟨nm,y,z9,d,ft⟩ tt as7 _ _ (Gb.same ut) (by omega) ((iaa.grc Ga.bx gb).same ut) ((iga.grc Ga.bx gb).same ut) (ut _ _ er7) lr7 (fun i a s h1 h2=>ut _ _ (hr7 i a s h1 h2)) qb ⟨wo.nm nm hnm,y0,by show y<(D.kss.length:Int);omega,by show 0<=z9;omega,by show z9<4096;omega,⟨d0,d1⟩,ft0,ft3⟩
  ·rintro σ Hy ⟨ss,o5,o7,o8,o9,G,ia,ig,sl,ls,hss,rfl⟩
   exact⟨_,rfl,q rl ss _ (G.mono (by omega)) frl sl hss ls⟩
end
section
variable{P:Program}{w:World}{K:Frag}{mg:Str->Option Value}{base:Heap}{tk:Nat->Tok}{C:Addr}
theorem gJ(a:At K mg "_law_stands" ZD ["_law_door_here"])(T:Txt K mg tk)(U:DCx K C)(dE:Mf P w K mg base C "known_now" ["self"] 1 (cC K C))(xF:Mf P w K mg base C "log_now" ["self"] 1 (m9 K C))(dQ:Mf P w K mg base C "closed_now" ["self"] 1 (gr K C)):Df P w K mg base "_law_stands" ["_law_door_here"] 2 (dj K C):=by
 refine a.dq gA (fun vs H Q E h=>?_) (fun f cdv A outer s H vs Q E hr h=>?_)
 ·obtain⟨_,_,_,rfl,_⟩:=h
  rfl
 ·obtain⟨x,D,L,rfl,b,ok,q⟩:=h
  refine⟨_,(qg (qp (qA (qd (Q3 dE U.cl hr.mo (qv 0)) (qd (Q3 xF U.cl hr.mo (qv 0)) (qd (Q3 dQ U.cl hr.mo (qv 0)) qc)))))),?_⟩
  refine⟨_,rfl,x.p,rfl,b.dr.no,x.p,x.ta,x.hk,x.bd,x.lg,L.length,D,rfl,b.dr,ok,fun k ss H1 s1 pm so sh=>?_⟩
  have b1:=b.same s1
  refine⟨_,rfl,x.p,rfl,b1.dr.no,x,D,L,rfl,b1,fun lg H2 s2 lt=>?_⟩
  have b2:=b1.same s2
  refine⟨_,rfl,x.p,rfl,b2.dr.no,x.p,x.ta,x.hk,x.bd,x.lg,L.length,D,rfl,b2.dr,by show 3<=sizeLine;decide,fun t ht=>?_⟩
  have u3:=Same.upd (o:= .tup [.ref k,.ref lg,.int D.least]) ht
  exact q t _ (s1.trans (s2.trans u3)) ⟨k,lg,ss,qb,pm,so,sh.same (s2.trans u3),lt.same u3⟩
theorem cA(a:At K mg "_law_other_row" QP ["_law_box_here","_law_world_here","_law_most"])(T:Txt K mg tk)(dA:Df P w K mg base "_law_take" ["_law_box_here","_law_many"] 1 Qn)(dY:Df P w K mg base "_law_row" ["_law_box_here","_law_world_here","_law_many"] 2 (fv K))(dB:Df P w K mg base "_law_press" ["_law_world_here","_law_spec"] 4 (ZS K)):Df P w K mg base "_law_other_row" ["_law_box_here","_law_world_here","_law_most"] 5 (fH K):=by
 refine a.dq sc_law_other_row (fun vs H Q E h=>?_) (fun f cdv A outer s H vs Q E hr h=>?_)
 ·obtain⟨_,_,_,_,_,_,rfl,_⟩:=h
  rfl
 ·obtain⟨b,wa,c,most,D,ns,rfl,hb,hc,wk,wo,hm,q⟩:=h
  refine⟨_,(qe (qy (i:=3) sc_law_other_row.nd rfl (Or.inl rfl) (qo dY hr.mo (qd (qv 0) (qd (qv 1) (qd (qo dA hr.mo (qd (qv 0) (qd (qm qH (qv 2) qf) qc))) qc)))))
   (qg (qp (qA (qd (qv 3) (qd (q8 (own:=["_law_spec"]) (fr:=["_law_world_here"]) (js:=[1]) rfl (zq (qv 3)) rfl (aL rfl) rfl (aA rfl (by decide +kernel) (by decide +kernel) (by decide +kernel) rfl rfl rfl) (fun _ _ _ _=>qj (i:=0) (show List.Nodup (["_law_spec","_law_world_here"]:List Str)from by decide +kernel) rfl (Or.inl rfl) (.inr rfl)) (fun _ _ _ _=>(qo dB hr.mo (qd (qv 1) (qd (qv 0) qc))))) qc)))))),?_⟩
  refine⟨_,rfl,_,rfl,_,rfl,_,rfl,_,_,rfl,rfl,b,_,_,rfl,hb,by omega,by omega,by omega,fun r H1 r0 r1 g1=>?_⟩
  obtain⟨many,rfl⟩:∃j:Nat,r=(j:Int):=⟨r.toNat,by omega⟩
  refine⟨b,wa,_,many,D,ns,rfl,g1.bx,by omega,wk.grc hb g1,wo,by omega,fun rl ss H2 g2 frl sl hss lss=>?_⟩
  have G2:=g1.trans g2
  have wk2:=wk.grc hb G2
  obtain⟨as0,e0,la0,h0⟩:=id sl
  refine⟨_,rfl,_,rfl,rl,rfl,⟨_,SqL.of e0⟩,?_⟩
  refine zx (K:=K) (xs:=as0.map V.ref) (by rw[List.length_map,la0,sizeLine_eq];omega) (fun i ys Hz=>Same H2 Hz/\∃as:List Addr,ys=as.map V.ref/\as.length=i/\∀(j:Nat) (x:Addr) (s:Sc),as[j]? =some x->ss[j]? =some s->PsAt Hz x (zC D s)) ⟨Same.refl _,[],rfl,rfl,fun j x s h=>(by cases h)⟩ (fun i ys Hz ⟨sz,_⟩=>SqL.of (sz _ _ e0)) ?_ ?_
  ·rintro i ys Hz v hv hyl ⟨sz,as,rfl,la,ha⟩
   rw[List.getElem?_map]at hv
   cases es:as0[i]? with
   |none=>rw[es]at hv;cases hv
   |some x0=>
    rw[es]at hv
    obtain rfl:V.ref x0=v:=Option.some.inj hv
    have hi:i<ss.length:=by rw[<- la0];exact(List.getElem?_eq_some_iff.mp es).1
    have hsi:=List.getElem?_eq_getElem hi
    refine⟨_,rfl,_,rfl,wa,x0,D,ns,ss[i],rfl,wk2.same sz,wo.ok.tp,sz _ _ (h0 i x0 _ es hsi),hss _ (List.getElem_mem hi),fun pr Hw sw hpr=>?_⟩
    refine⟨sz.trans sw,as++[pr],by simp,by simp [la],fun j x s h1 h2=>?_⟩
    rw[List.getElem?_append]at h1
    split at h1
    ·exact PrAt.same sw (ha j x s h1 h2)
    ·have hj:j-as.length=0:=by
      cases hj:j-as.length with
      |zero=>rfl
      |succ k=>rw[hj]at h1;cases h1
     rw[hj]at h1
     cases h1
     obtain rfl:j=i:=by omega
     rw[hsi]at h2
     cases h2
     exact hpr
  rintro ys Hz hyl ⟨sz,as,rfl,la,ha⟩ pl hpl
  rw[List.length_map]at la
  have up:=Same.upd (o:= .lst (as.map V.ref)) hpl
  have pL:PsL (upd Hz pl (.lst (as.map V.ref))) pl (ss.map (zC D)):=⟨as,qb,by rw[List.length_map,la,la0],fun i x P h1 h2=>by
   rw[List.getElem?_map]at h2
   cases z:ss[i]? with
   |none=>rw[z]at h2;cases h2
   |some s=>rw[z]at h2;cases h2;exact PrAt.same up (ha i x s h1 z)⟩
  refine⟨by show 2<=sizeLine;decide,fun qq hqq=>?_⟩
  have uq:=Same.upd (o:= .tup [.ref rl,.ref pl]) hqq
  have S:=sz.trans (up.trans uq)
  have pL':PsL (upd (upd Hz pl (.lst (as.map V.ref))) qq (.tup [.ref rl,.ref pl])) pl (ss.map (zC D)):=let⟨x,e,l,r⟩:=pL;⟨x,uq _ _ e,l,fun i a P h1 h2=>PrAt.same uq (r i a P h1 h2)⟩
  exact q qq rl pl ss _ ((G2.same S).mono (by omega)) (g1.fresh (hb.mono (by omega)) frl) (G2.fresh (hb.mono (by omega)) (zZ hpl sz)) qb (sl.same S) pL' hss (by omega)
theorem ik(a:At K mg "_law_begun" Z3 ["_law_script","_law_k","_law_most"])(T:Txt K mg tk)(U:DCx K C)(x6:Df P w K mg base "_law_box" ["_law_script","_law_k"] 1 (mR K))(dA:Df P w K mg base "_law_take" ["_law_box_here","_law_many"] 1 Qn)(xN:Df P w K mg base "_law_world" ["_law_box_here","_law_great"] 3 (gq K))(dY:Df P w K mg base "_law_row" ["_law_box_here","_law_world_here","_law_many"] 2 (fv K))(xP:Df P w K mg base "_law_door" ["_law_world_here"] 8 (iL K C))(dB:Df P w K mg base "_law_press" ["_law_world_here","_law_spec"] 4 (ZS K)):Df P w K mg base "_law_begun" ["_law_script","_law_k","_law_most"] 9 (f8 K C):=by
 refine a.dq sc_law_begun (fun vs H Q E h=>?_) (fun f cdv A outer s H vs Q E hr h=>?_)
 ·obtain⟨_,_,_,_,rfl,_⟩:=h
  rfl
 ·obtain⟨sc,ns,k,most,rfl,hS,hk,hm,q⟩:=h
  refine⟨_,(qe (qy (i:=3) sc_law_begun.nd rfl (Or.inl rfl) (qo x6 hr.mo (qd (qv 0) (qd (qv 1) qc))))
   (qe (qy (i:=4) sc_law_begun.nd rfl (Or.inr rfl) (qo xN hr.mo (qd (qv 3) (qd (zT (zz zj (qv 1) qf (qx _)) (Qh (zz zj (qo dA hr.mo (qd (qv 3) (qd qf qc))) qf (qx _)))) qc))))
   (qe (qy (i:=5) sc_law_begun.nd rfl (Or.inl rfl) (qo dY hr.mo (qd (qv 3) (qd (qv 4) (qd (qo dA hr.mo (qd (qv 3) (qd (qm qH (qv 2) qf) qc))) qc)))))
   (qg (qp (qA (qd (qv 3) (qd (qv 4) (qd (qo xP hr.mo (qd (qv 4) qc)) (qd (qv 5) (qd (q8 (own:=["_law_spec"]) (fr:=["_law_world_here"]) (js:=[4]) rfl (zq (qv 5)) rfl (aL rfl) rfl (aA rfl (by decide +kernel) (by decide +kernel) (by decide +kernel) rfl rfl rfl) (fun _ _ _ _=>qj (i:=0) (show List.Nodup (["_law_spec","_law_world_here"]:List Str)from by decide +kernel) rfl (Or.inl rfl) (.inr rfl)) (fun _ _ _ _=>(qo dB hr.mo (qd (qv 1) (qd (qv 0) qc))))) qc))))))))))),?_⟩
  refine⟨_,rfl,_,rfl,sc,ns,k,rfl,hS,by omega,fun b H1 hb s1 bx=>?_⟩
  refine⟨_,rfl,?_⟩
  refine eL (t:=lj _ _) (fun v H'=>∃g:Bool,v= .bl g/\GrC b 1 H1 H') (fun Q' hQ=>?_) (fun v H2 ⟨g,ev,g2⟩=>?_)
  ·refine⟨_,rfl,rfl,_,rfl,?_⟩
   refine qL (fun _=>?_) (fun _=>hQ _ _ ⟨false,rfl,fun x o _ e=>e,bx.mono (by omega)⟩)
   exact⟨_,rfl,b,_,_,rfl,bx,by omega,by decide,by decide,fun r H2 r0 r1 g2=>⟨rfl,hQ _ _ ⟨_,rfl,g2⟩⟩⟩
  subst ev
  refine⟨b,g,1,rfl,g2.bx,by omega,fun wa D nms H3 g3 f1 f2 f3 f4 wk wo=>?_⟩
  refine⟨_,rfl,_,rfl,_,rfl,_,rfl,_,_,rfl,rfl,b,_,_,rfl,g3.bx,by omega,by omega,by omega,fun r H4 r0 r1 g4=>?_⟩
  obtain⟨many,rfl⟩:∃j:Nat,r=(j:Int):=⟨r.toNat,by omega⟩
  refine⟨b,wa,_,many,D,nms,rfl,g4.bx,by omega,wk.grc g3.bx g4,wo,by omega,fun rl ss H5 g5 frl sl hss lss=>?_⟩
  have wk5:=(wk.grc g3.bx g4).grc g4.bx g5
  have S5:Same H H5:=Zz hb s1 (((g2.trans g3).trans g4).trans g5)
  refine⟨_,rfl,_,rfl,_,rfl,wa,D,nms,rfl,wk5,wo,fun da L H6 s6 p1 p2 p3 p4 dl hL=>?_⟩
  have wk6:=wk5.same s6
  have fd:=eY p1 p2 p3 p4
  obtain⟨as0,e0,la0,h0⟩:=id (sl.same s6)
  refine⟨_,rfl,_,rfl,rl,rfl,⟨_,SqL.of e0⟩,?_⟩
  refine zx (K:=K) (xs:=as0.map V.ref) (by rw[List.length_map,la0,sizeLine_eq];omega) (fun i ys Hz=>Same H6 Hz/\∃as:List Addr,ys=as.map V.ref/\as.length=i/\∀(j:Nat) (x:Addr) (s:Sc),as[j]? =some x->ss[j]? =some s->PsAt Hz x (zC D s)) ⟨Same.refl _,[],rfl,rfl,fun j x s h=>(by cases h)⟩ (fun i ys Hz ⟨sz,_⟩=>SqL.of (sz _ _ e0)) ?_ ?_
  ·rintro i ys Hz v hv hyl ⟨sz,as,rfl,la,ha⟩
   rw[List.getElem?_map]at hv
   cases es:as0[i]? with
   |none=>rw[es]at hv;cases hv
   |some x0=>
    rw[es]at hv
    obtain rfl:V.ref x0=v:=Option.some.inj hv
    have hi:i<ss.length:=by rw[<- la0];exact(List.getElem?_eq_some_iff.mp es).1
    have hsi:=List.getElem?_eq_getElem hi
    refine⟨_,rfl,_,rfl,wa,x0,D,nms,ss[i],rfl,wk6.same sz,wo.ok.tp,sz _ _ (h0 i x0 _ es hsi),hss _ (List.getElem_mem hi),fun pr Hw sw hpr=>?_⟩
    refine⟨sz.trans sw,as++[pr],by simp,by simp [la],fun j x s h1 h2=>?_⟩
    rw[List.getElem?_append]at h1
    split at h1
    ·exact PrAt.same sw (ha j x s h1 h2)
    ·have hj:j-as.length=0:=by
      cases hj:j-as.length with
      |zero=>rfl
      |succ k=>rw[hj]at h1;cases h1
     rw[hj]at h1
     cases h1
     obtain rfl:j=i:=by omega
     rw[hsi]at h2
     cases h2
     exact hpr
  rintro ys Hz hyl ⟨sz,as,rfl,la,ha⟩ pl hpl
  rw[List.length_map]at la
  have up:=Same.upd (o:= .lst (as.map V.ref)) hpl
  have pL:PsL (upd Hz pl (.lst (as.map V.ref))) pl (ss.map (zC D)):=⟨as,qb,by rw[List.length_map,la,la0],fun i x P h1 h2=>by
   rw[List.getElem?_map]at h2
   cases z:ss[i]? with
   |none=>rw[z]at h2;cases h2
   |some s=>rw[z]at h2;cases h2;exact PrAt.same up (ha i x s h1 z)⟩
  refine⟨by show 5<=sizeLine;decide,fun qq hqq=>?_⟩
  have uq:=Same.upd (o:= .tup [.ref b,.ref wa.m,.ref da.p,.ref rl,.ref pl]) hqq
  have S:=sz.trans (up.trans uq)
  have pL':PsL (upd (upd Hz pl (.lst (as.map V.ref))) qq (.tup [.ref b,.ref wa.m,.ref da.p,.ref rl,.ref pl])) pl (ss.map (zC D)):=let⟨x,e,l,r⟩:=pL;⟨x,uq _ _ e,l,fun i a P h1 h2=>PrAt.same uq (r i a P h1 h2)⟩
  refine q qq b rl pl wa da D L nms ss _ (S5.trans (s6.trans S)) qb hb (((s6.trans S).grc g5.bx).bx.mono (by omega)) (wk6.same S) wo (dl.same S) hL (fun z=>?_) ((sl.same s6).same S) pL' hss (by omega)
  obtain⟨y1,y2,y3,eb,_⟩:=g5.bx
  rw[fd b z]at eb;cases eb
end
section
variable{P:Program}{w:World}{K:Frag}{mg:Str->Option Value}{base:Heap}{tk:Nat->Tok}{C:Addr}
theorem uy{f:Addr}{fd:FuncData}(F:Fun K "law" "law" Zl f fd)(T:Txt K mg tk)(U:DCx K C)(x8:Df P w K mg base "heard" ["door","row","hearing"] 7 (fJ K C))(dA:Df P w K mg base "_law_take" ["_law_box_here","_law_many"] 1 Qn)(xM:Df P w K mg base "_law_begun" ["_law_script","_law_k","_law_most"] 9 (f8 K C))(xC:Df P w K mg base "_law_stands" ["_law_door_here"] 2 (dj K C))(dZ:Df P w K mg base "_law_other_row" ["_law_box_here","_law_world_here","_law_most"] 5 (fH K))(xQ:Df P w K mg base "_law_copy" ["_law_known"] 1 iw)(xH:Df P w K mg base "_law_answer" ["_law_world_here","_law_known","_law_spec"] 1 (c7 K))(xT:Df P w K mg base "_law_told" ["_law_known"] 1 iT)(yC:∀n:Nat,n<=8->Df P w K mg base "_law_same" ["_law_found","_law_due"] (n+1) (vc n)):FnOk P w K mg base Zr 11 f fd ["_law_script"] (gN K):=by
 have xA:=yC 4 (by decide)
 refine F.dq sc_law (fun vs H Q E h=>?_) (fun cdv A outer s H vs Q E hr h=>?_)
 ·obtain⟨x,ns,rfl,_⟩:=h
  rfl
 ·obtain⟨sc,ns,rfl,hS,hlen,q⟩:=h
  refine⟨_,(qe (zF PassesOwn.never rfl (zI rfl T.b_range (qd (qm qH qf (qr (ZQ rfl) (by rfl) T.b_min PyProof.Rows.boot_min (qd qf (qd (qr qO (by rfl) T.b_len PySem.boot_len (qd (qv 0) qc)) qc)))) qc)) (qj (i:=1) sc_law.nd rfl (Or.inl rfl))
   (qe (zf (qo xM hr.mo (qd (qv 0) (qd (qv 1) (qd qf qc)))) (Zv rfl (qu (qj (i:=2) sc_law.nd rfl (Or.inr rfl)) (qu (qj (i:=3) sc_law.nd rfl (Or.inr rfl)) (qu (qj (i:=4) sc_law.nd rfl (Or.inl rfl)) (qu (qj (i:=5) sc_law.nd rfl (Or.inr rfl)) (qu (qj (i:=6) sc_law.nd rfl (Or.inr rfl)) zm)))))))
   (qe (qy (i:=7) sc_law.nd rfl (Or.inl rfl) (qo xC hr.mo (qd (qv 4) qc)))
   (qe (qy (i:=8) sc_law.nd rfl (Or.inl rfl) (qR (qd (qA (qd (qv 5) (qd (qv 6) qc))) (qd (qo dZ hr.mo (qd (qv 2) (qd (qv 3) (qd qf qc)))) qc))))
   (qg (zF PassesOwn.never rfl (zI rfl T.b_range (qd qf qc)) (qj (i:=9) sc_law.nd rfl (Or.inl rfl))
   (qe (zf (qI qG (qv 8) (qm ze (qv 9) qf) (fun _ _=>rfl)) (Zv rfl (qu (qj (i:=5) sc_law.nd rfl (Or.inr rfl)) (qu (qj (i:=6) sc_law.nd rfl (Or.inr rfl)) zm))))
   (qe (e9 (i:=10) sc_law.nd rfl (Or.inl rfl) (own:=["_law_j"]) (fr:=["_law_row_here","_law_box_here"]) (js:=[6,2]) rfl (zI rfl T.b_range (qd (qm Qg (qo dA hr.mo (qd (qv 2) (qd qf qc))) (qD fL (by rfl) T.b_int PyProof.Rows.boot_int (qd (zz (mW hr) (qv 6) (qR qc) (qx _)) qc))) qc)) rfl (oR rfl rfl) rfl (oS rfl (by decide +kernel) (by decide +kernel) (by decide +kernel) rfl rfl rfl rfl rfl rfl) (fun _ _ _ _=>qj (i:=0) (show List.Nodup (["_law_j","_law_row_here","_law_box_here"]:List Str)from by decide +kernel) rfl (Or.inl rfl) (.inr rfl)) (fun _ _ _ _=>(qo dA hr.mo (qd (qv 2) (qd (qr (aR (K:=K) rfl) (by rfl) T.b_len PySem.boot_len (qd (qv 1) qc)) qc)))))
   (qe (qy (i:=11) sc_law.nd rfl (Or.inr rfl) (qo xQ hr.mo (qd (qw hr (qv 3) qk) qc)))
   (qe (qy (i:=12) sc_law.nd rfl (Or.inl rfl) (qD qJ (by rfl) T.b_tuple PyProof.Rows.boot_tuple (qd (q8 (own:=["_law_number"]) (fr:=["_law_world_here","_law_sent","_law_known"]) (js:=[3,5,11]) rfl (zq (qv 10)) rfl (wI rfl rfl rfl) rfl (wG rfl (by decide +kernel) (by decide +kernel) (by decide +kernel) rfl rfl rfl rfl rfl rfl rfl rfl rfl) (fun _ _ _ _=>qj (i:=0) (show List.Nodup (["_law_number","_law_world_here","_law_sent","_law_known"]:List Str)from by decide +kernel) rfl (Or.inl rfl) (.inr rfl)) (fun _ _ _ _=>(qo xH hr.mo (qd (qv 1) (qd (qv 3) (qd (qI (aB (K:=K) rfl) (qv 2) (qv 0) (fun _ _=>rfl)) qc)))))) qc)))
   (qe (qy (i:=13) sc_law.nd rfl (Or.inl rfl) (qI qG (qR (qd (qR (qd (qv 6) (qd (qv 10) qc))) (qd (qR (qd (qD qJ (by rfl) T.b_tuple PyProof.Rows.boot_tuple (qd (qv 6) qc)) (qd (qD qJ (by rfl) T.b_tuple PyProof.Rows.boot_tuple (qd (qv 10) qc)) qc))) qc))) (qo dA hr.mo (qd (qv 2) (qd qf qc))) (fun _ _=>rfl)))
   (qe (e9 (i:=14) sc_law.nd rfl (Or.inl rfl) (own:=["_law_part"]) (fr:=[]) (js:=[]) rfl (zq (qv 13)) rfl (fun _ _ h=>nomatch h) rfl (aY rfl (by decide +kernel) (by decide +kernel) (by decide +kernel)) (fun _ _ _ _=>qj (i:=0) (show List.Nodup (["_law_part"]:List Str)from by decide +kernel) rfl (Or.inl rfl) (.inr rfl)) (fun _ _ _ _=>(qD (Zg (K:=K) rfl) (by rfl) T.b_list PyProof.Rows.boot_list (qd (qv 0) qc))))
   (qe (zF PassesOwn.never rfl (zI rfl T.b_range (qd qf qc)) (qj (i:=15) sc_law.nd rfl (Or.inl rfl))
   (qg (qK (Qx (zG (qo xA hr.mo (qd (qo x8 hr.mo (qd (qv 4) (qd (qI qG (qv 13) qf (fun _ _=>rfl)) (qd (qI qG (qv 13) qf (fun _ _=>rfl)) qc)))) (qd (qA (qd (qv 12) (qd (qo xT hr.mo (qd (qv 11) qc)) qc))) qc))))) (qg (qp al)) qE)))
   (qg (qK (QW.pt (QX (qz (lF hr) (q8 (own:=["_law_part"]) (fr:=[]) (js:=[]) rfl (zq (qv 13)) rfl (fun _ _ h=>nomatch h) rfl (aY rfl (by decide +kernel) (by decide +kernel) (by decide +kernel)) (fun _ _ _ _=>qj (i:=0) (show List.Nodup (["_law_part"]:List Str)from by decide +kernel) rfl (Or.inl rfl) (.inr rfl)) (fun _ _ _ _=>(qD (Zg (K:=K) rfl) (by rfl) T.b_list PyProof.Rows.boot_list (qd (qv 0) qc)))) (qv 14) (qx _)) (QR (qz (uA hr) (qo xC hr.mo (qd (qv 4) qc)) (qv 7) (qx _))))) (qg (qp al)) qE)))))))))))))))
   (qg (qp al))),?_⟩
  refine⟨_,rfl,sc,_,rfl,.inl hS,_,_,rfl,_,_,rfl,rfl,_,rfl,?_,?_,?_⟩
  ·split<;>omega
  ·split<;>omega
  refine QM (Pv:=fun i σ Hx=>Same H Hx/\∃(o1 o2 o3 o4 o5 o6 o7 o8 o9 oa ob oc od oe og:Option V),σ=[some (.ref sc),o1,o2,o3,o4,o5,o6,o7,o8,o9,oa,ob,oc,od,oe,og]) ⟨Same.refl _,_,_,_,_,_,_,_,_,_,_,_,_,_,_,_,rfl⟩ ?_ ?_
  ·rintro k σ Hx hk ⟨sx,o1,o2,o3,o4,o5,o6,o7,o8,o9,oa,ob,oc,od,oe,og,rfl⟩
   have hk6:k<6:=by
    refine Nat.lt_of_lt_of_le hk ?_
    split<;>omega
   refine⟨_,rfl,_,rfl,sc,ns,k,10,by simp,sx.seq hS,by omega,by decide,fun q1 b rl pl wa da D L nms ss H1 s1 hq1 fb bx wk wo dl hL nbd sl pL hss lss=>⟨q1,_,rfl,SqT.of hq1,rfl,_,_,rfl,_,_,rfl,_,_,rfl,_,_,rfl,_,_,rfl,rfl,?_⟩⟩
   refine⟨_,rfl,da,D,L,rfl,dl,wo.ok,fun qa H2 s2 st=>?_⟩
   refine⟨_,rfl,_,rfl,by show 2<=sizeLine;decide,fun t1 ht1=>?_⟩
   have u3:=Same.upd (o:= .tup [.ref rl,.ref pl]) ht1
   have S3:=s2.trans u3
   refine⟨_,rfl,_,rfl,b,wa,1000,6,D,nms,rfl,(S3.grc bx).bx,by omega,wk.same S3,wo,by decide,fun q2 rl2 pl2 ss2 H4 g4 fr2 fp2 hq2 sl2 pL2 hss2 lss2=>?_⟩
   refine⟨by show 2<=sizeLine;decide,fun bl hbl=>?_⟩
   have u5:=Same.upd (o:= .lst [.ref t1,.ref q2]) hbl
   have bx3:=(S3.grc bx).bx
   have w5:W24 K C (upd H4 bl (.lst [.ref t1,.ref q2])) b 1201 wa da D L nms qa bl (fun i=>if i=0 then t1 else q2) (fun i=>if i=0 then rl else rl2) (fun i=>if i=0 then pl else pl2) (fun i=>if i=0 then ss else ss2):=by
    refine⟨(u5.grc g4.bx).bx,((wk.same S3).grc bx3 g4).same u5,((dl.same S3).grc bx3 g4 nbd).same u5,nbd,((st.same u3).grc bx3 g4).same u5,qb,fun i hi=>?_,fun i hi=>?_,fun i hi=>?_⟩
    ·match i,hi with
     |0,_=>exact u5 _ _ (g4.mv.tup (zr bx3) qb)
     |1,_=>exact u5 _ _ hq2
    ·match i,hi with
     |0,_=>exact((sl.same S3).grc bx3 g4).same u5
     |1,_=>exact sl2.same u5
    ·match i,hi with
     |0,_=>exact((pL.same S3).grc bx3 g4).same u5
     |1,_=>exact pL2.same u5
   have hssf:∀i,i<2->(∀s∈(fun i:Nat=>if i=0 then ss else ss2) i,ScOk D s)/\((fun i:Nat=>if i=0 then ss else ss2) i).length<=12:=fun i hi=>by
    match i,hi with
    |0,_=>exact⟨hss,lss⟩
    |1,_=>exact⟨hss2,lss2⟩
   have S5:Same H (upd H4 bl (.lst [.ref t1,.ref q2])):=(Zz (zZ fb sx) (sx.trans (s1.trans S3)) g4).trans u5
   have fbH:H b=none:=zZ fb sx
   generalize (fun i:Nat=>if i=0 then t1 else q2)=tf at w5
   generalize (fun i:Nat=>if i=0 then rl else rl2)=rf at w5
   generalize (fun i:Nat=>if i=0 then pl else pl2)=pf at w5
   generalize (fun i:Nat=>if i=0 then ss else ss2)=sf at w5 hssf
   generalize upd H4 bl (.lst [.ref t1,.ref q2])=H5 at w5 S5⊢
   refine⟨4,rfl,by decide,by decide,QM (n:=4) (Pv:=fun tn σ Hy=>Same H Hy/\∃(cc:Nat) (o5 o6 o9 oa ob oc od oe og:Option V),W24 K C Hy b cc wa da D L nms qa bl tf rf pf sf/\cc<=1201+100*tn/\σ=[some (.ref sc),some (.int (0+(k:Int))),some (.ref b),some (.ref wa.m),some (.ref da.p),o5,o6,some (.ref qa),some (.ref bl),o9,oa,ob,oc,od,oe,og]) ⟨S5,1201,_,_,_,_,_,_,_,_,_,w5,by omega,rfl⟩ ?_ ?_⟩
   ·rintro tn σ Hy htn ⟨sy,cc,p5,p6,p9,pa,pb,pc,pd,pe,pg,wy,hcc,rfl⟩
    obtain⟨j,hj,ej⟩:∃j:Nat,j<2/\(0+(tn:Int))%2=(j:Int):=⟨((tn:Int)%2).toNat,by omega,by omega⟩
    refine⟨_,rfl,_,rfl,_,_,rfl,rfl,(by decide:(0:Int)<2),bl,_,_,.ref (tf j),rfl,rfl,SqL.of wy.bo,?_,tf j,_,rfl,SqT.of (wy.tu j hj),rfl,_,_,rfl,_,_,rfl,rfl,?_⟩
    ·rw[ej]
     refine zY ?_
     match j,hj with
     |0,_=>rfl
     |1,_=>rfl
    obtain⟨hsc,lsc⟩:=hssf j hj
    obtain⟨asp,ep,lap,hap⟩:=id (wy.ps j hj)
    rw[List.length_map]at lap
    refine⟨_,rfl,b,_,_,rfl,wy.bx,by omega,by decide,by decide,fun r H1 r0 r1 g1=>?_⟩
    have w1:=wy.grc g1
    obtain⟨as1,ep1,lap1,_⟩:=id (w1.ps j hj)
    rw[List.length_map]at lap1
    refine⟨_,rfl,by show 0<=sizeLine;decide,fun le hle=>?_⟩
    have u2:=Same.upd (o:= .lst []) hle
    have w2:=w1.same u2
    refine⟨pf j,le,_,rfl,rfl,SqL.of (u2 _ _ ep1),SqL.of qb,.inr ⟨_,rfl,?_⟩⟩
    obtain⟨n,hn,n12,n0⟩:∃n:Nat,r*(if(!(as1.map V.ref).isEmpty)=true then(1:Int)else 0)=(n:Int)/\n<=12/\(1<=n->1<=as1.length):=by
     cases as1 with
     |nil=>exact⟨0,by simp,by omega,fun z=>by omega⟩
     |cons x y=>exact⟨r.toNat,by simp;omega,by omega,fun _=>by show 1<=y.length+1;omega⟩
    refine⟨_,_,rfl,rfl,.inr ⟨mS _,lC _⟩,r*(if(!(as1.map V.ref).isEmpty)=true then(1:Int)else 0),rfl,by rw[hn];omega,by rw[hn];omega,?_⟩
    rw[hn,Int.toNat_natCast]
    have sy2:Same H (upd H1 le (.lst [])):=(Zz fbH sy g1).trans u2
    generalize upd H1 le (.lst [])=H2 at w2 sy2⊢
    refine Zp (n:=n) (by rw[sizeLine_eq];omega) (fun i ys Hz=>Same H Hz/\∃(c3:Nat) (hs:List Nat),W24 K C Hz b c3 wa da D L nms qa bl tf rf pf sf/\c3<=cc+1+i/\ys=hs.map (fun n:Nat=>V.int (n:Int))/\hs.length=i/\∀h∈hs,h<(sf j).length) ⟨sy2,_,[],w2,Nat.le_refl _,rfl,rfl,(fun h hh=>nomatch hh)⟩ ?_ ?_
    ·rintro i ys Hz hi hyl ⟨sz,c3,hs,wz,hc3,rfl,lhs,hhs⟩
     obtain⟨as3,ep3,lap3,_⟩:=id (wz.ps j hj)
     rw[List.length_map]at lap3
     have h1:=n0 (by omega)
     have lr:(as3.map V.ref).length=(sf j).length:=by rw[List.length_map,lap3]
     refine⟨_,rfl,_,rfl,pf j,_,rfl,.inl (SqL.of ep3),b,_,_,rfl,wz.bx,by omega,by rw[lr];omega,by rw[lr];omega,fun x H3 x0 x1 g3=>?_⟩
     rw[lr]at x1
     refine⟨Zz fbH sz g3,_,hs++[x.toNat],wz.grc g3,by omega,?_,by simp [lhs],fun h hh=>?_⟩
     ·rw[List.map_append]
      show _=_++[V.int ((x.toNat:Nat):Int)]
      rw[Int.toNat_of_nonneg x0]
     ·rcases List.mem_append.mp hh with hh|hh
      ·exact hhs h hh
      ·rw[List.mem_singleton.mp hh];omega
    rintro ys Hz hyl ⟨sz,c3,hs,wz,hc3,rfl,lhs,hhs⟩ hl hhl
    have u4:=Same.upd (o:= .lst (hs.map fun n:Nat=>V.int (n:Int))) hhl
    have e4:(upd Hz hl (.lst (hs.map fun n:Nat=>V.int (n:Int)))) hl=some (.lst (hs.map fun n:Nat=>V.int (n:Int))):=qb
    have w4:=wz.same u4
    have s4:=sz.trans u4
    generalize upd Hz hl (.lst (hs.map fun n:Nat=>V.int (n:Int)))=H4' at w4 s4 e4⊢
    refine⟨_,rfl,wa.m,_,rfl,w4.wk.g_known,wa.kd,D.kn,rfl,w4.wk.kb,wo.ok.nl,fun kd Hk sk fkd kbk=>?_⟩
    have w5':=w4.same sk
    have s5':=s4.trans sk
    obtain⟨qs,hqs⟩:∃qs:List Ps,qs=(sf j).map (zC D):=⟨_,rfl⟩
    obtain⟨ps,hps⟩:∃ps:List Ps,ps=hs.map fun n=>(qs[n]?).getD ⟨"",0,[]⟩:=⟨_,rfl⟩
    have lps:ps.length=hs.length:=by rw[hps,List.length_map]
    have hpi:∀(i n:Nat),hs[i]? =some n->∃s,(sf j)[n]? =some s/\ps[i]? =some (zC D s)/\qs[n]? =some (zC D s):=fun i n h=>by
     have hn':=hhs n (List.mem_of_getElem? h)
     have e:=List.getElem?_eq_getElem hn'
     have eq:qs[n]? =some (zC D (sf j)[n]):=by rw[hqs,List.getElem?_map,e];rfl
     exact⟨_,e,by rw[hps,List.getElem?_map,h];show some ((qs[n]?).getD _)=_;rw[eq];rfl,eq⟩
    have fk4:H4' kd=none:=fkd
    refine⟨_,rfl,hl,rfl,⟨_,SqL.of (sk _ _ e4)⟩,?_⟩
    refine zx (K:=K) (xs:=hs.map fun n:Nat=>V.int (n:Int)) (by rw[List.length_map,sizeLine_eq];omega) (fun i ys Hz=>Same H4' Hz/\∃as:List Addr,ys=as.map V.ref/\as.length=i/\KlAt Hz kd (QN D ps i)/\∀(m:Nat) (x:Addr) (P:Ps),as[m]? =some x->ps[m]? =some P->Hz x=some (.tup (cP D ps m P))) ⟨sk,[],rfl,rfl,kbk,fun m x P h=>(by cases h)⟩ (fun i ys Hz hz=>SqL.of (hz.1 _ _ e4)) ?_ ?_
    ·rintro i ys Hz v hv hyl ⟨sz',as,rfl,la,kbz,ha⟩
     obtain⟨n',rfl,hni⟩:∃n':Nat,v= .int (n':Int)/\hs[i]? =some n':=by
      rw[List.getElem?_map]at hv
      cases z:hs[i]? with
      |none=>rw[z]at hv;cases hv
      |some y=>rw[z]at hv;cases hv;exact⟨y,rfl,rfl⟩
     obtain⟨s',hs',hp',_⟩:=hpi i n' hni
     have wz':=w4.same sz'
     obtain⟨asr,er,lar,hr'⟩:=id (wz'.sl j hj)
     have hnr:n'<asr.length:=by rw[lar];exact(List.getElem?_eq_some_iff.mp hs').1
     have ern:=List.getElem?_eq_getElem hnr
     have hsca:=hr' n' _ s' ern hs'
     have nkm:kd≠wa.m:=fun z=>by have:=w4.wk.di;rw[<- z,fk4]at this;cases this
     refine⟨_,rfl,_,rfl,_,rfl,_,rfl,rf j,_,_,.ref asr[n'],rfl,rfl,SqL.of er,zY (by rw[List.getElem?_map,ern];rfl),wa,kd,_,D,nms,QN D ps i,s',rfl,wz'.wk,wo,kbz,(Z7 wo.ok ps i).nl,nkm,hsca,hsc _ (List.mem_of_getElem? hs'),fun q3 H' m' hq3 kb'=>?_⟩
     obtain⟨kvz,ekz,_⟩:=kbz.di
     refine⟨fun c' o e'=>m' _ _ (qF (ql e' fk4)) (sz' _ _ e'),as++[q3],by simp,by simp [la],by rw[am hp'];exact kb',fun m x P h1 h2=>?_⟩
     rw[List.getElem?_append]at h1
     split at h1
     ·exact m'.tup (NT.one ekz trivial) (ha m x P h1 h2)
     ·have hj':m-as.length=0:=by
       cases hj':m-as.length with
       |zero=>rfl
       |succ k=>rw[hj']at h1;cases h1
      rw[hj']at h1
      cases h1
      obtain rfl:m=i:=by omega
      rw[hp']at h2
      cases h2
      exact hq3
    rintro ys Hz hyl' ⟨sz',as,rfl,las,kbz,ha⟩ l6 hl6
    rw[List.length_map]at las kbz
    have u6:=Same.upd (o:= .lst (as.map V.ref)) hl6
    refine⟨l6,_,rfl,.inl ⟨SqL.of qb,fun du hdu=>?_⟩⟩
    have u7:=Same.upd (o:= .tup (as.map V.ref)) hdu
    have S7:=u6.trans u7
    have e7:(upd (upd Hz l6 (.lst (as.map V.ref))) du (.tup (as.map V.ref))) du=some (.tup (as.map V.ref)):=qb
    have kb7:=KlAt.same kbz S7
    have ha7:∀(m:Nat) (x:Addr) (P:Ps),as[m]? =some x->ps[m]? =some P->(upd (upd Hz l6 (.lst (as.map V.ref))) du (.tup (as.map V.ref))) x=some (.tup (cP D ps m P)):=fun m x P h1 h2=>S7 _ _ (ha m x P h1 h2)
    have s47:=sz'.trans S7
    generalize upd (upd Hz l6 (.lst (as.map V.ref))) du (.tup (as.map V.ref))=H7 at e7 kb7 ha7 s47⊢
    have w7:=w4.same s47
    have eh7:H7 hl=some (.lst (hs.map fun n:Nat=>V.int (n:Int))):=s47 _ _ e4
    obtain⟨ap,ep7,lp7,hp7⟩:=id (w7.ps j hj)
    refine⟨_,rfl,_,rfl,by show 2<=sizeLine;decide,fun la hla=>?_⟩
    have ua:=Same.upd (o:= .lst [.ref (pf j),.ref hl]) hla
    refine⟨_,rfl,pf j,_,rfl,.inl ⟨SqL.of (ua _ _ ep7),fun tr htr=>?_⟩⟩
    have ub:=Same.upd (o:= .tup (ap.map V.ref)) htr
    refine⟨_,rfl,hl,_,rfl,.inl ⟨SqL.of (ub _ _ (ua _ _ eh7)),fun th hth=>?_⟩⟩
    have uc:=Same.upd (o:= .tup (hs.map fun n:Nat=>V.int (n:Int))) hth
    refine⟨by show 2<=sizeLine;decide,fun lb hlb=>?_⟩
    have ud:=Same.upd (o:= .lst [.ref tr,.ref th]) hlb
    refine⟨by show 2<=sizeLine;decide,fun lo hlo=>?_⟩
    have ue:=Same.upd (o:= .lst [.ref la,.ref lb]) hlo
    have S8:=ua.trans (ub.trans (uc.trans (ud.trans ue)))
    refine⟨_,rfl,b,_,_,rfl,(w7.same S8).bx,by omega,by decide,by decide,fun r9 H9 r90 r91 g9=>?_⟩
    have w9:=(w7.same S8).grc g9
    have nb7:∀{z:Addr},H7 z=none->z≠b:=fun h e=>by
     obtain⟨x,y,w,eb,_⟩:=id w7.bx
     rw[e,eb]at h;cases h
    have a9:∀{z:Addr} {o:HO},H7 z=none->_=some o->H9 z=some o:=fun{z o} h e=>g9.kp z o (nb7 h) e
    have ela:=a9 hla ((ub.trans (uc.trans (ud.trans ue))) _ _ qb)
    have etr:=a9 (zZ htr ua) ((uc.trans (ud.trans ue)) _ _ qb)
    have eth:=a9 (zZ hth (ua.trans ub)) ((ud.trans ue) _ _ qb)
    have elb:=a9 (zZ hlb (ua.trans (ub.trans uc))) (ue _ _ qb)
    have elo:=a9 (zZ hlo (ua.trans (ub.trans (uc.trans ud)))) qb
    have nhl:hl≠b:=fun z=>by
     obtain⟨x,y,w,eb,_⟩:=id wz.bx
     rw[z,eb]at hhl;cases hhl
    have npf:pf j≠b:=by
     obtain⟨x,y,w,eb,_⟩:=id w7.bx
     exact qC ep7 eb (zH 0 rfl (by intro a z;cases z))
    have ep9:=g9.kp _ _ npf (S8 _ _ ep7)
    have eh9:=g9.kp _ _ nhl (S8 _ _ eh7)
    have N9:=zr (w7.same S8).bx
    have hp9:∀(i:Nat) (x:Addr) (P:Ps),ap[i]? =some x->qs[i]? =some P->PsAt H9 x P:=fun i x P h1 h2=>PrAt.mv g9.mv N9 (PrAt.same S8 (hp7 i x P h1 (by rw[<- hqs];exact h2)))
    have lap7:ap.length=qs.length:=by rw[hqs];exact lp7
    have qok:∀(i:Nat) (P:Ps),qs[i]? =some P->PsOk P:=fun i P h=>by
     rw[hqs,List.getElem?_map]at h
     obtain⟨s,hs',rfl⟩:=Option.map_eq_some_iff.mp h
     exact cT (hsc s (List.mem_of_getElem? hs')) wo.ok.tp
    obtain⟨lx,pa,ha,hat,elx,sqp,sqh⟩:∃lx pa ha,Q0 [V.ref la,V.ref lb] r9=some (.ref lx)/\H9 lx=some (.lst [.ref pa,.ref ha])/\Sq K H9 pa (ap.map V.ref)/\Sq K H9 ha (hs.map fun n:Nat=>V.int (n:Int)):=by
     have h01:r9=0\/r9=1:=by omega
     rcases h01 with rfl|rfl
     ·exact⟨la,pf j,hl,rfl,ela,.inl (SqL.of ep9),.inl (SqL.of eh9)⟩
     ·exact⟨lb,tr,th,rfl,elb,.inr (SqT.of etr),.inr (SqT.of eth)⟩
    have du9:=g9.mv.tup N9 (S8 _ _ e7)
    have ha9:∀(m:Nat) (x:Addr) (P:Ps),as[m]? =some x->ps[m]? =some P->H9 x=some (.tup (cP D ps m P)):=fun m x P h1 h2=>g9.mv.tup N9 (S8 _ _ (ha7 m x P h1 h2))
    have kb9:KlAt H9 kd (QN D ps hs.length):=KlAt.grc (KlAt.same kb7 S8) (w7.same S8).bx g9
    have s9:Same H H9:=Zz fbH (s4.trans (s47.trans S8)) g9
    refine⟨lo,_,_,.ref lx,rfl,rfl,SqL.of elo,hat,?_⟩
    refine⟨_,rfl,lx,rfl,⟨_,SqL.of elx⟩,cR elx sqp sqh (fun Hx p ys Q' sq q'=>⟨_,rfl,p,ys,rfl,sq,q'⟩) fun kl k1 k2 H10 s10 ek e1 e2=>?_⟩
    have lL:L.length<=100:=by omega
    have h12:hs.length<=12:=by omega
    refine⟨2,rfl,by decide,by decide,QM (n:=2) (Pv:=fun ag σ Hy=>Same H10 Hy/\∃og',σ=[some (.ref sc),some (.int (0+(k:Int))),some (.ref b),some (.ref wa.m),some (.ref da.p),some (.ref (rf j)),some (.ref (pf j)),some (.ref qa),some (.ref bl),some (.int (0+(tn:Int))),some (.ref hl),some (.ref kd),some (.ref du),some (.ref lx),some (.ref kl),og']) ⟨Same.refl _,_,rfl⟩ ?_ ?_⟩
    ·rintro ag σ Hy hag ⟨sy',og',rfl⟩
     have sq9:=s10.trans sy'
     have wq:=w9.same sq9
     have sqS:∀{p:Addr} {ys:List V},Sq K H9 p ys->Sq K Hy p ys:=fun h=>h.elim (fun h=> .inl (sq9.seq h)) fun h=> .inr (Same.sqt sq9 h)
     refine⟨_,rfl,_,rfl,lx,_,_,.ref pa,rfl,rfl,SqL.of (sq9 _ _ elx),rfl,_,rfl,lx,_,_,.ref ha,rfl,rfl,SqL.of (sq9 _ _ elx),rfl,da,pa,ha,D,L,qs,ps,hs,rfl,wq.dl,lL,wo.ok,⟨ap,sqS sqp,lap7,fun i x P h1 h2=>⟨PrAt.same sq9 (hp9 i x P h1 h2),qok i P h2⟩⟩,sqS sqh,by omega,lps,fun i n h=>(let⟨s,_,h2,h3⟩:=hpi i n h;⟨_,h2,h3⟩),fun q3 aq kq as2 ss H11 s11 eq3 eaq la2 hans pm so sh=>?_⟩
     refine⟨_,rfl,_,rfl,kd,QN D ps hs.length,rfl,KlAt.same kb9 (sq9.trans s11),(Z7 wo.ok ps hs.length).nl,fun q4 ss2 H12 s12 pm2 so2 sh2=>?_⟩
     refine⟨by show 2<=sizeLine;decide,fun q5 hq5=>?_⟩
     have u5:=Same.upd (o:= .tup [.ref du,.ref q4]) hq5
     have S12:=s12.trans u5
     rw[lps]at pm sh
     obtain rfl:ss=ss2:=cj pm so pm2 so2
     refine⟨_,_,rfl,.tup (n:=3) (.inl (S12 _ _ eq3)) (.inl qb) rfl (by show 2<=sizeLine;decide) (fun i x y ex ey=>?_),fun H' s'=>⟨_,rfl,zg ⟨sy'.trans (s11.trans (S12.trans s')),_,rfl⟩⟩⟩
     have SA:=(sq9.trans s11).trans S12
     match i,ex,ey with
     |0,ex,ey=>cases ex;cases ey;exact jl (S12 _ _ eaq) (SA _ _ du9) la2 (by rw[las,lps]) (fun i x P h1 h2=>S12 _ _ (hans i x P h1 h2)) (fun i x P h1 h2=>SA _ _ (ha9 i x P h1 h2)) (by omega)
     |1,ex,ey=>cases ex;cases ey;exact lN (sh.same S12) (sh2.same u5) (fun nm h=>pm.mem_iff.mp h) (by rw[pm.length_eq,List.length_map];exact(Z7 wo.ok ps hs.length).nl)
     |i+2,ex,ey=>cases ex
    rintro σ Hy ⟨sy',og',rfl⟩
    have sq9:=s10.trans sy'
    have wq:=w9.same sq9
    have sqS:∀{p:Addr} {ys:List V},Sq K H9 p ys->Sq K Hy p ys:=fun h=>h.elim (fun h=> .inl (sq9.seq h)) fun h=> .inr (Same.sqt sq9 h)
    refine⟨_,rfl,lx,rfl,⟨_,SqL.of (sq9 _ _ elx)⟩,cR (sq9 _ _ elx) (sqS sqp) (sqS sqh) (fun Hx p ys Q' sq q'=>⟨_,rfl,p,ys,rfl,sq,q'⟩) fun kl' k1' k2' H13 s13 ek' e1' e2'=>?_⟩
    have S13:=sy'.trans s13
    have w13:=wq.same s13
    refine⟨_,rfl,5,by decide,.lst (n:=4) ek' (S13 _ _ ek) rfl (fun i x y ex ey=>?_),_,rfl,zg ?_⟩
    ·match i,ex,ey with
     |0,ex,ey=>cases ex;cases ey;exact oB e1' (S13 _ _ e1) lap7 (fun i a P h1 h2=>PrAt.same (sq9.trans s13) (hp9 i a P h1 h2))
     |1,ex,ey=>
      cases ex;cases ey
      refine .lst (n:=3) e2' (S13 _ _ e2) rfl fun i x y ex ey=>?_
      rw[ex]at ey;cases ey
      rw[List.getElem?_map]at ex
      obtain⟨z,hz,rfl⟩:=Option.map_eq_some_iff.mp ex
      exact .int _ _
     |i+2,ex,ey=>cases ex
    refine⟨_,rfl,da,D,L,rfl,w13.dl,wo.ok,fun q6 H14 s14 st6=>?_⟩
    have w14:=w13.same s14
    refine⟨_,rfl,6,by decide,st6.eqk w14.st (by omega),_,rfl,zg ⟨s9.trans (s10.trans (S13.trans s14)),_,_,_,_,_,_,_,_,_,_,w14,?_,rfl⟩⟩
    omega
   ·rintro σ Hy ⟨sy,cc,p5,p6,p9,pa,pb,pc,pd,pe,pg,wy,hcc,rfl⟩
    exact⟨sy,_,_,_,_,_,_,_,_,_,_,_,_,_,_,_,rfl⟩
  ·rintro σ Hx ⟨sx,o1,o2,o3,o4,o5,o6,o7,o8,o9,oa,ob,oc,od,oe,og,rfl⟩
   exact q _
end
theorem t6{l:W.OpenLaw}{w:World}{K:Frag}{h:Heap}{mg:Str->Option Value}{fa:Addr}(X:K.In h)(G:h.Ns mainGlobals mg)(hfa:mg "law"=some (.ref fa))
  {C:Addr}
  (aCD:W.nsIn K mainGlobals "Door"=some (some (.ref C)))
  (pgD:W.plainGet K C Str.empty=true)
  (hdD:W.hasDictIn K C=true)
  (poD:W.plainOver K C=true)
  (saD:W.findIn K (.ref C) "__setattr__"=some (some (.builtin "object.__setattr__")))
  (mkD:W.makesIn K C=true)
  (kcD:W.keepIn K (.ref C)=true)
  (n_D_table:W.findIn K (.ref C) "table"=some none)
  (n_D_house_keys:W.findIn K (.ref C) "house_keys"=some none)
  (n_D_near:W.findIn K (.ref C) "near"=some none)
  (n_D_far:W.findIn K (.ref C) "far"=some none)
  (n_D_most:W.findIn K (.ref C) "most"=some none)
  (n_D_least_age:W.findIn K (.ref C) "least_age"=some none)
  (n_D_buttons:W.findIn K (.ref C) "buttons"=some none)
  (n_D_log:W.findIn K (.ref C) "log"=some none)
  (A0:Ac K mg "is_number" Z2)
  (A1:Ac K mg "is_digit" ar)
  (A2:Ac K mg "are_digits" Zx)
  (A3:Ac K mg "back_table" ZF)
  (A4:Ac K mg "coded" fo)
  (A5:Ac K mg "decoded" bz)
  (A6:Ac K mg "is_name" bv)
  (A7:Ac K mg "is_code" bq)
  (A8:Ac K mg "is_press" ax)
  (A9:Ac K mg "letter_digits" QV)
  (A10:Ac K mg "key_of" cO)
  (A11:Ac K mg "count_digits" Q4)
  (A12:Ac K mg "press_of" aE)
  (A13:Ac K mg "read_press" ZG)
  (A14:Ac K mg "word_of" bp)
  (A15:Ac K mg "step_by" bD)
  (A16:Acm K C "__init__" "Door.__init__" Qy)
  (A17:Acm K C "is_full" "Door.is_full" Q6)
  (A18:Acm K C "button_of" "Door.button_of" QJ)
  (A19:Acm K C "takes_age" "Door.takes_age" QF)
  (A20:Acm K C "takes_from" "Door.takes_from" Qu)
  (A21:Acm K C "plain_step" "Door.plain_step" Qs)
  (A22:Acm K C "answer_to" "Door.answer_to" QK)
  (A23:Acm K C "hear" "Door.hear" ZX)
  (A24:Acm K C "read_right" "Door.read_right" Qq)
  (A25:Acm K C "learn" "Door.learn" Zw)
  (A26:Acm K C "close_below" "Door.close_below" Qi)
  (A27:Acm K C "known_now" "Door.known_now" QH)
  (A28:Acm K C "closed_now" "Door.closed_now" Qr)
  (A29:Acm K C "log_now" "Door.log_now" Q1)
  (A30:Acm K C "twin_door" "Door.twin_door" QC)
  (A31:Ac K mg "heard" fe)
  (A32:Ac K mg "_law_box" be)
  (A33:Ac K mg "_law_take" aj)
  (A34:Ac K mg "_law_table" ZT)
  (A35:Ac K mg "_law_key" bF)
  (A36:Ac K mg "_law_names" ZW)
  (A37:Ac K mg "_law_world" ZY)
  (A38:Ac K mg "_law_press" Z4)
  (A39:Ac K mg "_law_door" aP)
  (A40:Ac K mg "_law_answer" Zu)
  (A41:Ac K mg "_law_told" aG)
  (A42:Ac K mg "_law_copy" aI)
  (A43:Ac K mg "_law_row" bA)
  (A44:Ac K mg "_law_same" aK)
  (A45:Ac K mg "_law_other_row" QP)
  (A46:Ac K mg "_law_stands" ZD)
  (A47:Ac K mg "_law_begun" Z3)
  {f48:Addr}{od48 an48:Option Addr}{sl48:Array (Option Value)}{oc48 kV48 dc48 pm48 cd48 ct48:Value}
  (a48:W.nsIn K mainGlobals "law"=some (some (.ref f48)))
  (l48:K.lookup f48=some ⟨oc48,od48,.func (W.fnOf "law" "law" (Qd Zl) (zv Zl) (qi Zl) .none kV48 dc48 pm48 an48 cd48 ct48),sl48⟩)
  (c48:W.codeIn K cd48 "law"=true)
  (k48:W.keepIn K (.ref f48)=true)
  {t0:Tok}
  (yg0:W.nsIn K mainGlobals "DIGITS"=some (some (.int 16 t0)))
  {t1:Tok}
  (yg1:W.nsIn K mainGlobals "KEY_PLACES"=some (some (.int 4 t1)))
  {t2:Tok}
  (yg2:W.nsIn K mainGlobals "LONGEST_NAME"=some (some (.int 8 t2)))
  {t3:Tok}
  (yg3:W.nsIn K mainGlobals "CODE_DIGITS"=some (some (.int 5 t3)))
  (z0:W.nsIn K mainGlobals "isinstance"=some none)
  (z1:W.nsIn K mainGlobals "bool"=some none)
  (z2:W.nsIn K mainGlobals "int"=some none)
  (z3:W.nsIn K mainGlobals "tuple"=some none)
  (z4:W.nsIn K mainGlobals "all"=some none)
  (z5:W.nsIn K mainGlobals "len"=some none)
  (z6:W.nsIn K mainGlobals "abs"=some none)
  (z7:W.nsIn K mainGlobals "list"=some none)
  (z8:W.nsIn K mainGlobals "enumerate"=some none)
  (z9:W.nsIn K mainGlobals "range"=some none)
  (z10:W.nsIn K mainGlobals "max"=some none)
  (z11:W.nsIn K mainGlobals "min"=some none)
  (z12:W.nsIn K mainGlobals "str"=some none)
  (z13:W.nsIn K mainGlobals "zip"=some none)
  (z14:W.nsIn K mainGlobals "ord"=some none)
  (z15:W.nsIn K mainGlobals "sum"=some none)
  (z16:W.nsIn K mainGlobals "reversed"=some none)
  (z17:W.nsIn K mainGlobals "sorted"=some none)
  (z18:W.nsIn K mainGlobals "dict"=some none):
  ∃fd:FuncData,(∀(s:Shared) (v:Value),BindsTo s fd ⟨[v],[]⟩ [("_law_script",v)])/\∀base:Heap,K.In base->base.Ns mainGlobals mg->FnOk l.prog w K mg base Zr 11 fa fd ["_law_script"] (gN K):=by
 have e:=hfa.symm.trans (W.mg_of X G a48)
 cases e
 have T:Txt K mg (fun i=>if i=0 then t0 else if i=1 then t1 else if i=2 then t2 else if i=3 then t3 else 0):=⟨W.mg_of X G yg0,W.mg_of X G yg1,W.mg_of X G yg2,W.mg_of X G yg3,W.mg_none_of X G z0,W.mg_none_of X G z1,W.mg_none_of X G z2,W.mg_none_of X G z3,W.mg_none_of X G z4,W.mg_none_of X G z5,W.mg_none_of X G z6,W.mg_none_of X G z7,W.mg_none_of X G z8,W.mg_none_of X G z9,W.mg_none_of X G z10,W.mg_none_of X G z11,W.mg_none_of X G z12,W.mg_none_of X G z13,W.mg_none_of X G z14,W.mg_none_of X G z15,W.mg_none_of X G z16,W.mg_none_of X G z17,W.mg_none_of X G z18⟩
 refine⟨W.fnOf "law" "law" (Qd Zl) (zv Zl) (qi Zl) .none kV48 dc48 pm48 an48 cd48 ct48,fun s v=> .of_eq rfl,fun base _ _=>?_⟩
 have U:DCx K C:=⟨⟨pgD,hdD,poD,saD⟩,n_D_table,n_D_house_keys,n_D_near,n_D_far,n_D_most,n_D_least_age,n_D_buttons,n_D_log⟩
 have dL:=i7 (P:=l.prog) (w:=w) (base:=base) (A0.at fun _ _ _ _ _ _=>QL fun _=>rfl) T
 have xR:=jg (A1.at fun _ _ _ _ _ _=>QL fun _=>rfl) T dL
 have xJ:=gB (A2.at fun _ _ _ _ _ _=>QL fun _=>rfl) T xR
 have xG:=gC (P:=l.prog) (w:=w) (base:=base) (A3.at fun _ _ _ _ _ _=>QL fun _=>rfl) T
 have dP:=oU (P:=l.prog) (w:=w) (base:=base) (A4.at fun _ _ _ _ _ _=>ba fun _ _ _=>rfl) T
 have xY:=kz (A5.at fun _ _ _ _ _ _=>ba fun _ _ _=>rfl) T xG
 have xU:=kS (P:=l.prog) (w:=w) (base:=base) (A6.at fun _ _ _ _ _ _=>QL fun _=>rfl) T
 have xX:=lh (A7.at fun _ _ _ _ _ _=>QL fun _=>rfl) T xJ
 have dO:=jx (A8.at fun _ _ _ _ _ _=>QL fun _=>rfl) T xU dL xX
 have xB:=cH (P:=l.prog) (w:=w) (base:=base) (A9.at fun _ _ _ _ _ _=>QL fun _=>rfl) T
 have dI:=lU (A10.at fun _ _ _ _ _ _=>ba fun _ _ _=>rfl) T xB dP
 have xD:=eB (P:=l.prog) (w:=w) (base:=base) (A11.at fun _ _ _ _ _ _=>QL fun _=>rfl) T
 have xS:=jw (A12.at fun _ _ _ _ _ _=>wb fun _ _ _ _ _ _=>rfl) T xD dI dP
 have dH:=gH (A13.at fun _ _ _ _ _ _=>ba fun _ _ _=>rfl) T dI xY
 have xV:=lw (P:=l.prog) (w:=w) (base:=base) (A14.at fun _ _ _ _ _ _=>v9 fun _ _ _ _=>rfl) T
 have xW:=kY (A15.at fun _ _ _ _ _ _=>wS fun _ _ _ _ _=>rfl) T xV
 have A16:=A16.at (ps:=["self","table","keys","near","far","most"]) fun _ _ _ _ _ _=>wb fun _ _ _ _ _ _=>rfl
 have yA:=fA (P:=l.prog) (w:=w) (base:=base) A16 T U
 have xI:=yA.mi mkD kcD (W.mg_of X G aCD)
 have yB:=(eG (P:=l.prog) (w:=w) (base:=base) A16 T U).mi mkD kcD (W.mg_of X G aCD)
 have xE:=cS (P:=l.prog) (w:=w) (base:=base) (A17.at fun _ _ _ _ _ _=>QL fun _=>rfl) T U
 have dX:=bZ (P:=l.prog) (w:=w) (base:=base) (A18.at fun _ _ _ _ _ _=>aU fun _ _=>rfl) T U
 have dD:=b0 (P:=l.prog) (w:=w) (base:=base) (A19.at fun _ _ _ _ _ _=>aU fun _ _=>rfl) T U
 have dC:=bf (A20.at fun _ _ _ _ _ _=>ba fun _ _ _=>rfl) T U dD
 have dR:=a7 (A21.at fun _ _ _ _ _ _=>v9 fun _ _ _ _=>rfl) T U dC xW
 have dW:=bX (A22.at fun _ _ _ _ _ _=>aU fun _ _=>rfl) T U dX dC dR dH
 have dJ:=i5 (A23.at fun _ _ _ _ _ _=>aU fun _ _=>rfl) T U dO dW
 have dG:=bH (A24.at fun _ _ _ _ _ _=>aU fun _ _=>rfl) T U dO dD dH
 have xK:=gI (A25.at fun _ _ _ _ _ _=>ba fun _ _ _=>rfl) T U dG xE
 have dM:=aW (P:=l.prog) (w:=w) (base:=base) (A26.at fun _ _ _ _ _ _=>aU fun _ _=>rfl) T U
 have dE:=bV (P:=l.prog) (w:=w) (base:=base) (A27.at fun _ _ _ _ _ _=>QL fun _=>rfl) T U
 have dQ:=a8 (P:=l.prog) (w:=w) (base:=base) (A28.at fun _ _ _ _ _ _=>QL fun _=>rfl) T U
 have xF:=ef (P:=l.prog) (w:=w) (base:=base) (A29.at fun _ _ _ _ _ _=>QL fun _=>rfl) T U
 have dU:=bY (A30.at fun _ _ _ _ _ _=>QL fun _=>rfl) T U xI
 have x8:=oy (A31.at fun _ _ _ _ _ _=>ba fun _ _ _=>rfl) T U dU dJ dE
 have x6:=kA (P:=l.prog) (w:=w) (base:=base) (A32.at fun _ _ _ _ _ _=>aU fun _ _=>rfl) T
 have dA:=je (P:=l.prog) (w:=w) (base:=base) (A33.at fun _ _ _ _ _ _=>aU fun _ _=>rfl) T
 have xL:=iS (A34.at fun _ _ _ _ _ _=>QL fun _=>rfl) T dA
 have xZ:=li (A35.at fun _ _ _ _ _ _=>QL fun _=>rfl) T dA
 have xO:=iy (A36.at fun _ _ _ _ _ _=>aU fun _ _=>rfl) T dA
 have xN:=iN (A37.at fun _ _ _ _ _ _=>aU fun _ _=>rfl) T dA xL xZ xO
 have dB:=hW (A38.at fun _ _ _ _ _ _=>aU fun _ _=>rfl) T xS dI dP
 have xP:=ju (A39.at fun _ _ _ _ _ _=>QL fun _=>rfl) T U yB xK dJ dM dB
 have xH:=gE (P:=l.prog) (w:=w) (base:=base) (A40.at fun _ _ _ _ _ _=>ba fun _ _ _=>rfl) T
 have xT:=jf (P:=l.prog) (w:=w) (base:=base) (A41.at fun _ _ _ _ _ _=>QL fun _=>rfl) T
 have xQ:=jy (P:=l.prog) (w:=w) (base:=base) (A42.at fun _ _ _ _ _ _=>QL fun _=>rfl) T
 have dY:=ku (A43.at fun _ _ _ _ _ _=>ba fun _ _ _=>rfl) T dA
 have xA:=cp (P:=l.prog) (w:=w) (base:=base) (A44.at fun _ _ _ _ _ _=>aU fun _ _=>rfl) T
 have dZ:=cA (A45.at fun _ _ _ _ _ _=>ba fun _ _ _=>rfl) T dA dY dB
 have xC:=gJ (A46.at fun _ _ _ _ _ _=>QL fun _=>rfl) T U dE xF dQ
 have xM:=ik (A47.at fun _ _ _ _ _ _=>ba fun _ _ _=>rfl) T U x6 dA xN dY xP dB
 exact uy (gR (st:=Zl) l48 c48 k48) T U x8 dA xM xC dZ xQ xH xT xA
theorem wM{l:W.OpenLaw}{q:Program}{loose:List Str}{XP:(Str->Option Value)->Heap->Prop}{YP:World->Heap->Prop}{d:DefRec}{K:Params->Frag}(hn:l.most=some 63)(hdf:d.params.defaults=[])
  (hY:∀(w:World) (h:Heap),YP w h->(K w.params).In h)
  (F:∀(w:World) (mg:Str->Option Value) (fa:Addr) (h:Heap),(K w.params).In h->h.Ns mainGlobals mg->mg d.name=some (.ref fa)->
   ∃fd:FuncData,(∀(s:Shared) (u:Value),BindsTo s fd ⟨[u],[]⟩ [("_law_script",u)])/\∀base:Heap,(K w.params).In base->base.Ns mainGlobals mg->FnOk l.prog w (K w.params) mg base Zr 11 fa fd ["_law_script"] (gN (K w.params))):
  W.WalkO q loose XP YP l.row.toRowW d [] (fun f vs=>PySem.call f vs):=
 L2.rX (n:=63) (k:=11) (x:="_law_script") (CX:=fun _=>Zr) (sp:=fun w=>gN (K w.params)) hn (by decide) hdf ⟨rfl,by decide,by decide⟩ hY F (fun _ _ a ns hl _ hS=>⟨a,ns,rfl,hS,hl,fun _=>rfl⟩) fun _ _ _ _ _ z=>z
end Lw
namespace PySem.W.Fast
def tw9588751453422983655:=()
def tw2015180380748150759:=()
def tw3383490544274236738:=()
def tw9143998740499674749:=()
def tw17174431959894057543:=()
def tw9071397393828304131:=()
def tw1926607738442284585:=()
def tw8713661669801096920:=()
def tw14012888476505995821:=()
def tw3996195315738427020:=()
def tw5398667942229126101:=()
def tw10808320320801653631:=()
def tw2038651273301563724:=()
def tw3186675703080956766:=()
def tw16476623370856671080:=()
def tw14628133882408081972:=()
def tw6036736089584173297:=()
def tw8667805702564190183:=()
def tw5196591974620300426:=()
def tw9918521303464136835:=()
def tw1813734965691350768:=()
def tw1106933082133375694:=()
def tw7541427590483387897:=()
def tw16444719495442950098:=()
def tw14145013044546107871:=()
def tw6824348941191107703:=()
def tw6812484730478214794:=()
def tw4362665255007893589:=()
def tw12140811500869010054:=()
def tw5376874405127287797:=()
def tw10097830778354289773:=()
def tw3160855510468839934:=()
def tw8974676930308052989:=()
def tw1542498369653344828:=()
def tw12192632034139472715:=()
def tw3124994631987565901:=()
def tw2396077430691742649:=()
def tw10712330676165409298:=()
def tw10607533245943062610:=()
def tw418302257855175259:=()
def tw11885361906963806596:=()
def tw16936184364485225415:=()
def tw1084219056693134892:=()
def tw13470616860053641547:=()
def tw15833639701283250298:=()
def tw12005537006589726169:=()
def tw12844257964514896194:=()
def tw484857678711193711:=()
def tw4559497539483431760:=()
def tw13339378275117570645:=()
def tw12816348576878301485:=()
def tw13486834930014060176:=()
def tw5826413027957340436:=()
def tw18027129768407954422:=()
def tw1923651269543583228:=()
def tw2894109991278892803:=()
def tw17509861871787370037:=()
def tw8017243584111218438:=()
def tw1168513565085490598:=()
def tw15493302143272310778:=()
def tw3844092618807181148:=()
def tw12159796026049478872:=()
def tw11706829801565966884:=()
def tw7293795046597211943:=()
def tw5563089617035066221:=()
def tw5002041195463517980:=()
def tw1336896197030271283:=()
def tw16779224896658188215:=()
def tw16128360820802357966:=()
def tw7751782788865705431:=()
def tw9860884426245134687:=()
def tw1975349577840373749:=()
def tw17756500879391113060:=()
def tw11310088684975165835:=()
def tw15283101282708152820:=()
def tw12235078630172547128:=()
def tw3955476615395062204:=()
def tw4143641863384982067:=()
def tw5970080097451294318:=()
def tw13443290069648631139:=()
def tw13298399112674443891:=()
def tw6670572624354035561:=()
def tw15299025185016673405:=()
def tw13584443330758995859:=()
def tw11768303075132461273:=()
def tw18217118943165741106:=()
def tw10165094722253039324:=()
def tw5277279957084441600:=()
def tw13964488226096290570:=()
def tw1924876277145530776:=()
def tw6296864250549747283:=()
def tw17152185664105510926:=()
def tw14419029272599498823:=()
def tw5915441937807130342:=()
def tw4648047348815654244:=()
def tw15732935809645260386:=()
def tw17857596739951659254:=()
def tw10848239323049683:=()
def tw10197145793335271584:=()
def tw6442654028051972770:=()
def tw10699912374361381795:=()
def tw13947883742638154605:=()
def tw9514068982446583828:=()
def tw15538780052763369322:=()
def tw4725354191722225163:=()
def tw12394204141236934299:=()
def tw6814672423090519568:=()
def tw14233759244928750779:=()
def tw14144932013560200694:=()
def tw13788634954047989632:=()
def tw13777766380758074407:=()
def tw3456573464053093030:=()
def tw15830627205801562281:=()
def tw11510208335816382853:=()
def tw18284414260778323174:=()
def tw1431125792640788802:=()
def tw3475728391204551002:=()
def tw9161286849415792332:=()
def tw8006196390125565387:=()
def tw11324065855463707103:=()
def tw10341329535614823164:=()
def tw10668800228832370758:=()
def tw18297513672618041690:=()
def tw11756761113820156826:=()
def tw7278589457178586043:=()
def tw16691865072498057648:=()
def tw5946705132855131178:=()
def tw2320567552410059796:=()
def tw13259007297793833043:=()
def tw14281723085527814344:=()
end PySem.W.Fast
open PySem PySem.W PyProof.Rows
set_option maxRecDepth 100000 in
set_option maxHeartbeats 0 in
theorem PySem.Challenge.cw_rollcode_k24_what_is_heard_holds : PySem.Challenge.rw_rollcode_k24_what_is_heard.Holds := by
 w_on;o_law;k_head;(case hw=>w_witness2)
 k_fill
 refine Lw.wM (l:=PySem.Challenge.rw_rollcode_k24_what_is_heard) rfl rfl (fun w h Y=>PySem.W.kIn_of Y) ?F
 case F=>
  intro w mg fa h KX G hmg
  refine' Lw.t6 KX G hmg ?aCD ?pgD ?hdD ?poD ?saD ?mkD ?kcD ?n_D_table ?n_D_house_keys ?n_D_near ?n_D_far ?n_D_most ?n_D_least_age ?n_D_buttons ?n_D_log ?A0 ?A1 ?A2 ?A3 ?A4 ?A5 ?A6 ?A7 ?A8 ?A9 ?A10 ?A11 ?A12 ?A13 ?A14 ?A15 ?A16 ?A17 ?A18 ?A19 ?A20 ?A21 ?A22 ?A23 ?A24 ?A25 ?A26 ?A27 ?A28 ?A29 ?A30 ?A31 ?A32 ?A33 ?A34 ?A35 ?A36 ?A37 ?A38 ?A39 ?A40 ?A41 ?A42 ?A43 ?A44 ?A45 ?A46 ?A47 ?a48 ?l48 ?c48 ?k48 ?yg0 ?yg1 ?yg2 ?yg3 ?z0 ?z1 ?z2 ?z3 ?z4 ?z5 ?z6 ?z7 ?z8 ?z9 ?z10 ?z11 ?z12 ?z13 ?z14 ?z15 ?z16 ?z17 ?z18
  (case aCD|pgD|hdD|poD|saD|mkD|kcD|n_D_table|n_D_house_keys|n_D_near|n_D_far|n_D_most|n_D_least_age|n_D_buttons|n_D_log=>k_is)
  (case A0|A1|A2|A3|A4|A5|A6|A7|A8|A9|A10|A11|A12|A13|A14|A15=>refine' L3.pO KX G ?ya ?yl ?yc ?yk;case ya|yl|yc|yk=>k_is)
  (case A16|A17|A18|A19|A20|A21|A22|A23|A24|A25|A26|A27|A28|A29|A30=>refine' L3.tX ?ya ?yi ?yl ?yc ?yk;case ya|yi|yl|yc|yk=>k_is)
  (case A31|A32|A33|A34|A35|A36|A37|A38|A39|A40|A41|A42|A43|A44|A45|A46|A47=>refine' L3.pO KX G ?ya ?yl ?yc ?yk;case ya|yl|yc|yk=>k_is)
  (case a48|l48|c48|k48|yg0|yg1|yg2|yg3|z0|z1|z2|z3|z4|z5|z6|z7|z8|z9|z10|z11|z12|z13|z14|z15|z16|z17|z18=>k_is)
