import PyProof.Rows.All
import Wide.All
import OpenK.AllK
import Wide.FinOn
import Lean
import PyProof.EqAt
import PyProof.EqKinds
import PyProof.TupleCall
import PySem.Challenge.RW_rollcode_k20_doors_apart
import PyProof.AttrMissHeap
import PyProof.Rows.SetFrom
import KE.KDictOf
import PyProof.DictWalks
import PyProof.Rows.DictUnroll
import PyProof.StationsW
import PyProof.ExcClass2
import OpenK.KOwn
import PyProof.ExcBaseAll.ValueError
import PyProof.RulesAs
import PyProof.NsDelKeeps
import PyProof.Rows.Catch
import KE.KIsAll
import PyProof.ExcArgsOwn
import PyProof.Rows.CatchOwn
import PyProof.ExcAttrAll.ValueError
import PyProof.ExcInit
import PyProof.InstStoreFacts
import PyProof.FString
import OpenK.KCls
import PyProof.ListMulRoad
import PyProof.FactsAll.tuple_2
set_option Elab.async false
set_option maxRecDepth 100000
set_option maxHeartbeats 4000000
set_option linter.unusedVariables false
set_option linter.all false
open PySem.W (Frag)
namespace L2
open PySem PySem.Spec PyProof.Rows
abbrev qG:=Sum Int Str
def bN:qG->Value->Bool
 | .inl k,v=>Value.isInt k v
 | .inr x,v=>Value.isStrOf x v
def wE(w:World):qG->Int
 | .inl k=>hashInt k
 | .inr x=>hashStr w x
theorem zi:∀{k:qG} {v:Value},bN k v=true->(∃i t,k=Sum.inl i/\v=Value.int i t)\/(∃x t,k=Sum.inr x/\v=Value.str x t)
 | .inl i,v,h=>by
  obtain⟨t,e⟩:=Value.isInt_shape (k:=i) (v:=v) h
  exact .inl ⟨i,t,rfl,e⟩
 | .inr x,v,h=>by
  obtain⟨t,e⟩:=Value.isStrOf_shape (x:=x) (v:=v) h
  exact .inr ⟨x,t,rfl,e⟩
theorem mz(i:Int)(t:Tok):bN (.inl i) (.int i t)=true:=by simp [bN,Value.isInt]
theorem mP(x:Str)(t:Tok):bN (.inr x) (.str x t)=true:=by simp [bN,Value.isStrOf]
theorem uP(a b:Int):decide ((Sum.inl a:qG)=Sum.inl b)=(a==b):=by
 by_cases e:a=b
 ·subst e;simp
 ·have h:¬(Sum.inl a:qG)=Sum.inl b:=fun q=>e (Sum.inl.inj q)
  rw[decide_eq_false h]
  exact(beq_eq_false_iff_ne.mpr e).symm
theorem uV(a b:Str):decide ((Sum.inr a:qG)=Sum.inr b)=decide (a=b):=by
 by_cases e:a=b
 ·subst e;simp
 ·have h:¬(Sum.inr a:qG)=Sum.inr b:=fun q=>e (Sum.inr.inj q)
  rw[decide_eq_false h,decide_eq_false e]
theorem vg(a:Int)(b:Str):decide ((Sum.inl a:qG)=Sum.inr b)=false:=decide_eq_false (fun q=>nomatch q)
theorem vz(a:Str)(b:Int):decide ((Sum.inr a:qG)=Sum.inl b)=false:=decide_eq_false (fun q=>nomatch q)
def qM(prog:Program)(w:World):PySem.KeyKind prog w qG where
 is:=bN
 hash:=wE w
 inj:=fun v a b ha hb=>by
  rcases zi ha with⟨i,t,rfl,rfl⟩|⟨x,t,rfl,rfl⟩
  ·rcases zi hb with⟨j,u,rfl,e⟩|⟨y,u,rfl,e⟩
   ·injection e with e1 _;rw[e1]
   ·exact nomatch e
  ·rcases zi hb with⟨j,u,rfl,e⟩|⟨y,u,rfl,e⟩
   ·exact nomatch e
   ·injection e with e1 _;rw[e1]
 byValue:=fun k v h=>by
  rcases zi h with⟨i,t,rfl,rfl⟩|⟨x,t,rfl,rfl⟩<;>rfl
 pyHash:=fun hv h=>by
  rcases zi hv with⟨i,t,rfl,rfl⟩|⟨x,t,rfl,rfl⟩
  ·exact wpAny_pyHash_int h
  ·exact wpAny_pyHash_str h
 eqBool:=fun hu hv h=>by
  rcases zi hu with⟨i,t,rfl,rfl⟩|⟨x,t,rfl,rfl⟩
  ·rcases zi hv with⟨j,u,rfl,rfl⟩|⟨y,u,rfl,rfl⟩
   ·rw[uP]at h;exact wpAny_eqBool_int h
   ·rw[vg]at h;exact SeqAt.EqAt.int_str i t y u _ _ _ _ h
  ·rcases zi hv with⟨j,u,rfl,rfl⟩|⟨y,u,rfl,rfl⟩
   ·rw[vz]at h;exact SeqAt.EqAt.str_int x t j u _ _ _ _ h
   ·rw[uV]at h;exact wpAny_eqBool_str h
 «strs»:=fun k x t v h=>by
  rcases zi h with⟨i,u,rfl,e⟩|⟨y,u,rfl,e⟩
  ·exact nomatch e
  ·injection e with e1 _
   subst e1
   cases v<;>rfl
theorem je(prog:Program)(w:World)(i:Int)(t:Tok):(qM prog w).is (.inl i) (.int i t)=true:=mz i t
theorem i9(prog:Program)(w:World)(x:Str)(t:Tok):(qM prog w).is (.inr x) (.str x t)=true:=mP x t
inductive V where
 |non|bl (b:Bool)|int (i:Int)|str (x:Str)|byt (b:Array UInt8)|flt (b:UInt64)|ref (a:Addr)|ty (n:String)
 deriving DecidableEq
def RelV:V->Value->Prop
 | .non,u=>u=Value.none
 | .bl b,u=>u=Value.bool b
 | .int i,u=>∃t,u=Value.int i t
 | .str x,u=>∃t,u=Value.str x t
 | .byt b,u=>∃t,u=Value.bytes b t
 | .flt b,u=>∃t,u=Value.float b t
 | .ref a,u=>u=Value.ref a
 | .ty n,u=>u=Value.type n
abbrev Vals:List V->List Value->Prop:=Paired RelV
theorem Vals.length{xs:List V}{us:List Value}(r:Vals xs us):xs.length=us.length:=Paired.length r
theorem Vals.get:∀{xs:List V} {us:List Value} {i:Nat} {x:V},Vals xs us->xs[i]? =some x->∃u,us[i]? =some u/\RelV x u
 |_,_,_,_,.nil,e=>by simp at e
 |_,_,0,_,.cons r _,e=>by simp at e;subst e;exact⟨_,rfl,r⟩
 |_,_,i+1,x,.cons _ t,e=>by
  obtain⟨u,h1,h2⟩:=Vals.get (i:=i) (x:=x) t (by simpa using e)
  exact⟨u,by simpa using h1,h2⟩
theorem Vals.set{x:V}{u:Value}(r:RelV x u):∀{xs:List V} {us:List Value} (i:Nat),Vals xs us->Vals (xs.set i x) (us.set i u)
 |_,_,_,.nil=> .nil
 |_,_,0,.cons _ t=> .cons r t
 |_,_,i+1,.cons q t=> .cons q (Vals.set r i t)
theorem Vals.append:∀{xs ys:List V} {us ws:List Value},Vals xs us->Vals ys ws->Vals (xs++ys) (us++ws)
 |_,_,_,_,.nil,s=>s
 |_,_,_,_,.cons r t,s=> .cons r (Vals.append t s)
theorem Vals.take:∀{xs:List V} {us:List Value} (n:Nat),Vals xs us->Vals (xs.take n) (us.take n)
 |_,_,0,_=> .nil
 |_,_,_+1,.nil=> .nil
 |_,_,n+1,.cons r t=> .cons r (Vals.take n t)
theorem Vals.drop:∀{xs:List V} {us:List Value} (n:Nat),Vals xs us->Vals (xs.drop n) (us.drop n)
 |_,_,0,r=>r
 |_,_,_+1,.nil=> .nil
 |_,_,n+1,.cons _ t=>Vals.drop n t
def RelO:Option V->Option Value->Prop
 |some v,some u=>RelV v u
 |none,none=>True
 |_,_=>False
def KV{κ:Type}:List (κ×V)->List (κ×Value)->Prop:=Paired fun(p:κ×V) (q:κ×Value)=>p.1=q.1/\RelV p.2 q.2
def kV:qG->V
 | .inl i=> .int i
 | .inr x=> .str x
inductive HO where
 |lst (xs:List V)
 |tup (xs:List V)
 |dK (kvs:List (qG×V))|dT (kvs:List (List qG×V))
 |set (S:Int->Bool) (n:Nat)
 |ins (C dx:Addr) (fs:List (Str×V))
 |own (x:Addr)
 |xd (fs:List (Str×V))
 |met (f x:Addr)
 |rng (lo hi:Int)
 |frz (o:Obj) (u:HO)
 |tbl (ps:Array Value)
 |ext (φ:Heap->Prop)
abbrev Hp:=Addr->Option HO
def upd(H:Hp)(a:Addr)(o:HO):Hp:=fun b=>if b=a then some o else H b
theorem qc{H:Hp}{a:Addr}{o:HO}:upd H a o a=some o:=by unfold upd;rw[if_pos rfl]
theorem qi{H:Hp}{a b:Addr}{o:HO}(h:b≠a):upd H a o b=H b:=by unfold upd;rw[if_neg h]
theorem qO{H:Hp}{a b:Addr}{o u:HO}(h:H a=some o)(h':H b=some u)(d:o≠u):a≠b:=by
 intro e;subst e;rw[h]at h';exact d (Option.some.inj h')
theorem qo{H:Hp}{a b:Addr}{o:HO}(h:H a=some o)(h':H b=none):a≠b:=by
 intro e;subst e;rw[h]at h';cases h'
section
variable(P:Program)(w:World)
def ObjOk(H:Hp)(h:Heap)(a:Addr):HO->Prop
 | .lst xs=>xs.length<=sizeLine/\∃(its:List Value) (n:Nat),Vals xs its/\h.get? a=some {cls:= .type "list",data:= .seq its.toArray n}
 | .tup xs=>xs.length<=sizeLine/\∃its:List Value,Vals xs its/\IsTup h a its.toArray
 | .dK kvs=>kvs.length<=sizeLine/\(a==sysModules)=false/\∃vs,KV kvs vs/\h.DictOf (qM P w) a vs
 | .dT kvs=>kvs.length<=sizeLine/\(a==sysModules)=false/\∃xs:List (List qG×Addr×Value),
   Paired (fun(p:List qG×V) (q:List qG×Addr×Value)=>p.1=q.1/\H q.2.1=some (.tup (p.1.map kV))/\RelV p.2 q.2.2) kvs xs/\
   ∃o es ep,h.get? a=some o/\o.ExactDict/\o.data= .dict es ep/\es.toList=xs.map (entryOfKey (tupleKind (qM P w)))/\(xs.map (·.1)).Nodup
 | .set S n=>h.SetOf (intKind P w) a S n
 | .ins C dx fs=>H dx=some (.own a)/\fs.length<=1000/\dx≠a/\h.get? a=some (PySem.W.instObj C dx)/\
   ∃mA,h.Ns1 dx mA/\(∀f,RelO (fs.lookup f) (mA f))/\PySem.Within mA (fs.map (·.1))
 | .own _=>∃o,h.get? a=some o
 | .xd fs=>∃mA,h.Ns1 a mA/\∀f,RelO (fs.lookup f) (mA f)
 | .rng lo hi=>∃t u v,h.get? a=some {cls:= .type "range",data:= .fields #[.int lo t,.int hi u,.int 1 v]}
 | .frz o u=>h.get? a=some o/\ObjOk H h a u
 | .tbl ps=>h.get? a=some {cls:= .none,data:= .fields ps}
 | .met f x=>h.get? a=some (PySem.W.methodObj (.ref f) (.ref x))
 | .ext φ=>φ h/\(∃o,h.get? a=some o)/\∀h1 h2:Heap,φ h1->(∀o,h1.get? a=some o->h2.get? a=some o)->φ h2
def HOk(H:Hp)(h:Heap):Prop:=∀a o,H a=some o->ObjOk P w H h a o
end
section
variable{P:Program}{w:World}{H H':Hp}{h h':Heap}{a:Addr}{o:HO}
theorem ObjOk.lt(x:ObjOk P w H h a o):a<h.objs.size:=by
 cases o with
 |lst xs=>obtain⟨_,_,_,_,e⟩:=x;exact Heap.lt_size e
 |tup xs=>obtain⟨_,_,_,p⟩:=x;exact p.lt
 |dK kvs=>obtain⟨_,_,_,_,o,_,_,e,_⟩:=x;exact Heap.lt_size e
 |dT kvs=>obtain⟨_,_,_,_,o,_,_,e,_⟩:=x;exact Heap.lt_size e
 |set S n=>obtain⟨o,_,_,_,e,_⟩:=x;exact Heap.lt_size e
 |ins C dx fs=>obtain⟨_,_,_,e,_⟩:=x;exact Heap.lt_size e
 |own y=>obtain⟨_,e⟩:=x;exact Heap.lt_size e
 |xd fs=>obtain⟨_,⟨_,_,_,e,_⟩,_⟩:=x;exact Heap.lt_size e
 |rng lo hi=>obtain⟨_,_,_,e⟩:=x;exact Heap.lt_size e
 |frz ob u=>obtain⟨e,_⟩:=x;exact Heap.lt_size e
 |tbl ps=>exact Heap.lt_size (show h.get? a=some _ from x)
 |met f y=>exact Heap.lt_size (show h.get? a=some _ from x)
 |ext φ=>obtain⟨_,⟨_,e⟩,_⟩:=x;exact Heap.lt_size e
theorem Paired.mapP{α β:Type}{F G:α->β->Prop}:∀{l₁:List α} {l₂:List β},Paired F l₁ l₂->(∀a b,F a b->G a b)->Paired G l₁ l₂
 |_,_,.nil,_=> .nil
 |_,_,.cons r t,f=> .cons (f _ _ r) (Paired.mapP t f)
theorem ObjOk.stay(x:ObjOk P w H h a o)(k:∀b u,(b=a\/H b=some (.own a))->h.get? b=some u->h'.get? b=some u)
  (ho:∀b,H b=some (.own a)->H' b=some (.own a))(ht:∀b xs,H b=some (.tup xs)->H' b=some (.tup xs)):ObjOk P w H' h' a o:=by
 induction o with
 |lst xs=>obtain⟨z,its,n,r,e⟩:=x;exact⟨z,its,n,r,k _ _ (.inl rfl) e⟩
 |tup xs=>obtain⟨z,its,r,ob,e,c⟩:=x;exact⟨z,its,r,ob,k _ _ (.inl rfl) e,c⟩
 |dK kvs=>obtain⟨z,y,vs,r,ob,es,ep,e,c⟩:=x;exact⟨z,y,vs,r,ob,es,ep,k _ _ (.inl rfl) e,c⟩
 |dT kvs=>
  obtain⟨z,y,xs,r,ob,es,ep,e,c⟩:=x
  exact⟨z,y,xs,Paired.mapP r fun p q z=>⟨z.1,ht _ _ z.2.1,z.2.2⟩,ob,es,ep,k _ _ (.inl rfl) e,c⟩
 |set S n=>obtain⟨ob,es,ep,t,e,c⟩:=x;exact⟨ob,es,ep,t,k _ _ (.inl rfl) e,c⟩
 |ins C dx fs=>
  obtain⟨d,z,ne,e,mA,⟨od,es,ep,e2,c⟩,r⟩:=x
  exact⟨ho _ d,z,ne,k _ _ (.inl rfl) e,mA,⟨od,es,ep,k _ _ (.inr d) e2,c⟩,r⟩
 |own y=>obtain⟨ob,e⟩:=x;exact⟨ob,k _ _ (.inl rfl) e⟩
 |xd fs=>obtain⟨mA,⟨od,es,ep,e,c⟩,r⟩:=x;exact⟨mA,⟨od,es,ep,k _ _ (.inl rfl) e,c⟩,r⟩
 |rng lo hi=>obtain⟨t,u,v,e⟩:=x;exact⟨t,u,v,k _ _ (.inl rfl) e⟩
 |frz ob u ih=>obtain⟨e,q⟩:=x;exact⟨k _ _ (.inl rfl) e,ih q⟩
 |tbl ps=>
  have e:h.get? a=some {cls:= .none,data:= .fields ps}:=x
  show h'.get? a=some {cls:= .none,data:= .fields ps}
  exact k a _ (.inl rfl) e
 |met f y=>
  have e:h.get? a=some (W.methodObj (.ref f) (.ref y)):=x
  show h'.get? a=some (W.methodObj (.ref f) (.ref y))
  exact k a _ (.inl rfl) e
 |ext φ=>obtain⟨p,⟨o,e⟩,st⟩:=x;exact⟨st _ _ p fun o q=>k _ _ (.inl rfl) q,⟨o,k _ _ (.inl rfl) e⟩,st⟩
theorem HOk.lt(x:HOk P w H h)(e:H a=some o):a<h.objs.size:=(x a o e).lt
theorem HOk.fresh(x:HOk P w H h)(e:h.objs.size<=a):H a=none:=by
 cases q:H a with
 |none=>rfl
 |some u=>exact absurd (Nat.lt_of_lt_of_le (x.lt q) e) (Nat.lt_irrefl _)
theorem HOk.kept(x:HOk P w H h)(k:∀b u,h.get? b=some u->h'.get? b=some u):HOk P w H h':=fun a o e=>
 (x a o e).stay (fun b u _ q=>k b u q) (fun _ q=>q) fun _ _ q=>q
theorem HOk.laid(x:HOk P w H h)(k:∀b u,h.get? b=some u->h'.get? b=some u)(hp:h.objs.size<=a)(new:ObjOk P w (upd H a o) h' a o):HOk P w (upd H a o) h':=fun b u e=>by
 have hn:=x.fresh hp
 by_cases hb:b=a
 ·subst hb;rw[qc]at e;cases e;exact new
 ·rw[qi hb]at e
  exact(x b u e).stay (fun c v _ q=>k c v q) (fun c q=>by rw[qi (qo q hn)];exact q) fun c xs q=>by rw[qi (qo q hn)];exact q
end
def Rd(H:Hp)(a:Addr)(u:HO):Prop:=H a=some u\/∃o,H a=some (.frz o u)
theorem Rd.ok{P:Program}{w:World}{H:Hp}{h:Heap}{a:Addr}{u:HO}(r:Rd H a u)(x:HOk P w H h):ObjOk P w H h a u:=by
 rcases r with r|⟨o,r⟩
 ·exact x a u r
 ·obtain⟨_,q⟩:=x a _ r
  exact q
def mS:Option HO->Prop
 |some (.lst _)=>True
 |some (.dK _)=>True
 |some (.dT _)=>True
 |some (.set _ _)=>True
 |some (.ins _ _ _)=>True
 |some (.ext _)=>True
 |_=>False
section
variable{P:Program}{w:World}{H:Hp}{h h':Heap}{x e:Addr}{o':HO}
theorem HOk.write(ok:HOk P w H h)(mu:mS (H x))(he:e=x\/H e=some (.own x))(k:∀b u,b≠e->h.get? b=some u->h'.get? b=some u)(heo:∃u,h'.get? e=some u)
  (new:ObjOk P w (upd H x o') h' x o'):HOk P w (upd H x o') h':=fun b u q=>by
 have nown:∀c y,H c=some (.own y)->c≠x:=fun c y r z=>by subst z;rw[r]at mu;exact mu
 have ntup:∀c xs,H c=some (.tup xs)->c≠x:=fun c xs r z=>by subst z;rw[r]at mu;exact mu
 by_cases hb:b=x
 ·subst hb;rw[qc]at q;cases q;exact new
 ·rw[qi hb]at q
  by_cases hbe:b=e
  ·have q':H b=some (.own x):=by
    rcases he with z|z
    ·exact absurd (hbe.trans z) hb
    ·rw[hbe];exact z
   rw[q]at q';cases q'
   obtain⟨v,hv⟩:=heo
   exact⟨v,by rw[hbe];exact hv⟩
  ·refine(ok b u q).stay (fun c v hc r=>k c v ?_ r) (fun c r=>by rw[qi (nown c b r)];exact r) fun c xs r=>by rw[qi (ntup c xs r)];exact r
   rcases hc with rfl|hc
   ·exact hbe
   ·rintro rfl
    rcases he with z|z
    ·exact nown c b hc z
    ·rw[hc]at z;cases z;exact hb rfl
end
structure Un(fs ex:List Addr)(H H':Hp)(h h':Heap):Prop where
 keep:∀b o,h.get? b=some o->H b=none->b∉fs->b∉ex->h'.get? b=some o
 slot:∀b o,h.get? b=some o->H b=none->b∈fs->b∉ex->∃sl,h'.get? b=some {o with slots:=sl}
 free:∀b o,h.get? b=some o->H b=none->b∉ex->H' b=none
 there:∀b o,h.get? b=some o->b∉ex->∃o',h'.get? b=some o'
 tups:∀b xs,H b=some (.tup xs)->H' b=some (.tup xs)
 frzs:∀b o u,H b=some (.frz o u)->H' b=some (.frz o u)
 tbls:∀b ps,H b=some (.tbl ps)->∃more,H' b=some (.tbl (ps++more))
section
variable{fs fs' ex ex':List Addr}{H H1 H2:Hp}{h h1 h2 h':Heap}{a x e:Addr}{o:HO}
theorem Un.any(u:Un fs ex H H1 h h1){b:Addr}{ob:Obj}(q:h.get? b=some ob)(n:H b=none)(hx:b∉ex):∃sl,h1.get? b=some {ob with slots:=sl}:=by
 by_cases hb:b∈fs
 ·exact u.slot b ob q n hb hx
 ·exact⟨ob.slots,u.keep b ob q n hb hx⟩
theorem Un.kept(k:∀b u,h.get? b=some u->h'.get? b=some u):Un fs ex H H h h':=
 ⟨fun b ob q _ _ _=>k b ob q,fun b ob q _ _ _=>⟨ob.slots,k b ob q⟩,fun _ _ _ n _=>n,fun b ob q _=>⟨ob,k b ob q⟩,fun _ _ q=>q,fun _ _ _ q=>q,fun _ ps q=>⟨#[],by rw[q];simp⟩⟩
theorem Un.refl:Un fs ex H H h h:=Un.kept fun _ _ q=>q
theorem Un.laid(k:∀b u,h.get? b=some u->h'.get? b=some u)(hp:h.objs.size<=a)(hn:H a=none):Un fs ex H (upd H a o) h h' where
 keep:=fun b u q _ _ _=>k b u q
 slot:=fun b u q _ _ _=>⟨u.slots,k b u q⟩
 free:=fun b u q n _=>by rw[qi (Nat.ne_of_lt (Nat.lt_of_lt_of_le (Heap.lt_size q) hp))];exact n
 there:=fun b u q _=>⟨u,k b u q⟩
 tups:=fun b xs q=>by rw[qi (qo q hn)];exact q
 frzs:=fun b u xs q=>by rw[qi (qo q hn)];exact q
 tbls:=fun b ps q=>⟨#[],by rw[qi (qo q hn),q];simp⟩
theorem Un.write(mu:mS (H x))(he:e=x\/H e=some (.own x))(k:∀b u,b≠e->h.get? b=some u->h'.get? b=some u)(heo:∃u,h'.get? e=some u):Un fs ex H (upd H x o) h h':=by
 have hx:∀b,H b=none->b≠x:=fun b n z=>by subst z;rw[n]at mu;exact mu
 have hb:∀b,H b=none->b≠e:=fun b n z=>by
  subst z
  rcases he with r|r
  ·exact hx b n r
  ·rw[n]at r;cases r
 have hm:∀b u,H b=some u->¬mS (some u)->b≠x:=fun b u q nm z=>by subst z;rw[q]at mu;exact nm mu
 refine⟨fun b u q n _ _=>k b u (hb b n) q,fun b u q n _ _=>⟨u.slots,k b u (hb b n) q⟩,fun b u q n _=>by rw[qi (hx b n)];exact n,fun b u q _=>?_,
  fun b xs q=>by rw[qi (hm b _ q fun z=>z)];exact q,fun b u xs q=>by rw[qi (hm b _ q fun z=>z)];exact q,fun b ps q=>⟨#[],by rw[qi (hm b _ q fun z=>z),q];simp⟩⟩
 by_cases hbe:b=e
 ·subst hbe;exact heo
 ·exact⟨u,k b u hbe q⟩
end
def re(h:Heap)(H:Hp):List Addr:=(List.range h.objs.size).filter fun a=>(H a).isSome
def ae(h:Heap)(H:Hp):Heap:=PySem.W.hideAll h (re h H)
theorem nD(h:Heap)(H:Hp):(ae h H).objs.size=h.objs.size:=W.hideAll_size _ _
theorem pI{h:Heap}{H:Hp}{b:Addr}{o:Obj}(e:h.get? b=some o)(n:H b=none):(ae h H).get? b=some o:=
 W.hideAll_get _ e fun hm=>by
  have q:(H b).isSome=true:=(List.mem_filter.mp hm).2
  rw[n]at q;simp at q
theorem tq{h:Heap}{H:Hp}{b:Addr}{o:Obj}(e:(ae h H).get? b=some o):h.get? b=some o/\H b=none:=by
 have e':h.get? b=some o:=W.of_hideAll (re h H) e
 refine⟨e',?_⟩
 cases q:H b with
 |none=>rfl
 |some x=>
  have hm:b∈re h H:=List.mem_filter.mpr ⟨List.mem_range.mpr (Heap.lt_size e'),by simp [q]⟩
  have z:(ae h H).get? b=none:=W.hideAll_none (re h H) hm
  rw[z]at e;cases e
structure Mod(K:Frag)(mg:Str->Option Value)(base:Heap):Prop where
 kin:K.In base
 glob:base.Ns mainGlobals mg
 blt:∃mb,base.Ns builtinsNs mb/\∀x:Str,x≠"__name__"->mb x=bootBuiltins x
 nolimit:base.NoLimit
structure Cx where
 prog:Program
 w:World
 K:Frag
 mg:Str->Option Value
 base:Heap
 A:Around
 N:List Str
 s₀:Shared
 H₀:Hp
 env:Env
 outer:List Env
 stack:List Env
 ex:List Addr
 fn:Str->Bool
 calm:Bool
 pn:List (Addr×Obj)
 xe:Value->Shared->Prop
def aC(l:List Env):List Addr:=l.filterMap (·.frame)
abbrev Cx.fs(X:Cx):List Addr:=aC X.outer
def tQ(sc:Scope)(x:Str):Prop:=sc.names.lookup x=some .local\/sc.names.lookup x=some .cell\/sc.names.lookup x=some .free
def fN(sc:Scope)(x:Str):Prop:=sc.names.lookup x=some .local\/sc.names.lookup x=some .cell
def ww(env:Env)(h:Heap)(m:Str->Option Value)(x:Str)(u:Value):Prop:=
 (env.kindOf x=some .local/\m x=some u)\/((env.kindOf x=some .cell\/env.kindOf x=some .free)/\∃c,env.cells.lookup x=some c/\h.IsCell c (some u))
structure Cx.Ok(X:Cx):Prop where
 mod:Mod X.K X.mg X.base
 kind:X.env.scope.kind= .function
 glob:X.env.globals=mainGlobals
 blt:X.env.builtins=builtinsNs
 above:X.s₀.heap.objs.size<=X.env.locals
 inj:∀x y c,X.env.cells.lookup x=some c->X.env.cells.lookup y=some c->x=y
 has:∀x,(X.env.kindOf x=some .cell\/X.env.kindOf x=some .free)->∃c,X.env.cells.lookup x=some c
 cab:∀x c,X.fn x=true->X.env.cells.lookup x=some c->X.s₀.heap.objs.size<=c
 hd:X.calm=true->X.A.handled=none
 frames:X.A.frames=some X.stack
 stk:X.stack=X.outer\/(X.stack=X.env::X.outer/\X.env.frame=some X.env.locals)
 exf:∀b∈X.ex,b≠X.env.locals/\∀x c,X.env.cells.lookup x=some c->c≠b
 bs:∀b o,X.base.get? b=some o->X.s₀.heap.get? b=some o/\X.H₀ b=none
 bsz:X.base.objs.size<=X.s₀.heap.objs.size
 noex:∀b o,X.base.get? b=some o->b∉X.ex
 exfs:∀b∈X.ex,b∉X.fs
 funs:X.s₀.heap.FunFrames X.base X.outer
 frf:∀b∈X.fs,X.H₀ b=none
structure Inv(X:Cx)(pins:List (Addr×Obj))(σ:List (Option V))(H:Hp)(s:Shared):Prop where
 ok:X.Ok
 os:s.os=X.s₀.os
 bare:AllBare s.gens
 base:Un X.fs X.ex X.H₀ H X.s₀.heap s.heap
 loc:∃m,s.heap.Ns X.env.locals m/\∀(i:Nat) (x:Str) (v:V),X.N[i]? =some x->σ[i]? =some (some v)->tQ X.env.scope x->∃u,RelV v u/\ww X.env s.heap m x u
 cell:∀x c,X.env.cells.lookup x=some c->∃v,s.heap.IsCell c v
 free:H X.env.locals=none
 freeC:∀x c,X.env.cells.lookup x=some c->H c=none
 pin:∀p∈X.pn++pins,s.heap.get? p.1=some p.2/\H p.1=none/\p.1≠X.env.locals/\p.1∉X.fs/\∀v,p.2.data≠ .cell v
 hok:HOk X.prog X.w H s.heap
 len:σ.length=X.N.length
section
variable{X:Cx}{pins:List (Addr×Obj)}{σ:List (Option V)}{H H':Hp}{s:Shared}{h':Heap}
theorem Cx.Ok.nofr(ok:X.Ok){b:Addr}{o:Obj}(e:X.base.get? b=some o):b∉X.fs:=fun hb=>by
 have:=(ok.funs.mem hb).1
 rw[e]at this;cases this
theorem Inv.bs(I:Inv X pins σ H s):∀b o,X.base.get? b=some o->s.heap.get? b=some o/\H b=none:=fun b o e=>
 ⟨I.base.keep b o (I.ok.bs b o e).1 (I.ok.bs b o e).2 (I.ok.nofr e) (I.ok.noex b o e),I.base.free b o (I.ok.bs b o e).1 (I.ok.bs b o e).2 (I.ok.noex b o e)⟩
theorem Inv.bk(I:Inv X pins σ H s):∀b o,X.base.get? b=some o->s.heap.get? b=some o:=fun b o e=>(I.bs b o e).1
theorem Inv.mod(I:Inv X pins σ H s):Mod X.K X.mg X.base:=I.ok.mod
theorem Inv.kIn(I:Inv X pins σ H s):X.K.In s.heap:=I.ok.mod.kin.keeps I.bk
theorem Inv.lt(I:Inv X pins σ H s):X.env.locals<s.heap.objs.size:=let⟨_,hn,_⟩:=I.loc;hn.lt
theorem Inv.sz(I:Inv X pins σ H s):X.s₀.heap.objs.size<=s.heap.objs.size:=Nat.le_trans I.ok.above (Nat.le_of_lt I.lt)
theorem Inv.nofs(I:Inv X pins σ H s){a:Addr}(h:s.heap.objs.size<=a):a∉X.fs:=fun hb=>by
 obtain⟨_,o,ho,_⟩:=I.ok.funs.mem hb
 exact absurd (Nat.lt_of_lt_of_le (Heap.lt_size ho) (Nat.le_trans I.sz h)) (Nat.lt_irrefl _)
theorem Inv.cne(I:Inv X pins σ H s):∀x c,X.env.cells.lookup x=some c->c≠X.env.locals:=fun x c e z=>by
 obtain⟨v,o,ho,hd⟩:=I.cell x c e
 obtain⟨m,⟨o',es,ep,ho',hd',_⟩,_⟩:=I.loc
 rw[z,ho']at ho;cases ho;rw[hd']at hd;cases hd
theorem Inv.funs(I:Inv X pins σ H s):s.heap.FunFrames X.base X.outer:=by
 have all:∀(l:List Env),(∀b∈aC l,b∈X.fs)->X.s₀.heap.FunFrames X.base l->s.heap.FunFrames X.base l:=by
  intro l
  induction l with
  |nil=>intro _ _;trivial
  |cons env r ih=>
   intro hs hl
   obtain⟨hk,⟨L,o,hf,hn,ho,hd⟩,hr⟩:=hl
   have hL:L∈X.fs:=hs L (by unfold aC;rw[List.filterMap_cons,hf];exact List.mem_cons_self)
   obtain⟨sl,e⟩:=I.base.slot L o ho (I.ok.frf L hL) hL fun z=>I.ok.exfs L z hL
   exact⟨hk,⟨L,_,hf,hn,e,hd⟩,ih (fun b hb=>hs b (by unfold aC;rw[List.filterMap_cons,hf];exact List.mem_cons_of_mem _ hb)) hr⟩
 exact all X.outer (fun _ hb=>hb) I.ok.funs
theorem Inv.stack(I:Inv X pins σ H s):s.heap.FunFrames X.base X.stack:=by
 rcases I.ok.stk with e|⟨e,hf⟩
 ·rw[e];exact I.funs
 ·rw[e]
  obtain⟨m,hn,_⟩:=I.loc
  refine .cons (by rw[I.ok.kind];decide) hf hn ?_ I.funs
  exact Heap.get?_none_of_le (Nat.le_trans I.ok.bsz I.ok.above)
theorem Inv.stkSub(I:Inv X pins σ H s):∀b∈aC X.stack,b∈X.env.locals::X.fs:=fun b hb=>by
 rcases I.ok.stk with e|⟨e,hf⟩
 ·rw[e]at hb;exact List.mem_cons_of_mem _ hb
 ·rw[e]at hb
  unfold aC at hb
  rw[List.filterMap_cons,hf]at hb
  exact hb
theorem Inv.stkFree(I:Inv X pins σ H s):∀b∈aC X.stack,H b=none:=fun b hb=>by
 rcases List.mem_cons.mp (I.stkSub b hb)with e|hb
 ·rw[e];exact I.free
 ·obtain⟨_,o,ho,_⟩:=I.ok.funs.mem hb
  exact I.base.free b o ho (I.ok.frf b hb) fun z=>I.ok.exfs b z hb
theorem Inv.step{g':Array GenState}{t':Nat}{d':Drawn}{ch:List Addr}(I:Inv X pins σ H s)
  (hch:∀b∈ch,(b∈X.ex\/X.s₀.heap.objs.size<=b)/\b≠X.env.locals/\(∀x c,X.env.cells.lookup x=some c->c≠b)/\∀p∈X.pn++pins,p.1≠b)
  (keep:∀b o,b≠X.env.locals->b∉X.fs->b∉ch->s.heap.get? b=some o->H b=none->h'.get? b=some o)
  (slot:∀b o,b≠X.env.locals->b∈X.fs->b∉ch->s.heap.get? b=some o->H b=none->∃sl,h'.get? b=some {o with slots:=sl})(free:∀b o,b∉ch->s.heap.get? b=some o->H b=none->H' b=none)
  (there:∀b o,b∉ch->s.heap.get? b=some o->∃o',h'.get? b=some o')
  (tups:∀b xs,H b=some (.tup xs)->H' b=some (.tup xs))(frzs:∀b o u,H b=some (.frz o u)->H' b=some (.frz o u))(tbls:∀b ps,H b=some (.tbl ps)->∃more,H' b=some (.tbl (ps++more)))
  (ns:∀m,s.heap.Ns X.env.locals m->h'.Ns X.env.locals m)(hok:HOk X.prog X.w H' h')(hg:AllBare g'):
  Inv X pins σ H' {s with heap:=h',gens:=g',drawn:=d',toks:=t'}:=by
 have neL:∀b o,X.s₀.heap.get? b=some o->b≠X.env.locals:=fun b o e=>Nat.ne_of_lt (Nat.lt_of_lt_of_le (Heap.lt_size e) I.ok.above)
 have neC:∀b o,X.s₀.heap.get? b=some o->b∉X.ex->b∉ch:=fun b o e hx hb=>by
  rcases(hch b hb).1 with z|z
  ·exact hx z
  ·exact absurd (Nat.lt_of_lt_of_le (Heap.lt_size e) z) (Nat.lt_irrefl _)
 have cellK:∀x c,X.env.cells.lookup x=some c->∀v,s.heap.IsCell c v->h'.IsCell c v:=fun x c e v ⟨o,ho,hd⟩=>by
  have nch:c∉ch:=fun z=>(hch c z).2.2.1 x c e rfl
  by_cases hc:c∈X.fs
  ·obtain⟨sl,q⟩:=slot c o (I.cne x c e) hc nch ho (I.freeC x c e)
   exact⟨_,q,hd⟩
  ·exact⟨o,keep c o (I.cne x c e) hc nch ho (I.freeC x c e),hd⟩
 refine⟨I.ok,I.os,hg,⟨fun b o e n hb hx=>?_,fun b o e n hb hx=>?_,fun b o e n hx=>?_,fun b o e hx=>?_,fun b xs e=>tups b xs (I.base.tups b xs e),fun b o xs e=>frzs b o xs (I.base.frzs b o xs e),fun b ps e=>?_⟩,?_,fun x c e=>?_,?_,fun x c e=>?_,fun p hp=>?_,hok,I.len⟩
 ·exact keep b o (neL b o e) hb (neC b o e hx) (I.base.keep b o e n hb hx) (I.base.free b o e n hx)
 ·obtain⟨sl,e1⟩:=I.base.slot b o e n hb hx
  obtain⟨sl',e2⟩:=slot b _ (neL b o e) hb (neC b o e hx) e1 (I.base.free b o e n hx)
  exact⟨sl',e2⟩
 ·obtain⟨o',e1⟩:=I.base.there b o e hx
  exact free b o' (neC b o e hx) e1 (I.base.free b o e n hx)
 ·obtain⟨o',e1⟩:=I.base.there b o e hx
  exact there b o' (neC b o e hx) e1
 ·obtain⟨m1,e1⟩:=I.base.tbls b ps e
  obtain⟨m2,e2⟩:=tbls b _ e1
  exact⟨m1++m2,by rw[e2,Array.append_assoc]⟩
 ·obtain⟨m,hn,hl⟩:=I.loc
  refine⟨m,ns m hn,fun i x v e1 e2 e3=>?_⟩
  obtain⟨u,r,l⟩:=hl i x v e1 e2 e3
  refine⟨u,r,?_⟩
  rcases l with l|⟨k,c,e,z⟩
  ·exact .inl l
  ·exact .inr ⟨k,c,e,cellK x c e _ z⟩
 ·obtain⟨v,z⟩:=I.cell x c e
  exact⟨v,cellK x c e v z⟩
 ·obtain⟨m,⟨o,_,_,ho,_⟩,_⟩:=I.loc
  exact free _ o (fun z=>(hch _ z).2.1 rfl) ho I.free
 ·obtain⟨v,o,ho,hd⟩:=I.cell x c e
  exact free c o (fun z=>(hch c z).2.2.1 x c e rfl) ho (I.freeC x c e)
 ·obtain⟨e,n,ne,nf,d⟩:=I.pin p hp
  have nch:p.1∉ch:=fun z=>(hch p.1 z).2.2.2 p hp rfl
  exact⟨keep p.1 p.2 ne nf nch e n,free p.1 p.2 nch e n,ne,nf,d⟩
theorem Inv.un{t':Nat}(I:Inv X pins σ H s)(u:Un X.fs [] H H' s.heap h')(hok:HOk X.prog X.w H' h'):Inv X pins σ H' {s with heap:=h',toks:=t'}:=by
 obtain⟨m,⟨o,es,ep,ho,r⟩,_⟩:=id I.loc
 obtain⟨sl,hL⟩:=u.any ho I.free (by simp)
 exact I.step (g':=s.gens) (d':=s.drawn) (ch:=[]) (fun _ z=>nomatch z) (fun b o _ hb _ e n=>u.keep b o e n hb (by simp)) (fun b o _ hb _ e n=>u.slot b o e n hb (by simp)) (fun b o _ e n=>u.free b o e n (by simp)) (fun b o _ e=>u.there b o e (by simp)) u.tups u.frzs u.tbls (fun m' hm=>by
  obtain⟨o',es',ep',ho',r'⟩:=hm
  rw[ho]at ho';cases ho'
  exact⟨_,es',ep',hL,r'⟩) hok I.bare
theorem Inv.call{g':Array GenState}{t':Nat}{d':Drawn}{ch:List Addr}(I:Inv X pins σ H s)(u:Un (aC X.stack) ch H H' s.heap h')(hok:HOk X.prog X.w H' h')(hg:AllBare g')
  (hch:∀b∈ch,(b∈X.ex\/X.s₀.heap.objs.size<=b)/\b≠X.env.locals/\(∀x c,X.env.cells.lookup x=some c->c≠b)/\∀p∈X.pn++pins,p.1≠b):
  Inv X pins σ H' {s with heap:=h',gens:=g',drawn:=d',toks:=t'}:=by
 obtain⟨m,⟨o,es,ep,ho,r⟩,_⟩:=id I.loc
 obtain⟨sl,hL⟩:=u.any ho I.free fun z=>(hch _ z).2.1 rfl
 exact I.step (ch:=ch) hch (fun b o hL hb hc e n=>u.keep b o e n (fun z=>(List.mem_cons.mp (I.stkSub b z)).elim hL hb) hc) (fun b o _ _ hc e n=>u.any e n hc) (fun b o hc e n=>u.free b o e n hc) (fun b o hc e=>u.there b o e hc) u.tups u.frzs u.tbls (fun m' hm=>by
  obtain⟨o',es',ep',ho',r'⟩:=hm
  rw[ho]at ho';cases ho'
  exact⟨_,es',ep',hL,r'⟩) hok hg
theorem Inv.turned{t':Nat}{it:Addr}(I:Inv X pins σ H s)(k:∀b o,b≠it->s.heap.get? b=some o->h'.get? b=some o)(hn:H it=none)(hL:it≠X.env.locals)
  (h1:it∈X.ex\/X.s₀.heap.objs.size<=it)(h2:∀x c,X.env.cells.lookup x=some c->c≠it)(h3:∀p∈X.pn++pins,p.1≠it):Inv X pins σ H {s with heap:=h',toks:=t'}:=by
 have nit:∀b u,H b=some u->b≠it:=fun b u e z=>by rw[z,hn]at e;cases e
 refine I.step (g':=s.gens) (d':=s.drawn) (ch:=[it]) (fun b hb=>?_) (fun b o _ _ hc e _=>k b o (fun z=>hc (by simp [z])) e) (fun b o _ _ hc e _=>⟨o.slots,k b o (fun z=>hc (by simp [z])) e⟩) (fun _ _ _ _ n=>n)
  (fun b o hc e=>⟨o,k b o (fun z=>hc (by simp [z])) e⟩) (fun _ _ e=>e) (fun _ _ _ e=>e) (fun b ps e=>⟨#[],by rw[e];simp⟩) (fun m hm=>?_) (fun b u e=>?_) I.bare
 ·have e:b=it:=by simpa using hb
  subst e
  exact⟨h1,hL,h2,h3⟩
 ·obtain⟨o,es,ep,ho,r⟩:=hm
  exact⟨o,es,ep,k _ o (Ne.symm hL) ho,r⟩
 ·refine(I.hok b u e).stay (fun c v hc q=>k c v ?_ q) (fun _ q=>q) fun _ _ q=>q
  rcases hc with z|z
  ·rw[z];exact nit b u e
  ·exact nit c _ z
theorem Inv.tok(I:Inv X pins σ H s)(t:Nat):Inv X pins σ H {s with toks:=t}:=I.un (h':=s.heap) (t':=t) Un.refl I.hok
theorem Inv.kept{t':Nat}(I:Inv X pins σ H s)(k:∀b u,s.heap.get? b=some u->h'.get? b=some u):Inv X pins σ H {s with heap:=h',toks:=t'}:=I.un (Un.kept k) (I.hok.kept k)
theorem Inv.laid{a:Addr}{o:HO}{t':Nat}(I:Inv X pins σ H s)(k:∀b u,s.heap.get? b=some u->h'.get? b=some u)(hp:s.heap.objs.size<=a)(new:ObjOk X.prog X.w (upd H a o) h' a o):
  Inv X pins σ (upd H a o) {s with heap:=h',toks:=t'}:=I.un (Un.laid k hp (I.hok.fresh hp)) (I.hok.laid k hp new)
theorem Inv.write{x e:Addr}{o:HO}{t':Nat}(I:Inv X pins σ H s)(mu:mS (H x))(he:e=x\/H e=some (.own x))(k:∀b u,b≠e->s.heap.get? b=some u->h'.get? b=some u)(heo:∃u,h'.get? e=some u)
  (new:ObjOk X.prog X.w (upd H x o) h' x o):Inv X pins σ (upd H x o) {s with heap:=h',toks:=t'}:=I.un (Un.write mu he k heo) (I.hok.write mu he k heo new)
theorem Inv.pins_of{pins':List (Addr×Obj)}(I:Inv X pins σ H s)(h:∀p∈pins',s.heap.get? p.1=some p.2/\H p.1=none/\p.1≠X.env.locals/\p.1∉X.fs/\∀v,p.2.data≠ .cell v):Inv X pins' σ H s:=
 ⟨I.ok,I.os,I.bare,I.base,I.loc,I.cell,I.free,I.freeC,fun p hp=>(List.mem_append.mp hp).elim (fun z=>I.pin p (List.mem_append_left _ z)) (h p),I.hok,I.len⟩
theorem i3{N:List Str}(hN:N.Nodup){i j:Nat}{x:Str}(a:N[i]? =some x)(b:N[j]? =some x):i=j:=by
 obtain⟨h1,e1⟩:=List.getElem?_eq_some_iff.mp a
 obtain⟨h2,e2⟩:=List.getElem?_eq_some_iff.mp b
 exact(List.getElem_inj hN).mp (e1.trans e2.symm)
theorem fB{M:Model}{A:Around}{E:Value->Shared->Prop}{i:Nat}{x:Str}{v:V}{u:Value}{Q:Unit->Shared->Prop}(I:Inv X pins σ H s)(hN:X.N.Nodup)(hi:X.N[i]? =some x)(hx:fN X.env.scope x)(r:RelV v u)
  (h:∀s',Inv X pins (σ.set i (some v)) H s'->(∃a,Heap.SameBut a s.heap s'.heap/\(a=X.env.locals\/X.env.cells.lookup x=some a))->Q () s')(hf:X.fn x=true\/X.env.scope.names.lookup x=some .local:=by first|exact .inl rfl|exact .inr rfl|assumption):wpAny M A (storeName X.env x u) Q E s:=by
 obtain⟨m,hn,hl⟩:=id I.loc
 have hcls:(X.env.scope.kind== .class||(X.env.scope.kind== .module&&X.env.locals != X.env.globals))=false:=by rw[I.ok.kind];rfl
 have hiσ:i<σ.length:=by rw[I.len];exact(List.getElem?_eq_some_iff.mp hi).1
 have cne:=I.cne
 have tracked:∀{a:Addr} {h':Heap},(∃o,s.heap.get? a=some o/\H a=none)->Heap.SameBut a s.heap h'->HOk X.prog X.w H h':=fun{a h'} ha hs b ob e=>by
  obtain⟨_,_,hfree⟩:=ha
  refine(I.hok b ob e).stay (fun c w' hc q=>(hs.2 c ?_).trans q) (fun _ q=>q) fun _ _ q=>q
  rintro rfl
  rcases hc with rfl|hc
  ·rw[hfree]at e;cases e
  ·rw[hfree]at hc;cases hc
 rcases hx with hk|hk
 ·refine wpAny_storeName_local hk hn (fun h' hn' hs=>?_) hcls
  obtain⟨oL,_,_,hoL,_⟩:=id hn
  refine h _ ⟨I.ok,I.os,I.bare,⟨fun b o e n hb hx=>?_,fun b o e n hb hx=>?_,I.base.free,fun b o e hx=>?_,I.base.tups,I.base.frzs,I.base.tbls⟩,⟨_,hn',fun j y v' e1 e2 e3=>?_⟩,fun y c e=>?_,I.free,I.freeC,fun p hp=>?_,tracked ⟨oL,hoL,I.free⟩ hs,by simpa using I.len⟩ ⟨_,hs,.inl rfl⟩
  ·exact(hs.2 b (Nat.ne_of_lt (Nat.lt_of_lt_of_le (Heap.lt_size e) I.ok.above))).trans (I.base.keep b o e n hb hx)
  ·obtain⟨sl,e1⟩:=I.base.slot b o e n hb hx
   exact⟨sl,(hs.2 b (Nat.ne_of_lt (Nat.lt_of_lt_of_le (Heap.lt_size e) I.ok.above))).trans e1⟩
  ·obtain⟨o',e1⟩:=I.base.there b o e hx
   exact⟨o',(hs.2 b (Nat.ne_of_lt (Nat.lt_of_lt_of_le (Heap.lt_size e) I.ok.above))).trans e1⟩
  ·by_cases hj:j=i
   ·subst hj
    rw[hi]at e1;cases e1
    rw[List.getElem?_set_self hiσ]at e2
    cases e2
    exact⟨u,r,.inl ⟨hk,by simp⟩⟩
   ·rw[List.getElem?_set_ne (Ne.symm hj)]at e2
    obtain⟨u',r',q⟩:=hl j y v' e1 e2 e3
    refine⟨u',r',?_⟩
    rcases q with⟨k,e⟩|⟨k,c,e,z⟩
    ·refine .inl ⟨k,?_⟩
     have:y≠x:=fun e=>hj (i3 hN e1 (e▸hi))
     simp [this,e]
    ·exact .inr ⟨k,c,e,z.sameBut hs (cne y c e)⟩
  ·obtain⟨w',z⟩:=I.cell y c e
   exact⟨w',z.sameBut hs (cne y c e)⟩
  ·obtain⟨e,n,ne,nf,d⟩:=I.pin p hp
   exact⟨(hs.2 p.1 ne).trans e,n,ne,nf,d⟩
 ·have hfn:X.fn x=true:=by
   rcases hf with z|z
   ·exact z
   ·rw[z]at hk;cases hk
  obtain⟨c,hc⟩:=I.ok.has x (.inl hk)
  obtain⟨w',z⟩:=I.cell x c hc
  refine wpAny_storeName_cell I.ok.kind hk hc z (fun h' hc' hs=>?_)
  obtain⟨oc,hoc,hocd⟩:=id z
  refine h {s with heap:=h'} ⟨I.ok,I.os,I.bare,⟨fun b o e n hb hx=>?_,fun b o e n hb hx=>?_,I.base.free,fun b o e hx=>?_,I.base.tups,I.base.frzs,I.base.tbls⟩,⟨m,hn.sameBut hs (Ne.symm (cne x c hc)),fun j y v' e1 e2 e3=>?_⟩,fun y c' e=>?_,I.free,I.freeC,fun p hp=>?_,tracked ⟨oc,hoc,I.freeC x c hc⟩ hs,by simpa using I.len⟩ ⟨c,hs,.inr hc⟩
  ·exact(hs.2 b (Nat.ne_of_lt (Nat.lt_of_lt_of_le (Heap.lt_size e) (I.ok.cab x c hfn hc)))).trans (I.base.keep b o e n hb hx)
  ·obtain⟨sl,e1⟩:=I.base.slot b o e n hb hx
   exact⟨sl,(hs.2 b (Nat.ne_of_lt (Nat.lt_of_lt_of_le (Heap.lt_size e) (I.ok.cab x c hfn hc)))).trans e1⟩
  ·obtain⟨o',e1⟩:=I.base.there b o e hx
   exact⟨o',(hs.2 b (Nat.ne_of_lt (Nat.lt_of_lt_of_le (Heap.lt_size e) (I.ok.cab x c hfn hc)))).trans e1⟩
  ·by_cases hj:j=i
   ·subst hj
    rw[hi]at e1;cases e1
    rw[List.getElem?_set_self hiσ]at e2
    cases e2
    exact⟨u,r,.inr ⟨.inl hk,c,hc,hc'⟩⟩
   ·rw[List.getElem?_set_ne (Ne.symm hj)]at e2
    obtain⟨u',r',q⟩:=hl j y v' e1 e2 e3
    refine⟨u',r',?_⟩
    rcases q with q|⟨k,c',e,z'⟩
    ·exact .inl q
    ·refine .inr ⟨k,c',e,z'.sameBut hs ?_⟩
     rintro rfl
     exact hj (i3 hN e1 (I.ok.inj _ _ _ e hc▸hi))
  ·by_cases hcc:c'=c
   ·subst hcc;exact⟨_,hc'⟩
   ·obtain⟨w2,z2⟩:=I.cell y c' e
    exact⟨w2,z2.sameBut hs hcc⟩
  ·obtain⟨e,n,ne,nf,d⟩:=I.pin p hp
   refine⟨(hs.2 p.1 ?_).trans e,n,ne,nf,d⟩
   intro q
   rw[q,hoc]at e
   have q':oc=p.2:=Option.some.inj e
   exact d w' (by rw[<- q'];exact hocd)
theorem Qv{M:Model}{A:Around}{E:Value->Shared->Prop}{i:Nat}{x:Str}{v:V}{u:Value}{Q:Unit->Shared->Prop}(I:Inv X pins σ H s)(hN:X.N.Nodup)(hi:X.N[i]? =some x)(hx:fN X.env.scope x)(r:RelV v u)
  (h:∀s',Inv X pins (σ.set i (some v)) H s'->Q () s')(hf:X.fn x=true\/X.env.scope.names.lookup x=some .local:=by first|exact .inl rfl|exact .inr rfl|assumption):wpAny M A (storeName X.env x u) Q E s:=
 fB I hN hi hx r (fun s' I' _=>h s' I') hf
theorem Inv.call'{s':Shared}{ch:List Addr}(I:Inv X pins σ H s)(ho:s'.os=s.os)(u:Un (aC X.stack) ch H H' s.heap s'.heap)(hok:HOk X.prog X.w H' s'.heap)(hg:AllBare s'.gens)
  (hch:∀b∈ch,(b∈X.ex\/X.s₀.heap.objs.size<=b)/\b≠X.env.locals/\(∀x c,X.env.cells.lookup x=some c->c≠b)/\∀p∈X.pn++pins,p.1≠b):Inv X pins σ H' s':=by
 obtain⟨h',g',d',t',o'⟩:=s'
 have e:o'=s.os:=ho
 subst e
 exact I.call (g':=g') (t':=t') (d':=d') u hok hg hch
end
abbrev XK:=Value->Option Addr->Hp->Prop
abbrev St:=List (Option V)
abbrev VK:=V->Hp->Prop
abbrev TE:=St->Hp->VK->Prop
abbrev TT:=St->Hp->(Bool->Hp->Prop)->Prop
abbrev TA:=St->Hp->(List V->Hp->Prop)->Prop
structure Ends where
 nx:St->Hp->Prop
 rt:VK
 bk:St->Hp->Prop:=fun _ _=>False
 ct:St->Hp->Prop:=fun _ _=>False
abbrev TS:=Ends->St->Hp->Prop
def EP(X:Cx)(pins:List (Addr×Obj))(σ:St)(Q:VK)(u:Value)(s':Shared):Prop:=∃v H',Inv X pins σ H' s'/\RelV v u/\Q v H'
def TP(X:Cx)(pins:List (Addr×Obj))(σ:St)(Q:Bool->Hp->Prop)(b:Bool)(s':Shared):Prop:=∃H',Inv X pins σ H' s'/\Q b H'
def AP(X:Cx)(pins:List (Addr×Obj))(σ:St)(Q:List V->Hp->Prop)(us:List Value)(s':Shared):Prop:=∃vs H',Inv X pins σ H' s'/\Vals vs us/\Q vs H'
def SP(X:Cx)(pins:List (Addr×Obj))(D:Ends)(f:Flow)(s':Shared):Prop:=
 match f with
 | .next=>∃σ' H',Inv X pins σ' H' s'/\D.nx σ' H'
 | .brk=>∃σ' H',Inv X pins σ' H' s'/\D.bk σ' H'
 | .cont=>∃σ' H',Inv X pins σ' H' s'/\D.ct σ' H'
 | .ret u=>∃v σ' H',Inv X pins σ' H' s'/\RelV v u/\D.rt v H'
def PE(X:Cx)(e:Expr)(t:TE):Prop:=
 ∀(pins:List (Addr×Obj)) (s:Shared) (σ:St) (H:Hp) (Q:VK),Inv X pins σ H s->t σ H Q->wpAny (model X.prog X.w) X.A (eval e X.env) (EP X pins σ Q) X.xe s
def PT(X:Cx)(e:Expr)(t:TT):Prop:=
 ∀(pins:List (Addr×Obj)) (s:Shared) (σ:St) (H:Hp) (Q:Bool->Hp->Prop),Inv X pins σ H s->t σ H Q->wpAny (model X.prog X.w) X.A (isTrue e X.env (eval e X.env)) (TP X pins σ Q) X.xe s
def PW(X:Cx)(e:Expr)(t:TT):Prop:=
 ∀(whole:Sem Value) (pins:List (Addr×Obj)) (s:Shared) (σ:St) (H:Hp) (Q:Bool->Hp->Prop),Inv X pins σ H s->t σ H Q->wpAny (model X.prog X.w) X.A (isTrue e X.env whole) (TP X pins σ Q) X.xe s
theorem PW.pt{X:Cx}{e:Expr}{t:TT}(h:PW X e t):PT X e t:=h _
def PA(X:Cx)(es:List Expr)(t:TA):Prop:=
 ∀(pos:Pos) (pins:List (Addr×Obj)) (s:Shared) (σ:St) (H:Hp) (Q:List V->Hp->Prop),Inv X pins σ H s->t σ H Q->wpAny (model X.prog X.w) X.A (spliced (backTo pos (starEach es X.env))) (AP X pins σ Q) X.xe s
def PS(X:Cx)(st:Stmt)(t:TS):Prop:=
 ∀(pins:List (Addr×Obj)) (s:Shared) (σ:St) (H:Hp) (D:Ends),Inv X pins σ H s->t D σ H->wpAny (model X.prog X.w) X.A (exec st X.env) (SP X pins D) X.xe s
def PSs(X:Cx)(st:List Stmt)(t:TS):Prop:=
 ∀(pins:List (Addr×Obj)) (s:Shared) (σ:St) (H:Hp) (D:Ends),Inv X pins σ H s->t D σ H->wpAny (model X.prog X.w) X.A (execs st X.env) (SP X pins D) X.xe s
theorem qt{α:Type}{t:Sem α}{Q Q':α->Shared->Prop}{M:Model}{A:Around}{E:Value->Shared->Prop}{s:Shared}(h:wpAny M A t Q E s)(hQ:∀a s,Q a s->Q' a s):wpAny M A t Q' E s:=wpAny_mono h hQ fun _ _ x=>x
section
variable{X:Cx}
def ul(i:Nat):TE:=fun σ H Q=>∃v,σ[i]? =some (some v)/\Q v H
def tC(v:V):TE:=fun _ H Q=>Q v H
theorem tN{i:Nat}{x:Str}{pos:Pos}(hN:X.N[i]? =some x)(hv:tQ X.env.scope x)(hd:(x==("__debug__":Str))=false:=by decide)(hcd:(x==("__classdict__":Str))=false:=by decide):PE X (.Name x pos) (ul i):=by
 intro pins s σ H Q I h
 obtain⟨v,e,h⟩:=h
 obtain⟨m,hn,hl⟩:=I.loc
 obtain⟨u,r,l⟩:=hl i x v hN e hv
 have fin:EP X pins σ Q u s:=⟨v,H,I,r,h⟩
 rcases l with⟨hk,hm⟩|⟨hk,c,hc,hcell⟩
 ·exact wpAny_Name (wpAny_loadName_local I.ok.kind hk hn hm fin) hd
 ·rcases hk with hk|hk
  ·exact wpAny_Name (wpAny_loadName_cell I.ok.kind hk hc hcell fin) hd
  ·exact wpAny_Name (wpAny_loadName_free I.ok.kind hk hc hcell fin hcd) hd
theorem uo{i j pos}:PE X (.Constant (.int i) j pos) (tC (.int i)):=fun _ _ _ H _ I h=>wpAny_Constant_int ⟨.int i,H,I.tok _,⟨_,rfl⟩,h⟩
theorem v4{b j pos}:PE X (.Constant (.bool b) j pos) (tC (.bl b)):=fun _ _ _ H _ I h=>Constant_bool ⟨.bl b,H,I,rfl,h⟩
theorem ur{j pos}:PE X (.Constant .none j pos) (tC .non):=fun _ _ _ H _ I h=>Constant_none ⟨.non,H,I,rfl,h⟩
theorem vB{x j pos}:PE X (.Constant (.str x) j pos) (tC (.str x)):=fun _ _ _ H _ I h=>Calls.Constant_str ⟨.str x,H,I.tok _,⟨_,rfl⟩,h⟩
def Gl(X:Cx)(x:Str):Prop:=X.env.kindOf x=some .globalImplicit
theorem eo{E:Value->Shared->Prop}{pins:List (Addr×Obj)}{s:Shared}{σ:St}{H:Hp}{x:Str}{u:Value}{pos:Pos}{Q:Value->Shared->Prop}(I:Inv X pins σ H s)(hg:Gl X x)(hm:X.mg x=some u)(h:Q u s)
  (hd:(x==("__debug__":Str))=false:=by decide):wpAny (model X.prog X.w) X.A (eval (.Name x pos) X.env) Q E s:=
 Calls.Name_function_global I.ok.kind hg (Calls.loadGlobal_global (by rw[I.ok.glob];exact I.mod.glob.keeps I.bk) hm h) hd
theorem QV{E:Value->Shared->Prop}{pins:List (Addr×Obj)}{s:Shared}{σ:St}{H:Hp}{x:Str}{u:Value}{pos:Pos}{Q:Value->Shared->Prop}(I:Inv X pins σ H s)(hg:Gl X x)(hm:X.mg x=none)(hv:bootBuiltins x=some u)(h:Q u s)
  (hn:x≠"__name__":=by decide)(hd:(x==("__debug__":Str))=false:=by decide):wpAny (model X.prog X.w) X.A (eval (.Name x pos) X.env) Q E s:=by
 obtain⟨mb,h1,h2⟩:=I.mod.blt
 exact Calls.Name_function_global I.ok.kind hg (Calls.loadGlobal_builtin (by rw[I.ok.glob];exact I.mod.glob.keeps I.bk) hm (by rw[I.ok.blt];exact h1.keeps I.bk) ((h2 x hn).trans hv) h) hd
theorem sj{x:Str}{v:V}{u:Value}{pos:Pos}(hg:Gl X x)(hm:X.mg x=some u)(r:RelV v u)(hd:(x==("__debug__":Str))=false:=by decide):PE X (.Name x pos) (tC v):=
 fun _ _ _ H _ I h=>eo I hg hm ⟨v,H,I,r,h⟩ hd
theorem rV{x:Str}{v:V}{u:Value}{pos:Pos}(hg:Gl X x)(hm:X.mg x=none)(hv:bootBuiltins x=some u)(r:RelV v u)(hn:x≠"__name__":=by decide)(hd:(x==("__debug__":Str))=false:=by decide):PE X (.Name x pos) (tC v):=
 fun _ _ _ H _ I h=>QV I hg hm hv ⟨v,H,I,r,h⟩ hn hd
variable{a b:Expr}{ta tb:TE}{pos:Pos}
def PC(X:Cx)(op:CmpOp)(a b:Expr)(t:TE):Prop:=
 ∀(pins:List (Addr×Obj)) (s:Shared) (σ:St) (H:Hp) (Q:VK),Inv X pins σ H s->t σ H Q->
  wpAny (model X.prog X.w) X.A (eval a X.env) (fun v s₁=>wpAny (model X.prog X.w) X.A (eval b X.env) (fun u s₂=>wpAny (model X.prog X.w) X.A (compareOp op v u) (EP X pins σ Q) X.xe s₂) X.xe s₁) X.xe s
def tB(t:TE):TT:=fun σ H Q=>t σ H fun x H1=>∃c,x= .bl c/\Q c H1
theorem lH{op:CmpOp}{t:TE}(h:PC X op a b t)(h1:behindInMarks op b=false:=by first|exact nobehind _ (by decide) (by decide)|rfl):PT X (.Compare a [op] [b] pos) (tB t):=by
 intro pins s σ H Q I hw
 refine wpAny_isTrue_Compare1 (qt (h pins s σ H _ I hw) fun v s1 h1=>qt h1 fun u s2 h2=>qt h2 fun c s3 ⟨x,H1,I1,r1,q1⟩=>?_) h1
 obtain⟨d,rfl,q⟩:=q1
 cases r1
 exact wpAny_truthy_bool ⟨H1,I1,q⟩
theorem tH{e:Expr}{t:TE}(h:PE X e t)(he:∀whole,isTrue e X.env whole=(do let v <- whole;standAt e.pos;holding [v] (truthy v)):=by intro _;rfl):PT X e (tB t):=by
 intro pins s σ H Q I hw
 refine isTrue_plain (qt (h pins s σ H _ I hw) fun v s1 ⟨x,H1,I1,r1,q1⟩=>?_) (he _)
 obtain⟨d,rfl,q⟩:=q1
 cases r1
 exact wpAny_truthy_bool ⟨H1,I1,q⟩
variable{tA tB':TT}{rest:List Expr}
def tP(t u:TT):TT:=fun σ H Q=>t σ H fun c H1=>if c=true then u σ H1 Q else Q false H1
def uG(t u:TT):TT:=fun σ H Q=>t σ H fun c H1=>if c=true then Q true H1 else u σ H1 Q
def tL(t:TT):TT:=fun σ H Q=>t σ H fun c H1=>Q (!c) H1
theorem sN(ha:PT X a tA):PW X (.BoolOp .And [a] pos) tA:=by
 intro wh pins s σ H Q I h
 refine isTrue_and (qt (ha pins s σ H Q I h) fun c s1 e=>?_)
 cases c with
 |true=>exact isTrue_and_nil e
 |false=>exact e
theorem vv(ha:PT X a tA):PW X (.BoolOp .Or [a] pos) tA:=by
 intro wh pins s σ H Q I h
 refine isTrue_or (qt (ha pins s σ H Q I h) fun c s1 e=>?_)
 cases c with
 |false=>exact isTrue_or_nil e
 |true=>exact e
theorem vd(ha:PT X a tA)(hb:PW X (.BoolOp .And (b::rest) pos) tB'):PW X (.BoolOp .And (a::b::rest) pos) (tP tA tB'):=by
 intro wh pins s σ H Q I h
 refine isTrue_and (qt (ha pins s σ H _ I h) fun c s1 ⟨H1,I1,q1⟩=>?_)
 cases c with
 |true=>exact hb wh pins s1 σ H1 Q I1 q1
 |false=>exact⟨H1,I1,q1⟩
theorem vI(ha:PT X a tA)(hb:PW X (.BoolOp .Or (b::rest) pos) tB'):PW X (.BoolOp .Or (a::b::rest) pos) (uG tA tB'):=by
 intro wh pins s σ H Q I h
 refine isTrue_or (qt (ha pins s σ H _ I h) fun c s1 ⟨H1,I1,q1⟩=>?_)
 cases c with
 |true=>exact⟨H1,I1,q1⟩
 |false=>exact hb wh pins s1 σ H1 Q I1 q1
theorem vj(ha:PT X a tA):PT X (.UnaryOp .Not a pos) (tL tA):=by
 intro pins s σ H Q I h
 exact isTrue_not (ha pins s σ H (fun c H1=>Q (!c) H1) I h)
def rB(ta tb:TE):TE:=fun σ H Q=>ta σ H fun x H1=>∃c,x= .bl c/\if c=true then tb σ H1 Q else Q (.bl false) H1
def rm(ta:TE):TE:=fun σ H Q=>ta σ H fun x H1=>∃c,x= .bl c/\Q (.bl (!c)) H1
theorem vf{op}{t:TE}(h:PE X a t):PE X (.BoolOp op [a] pos) t:=fun pins s σ H Q I hw=>BoolOp_one (h pins s σ H Q I hw)
theorem uH(ha:PE X a ta)(hb:PE X (.BoolOp .And (b::rest) pos) tb):PE X (.BoolOp .And (a::b::rest) pos) (rB ta tb):=by
 intro pins s σ H Q I h
 refine BoolOp_and (qt (ha pins s σ H _ I h) fun v s1 ⟨x,H1,I1,r1,q1⟩=>?_)
 obtain⟨c,rfl,q1⟩:=q1
 cases r1
 refine wpAny_truthy_bool ?_
 cases c with
 |true=>exact hb pins s1 σ H1 Q I1 q1
 |false=>exact⟨.bl false,H1,I1,rfl,q1⟩
theorem uz(ha:PE X a ta):PE X (.UnaryOp .Not a pos) (rm ta):=by
 intro pins s σ H Q I h
 refine UnaryOp_ (qt (ha pins s σ H _ I h) fun v s1 ⟨x,H1,I1,r1,q1⟩=>?_)
 obtain⟨c,rfl,q1⟩:=q1
 cases r1
 exact not_of (wpAny_truthy_bool ⟨.bl (!c),H1,I1,rfl,q1⟩)
def wb(t:TT)(ta tb:TE):TE:=fun σ H Q=>t σ H fun c H1=>if c=true then ta σ H1 Q else tb σ H1 Q
theorem oG{c:Expr}(hc:PT X c tA)(ha:PE X a ta)(hb:PE X b tb):PE X (.IfExp c a b pos) (wb tA ta tb):=by
 intro pins s σ H Q I h
 refine wpAny_IfExp (qt (hc pins s σ H _ I h) fun d s1 ⟨H1,I1,q1⟩=>?_)
 cases d with
 |true=>exact ha pins s1 σ H1 Q I1 q1
 |false=>exact hb pins s1 σ H1 Q I1 q1
end
def SqL(K:Frag)(H:Hp)(a:Addr)(xs:List V):Prop:=
 Rd H a (.lst xs)\/
  ∃(o:Obj) (its:Array Value) (n:Nat),K.lookup a=some o/\o.cls= .type "list"/\o.dict=none/\o.data= .seq its n/\its.size<=sizeLine/\Vals xs its.toList
def SqT(K:Frag)(H:Hp)(a:Addr)(xs:List V):Prop:=
 Rd H a (.tup xs)\/
  ∃(o:Obj) (its:Array Value) (n:Nat),K.lookup a=some o/\o.cls= .type "tuple"/\o.data= .seq its n/\its.size<=sizeLine/\Vals xs its.toList
def wm:Value->Option V
 | .none=>some .non
 | .bool b=>some (.bl b)
 | .int i _=>some (.int i)
 | .str x _=>some (.str x)
 | .bytes b _=>some (.byt b)
 | .float b _=>some (.flt b)
 | .ref a=>some (.ref a)
 | .type n=>some (.ty n)
 |_=>none
theorem RelV.abs{x:V}{u:Value}(r:RelV x u):wm u=some x:=by
 cases x with
 |non=>cases r;rfl
 |bl _=>cases r;rfl
 |int _=>obtain⟨t,rfl⟩:=r;rfl
 |str _=>obtain⟨t,rfl⟩:=r;rfl
 |byt _=>obtain⟨t,rfl⟩:=r;rfl
 |flt _=>obtain⟨t,rfl⟩:=r;rfl
 |ref _=>cases r;rfl
 |ty _=>cases r;rfl
theorem RelV.inj{x y:V}{u:Value}(r:RelV x u)(q:RelV y u):x=y:=Option.some.inj (r.abs.symm.trans q.abs)
theorem Vals.inj:∀{xs ys:List V} {us:List Value},Vals xs us->Vals ys us->xs=ys
 |_,_,_,.nil,.nil=>rfl
 |_,_,_,.cons r t,.cons r' t'=>by rw[r.inj r',Vals.inj t t']
section
variable{X:Cx}{pins:List (Addr×Obj)}{σ:St}{H:Hp}{s:Shared}{a:Addr}{xs ys:List V}
theorem SqL.of{K:Frag}(h:H a=some (.lst xs)):SqL K H a xs:= .inl (.inl h)
theorem SqT.of{K:Frag}(h:H a=some (.tup xs)):SqT K H a xs:= .inl (.inl h)
theorem Inv.list(I:Inv X pins σ H s)(h:SqL X.K H a xs):∃its:List Value,Vals xs its/\PlainL s.heap a its.toArray/\xs.length<=sizeLine:=by
 rcases h with h|⟨o,its,n,hk,hc,hd,hs,hz,r⟩
 ·obtain⟨z,its,n,r,e⟩:=h.ok I.hok
  exact⟨its,r,⟨_,n,e,rfl,rfl,rfl⟩,z⟩
 ·refine⟨its.toList,r,⟨o,n,I.kIn a o hk,hc,hd,by simpa using hs⟩,?_⟩
  have e:=r.length
  simp only[Array.length_toList]at e
  omega
theorem Inv.tuple(I:Inv X pins σ H s)(h:SqT X.K H a xs):∃its:List Value,Vals xs its/\IsTup s.heap a its.toArray/\xs.length<=sizeLine:=by
 rcases h with h|⟨o,its,n,hk,hc,hs,hz,r⟩
 ·obtain⟨z,its,r,p⟩:=h.ok I.hok
  exact⟨its,r,p,z⟩
 ·refine⟨its.toList,r,⟨o,I.kIn a o hk,hc,n,by simpa using hs⟩,?_⟩
  have e:=r.length
  simp only[Array.length_toList]at e
  omega
theorem Inv.list_inj(I:Inv X pins σ H s)(h:SqL X.K H a xs)(h':SqL X.K H a ys):xs=ys:=by
 obtain⟨its,r,⟨o,n,e,_,_,d⟩,_⟩:=I.list h
 obtain⟨its',r',⟨o',n',e',_,_,d'⟩,_⟩:=I.list h'
 rw[e]at e';cases e'
 rw[d]at d'
 injection d' with d1 _
 have:its=its':=by simpa using congrArg Array.toList d1
 subst this
 exact r.inj r'
theorem Inv.tuple_inj(I:Inv X pins σ H s)(h:SqT X.K H a xs)(h':SqT X.K H a ys):xs=ys:=by
 obtain⟨its,r,⟨o,e,_,n,d⟩,_⟩:=I.tuple h
 obtain⟨its',r',⟨o',e',_,n',d'⟩,_⟩:=I.tuple h'
 rw[e]at e';cases e'
 rw[d]at d'
 injection d' with d1 _
 have:its=its':=by simpa using congrArg Array.toList d1
 subst this
 exact r.inj r'
end
abbrev Cx.wish(X:Cx)(E:Value->Shared->Prop):Cx:={X with xe:=E}
abbrev Cx.nox(X:Cx):Cx:=X.wish fun _ _=>False
theorem Cx.Ok.wish{X:Cx}(ok:X.Ok)(E:Value->Shared->Prop):(X.wish E).Ok:=
 ⟨ok.mod,ok.kind,ok.glob,ok.blt,ok.above,ok.inj,ok.has,ok.cab,ok.hd,ok.frames,ok.stk,ok.exf,ok.bs,ok.bsz,ok.noex,ok.exfs,ok.funs,ok.frf⟩
theorem Cx.Ok.unwish{X:Cx}{E:Value->Shared->Prop}(ok:(X.wish E).Ok):X.Ok:=
 ⟨ok.mod,ok.kind,ok.glob,ok.blt,ok.above,ok.inj,ok.has,ok.cab,ok.hd,ok.frames,ok.stk,ok.exf,ok.bs,ok.bsz,ok.noex,ok.exfs,ok.funs,ok.frf⟩
section
variable{X:Cx}{pins:List (Addr×Obj)}{σ:St}{H:Hp}{s:Shared}{E:Value->Shared->Prop}
theorem Inv.wish(I:Inv X pins σ H s)(E:Value->Shared->Prop):Inv (X.wish E) pins σ H s:=⟨I.ok.wish E,I.os,I.bare,I.base,I.loc,I.cell,I.free,I.freeC,I.pin,I.hok,I.len⟩
theorem Inv.unwish(I:Inv (X.wish E) pins σ H s):Inv X pins σ H s:=⟨I.ok.unwish,I.os,I.bare,I.base,I.loc,I.cell,I.free,I.freeC,I.pin,I.hok,I.len⟩
theorem SP.unwish{D:Ends}{f:Flow}{s':Shared}(h:SP (X.wish E) pins D f s'):SP X pins D f s':=by
 cases f with
 |next=>obtain⟨σ',H',I,q⟩:=h;exact⟨σ',H',I.unwish,q⟩
 |brk=>obtain⟨σ',H',I,q⟩:=h;exact⟨σ',H',I.unwish,q⟩
 |cont=>obtain⟨σ',H',I,q⟩:=h;exact⟨σ',H',I.unwish,q⟩
 |ret u=>obtain⟨v,σ',H',I,r,q⟩:=h;exact⟨v,σ',H',I.unwish,r,q⟩
theorem PSs.nox{st:List Stmt}{t:TS}(h:PSs X.nox st t):PSs X st t:=fun pins s σ H D I hw=>
 wpAny_mono (h pins s σ H D (I.wish _) hw) (fun _ _ q=>q.unwish) fun _ _ z=>False.elim z
end
section
variable{X:Cx}{st:Stmt}{rest:List Stmt}{t u:TS}{e:Expr}{te:TE}{pos:Pos}
def kE:TS:=fun D σ H=>D.nx σ H
def cz(t u:TS):TS:=fun D σ H=>t {D with nx:=u D} σ H
theorem sS:PSs X [] kE:=fun _ _ σ H _ I h=>wpAny_execs_nil ⟨σ,H,I,h⟩
theorem oF(h1:PS X st t)(h2:PSs X rest u):PSs X (st::rest) (cz t u):=by
 intro pins s σ H D I h
 refine wpAny_execs_cons (qt (h1 pins s σ H {D with nx:=u D} I h) fun f s1 q=>?_)
 cases f with
 |next=>
  obtain⟨σ',H',I',q⟩:=q
  exact h2 pins s1 σ' H' D I' q
 |ret v=>exact q
 |brk=>exact q
 |cont=>exact q
theorem sK(h1:PS X st t):PSs X [st] t:=by
 intro pins s σ H D I h
 refine wpAny_execs_cons (qt (h1 pins s σ H D I h) fun f s1 q=>?_)
 cases f with
 |next=>exact wpAny_execs_nil q
 |ret v=>exact q
 |brk=>exact q
 |cont=>exact q
theorem Inv.quiet{pins:List (Addr×Obj)}{σ:St}{H:Hp}{s:Shared}(I:Inv X pins σ H s):interactive X.env=false:=by simp [interactive,I.ok.kind]
def rC(te:TE):TS:=fun D σ H=>te σ H fun _ H1=>D.nx σ H1
theorem sA(he:PE X e te)(hs:swapsWith e none pos.line X.env=pure false:=by rfl):PS X (.Expr e pos) (rC te):=by
 intro pins s σ H D I h
 exact wpAny_Expr_any (qt (he pins s σ H _ I h) fun v s1 ⟨x,H1,I1,r1,q1⟩=>⟨σ,H1,I1,q1⟩) I.quiet hs
def uJ(te:TE):TS:=fun D σ H=>te σ H D.rt
theorem ue(he:PE X e te):PS X (.Return (some e) pos) (uJ te):=by
 intro pins s σ H D I h
 exact wpAny_Return_some (qt (he pins s σ H _ I h) fun v s1 ⟨x,H1,I1,r1,q1⟩=>⟨x,σ,H1,I1,r1,q1⟩)
def eC(c:TT)(t u:TS):TS:=fun D σ H=>c σ H fun b H1=>if b=true then t D σ H1 else u D σ H1
theorem vX{c:Expr}{a b:List Stmt}{tc:TT}(hc:PT X c tc)(ha:PSs X a t)(hb:PSs X b u):PS X (.If c a b pos) (eC tc t u):=by
 intro pins s σ H D I h
 refine wpAny_If (qt (hc pins s σ H _ I h) fun d s1 ⟨H1,I1,q1⟩=>?_)
 cases d with
 |true=>exact ha pins s1 σ H1 D I1 q1
 |false=>exact hb pins s1 σ H1 D I1 q1
def mJ:TS:=fun _ _ _=>False
theorem mX{sts:List Stmt}:PSs X sts mJ:=fun _ _ _ _ _ _ h=>h.elim
end
abbrev TG:=V->St->Hp->(St->Hp->Prop)->Prop
abbrev ZG:=List V->St->Hp->(St->Hp->Prop)->Prop
def PG(X:Cx)(target:Expr)(t:TG):Prop:=
 ∀(pins:List (Addr×Obj)) (s:Shared) (σ:St) (H:Hp) (v:V) (u:Value) (Q:St->Hp->Prop),Inv X pins σ H s->RelV v u->t v σ H Q->
  wpAny (model X.prog X.w) X.A (assign target X.env u) (fun _ s'=>∃σ' H',Inv X pins σ' H' s'/\Q σ' H') X.xe s
def j3(X:Cx)(ts:List Expr)(t:ZG):Prop:=
 ∀(pins:List (Addr×Obj)) (s:Shared) (σ:St) (H:Hp) (vs:List V) (us:List Value) (Q:St->Hp->Prop),Inv X pins σ H s->Vals vs us->t vs σ H Q->
  wpAny (model X.prog X.w) X.A (assignInOrder ((assignEach ts X.env).map (·.2)) us) (fun _ s'=>∃σ' H',Inv X pins σ' H' s'/\Q σ' H') X.xe s
abbrev cp:=V->V->V->Hp->(Hp->Prop)->Prop
def gH(X:Cx)(t:cp):Prop:=
 ∀(pins:List (Addr×Obj)) (s:Shared) (σ:St) (H:Hp) (o i v:V) (ov iv u:Value) (Q:Hp->Prop),Inv X pins σ H s->RelV o ov->RelV i iv->RelV v u->t o i v H Q->
  wpAny (model X.prog X.w) X.A (setItem ov iv u) (fun _ s'=>∃H',Inv X pins σ H' s'/\Q H') X.xe s
abbrev nG:=V->V->Hp->VK->Prop
def uX(X:Cx)(op:Operator)(t:nG):Prop:=
 ∀(pins:List (Addr×Obj)) (s:Shared) (σ:St) (H:Hp) (x y:V) (v u:Value) (Q:VK),Inv X pins σ H s->RelV x v->RelV y u->t x y H Q->
  wpAny (model X.prog X.w) X.A (inplaceOp op v u) (EP X pins σ Q) X.xe s
section
variable{X:Cx}{pos:Pos}
def Qc(i:Nat):TG:=fun v σ H Q=>Q (σ.set i (some v)) H
theorem sP{i:Nat}{x:Str}(hN:X.N.Nodup)(hi:X.N[i]? =some x)(hx:fN X.env.scope x)(hf:X.fn x=true\/X.env.scope.names.lookup x=some .local:=by first|exact .inl rfl|exact .inr rfl|assumption):PG X (.Name x pos) (Qc i):=by
 intro pins s σ H v u Q I r h
 exact wpAny_assign_Name (Qv I hN hi hx r (fun s' I'=>⟨_,H,I',h⟩) hf)
def kT:ZG:=fun vs σ H Q=>vs=[]/\Q σ H
def bK(t:TG)(u:ZG):ZG:=fun vs σ H Q=>∃v r,vs=v::r/\t v σ H fun σ' H'=>u r σ' H' Q
theorem sO:j3 X [] kT:=by
 intro pins s σ H vs us Q I r h
 obtain⟨e,h⟩:=h
 subst e
 cases r
 exact assignInOrder_nil ⟨σ,H,I,h⟩
theorem pB{e:Expr}{es:List Expr}{t:TG}{u:ZG}(h1:PG X e t)(h2:j3 X es u)
  (hs:(assignEach (e::es) X.env).map (·.2)=assign e X.env::(assignEach es X.env).map (·.2):=by rfl):j3 X (e::es) (bK t u):=by
 intro pins s σ H vs us Q I r h
 obtain⟨v,vr,e1,h⟩:=h
 subst e1
 cases r with
 |cons r rr=>
  rw[hs]
  refine assignInOrder_cons (qt (h1 pins s σ H _ _ _ I r h) fun _ s1 ⟨σ1,H1,I1,q1⟩=>?_)
  exact h2 pins s1 σ1 H1 _ _ Q I1 rr q1
def ku(K:Frag)(n:Nat)(t:ZG):TG:=fun v σ H Q=>∃a xs,v= .ref a/\SqT K H a xs/\xs.length=n/\t xs σ H Q
theorem iS{es:List Expr}{k:Nat}{t:ZG}{n:Nat}(hc:X.calm=true)(h:j3 X es t)
  (hn:(assignEach es X.env).length=n:=by rfl)(hst:(assignEach es X.env).findIdx? (·.1)=none:=by rfl):PG X (.Tuple es k pos) (ku X.K n t):=by
 intro pins s σ H v u Q I r hw
 obtain⟨a,xs,e1,hq,hl,hw⟩:=hw
 subst e1
 cases r
 obtain⟨its,rv,ht,hz⟩:=I.tuple hq
 refine assign_Tuple_tuple (I.ok.hd hc) ht (by simp [hn,<- hl,rv.length]) hst fun h' hx=>?_
 have I1:Inv X pins σ H {s with heap:=h'}:=I.kept (t':=s.toks) fun b o e=>hx b o (Nat.ne_of_lt (Heap.lt_size e)) e
 exact h pins _ σ H xs _ Q I1 (by simpa using rv) hw
def tO(to ti:TE)(t:cp):TG:=fun v σ H Q=>to σ H fun o H1=>ti σ H1 fun i H2=>t o i v H2 fun H3=>Q σ H3
theorem vA{o i:Expr}{to ti:TE}{t:cp}(ho:PE X o to)(hi:PE X i ti)(hs:gH X t)
  (ha:∀v,assign (.Subscript o i pos) X.env v=(do
   let ov <- holding [v] (eval o X.env)
   let iv <- holding [v,ov] (eval i X.env)
   standAt pos
   holding [v,ov,iv] (setItem ov iv v)
   release [v,ov,iv] []):=by intro _;rfl):PG X (.Subscript o i pos) (tO to ti t):=by
 intro pins s σ H v u Q I r h
 rw[ha]
 refine wpAny_bind (wpAny_holding (qt (ho pins s σ H _ I h) fun ov s1 ⟨x,H1,I1,r1,q1⟩=>?_))
 refine wpAny_bind (wpAny_holding (qt (hi pins s1 σ H1 _ I1 q1) fun iv s2 ⟨y,H2,I2,r2,q2⟩=>?_))
 refine wpAny_bind (wpAny_standAt (wpAny_bind (wpAny_holding (qt (hs pins s2 σ H2 x y v ov iv u _ I2 r1 r2 r q2) fun _ s3 ⟨H3,I3,q3⟩=>?_))))
 exact wpAny_release ⟨σ,H3,I3,q3⟩
def eN(te:TE)(g:TG):TS:=fun D σ H=>te σ H fun x H1=>g x σ H1 D.nx
theorem tX{tg e:Expr}{te:TE}{g:TG}(he:PE X e te)(hg:PG X tg g)(hs:swapsWithSole [tg] e pos.line X.env=pure false:=by rfl)(hw:swappedStores [tg] e X.env=pure none:=by rfl)
  (h1:(assignEach [tg] X.env).map (·.2)=[assign tg X.env]:=by rfl):PS X (.Assign [tg] e pos) (eN te g):=by
 intro pins s σ H D I h
 refine wpAny_Assign_stores (qt (he pins s σ H _ I h) fun v s1 ⟨x,H1,I1,r1,q1⟩=>?_) hs hw
 rw[h1]
 exact qt (hg pins s1 σ H1 x v _ I1 r1 q1) fun _ s2 q=>q
theorem ub{i:Nat}{x:Str}{e:Expr}{te:TE}{pos':Pos}(hN:X.N.Nodup)(hi:X.N[i]? =some x)(hx:fN X.env.scope x)(he:PE X e te)(hs:swapsWith e (some (.Name x pos')) pos.line X.env=pure false:=by rfl)(hf:X.fn x=true\/X.env.scope.names.lookup x=some .local:=by first|exact .inl rfl|exact .inr rfl|assumption):
  PS X (.Assign [.Name x pos'] e pos) (eN te (Qc i)):=by
 intro pins s σ H D I h
 refine wpAny_Assign_Name (qt (he pins s σ H _ I h) fun v s1 ⟨y,H1,I1,r1,q1⟩=>?_) hs
 exact Qv I1 hN hi hx r1 (fun s2 I2=>⟨_,H1,I2,q1⟩) hf
def uK(i j:Nat)(ta:TA):TS:=fun D σ H=>ta σ H fun vs H1=>∃v w,vs=[v,w]/\D.nx ((σ.set i (some v)).set j (some w)) H1
theorem vD{i j:Nat}{x y:Str}{a b:Expr}{ta:TA}{px py pt:Pos}{kt k2 pt2}(hc:X.calm=true)(hN:X.N.Nodup)(hi:X.N[i]? =some x)(hj:X.N[j]? =some y)(hij:i≠j)
  (hx:X.env.scope.names.lookup x=some .local)(hy:X.env.scope.names.lookup y=some .local)(ha:PA X [a,b] ta)
  (hw:swappedStores [.Tuple [.Name x px,.Name y py] kt pt] (.Tuple [a,b] k2 pt2) X.env=pure (some [x,y]))
  (hs:swapsWithSole [.Tuple [.Name x px,.Name y py] kt pt] (.Tuple [a,b] k2 pt2) pos.line X.env=pure false:=by rfl):
  PS X (.Assign [.Tuple [.Name x px,.Name y py] kt pt] (.Tuple [a,b] k2 pt2) pos) (uK i j ta):=by
 intro pins s σ H D I h
 rw[exec_Assign_arm]
 refine wpAny_bind (wpAny_standAt ?_)
 rw[hs]
 refine wpAny_bind (wpAny_pure ?_)
 rw[if_neg (by decide)]
 refine wpAny_bind (Tuple_ (qt (ha _ pins s σ H _ I h) fun us s1 ⟨vs,H1,I1,r1,q1⟩=>?_))
 obtain⟨v,w,e1,q1⟩:=q1
 subst e1
 obtain⟨u1,u2,rfl,rv,rw'⟩:∃u1 u2,us=[u1,u2]/\RelV v u1/\RelV w u2:=by
  cases r1 with
  |cons p q=>
   cases q with
   |cons p' q'=>
    cases q'
    exact⟨_,_,rfl,p,p'⟩
 refine wpAny_newObj_type ?_ (by show 2<=sizeLine;decide)
 have I2:Inv X pins σ H1 {s1 with heap:=s1.heap.push {cls:= .type "tuple",data:= .seq [u1,u2].toArray}}:=I1.kept (t':=s1.toks) fun b o e=>Heap.get?_push_of_some _ e
 rw[hw]
 refine wpAny_bind (wpAny_pure ?_)
 show wpAny (model X.prog X.w) X.A (do rule "assign.swapped-stores";let items <- unpackItems (.ref s1.heap.objs.size) 2 none;assignInOrder [fun v=>bindName X.env y v,fun v=>bindName X.env x v] items.reverse;pure Flow.next) _ _ _
 refine wpAny_bind (wpAny_rule (wpAny_bind (unpackItems_tuple (items:= #[u1,u2]) (I.ok.hd hc) (IsTup.new s1.heap _) fun h' hx'=>?_)))
 have I3:=I2.kept (h':=h') (t':=s1.toks) fun b o e=>hx' b o (Nat.ne_of_lt (Heap.lt_size e)) e
 show wpAny _ _ (assignInOrder [fun v=>bindName X.env y v,fun v=>bindName X.env x v] [u2,u1] >>= fun _=>pure Flow.next) _ _ _
 refine wpAny_bind (assignInOrder_cons (wpAny_bindName (Qv I3 hN hj (.inl hy) rw' (fun s2 I4=>?_) (.inr hy))))
 refine assignInOrder_cons (wpAny_bindName (Qv I4 hN hi (.inl hx) rv (fun s3 I5=>assignInOrder_nil (wpAny_pure ?_)) (.inr hx)))
 rw[List.set_comm _ _ (Ne.symm hij)]at I5
 exact⟨_,H1,I5,q1⟩
def rn(to ti te:TE)(tget:V->V->Hp->VK->Prop)(tip:nG)(tset:cp):TS:=fun D σ H=>to σ H fun o H1=>ti σ H1 fun i H2=>tget o i H2 fun x H3=>te σ H3 fun y H4=>tip x y H4 fun z H5=>tset o i z H5 fun H6=>D.nx σ H6
def oE(X:Cx)(t:V->V->Hp->VK->Prop):Prop:=
 ∀(pins:List (Addr×Obj)) (s:Shared) (σ:St) (H:Hp) (o i:V) (ov iv:Value) (Q:VK),Inv X pins σ H s->RelV o ov->RelV i iv->t o i H Q->
  wpAny (model X.prog X.w) X.A (getItem ov iv) (EP X pins σ Q) X.xe s
theorem sx{o i e:Expr}{to ti te:TE}{tget:V->V->Hp->VK->Prop}{tip:nG}{tset:cp}{op:Operator}{tpos:Pos}(ho:PE X o to)(hi:PE X i ti)(hg:oE X tget)(he:PE X e te)(hp:uX X op tip)(hs:gH X tset)
  (ha:∀ov iv new,augStore i ov iv new=(do holding [new,ov,iv] (setItem ov iv new);release [new,ov,iv] [];pure .next):=by intros;rfl):PS X (.AugAssign (.Subscript o i tpos) op e pos) (rn to ti te tget tip tset):=by
 intro pins s σ H D I h
 refine wpAny_AugAssign_SubscriptAny (qt (ho pins s σ H _ I h) fun ov s1 ⟨x1,H1,I1,r1,q1⟩=>?_) ha
 refine qt (hi pins s1 σ H1 _ I1 q1) fun iv s2 ⟨x2,H2,I2,r2,q2⟩=>?_
 refine qt (hg pins s2 σ H2 x1 x2 ov iv _ I2 r1 r2 q2) fun old s3 ⟨x3,H3,I3,r3,q3⟩=>?_
 refine qt (he pins s3 σ H3 _ I3 q3) fun v s4 ⟨x4,H4,I4,r4,q4⟩=>?_
 refine qt (hp pins s4 σ H4 x3 x4 old v _ I4 r3 r4 q4) fun new s5 ⟨x5,H5,I5,r5,q5⟩=>?_
 exact qt (hs pins s5 σ H5 x1 x2 x5 ov iv new _ I5 r1 r2 r5 q5) fun _ s6 ⟨H6,I6,q6⟩=>⟨σ,H6,I6,q6⟩
def wF(f:Int->Int->Int):nG:=fun x y H Q=>∃i j,x= .int i/\y= .int j/\Q (.int (f i j)) H
theorem vy:uX X .Add (wF fun i j=>i+j):=by
 intro pins s σ H x y v u Q I r1 r2 h
 obtain⟨i,j,e1,e2,q⟩:=h
 subst e1;subst e2
 obtain⟨t,rfl⟩:=r1
 obtain⟨t',rfl⟩:=r2
 exact iadd_int ⟨.int _,H,I.tok _,⟨_,rfl⟩,q⟩
end
structure It where
 go:Nat->Hp->Prop
 yld:Nat->Hp->V->Hp->Prop
 stop:Nat->Hp->Prop
def Zd(X:Cx)(pins:List (Addr×Obj))(H:Hp)(b:Addr):Prop:=
 H b=none/\b≠X.env.locals/\b∉X.fs/\(b∈X.ex\/X.s₀.heap.objs.size<=b)/\(∀x c,X.env.cells.lookup x=some c->c≠b)/\∀p∈X.pn++pins,p.1≠b
theorem Inv.fpOk{X:Cx}{pins:List (Addr×Obj)}{σ:St}{H H':Hp}{s:Shared}{b:Addr}(I:Inv X pins σ H s)(hb:s.heap.objs.size<=b)(hn:H' b=none):Zd X pins H' b:=by
 refine⟨hn,Nat.ne_of_gt (Nat.lt_of_lt_of_le I.lt hb),I.nofs hb,.inr (Nat.le_trans I.sz hb),fun x c e z=>?_,fun p hp z=>?_⟩
 ·obtain⟨v,q⟩:=I.cell x c e
  exact absurd (Nat.lt_of_lt_of_le q.lt (by rw[z];exact hb)) (Nat.lt_irrefl _)
 ·exact absurd (Nat.lt_of_lt_of_le (Heap.lt_size (I.pin p hp).1) (by rw[z];exact hb)) (Nat.lt_irrefl _)
structure Turn(P:Program)(w:World)(K:Frag)(tg:Expr)(J:It)(fp:List Addr)(it:Addr)(tn:Nat->Heap->Prop):Prop where
 mem:it∈fp
 obj:∀i h,tn i h->∀b∈fp,∃o,h.get? b=some o/\∀v,o.data≠ .cell v
 keep:∀i h h',tn i h->(∀b∈fp,∀o,h.get? b=some o->h'.get? b=some o)->tn i h'
 item:∀(X:Cx),X.prog=P->X.w=w->X.K=K->X.calm=true->∀(i:Nat) (pins:List (Addr×Obj)) (s:Shared) (σ:St) (H:Hp) (E:Value->Shared->Prop),Inv X pins σ H s->(∀b∈fp,Zd X pins H b)->tn i s.heap->J.go i H->
  wpAny (model P w) X.A (pyNext (.ref it)) (fun r s1=>∃u,r=some u/\
   wpAny (model P w) X.A (letOwnedTupleGo tg (.ref it) u) (fun _ s2=>∃x H',Inv X pins σ H' s2/\RelV x u/\J.yld i H x H'/\tn (i+1) s2.heap/\∀b∈fp,H' b=none) E s1) E s
 done:∀(X:Cx),X.prog=P->X.w=w->X.K=K->X.calm=true->∀(i:Nat) (pins:List (Addr×Obj)) (s:Shared) (σ:St) (H:Hp) (E:Value->Shared->Prop),Inv X pins σ H s->(∀b∈fp,Zd X pins H b)->tn i s.heap->J.stop i H->
  wpAny (model P w) X.A (pyNext (.ref it)) (fun r s1=>r=none/\Inv X pins σ H s1) E s
 self:∀(A:Around) (i:Nat) (s:Shared) (Q:Value->Shared->Prop) (E:Value->Shared->Prop),tn i s.heap->Q (.ref it) s->wpAny (model P w) A (pyIter (.ref it)) Q E s
abbrev TI:=St->Hp->(It->Hp->Prop)->Prop
def wg(X:Cx)(pins:List (Addr×Obj))(σ:St)(tg:Expr)(R:It->Hp->Prop)(itv:Value)(s2:Shared):Prop:=
 ∃(it:Addr) (fp:List Addr) (tn:Nat->Heap->Prop) (J:It) (H':Hp),itv= .ref it/\Inv X pins σ H' s2/\Turn X.prog X.w X.K tg J fp it tn/\tn 0 s2.heap/\(∀b∈fp,Zd X pins H' b)/\R J H'
def PI(X:Cx)(tg iter:Expr)(wi:TI):Prop:=
 ∀(pins:List (Addr×Obj)) (s:Shared) (σ:St) (H:Hp) (R:It->Hp->Prop),Inv X pins σ H s->wi σ H R->
  wpAny (model X.prog X.w) X.A (eval iter X.env) (fun v s1=>wpAny (model X.prog X.w) X.A (pyIter v) (wg X pins σ tg R) X.xe s1) X.xe s
theorem ax{M:Model}{A:Around}{E:Value->Shared->Prop}{s:Shared}{tg:Expr}{it:Addr}{u:Value}{o:Obj}{n:String}{vs:Array Value}{Q:Unit->Shared->Prop}(ho:s.heap.get? it=some o)(hc:o.cls= .type n)(hd:o.data= .fields vs)
    (hn:["enumerate","zip","dict_itemiterator","dict_reverseitemiterator","odict_iterator","itertools.zip_longest","itertools.pairwise"].contains n=false)(hQ:Q () s):wpAny M A (letOwnedTupleGo tg (.ref it) u) Q E s:=by
  unfold letOwnedTupleGo
  cases tg<;>first
    |exact wpAny_pure hQ
    |(cases u<;>first
        |exact wpAny_pure hQ
        | (refine wpAny_bind (wpAny_load ho ?_)
           rw[hc,hd]
           show wpAny M A (if(["enumerate","zip","dict_itemiterator","dict_reverseitemiterator","odict_iterator","itertools.zip_longest","itertools.pairwise"].contains n&&vs[0]? ==some (rawInt _))=true then _ else _) Q E s
           rw[if_neg (by intro h;rw[hn,Bool.false_and]at h;cases h)]
           exact wpAny_pure hQ))
def cM(K:Frag)(a:Addr):It:=
 ⟨fun i H=>∃xs x,SqL K H a xs/\xs[i]? =some x,fun i H x H'=>H'=H/\∀xs,SqL K H a xs->xs[i]? =some x,fun i H=>∃xs,SqL K H a xs/\xs.length<=i⟩
def fI(K:Frag)(a:Addr):It:=
 ⟨fun i H=>∃xs x,SqT K H a xs/\xs[i]? =some x,fun i H x H'=>H'=H/\∀xs,SqT K H a xs->xs[i]? =some x,fun i H=>∃xs,SqT K H a xs/\xs.length<=i⟩
def fU(lo:Int)(n:Nat):It:=⟨fun i _=>i<n,fun i H x H'=>H'=H/\x= .int (lo+i),fun i _=>n<=i⟩
theorem ff{P:Program}{w:World}{K:Frag}{tg:Expr}(a it:Addr):Turn P w K tg (cM K a) [it] it (fun i h=>h.IsListIter it a i) where
 mem:=by simp
 obj:=fun i h st b hb=>by
  have e:b=it:=by simpa using hb
  subst e
  obtain⟨o,e,c,d⟩:=st
  exact⟨o,e,fun v z=>by rw[d]at z;cases z⟩
 keep:=fun i h h' st k=>st.at fun o e=>k it (by simp) o e
 item:=by
  intro X hP hw hK hc i pins s σ H E I hf st hg
  subst hP hw hK
  obtain⟨xs,x,hq,hx⟩:=hg
  obtain⟨its,rv,p,hz⟩:=I.list hq
  obtain⟨u,hu,ru⟩:=rv.get hx
  obtain⟨f0,f1,f2,f3,f4,f5⟩:=hf it (by simp)
  refine wpAny_pyNext_list_item st p.isList (x:=u) (by simpa using hu) fun h' st' sb=>?_
  have I1:Inv X pins σ H {s with heap:=h'}:=I.turned (t':=s.toks) (fun b o hb e=>(sb.2 b hb).trans e) f0 f1 f3 f4 f5
  obtain⟨o,e,c,d⟩:=id st'
  exact⟨u,rfl,ax (s:={s with heap:=h'}) e c d (by decide) ⟨x,H,I1,ru,⟨rfl,fun ys hy=>by rw[I.list_inj hy hq];exact hx⟩,st',fun b hb=>(hf b hb).1⟩⟩
 done:=by
  intro X hP hw hK hc i pins s σ H E I hf st hg
  subst hP hw hK
  obtain⟨xs,hq,hx⟩:=hg
  obtain⟨its,rv,p,hz⟩:=I.list hq
  obtain⟨f0,f1,f2,f3,f4,f5⟩:=hf it (by simp)
  have hl:=rv.length
  exact wpAny_pyNext_list_end (I.ok.hd hc) st p.isList (by simp;omega) fun h' eb=>⟨rfl,I.turned (t':=s.toks) (fun b o hb e=>eb b o hb e) f0 f1 f3 f4 f5⟩
 self:=fun _ _ _ _ _ st h=>wpAny_pyIter_listiter st h
theorem du{P:Program}{w:World}{K:Frag}{tg:Expr}(a it:Addr):Turn P w K tg (fI K a) [it] it (fun i h=>h.IsTupleIter it a i) where
 mem:=by simp
 obj:=fun i h st b hb=>by
  have e:b=it:=by simpa using hb
  subst e
  obtain⟨o,e,c,d⟩:=st
  exact⟨o,e,fun v z=>by rw[d]at z;cases z⟩
 keep:=fun i h h' st k=>st.at fun o e=>k it (by simp) o e
 item:=by
  intro X hP hw hK hc i pins s σ H E I hf st hg
  subst hP hw hK
  obtain⟨xs,x,hq,hx⟩:=hg
  obtain⟨its,rv,p,hz⟩:=I.tuple hq
  obtain⟨u,hu,ru⟩:=rv.get hx
  obtain⟨f0,f1,f2,f3,f4,f5⟩:=hf it (by simp)
  refine wpAny_pyNext_tuple_item st (show s.heap.IsTuple a its.toArray from p) (x:=u) (by simpa using hu) fun h' st' sb=>?_
  have I1:Inv X pins σ H {s with heap:=h'}:=I.turned (t':=s.toks) (fun b o hb e=>(sb.2 b hb).trans e) f0 f1 f3 f4 f5
  obtain⟨o,e,c,d⟩:=id st'
  exact⟨u,rfl,ax (s:={s with heap:=h'}) e c d (by decide) ⟨x,H,I1,ru,⟨rfl,fun ys hy=>by rw[I.tuple_inj hy hq];exact hx⟩,st',fun b hb=>(hf b hb).1⟩⟩
 done:=by
  intro X hP hw hK hc i pins s σ H E I hf st hg
  subst hP hw hK
  obtain⟨xs,hq,hx⟩:=hg
  obtain⟨its,rv,p,hz⟩:=I.tuple hq
  obtain⟨f0,f1,f2,f3,f4,f5⟩:=hf it (by simp)
  have hl:=rv.length
  exact wpAny_pyNext_tuple_end (I.ok.hd hc) st (show s.heap.IsTuple a its.toArray from p) (by simp;omega) fun h' eb=>⟨rfl,I.turned (t':=s.toks) (fun b o hb e=>eb b o hb e) f0 f1 f3 f4 f5⟩
 self:=fun _ _ _ _ _ st h=>wpAny_pyIter_tupleiter st h
theorem lp{P:Program}{w:World}{K:Frag}{tg:Expr}(it:Addr)(lo:Int)(n:Nat):Turn P w K tg (fU lo n) [it] it (fun i h=>IsRangeIter h it (lo+(i:Nat)*1) ((n:Int)-(i:Nat)) 1) where
 mem:=by simp
 obj:=fun i h st b hb=>by
  have e:b=it:=by simpa using hb
  subst e
  exact⟨_,st,fun v z=>by
   have z':Data.fields _=Data.cell v:=z
   cases z'⟩
 keep:=fun i h h' st k=>k it (by simp) _ st
 item:=by
  intro X hP hw hK hc i pins s σ H E I hf st hg
  subst hP hw hK
  obtain⟨f0,f1,f2,f3,f4,f5⟩:=hf it (by simp)
  have W:=Walks.range (prog:=X.prog) (w:=X.w) (I.ok.hd hc) it lo 1 n
  refine W.item i s _ _ hg st fun v h' tk hv st' kk=>?_
  obtain⟨t,rfl⟩:=hv
  have I1:Inv X pins σ H {s with heap:=h',toks:=tk}:=I.turned (fun b o hb e=>kk b o (by simpa using hb) e) f0 f1 f3 f4 f5
  refine⟨_,rfl,ax (s:={s with heap:=h',toks:=tk}) (n:="range_iterator") st' rfl rfl (by decide) ⟨.int (lo+i),H,I1,⟨t,?_⟩,⟨rfl,rfl⟩,st',fun b hb=>(hf b hb).1⟩⟩
  rw[Int.mul_one]
 done:=by
  intro X hP hw hK hc i pins s σ H E I hf st hg
  subst hP hw hK
  obtain⟨f0,f1,f2,f3,f4,f5⟩:=hf it (by simp)
  exact wpAny_pyNext_range_end (I.ok.hd hc) st (by have:n<=i:=hg;omega) fun h' eb=>⟨rfl,I.turned (t':=s.toks) (fun b o hb e=>eb b o hb e) f0 f1 f3 f4 f5⟩
 self:=fun _ _ _ _ _ st h=>wpAny_pyIter_rangeiter st h
section
variable{X:Cx}{tg:Expr}
def pY(K:Frag)(tl:TE):TI:=fun σ H R=>tl σ H fun x H1=>∃a,x= .ref a/\(∃xs,SqL K H1 a xs)/\R (cM K a) H1
def vw(K:Frag)(tl:TE):TI:=fun σ H R=>tl σ H fun x H1=>∃a,x= .ref a/\(∃xs,SqT K H1 a xs)/\R (fI K a) H1
theorem tw{l:Expr}{tl:TE}(hl:PE X l tl):PI X tg l (pY X.K tl):=by
 intro pins s σ H R I h
 refine qt (hl pins s σ H _ I h) fun v s1 ⟨x,H1,I1,r1,q1⟩=>?_
 obtain⟨a,e,⟨xs,hq⟩,q⟩:=q1
 subst e
 cases r1
 obtain⟨its,rv,p,hz⟩:=I1.list hq
 refine wpAny_pyIter_list p.isList ?_
 refine⟨s1.heap.objs.size,[s1.heap.objs.size],_,_,H1,rfl,I1.kept (t':=s1.toks) fun b o e=>Heap.get?_push_of_some _ e,ff a _,⟨_,Heap.get?_push_size _ rfl,rfl,rfl⟩,fun b hb=>?_,q⟩
 have e:b=s1.heap.objs.size:=by simpa using hb
 subst e
 exact I1.fpOk (Nat.le_refl _) (I1.hok.fresh (Nat.le_refl _))
theorem tJ{l:Expr}{tl:TE}(hl:PE X l tl):PI X tg l (vw X.K tl):=by
 intro pins s σ H R I h
 refine qt (hl pins s σ H _ I h) fun v s1 ⟨x,H1,I1,r1,q1⟩=>?_
 obtain⟨a,e,⟨xs,hq⟩,q⟩:=q1
 subst e
 cases r1
 obtain⟨its,rv,p,hz⟩:=I1.tuple hq
 refine wpAny_pyIter_tuple (show s1.heap.IsTuple a its.toArray from p) ?_
 refine⟨s1.heap.objs.size,[s1.heap.objs.size],_,_,H1,rfl,I1.kept (t':=s1.toks) fun b o e=>Heap.get?_push_of_some _ e,du a _,⟨_,Heap.get?_push_size _ rfl,rfl,rfl⟩,fun b hb=>?_,q⟩
 have e:b=s1.heap.objs.size:=by simpa using hb
 subst e
 exact I1.fpOk (Nat.le_refl _) (I1.hok.fresh (Nat.le_refl _))
theorem gP{pins:List (Addr×Obj)}{σ:St}{H:Hp}{s:Shared}{R:It->Hp->Prop}{E:Value->Shared->Prop}{lo hi:Int}{t u v:Tok}{tk:Nat}(I:Inv X pins σ H s)(h1: -(2 ^ 62)<=lo)(h2:lo<2 ^ 62)(h3: -(2 ^ 62)<=hi)(h4:hi<2 ^ 62)
  (q:R (fU lo (hi-lo).toNat) H):wpAny (model X.prog X.w) X.A (pyIter (.ref s.heap.objs.size)) (wg X pins σ tg R) E {s with heap:=s.heap.push {cls:= .type "range",data:= .fields #[.int lo t,.int hi u,.int 1 v]},toks:=tk}:=by
 refine wpAny_pyIter_range (IsRange.new ..) (small_one h1 h2 h3 h4) ?_
 have I1:Inv X pins σ H {s with heap:=s.heap.push {cls:= .type "range",data:= .fields #[.int lo t,.int hi u,.int 1 v]},toks:=tk}:=I.kept fun b o e=>Heap.get?_push_of_some _ e
 refine⟨(s.heap.push {cls:= .type "range",data:= .fields #[.int lo t,.int hi u,.int 1 v]}).objs.size,[(s.heap.push {cls:= .type "range",data:= .fields #[.int lo t,.int hi u,.int 1 v]}).objs.size],_,_,H,rfl,
  I1.kept (t':=tk) fun b o e=>Heap.get?_push_of_some _ e,lp _ lo (hi-lo).toNat,?_,fun b hb=>?_,q⟩
 ·have e1:lo+((0:Nat):Int)*1=lo:=by simp
  have e2:(((hi-lo).toNat:Nat):Int)-((0:Nat):Int)=Builtin.Range.rangeSize lo hi 1:=by rw[rangeSize_one];split<;>omega
  show IsRangeIter _ _ (lo+((0:Nat):Int)*1) ((((hi-lo).toNat:Nat):Int)-((0:Nat):Int)) 1
  rw[e1,e2]
  exact Heap.get?_push_size _ rfl
 ·have e:b=(s.heap.push {cls:= .type "range",data:= .fields #[.int lo t,.int hi u,.int 1 v]}).objs.size:=by simpa using hb
  subst e
  exact I1.fpOk (Nat.le_refl _) (I1.hok.fresh (Nat.le_refl _))
def rM(ta:TA):TI:=fun σ H R=>ta σ H fun vs H1=>∃j:Int,vs=[.int j]/\ -(2 ^ 62)<=j/\j<2 ^ 62/\R (fU 0 j.toNat) H1
def pS(ta:TA):TI:=fun σ H R=>ta σ H fun vs H1=>∃i j:Int,vs=[.int i,.int j]/\(-(2 ^ 62)<=i/\i<2 ^ 62/\ -(2 ^ 62)<=j/\j<2 ^ 62)/\R (fU i (j-i).toNat) H1
theorem l7{a:Expr}{ta:TA}{p pos:Pos}(hg:Gl X "range")(hm:X.mg "range"=none)(ha:PA X [a] ta)(hs:starEach [a] X.env=[(false,eval a X.env)]:=by rfl):PI X tg (.Call (.Name "range" p) [a] [] pos) (rM ta):=by
 intro pins s σ H R I h
 refine Call_ (QV I hg hm boot_range (PyProof.Rows.callWith_type1 (qt (ha pos pins s σ H _ I h) fun us s1 ⟨vs,H1,I1,r1,q1⟩=>?_) hs rfl))
 obtain⟨j,e,q1,q2,q⟩:=q1
 subst e
 cases r1 with
 |cons r rr=>
  cases rr
  obtain⟨t,rfl⟩:=r
  exact call_range_1 (gP I1 (by omega) (by omega) q1 q2 (by simpa using q))
theorem mC{a b:Expr}{ta:TA}{p pos:Pos}(hg:Gl X "range")(hm:X.mg "range"=none)(ha:PA X [a,b] ta)(hs:starEach [a,b] X.env=[(false,eval a X.env),(false,eval b X.env)]:=by rfl)(hs2:starEach [b] X.env=[(false,eval b X.env)]:=by rfl):
  PI X tg (.Call (.Name "range" p) [a,b] [] pos) (pS ta):=by
 intro pins s σ H R I h
 refine Call_ (QV I hg hm boot_range (PyProof.Rows.callWith_type1 (qt (ha pos pins s σ H _ I h) fun us s1 ⟨vs,H1,I1,r1,q1⟩=>?_) (by rw[hs,hs2]) (by rw[hs2];rfl)))
 obtain⟨i,j,e,⟨q1,q2,q3,q4⟩,q⟩:=q1
 subst e
 cases r1 with
 |cons r rr=>
  cases rr with
  |cons r' rr=>
   cases rr
   obtain⟨t,rfl⟩:=r
   obtain⟨t',rfl⟩:=r'
   exact call_range_2 (gP I1 q1 q2 q3 q4 q)
def vc(wi:TI)(g:TG)(tb:TS):TS:=fun D σ H=>wi σ H fun J H1=>∃W:Nat->Nat->St->Hp->Prop,(∃m,W 0 m σ H1)/\∀i m σ H,W i m σ H->
 (J.stop i H/\D.nx σ H)\/(J.go i H/\∃N:St->Hp->Prop,(∀σ' H',N σ' H'->∃m',m'<m/\W (i+1) m' σ' H')/\∀x H',J.yld i H x H'->g x σ H' fun σ2 H2=>tb {D with nx:=N,ct:=N,bk:=D.nx} σ2 H2)
def cR(fp:List Addr)(h:Heap):List (Addr×Obj):=fp.filterMap fun b=>(h.get? b).map fun o=>(b,o)
theorem af{fp:List Addr}{h:Heap}{b:Addr}{o:Obj}(hb:b∈fp)(e:h.get? b=some o):(b,o)∈cR fp h:=List.mem_filterMap.mpr ⟨b,hb,by rw[e];rfl⟩
theorem l8{fp:List Addr}{h:Heap}{p:Addr×Obj}(hp:p∈cR fp h):p.1∈fp/\h.get? p.1=some p.2:=by
 obtain⟨b,hb,e⟩:=List.mem_filterMap.mp hp
 cases q:h.get? b with
 |none=>rw[q]at e;cases e
 |some o=>
  rw[q]at e
  have e':(b,o)=p:=Option.some.inj e
  subst e'
  exact⟨hb,q⟩
theorem Inv.pinned{pins:List (Addr×Obj)}{σ:St}{H:Hp}{s:Shared}{fp:List Addr}(I:Inv X pins σ H s)(hf:∀b∈fp,Zd X pins H b)(ho:∀b∈fp,∃o,s.heap.get? b=some o/\∀v,o.data≠ .cell v):Inv X (pins++cR fp s.heap) σ H s:=
 I.pins_of fun p hp=>(List.mem_append.mp hp).elim (fun z=>I.pin p (List.mem_append_right _ z)) fun z=>by
  obtain⟨hb,e⟩:=l8 z
  obtain⟨f0,f1,f2,_⟩:=hf p.1 hb
  obtain⟨o,e',d⟩:=ho p.1 hb
  rw[e]at e';cases e'
  exact⟨e,f0,f1,f2,d⟩
theorem Inv.unpinned{pins pl:List (Addr×Obj)}{σ:St}{H:Hp}{s:Shared}(I:Inv X (pins++pl) σ H s):Inv X pins σ H s:=I.pins_of fun p hp=>I.pin p (List.mem_append_right _ (List.mem_append_left _ hp))
theorem uF{iter:Expr}{body:List Stmt}{wi:TI}{g:TG}{tb:TS}{pos:Pos}(hp:PassesOwn (model X.prog X.w) X.A X.env X.xe)(hc:X.calm=true)(hi:PI X tg iter wi)(hg:PG X tg g)(hb:PSs X body tb)
  (hs:∀x,foldedSetIterable iter X.env x=pure x:=by intro _;rfl):PS X (.For tg iter body [] pos) (vc wi g tb):=by
 intro pins s σ H D I h
 refine wpAny_For (qt (hi pins s σ H _ I h) fun v s1 h1=>qt h1 fun itv s2 h2=>?_) hs
 obtain⟨it,fp,tn,J,H2,e,I2,T,st2,f2,W,⟨m0,w0⟩,turn⟩:=h2
 subst e
 have stat:∀{H':Hp},(∀b∈fp,H' b=none)->∀b∈fp,Zd X pins H' b:=fun hn b hb=>⟨hn b hb,(f2 b hb).2⟩
 refine codeAny_forLoop_any (fun n s'=>∃i σ' H',Inv X pins σ' H' s'/\tn i s'.heap/\(∀b∈fp,H' b=none)/\W i n σ' H') ?_ m0 ⟨0,σ,H2,I2,st2,fun b hb=>(f2 b hb).1,w0⟩
 rintro n s3 ⟨i,σ3,H3,I3,st3,fr3,w3⟩
 rcases turn i n σ3 H3 w3 with⟨stop,qn⟩|⟨go,N,hN,step⟩
 ·refine wpAny_passesOwn hp (qt (T.done X rfl rfl rfl hc i pins s3 σ3 H3 X.xe I3 (stat fr3) st3 stop) fun r s4 ⟨hr,I4⟩=>?_)
  subst hr
  exact wpAny_execs_nil ⟨σ3,H3,I4,qn⟩
 ·refine wpAny_passesOwn hp (qt (T.item X rfl rfl rfl hc i pins s3 σ3 H3 X.xe I3 (stat fr3) st3 go) fun r s4 ⟨u,hr,h4⟩=>?_)
  subst hr
  refine wpAny_passesOwn hp (qt h4 fun _ s5 ⟨x,H5,I5,r5,y5,st5,fr5⟩=>?_)
  have I5':=I5.pinned (stat fr5) (T.obj _ _ st5)
  refine wpAny_passesOwn hp (qt (hg _ s5 σ3 H5 x u _ I5' r5 (step x H5 y5)) fun _ s6 ⟨σ6,H6,I6,q6⟩=>?_)
  refine wpAny_passesOwn hp (qt (hb _ s6 σ6 H6 _ I6 q6) fun f s7 q7=>?_)
  have again:∀{σ7:St} {H7:Hp},Inv X (pins++cR fp s5.heap) σ7 H7 s7->N σ7 H7->∃m,m<n/\∃i σ' H',Inv X pins σ' H' s7/\tn i s7.heap/\(∀b∈fp,H' b=none)/\W i m σ' H':=fun{σ7 H7} I7 n7=>by
   obtain⟨m',hm,w7⟩:=hN σ7 H7 n7
   refine⟨m',hm,i+1,σ7,H7,I7.unpinned,T.keep _ _ _ st5 fun b hb o e=>(I7.pin (b,o) (List.mem_append_right _ (List.mem_append_right _ (af hb e)))).1,fun b hb=>?_,w7⟩
   obtain⟨o,e,d⟩:=T.obj _ _ st5 b hb
   exact(I7.pin (b,o) (List.mem_append_right _ (List.mem_append_right _ (af hb e)))).2.1
  cases f with
  |next=>obtain⟨σ7,H7,I7,n7⟩:=q7;exact again I7 n7
  |cont=>obtain⟨σ7,H7,I7,n7⟩:=q7;exact again I7 n7
  |brk=>obtain⟨σ7,H7,I7,q7⟩:=q7;exact⟨σ7,H7,I7.unpinned,q7⟩
  |ret v=>obtain⟨x7,σ7,H7,I7,r7,q7⟩:=q7;exact⟨x7,σ7,H7,I7.unpinned,r7,q7⟩
end
theorem Zv{K:Frag}{a:Addr}{xs:List V}{g:TG}{tb:TS}{D:Ends}{σ:St}{H:Hp}(Pv:Nat->St->Hp->Prop)(h0:Pv 0 σ H)(hl:∀i σ H,i<=xs.length->Pv i σ H->SqL K H a xs)
  (hs:∀i x σ H,xs[i]? =some x->Pv i σ H->g x σ H fun σ2 H2=>tb {D with nx:=Pv (i+1),ct:=Pv (i+1),bk:=D.nx} σ2 H2)(hd:∀σ H,Pv xs.length σ H->D.nx σ H):
  ∃W:Nat->Nat->St->Hp->Prop,(∃m,W 0 m σ H)/\∀i m σ H,W i m σ H->
   ((cM K a).stop i H/\D.nx σ H)\/((cM K a).go i H/\∃N:St->Hp->Prop,(∀σ' H',N σ' H'->∃m',m'<m/\W (i+1) m' σ' H')/\∀x H',(cM K a).yld i H x H'->g x σ H' fun σ2 H2=>tb {D with nx:=N,ct:=N,bk:=D.nx} σ2 H2):=by
 refine⟨fun i m σ H=>m=xs.length-i/\i<=xs.length/\Pv i σ H,⟨xs.length,by simp,Nat.zero_le _,h0⟩,?_⟩
 rintro i m σ H ⟨rfl,hi,p⟩
 have q:=hl i σ H hi p
 by_cases hlt:i<xs.length
 ·refine .inr ⟨⟨xs,xs[i],q,by simp [hlt]⟩,Pv (i+1),fun σ' H' p'=>⟨xs.length-(i+1),by omega,rfl,hlt,p'⟩,fun x H' y=>?_⟩
  obtain⟨e,y⟩:=y
  subst e
  exact hs i x σ _ (y xs q) p
 ·have e:i=xs.length:=by omega
  subst e
  exact .inl ⟨⟨xs,q,Nat.le_refl _⟩,hd σ H p⟩
theorem rR{K:Frag}{a:Addr}{xs:List V}{g:TG}{tb:TS}{D:Ends}{σ:St}{H:Hp}(Pv:Nat->St->Hp->Prop)(h0:Pv 0 σ H)(hl:∀i σ H,i<=xs.length->Pv i σ H->SqT K H a xs)
  (hs:∀i x σ H,xs[i]? =some x->Pv i σ H->g x σ H fun σ2 H2=>tb {D with nx:=Pv (i+1),ct:=Pv (i+1),bk:=D.nx} σ2 H2)(hd:∀σ H,Pv xs.length σ H->D.nx σ H):
  ∃W:Nat->Nat->St->Hp->Prop,(∃m,W 0 m σ H)/\∀i m σ H,W i m σ H->
   ((fI K a).stop i H/\D.nx σ H)\/((fI K a).go i H/\∃N:St->Hp->Prop,(∀σ' H',N σ' H'->∃m',m'<m/\W (i+1) m' σ' H')/\∀x H',(fI K a).yld i H x H'->g x σ H' fun σ2 H2=>tb {D with nx:=N,ct:=N,bk:=D.nx} σ2 H2):=by
 refine⟨fun i m σ H=>m=xs.length-i/\i<=xs.length/\Pv i σ H,⟨xs.length,by simp,Nat.zero_le _,h0⟩,?_⟩
 rintro i m σ H ⟨rfl,hi,p⟩
 have q:=hl i σ H hi p
 by_cases hlt:i<xs.length
 ·refine .inr ⟨⟨xs,xs[i],q,by simp [hlt]⟩,Pv (i+1),fun σ' H' p'=>⟨xs.length-(i+1),by omega,rfl,hlt,p'⟩,fun x H' y=>?_⟩
  obtain⟨e,y⟩:=y
  subst e
  exact hs i x σ _ (y xs q) p
 ·have e:i=xs.length:=by omega
  subst e
  exact .inl ⟨⟨xs,q,Nat.le_refl _⟩,hd σ H p⟩
theorem aY{lo:Int}{n:Nat}{g:TG}{tb:TS}{D:Ends}{σ:St}{H:Hp}(Pv:Nat->St->Hp->Prop)(h0:Pv 0 σ H)
  (hs:∀i σ H,i<n->Pv i σ H->g (.int (lo+i)) σ H fun σ2 H2=>tb {D with nx:=Pv (i+1),ct:=Pv (i+1),bk:=D.nx} σ2 H2)(hd:∀σ H,Pv n σ H->D.nx σ H):
  ∃W:Nat->Nat->St->Hp->Prop,(∃m,W 0 m σ H)/\∀i m σ H,W i m σ H->
   ((fU lo n).stop i H/\D.nx σ H)\/((fU lo n).go i H/\∃N:St->Hp->Prop,(∀σ' H',N σ' H'->∃m',m'<m/\W (i+1) m' σ' H')/\∀x H',(fU lo n).yld i H x H'->g x σ H' fun σ2 H2=>tb {D with nx:=N,ct:=N,bk:=D.nx} σ2 H2):=by
 refine⟨fun i m σ H=>m=n-i/\i<=n/\Pv i σ H,⟨n,by simp,Nat.zero_le _,h0⟩,?_⟩
 rintro i m σ H ⟨rfl,hi,p⟩
 by_cases hlt:i<n
 ·refine .inr ⟨hlt,Pv (i+1),fun σ' H' p'=>⟨n-(i+1),by omega,rfl,hlt,p'⟩,fun x H' y=>?_⟩
  obtain⟨e,y⟩:=y
  subst e y
  exact hs i σ _ hlt p
 ·have e:i=n:=by omega
  subst e
  exact .inl ⟨Nat.le_refl _,hd σ H p⟩
abbrev R2:=V->V->Hp->VK->Prop
def q8(X:Cx)(f:Value->Value->Sem Value)(r:R2):Prop:=
 ∀(pins:List (Addr×Obj)) (s:Shared) (σ:St) (H:Hp) (x y:V) (v u:Value) (Q:VK),Inv X pins σ H s->RelV x v->RelV y u->r x y H Q->
  wpAny (model X.prog X.w) X.A (f v u) (EP X pins σ Q) X.xe s
def rg(X:Cx)(f:Value->Sem Value)(r:V->Hp->VK->Prop):Prop:=
 ∀(pins:List (Addr×Obj)) (s:Shared) (σ:St) (H:Hp) (x:V) (v:Value) (Q:VK),Inv X pins σ H s->RelV x v->r x H Q->
  wpAny (model X.prog X.w) X.A (f v) (EP X pins σ Q) X.xe s
def qW(X:Cx)(f:Value)(r:List V->Hp->VK->Prop):Prop:=
 ∀(pins:List (Addr×Obj)) (s:Shared) (σ:St) (H:Hp) (xs:List V) (us:List Value) (Q:VK),Inv X pins σ H s->Vals xs us->r xs H Q->
  wpAny (model X.prog X.w) X.A (call f us) (EP X pins σ Q) X.xe s
def fh(r:R2)(ta tb:TE):TE:=fun σ H Q=>ta σ H fun x H1=>tb σ H1 fun y H2=>r x y H2 Q
def wj(r:V->Hp->VK->Prop)(ta:TE):TE:=fun σ H Q=>ta σ H fun x H1=>r x H1 Q
def rI(C:Int->Int->Prop)(g:Int->Int->V):R2:=fun x y H Q=>∃i j,x= .int i/\y= .int j/\C i j/\Q (g i j) H
def fD(g:Int->Int->V):R2:=fun x y H Q=>∃i j,x= .int i/\y= .int j/\Q (g i j) H
def rU(g:Int->V):V->Hp->VK->Prop:=fun x H Q=>∃i,x= .int i/\Q (g i) H
section
variable{X:Cx}{a b c:Expr}{ta tb tc:TE}{pos:Pos}
theorem o0(ha:PE X a ta)(hb:PE X b tb){pins:List (Addr×Obj)}{s:Shared}{σ:St}{H:Hp}{R:V->V->Hp->Prop}(I:Inv X pins σ H s)
  (h:ta σ H fun x H1=>tb σ H1 fun y H2=>R x y H2){Q:Value->Shared->Prop}{f:Value->Value->Sem Value}
  (hf:∀v u s2 x y H2,Inv X pins σ H2 s2->RelV x v->RelV y u->R x y H2->wpAny (model X.prog X.w) X.A (f v u) Q X.xe s2):
  wpAny (model X.prog X.w) X.A (eval a X.env) (fun v s₁=>wpAny (model X.prog X.w) X.A (eval b X.env) (fun u s₂=>wpAny (model X.prog X.w) X.A (f v u) Q X.xe s₂) X.xe s₁) X.xe s:=by
 refine qt (ha pins s σ H _ I h) fun v s1 ⟨x,H1,I1,r1,q1⟩=>?_
 refine qt (hb pins s1 σ H1 _ I1 q1) fun u s2 ⟨y,H2,I2,r2,q2⟩=>?_
 exact hf v u s2 x y H2 I2 r1 r2 q2
theorem vW{op:Operator}{r:R2}(ho:q8 X (binaryOp op) r)(ha:PE X a ta)(hb:PE X b tb):PE X (.BinOp a op b pos) (fh r ta tb):=by
 intro pins s σ H Q I h
 exact wpAny_BinOp (o0 ha hb I h fun v u s2 x y H2 I2 rx ry q=>ho pins s2 σ H2 x y v u Q I2 rx ry q)
theorem vR{op:UnaryOp}{r:V->Hp->VK->Prop}(ho:rg X (unaryOp op) r)(ha:PE X a ta):PE X (.UnaryOp op a pos) (wj r ta):=by
 intro pins s σ H Q I h
 exact UnaryOp_ (qt (ha pins s σ H _ I h) fun v s1 ⟨x,H1,I1,r1,q1⟩=>ho pins s1 σ H1 x v Q I1 r1 q1)
theorem pP{f:Value->Value->Sem Value}{C:Int->Int->Prop}{g:Int->Int->Int}
  (rule:∀(i j:Int) (t u:Tok) (s:Shared) (Q:Value->Shared->Prop) (E:Value->Shared->Prop),C i j->Q (.int (g i j) s.toks) {s with toks:=s.toks+1}->wpAny (model X.prog X.w) X.A (f (.int i t) (.int j u)) Q E s):
  q8 X f (rI C fun i j=> .int (g i j)):=by
 intro pins s σ H x y v u Q I rx ry h
 obtain⟨i,j,rfl,rfl,hc,q⟩:=h
 obtain⟨t,rfl⟩:=rx
 obtain⟨t',rfl⟩:=ry
 exact rule i j t t' s _ _ hc ⟨.int (g i j),H,I.tok _,⟨_,rfl⟩,q⟩
theorem tU{f:Value->Value->Sem Value}{g:Int->Int->Int}
  (rule:∀(i j:Int) (t u:Tok) (s:Shared) (Q:Value->Shared->Prop) (E:Value->Shared->Prop),Q (.int (g i j) s.toks) {s with toks:=s.toks+1}->wpAny (model X.prog X.w) X.A (f (.int i t) (.int j u)) Q E s):
  q8 X f (fD fun i j=> .int (g i j)):=by
 intro pins s σ H x y v u Q I rx ry h
 obtain⟨i,j,rfl,rfl,q⟩:=h
 obtain⟨t,rfl⟩:=rx
 obtain⟨t',rfl⟩:=ry
 exact rule i j t t' s _ _ ⟨.int (g i j),H,I.tok _,⟨_,rfl⟩,q⟩
theorem kK{f:Value->Value->Sem Value}{g:Int->Int->Bool}
  (rule:∀(i j:Int) (t u:Tok) (s:Shared) (Q:Value->Shared->Prop) (E:Value->Shared->Prop),Q (.bool (g i j)) s->wpAny (model X.prog X.w) X.A (f (.int i t) (.int j u)) Q E s):
  q8 X f (fD fun i j=> .bl (g i j)):=by
 intro pins s σ H x y v u Q I rx ry h
 obtain⟨i,j,rfl,rfl,q⟩:=h
 obtain⟨t,rfl⟩:=rx
 obtain⟨t',rfl⟩:=ry
 exact rule i j t t' s _ _ ⟨.bl (g i j),H,I,rfl,q⟩
def wo(i j:Int):Prop:=0<j/\j<1073741824
def wC(i j:Int):Prop:=0<=j/\j<=1000000/\i.natAbs<2 ^ 64
def CMul(i j:Int):Prop:=(-(2 ^ 64)<i/\i<2 ^ 64)\/(-(2 ^ 64)<j/\j<2 ^ 64)
theorem CMul.ok{i j:Int}(h:CMul i j):IntMulOk i j:=by
 rcases h with⟨h1,h2⟩|⟨h1,h2⟩
 ·exact .of_left (intBits_le_64 h1 h2)
 ·exact .of_right (intBits_le_64 h1 h2)
theorem qE:q8 X (binaryOp .Add) (fD fun i j=> .int (i+j)):=tU fun _ _ _ _ _ _ _ q=>add_int q
theorem Q8:q8 X (binaryOp .Sub) (fD fun i j=> .int (i-j)):=tU fun _ _ _ _ _ _ _ q=>sub_int q
theorem zX:q8 X (binaryOp .Mult) (rI CMul fun i j=> .int (i*j)):=pP fun _ _ _ _ _ _ _ hc q=>mul_int q hc.ok
theorem Zp:q8 X (binaryOp .FloorDiv) (rI wo fun i j=> .int (i/j)):=pP fun i j _ _ _ _ _ hc q=>by
 have h1:(0:Int)<j:=hc.1
 have h2:j<1073741824:=hc.2
 exact floordiv_int (by omega) (by rw[Int.fdiv_eq_ediv_of_nonneg i (by omega)];exact q) (.inl (PyProof.noPylong_small (by omega)))
theorem zt:q8 X (binaryOp .Mod) (rI (fun _ j=>0<j) fun i j=> .int (i%j)):=pP fun i j _ _ _ _ _ hc q=>by
 have h1:(0:Int)<j:=hc
 exact mod_int' (by omega) (by rw[Int.fmod_eq_emod_of_nonneg i (by omega)];exact q)
theorem ug:q8 X (binaryOp .Pow) (rI wC fun i j=> .int (i ^ j.toNat)):=pP fun _ _ _ _ _ _ _ hc q=>pow_int_small hc.1 hc.2.1 hc.2.2 q
theorem wG{f:Value->Sem Value}{g:Int->Int}
  (rule:∀(i:Int) (t:Tok) (s:Shared) (Q:Value->Shared->Prop) (E:Value->Shared->Prop),Q (.int (g i) s.toks) {s with toks:=s.toks+1}->wpAny (model X.prog X.w) X.A (f (.int i t)) Q E s):
  rg X f (rU fun i=> .int (g i)):=by
 intro pins s σ H x v Q I rx h
 obtain⟨i,rfl,q⟩:=h
 obtain⟨t,rfl⟩:=rx
 exact rule i t s _ _ ⟨.int (g i),H,I.tok _,⟨_,rfl⟩,q⟩
theorem ua:rg X (unaryOp .USub) (rU fun i=> .int (-i)):=wG fun _ _ _ _ _ q=>neg_int q
end
def scal:V->V->Bool
 | .non,.non=>true| .non,.int _=>true| .int _,.non=>true| .non,.bl _=>true| .bl _,.non=>true| .non,.str _=>true| .str _,.non=>true
 | .int _,.int _=>true| .bl _,.bl _=>true| .str _,.str _=>true| .byt _,.byt _=>true
 | .int _,.str _=>true| .str _,.int _=>true| .bl _,.str _=>true| .str _,.bl _=>true
 |_,_=>false
def wH:R2:=fun x y H Q=>scal x y=true/\Q (.bl (decide (x=y))) H
def wI:R2:=fun x y H Q=>scal x y=true/\Q (.bl (!decide (x=y))) H
theorem jH{i j:Int}:decide (V.int i=V.int j)=(i==j):=by
 rw[Bool.eq_iff_iff]
 simp
theorem lJ{i j:Bool}:decide (V.bl i=V.bl j)=(i==j):=by
 rw[Bool.eq_iff_iff]
 simp
theorem jR{i j:Str}:decide (V.str i=V.str j)=(i==j):=by
 rw[Bool.eq_iff_iff]
 simp
theorem jN{i j:Array UInt8}:decide (V.byt i=V.byt j)=(i.toList==j.toList):=by
 rw[Bool.eq_iff_iff]
 cases i
 cases j
 simp
section
variable{X:Cx}{a b c:Expr}{ta tb tc:TE}{pos:Pos}
theorem qJ{pins:List (Addr×Obj)}{σ:St}{H:Hp}{s:Shared}{Q:VK}{k k':Bool}(I:Inv X pins σ H s)(q:Q (.bl k) H)(e:k=k'):EP X pins σ Q (.bool k') s:=by
 subst e
 exact⟨.bl k,H,I,rfl,q⟩
theorem zy:q8 X (compareOp .Eq) wH:=by
 intro pins s σ H x y v u Q I rx ry h
 obtain⟨hs,q⟩:=h
 cases x with
 |non=>
  cases rx
  cases y with
  |non=>cases ry;exact PySem.EqNone.eq_none_none (qJ I q (by simp))
  |bl j=>cases ry;exact PySem.EqNone.eq_none_bool (qJ I q (by simp))
  |int j=>obtain⟨t',rfl⟩:=ry;exact PySem.EqNone.eq_none_int (qJ I q (by simp))
  |str j=>obtain⟨t',rfl⟩:=ry;exact PySem.EqNone.eq_none_str (qJ I q (by simp))
  |_=>exact absurd (show false=true from hs) Bool.false_ne_true
 |bl i=>
  cases rx
  cases y with
  |non=>cases ry;exact PySem.EqNone.eq_bool_none (qJ I q (by simp))
  |bl j=>cases ry;exact eq_bool (qJ I q lJ)
  |str j=>obtain⟨t',rfl⟩:=ry;exact PySem.EqMixed.eq_bool_str (qJ I q (by simp))
  |_=>exact absurd (show false=true from hs) Bool.false_ne_true
 |int i=>
  obtain⟨t,rfl⟩:=rx
  cases y with
  |non=>cases ry;exact PySem.EqNone.eq_int_none (qJ I q (by simp))
  |int j=>obtain⟨t',rfl⟩:=ry;exact eq_int (qJ I q jH)
  |str j=>obtain⟨t',rfl⟩:=ry;exact PySem.EqMixed.eq_int_str (qJ I q (by simp))
  |_=>exact absurd (show false=true from hs) Bool.false_ne_true
 |str i=>
  obtain⟨t,rfl⟩:=rx
  cases y with
  |non=>cases ry;exact PySem.EqNone.eq_str_none (qJ I q (by simp))
  |bl j=>cases ry;exact PySem.EqMixed.eq_str_bool (qJ I q (by simp))
  |int j=>obtain⟨t',rfl⟩:=ry;exact PySem.EqMixed.eq_str_int (qJ I q (by simp))
  |str j=>obtain⟨t',rfl⟩:=ry;exact eq_str (qJ I q jR)
  |_=>exact absurd (show false=true from hs) Bool.false_ne_true
 |byt i=>
  obtain⟨t,rfl⟩:=rx
  cases y with
  |byt j=>obtain⟨t',rfl⟩:=ry;exact W.eq_bytes (qJ I q jN)
  |_=>exact absurd (show false=true from hs) Bool.false_ne_true
 |_=>cases y<;>exact absurd (show false=true from hs) Bool.false_ne_true
theorem bM:q8 X (compareOp .NotEq) wI:=by
 intro pins s σ H x y v u Q I rx ry h
 obtain⟨hs,q⟩:=h
 cases x with
 |non=>
  cases rx
  cases y with
  |non=>cases ry;exact PySem.EqNone.ne_none_none (qJ I q (by simp))
  |bl j=>cases ry;exact PySem.EqNone.ne_none_bool (qJ I q (by simp))
  |int j=>obtain⟨t',rfl⟩:=ry;exact PySem.EqNone.ne_none_int (qJ I q (by simp))
  |str j=>obtain⟨t',rfl⟩:=ry;exact PySem.EqNone.ne_none_str (qJ I q (by simp))
  |_=>exact absurd (show false=true from hs) Bool.false_ne_true
 |bl i=>
  cases rx
  cases y with
  |non=>cases ry;exact PySem.EqNone.ne_bool_none (qJ I q (by simp))
  |bl j=>cases ry;exact ne_bool (qJ I q (congrArg not lJ))
  |str j=>obtain⟨t',rfl⟩:=ry;exact PySem.EqMixed.ne_bool_str (qJ I q (by simp))
  |_=>exact absurd (show false=true from hs) Bool.false_ne_true
 |int i=>
  obtain⟨t,rfl⟩:=rx
  cases y with
  |non=>cases ry;exact PySem.EqNone.ne_int_none (qJ I q (by simp))
  |int j=>obtain⟨t',rfl⟩:=ry;exact ne_int (qJ I q (congrArg not jH))
  |str j=>obtain⟨t',rfl⟩:=ry;exact PySem.EqMixed.ne_int_str (qJ I q (by simp))
  |_=>exact absurd (show false=true from hs) Bool.false_ne_true
 |str i=>
  obtain⟨t,rfl⟩:=rx
  cases y with
  |non=>cases ry;exact PySem.EqNone.ne_str_none (qJ I q (by simp))
  |bl j=>cases ry;exact PySem.EqMixed.ne_str_bool (qJ I q (by simp))
  |int j=>obtain⟨t',rfl⟩:=ry;exact PySem.EqMixed.ne_str_int (qJ I q (by simp))
  |str j=>obtain⟨t',rfl⟩:=ry;exact ne_str (qJ I q (congrArg not jR))
  |_=>exact absurd (show false=true from hs) Bool.false_ne_true
 |byt i=>
  obtain⟨t,rfl⟩:=rx
  cases y with
  |byt j=>obtain⟨t',rfl⟩:=ry;exact W.ne_bytes (qJ I q (congrArg not jN))
  |_=>exact absurd (show false=true from hs) Bool.false_ne_true
 |_=>cases y<;>exact absurd (show false=true from hs) Bool.false_ne_true
theorem ZJ:q8 X (compareOp .Lt) (fD fun i j=> .bl (decide (i<j))):=kK fun _ _ _ _ _ _ _ q=>lt_int q
theorem Qo:q8 X (compareOp .LtE) (fD fun i j=> .bl (decide (i<=j))):=kK fun _ _ _ _ _ _ _ q=>le_int q
theorem vS:q8 X (compareOp .Gt) (fD fun i j=> .bl (decide (j<i))):=kK fun _ _ _ _ _ _ _ q=>gt_int q
theorem gw:q8 X (compareOp .GtE) (fD fun i j=> .bl (decide (j<=i))):=kK fun _ _ _ _ _ _ _ q=>ge_int q
theorem QR:q8 X (compareOp .Is) (fun x y H Q=>y= .non/\Q (.bl (decide (x= .non))) H):=by
 intro pins s σ H x y v u Q I rx ry h
 obtain⟨rfl,q⟩:=h
 cases ry
 refine is_none_gen (qJ I q ?_)
 cases x<;>first
  |(cases rx;rfl)
  |(obtain⟨t,rfl⟩:=rx;rfl)
theorem tj:q8 X (compareOp .IsNot) (fun x y H Q=>y= .non/\Q (.bl (!decide (x= .non))) H):=by
 intro pins s σ H x y v u Q I rx ry h
 obtain⟨rfl,q⟩:=h
 cases ry
 refine isnot_none_gen (qJ I q ?_)
 cases x<;>first
  |(cases rx;rfl)
  |(obtain⟨t,rfl⟩:=rx;rfl)
theorem qr(b:Expr){op:CmpOp}(h:op≠ .In:=by decide)(h2:op≠ .NotIn:=by decide):behindInMarks op b=false:=by
 have e1:(op==CmpOp.In)=false:=by cases op<;>first|rfl|exact absurd rfl h
 have e2:(op==CmpOp.NotIn)=false:=by cases op<;>first|rfl|exact absurd rfl h2
 cases b<;>simp [behindInMarks,e1,e2]
theorem r9{op:CmpOp}{r:R2}(ho:q8 X (compareOp op) r)(ha:PE X a ta)(hb:PE X b tb)(hm:behindInMarks op b=false):PE X (.Compare a [op] [b] pos) (fh r ta tb):=by
 intro pins s σ H Q I h
 exact wpAny_Compare1 (o0 ha hb I h fun v u s2 x y H2 I2 rx ry q=>ho pins s2 σ H2 x y v u Q I2 rx ry q) hm
def bF(t:TE):TT:=fun σ H Q=>t σ H fun x H'=>∃k,x= .bl k/\Q k H'
theorem sX{op:CmpOp}{r:R2}(ho:q8 X (compareOp op) r)(ha:PE X a ta)(hb:PE X b tb)(hm:behindInMarks op b=false):PT X (.Compare a [op] [b] pos) (bF (fh r ta tb)):=by
 intro pins s σ H Q I h
 refine wpAny_isTrue_Compare1 (qt (ha pins s σ H _ I h) fun v s1 ⟨x,H1,I1,r1,q1⟩=>qt (hb pins s1 σ H1 _ I1 q1) fun u s2 ⟨y,H2,I2,r2,q2⟩=>
  qt (ho pins s2 σ H2 x y v u _ I2 r1 r2 q2) fun c s3 ⟨z,H3,I3,r3,k,e,q3⟩=>?_) hm
 subst e
 cases r3
 exact wpAny_truthy_bool ⟨H3,I3,q3⟩
def cU(r r':R2)(ta tb tc:TE):TE:=fun σ H Q=>ta σ H fun x H1=>tb σ H1 fun y H2=>r x y H2 fun z H3=>∃k,z= .bl k/\
 (if k=true then tc σ H3 fun w' H4=>r' y w' H4 Q else Q (.bl false) H3)
theorem nR{op op':CmpOp}{r r':R2}(ho:q8 X (compareOp op) r)(ho':q8 X (compareOp op') r')(ha:PE X a ta)(hb:PE X b tb)(hc:PE X c tc)
  (hm:lastMarks [op,op'] [b,c]=false:=by with_unfolding_all rfl):PE X (.Compare a [op,op'] [b,c] pos) (cU r r' ta tb tc):=by
 intro pins s σ H Q I h
 refine Compare_chain (qt (ha pins s σ H _ I h) fun v s1 ⟨x,H1,I1,r1,q1⟩=>chain_link (qt (hb pins s1 σ H1 _ I1 q1) fun u s2 ⟨y,H2,I2,r2,q2⟩=>
  qt (ho pins s2 σ H2 x y v u _ I2 r1 r2 q2) fun d s3 ⟨z,H3,I3,r3,k,e,q3⟩=>?_)) hm
 subst e
 cases r3
 refine wpAny_truthy_bool ?_
 cases k with
 |false=>exact ite_ff ⟨.bl false,H3,I3,rfl,q3⟩
 |true=>exact ite_tt (chain_last (qt (hc pins s3 σ H3 _ I3 q3) fun w' s4 ⟨z',H4,I4,r4,q4⟩=>ho' pins s4 σ H4 y z' u w' Q I4 r2 r4 q4))
theorem om{op op':CmpOp}{r r':R2}(ho:q8 X (compareOp op) r)(ho':q8 X (compareOp op') r')(ha:PE X a ta)(hb:PE X b tb)(hc:PE X c tc)
  (hm:lastMarks [op,op'] [b,c]=false:=by with_unfolding_all rfl):PT X (.Compare a [op,op'] [b,c] pos) (bF (cU r r' ta tb tc)):=by
 intro pins s σ H Q I h
 refine isTrue_chain (qt (ha pins s σ H _ I h) fun v s1 ⟨x,H1,I1,r1,q1⟩=>test_link (qt (hb pins s1 σ H1 _ I1 q1) fun u s2 ⟨y,H2,I2,r2,q2⟩=>
  qt (ho pins s2 σ H2 x y v u _ I2 r1 r2 q2) fun d s3 ⟨z,H3,I3,r3,k,e,q3⟩=>?_)) hm
 subst e
 cases r3
 refine wpAny_truthy_bool ?_
 cases k with
 |false=>
  obtain⟨k',e',q'⟩:=q3
  cases e'
  exact ite_ff ⟨H3,I3,q'⟩
 |true=>
  refine ite_tt (test_last (qt (hc pins s3 σ H3 _ I3 q3) fun w' s4 ⟨z',H4,I4,r4,q4⟩=>qt (ho' pins s4 σ H4 y z' u w' _ I4 r2 r4 q4) fun d' s5 ⟨z2,H5,I5,r5,k2,e2,q5⟩=>?_))
  subst e2
  cases r5
  exact wpAny_truthy_bool ⟨H5,I5,q5⟩
theorem Za:(sizeLine:Nat)<2 ^ 63:=by rw[sizeLine_eq];decide
theorem zF{x:V}{us:List Value}(r:Vals [x] us):∃u,us=[u]/\RelV x u:=by
 cases r with
 |cons r1 r2=>cases r2;exact⟨_,rfl,r1⟩
theorem gv{x y:V}{us:List Value}(r:Vals [x,y] us):∃u w',us=[u,w']/\RelV x u/\RelV y w':=by
 cases r with
 |cons r1 r2=>
  cases r2 with
  |cons r3 r4=>cases r4;exact⟨_,_,rfl,r1,r3⟩
theorem iu:qW X (.builtin "abs") (fun xs H Q=>∃i,xs=[.int i]/\Q (.int (if i<0 then -i else i)) H):=by
 intro pins s σ H xs us Q I r h
 obtain⟨i,rfl,q⟩:=h
 obtain⟨u,rfl,t,rfl⟩:=zF r
 exact call_abs_int fun u tk=>⟨.int (if i<0 then -i else i),H,I.tok _,⟨_,rfl⟩,q⟩
theorem ZN(hc:X.calm=true):qW X (.builtin "max") (fun xs H Q=>∃i j,xs=[.int i,.int j]/\Q (.int (if j>i then j else i)) H):=by
 intro pins s σ H xs us Q I r h
 obtain⟨i,j,rfl,q⟩:=h
 obtain⟨u,w',rfl,⟨t,rfl⟩,⟨t',rfl⟩⟩:=gv r
 refine max_two_ints (I.ok.hd hc) fun h' tk k=>⟨_,H,I.kept k,?_,q⟩
 by_cases hj:j>i
 ·rw[if_pos hj,if_pos hj];exact⟨_,rfl⟩
 ·rw[if_neg hj,if_neg hj];exact⟨_,rfl⟩
theorem fM(hc:X.calm=true):qW X (.builtin "min") (fun xs H Q=>∃i j,xs=[.int i,.int j]/\Q (.int (if j<i then j else i)) H):=by
 intro pins s σ H xs us Q I r h
 obtain⟨i,j,rfl,q⟩:=h
 obtain⟨u,w',rfl,⟨t,rfl⟩,⟨t',rfl⟩⟩:=gv r
 refine min_two_ints (I.ok.hd hc) fun h' tk k=>⟨_,H,I.kept k,?_,q⟩
 by_cases hj:j<i
 ·rw[if_pos hj,if_pos hj];exact⟨_,rfl⟩
 ·rw[if_neg hj,if_neg hj];exact⟨_,rfl⟩
theorem lL:qW X (.type "int") (fun xs H Q=>(∃i,xs=[.int i]/\Q (.int i) H)\/∃k,xs=[.bl k]/\Q (.int (if k then 1 else 0)) H):=by
 intro pins s σ H xs us Q I r h
 rcases h with⟨i,rfl,q⟩|⟨k,rfl,q⟩
 ·obtain⟨u,rfl,t,rfl⟩:=zF r
  exact call_int_int ⟨.int i,H,I,⟨_,rfl⟩,q⟩
 ·obtain⟨u,rfl,r1⟩:=zF r
  cases r1
  exact call_int_bool ⟨.int (if k then 1 else 0),H,I.tok _,⟨_,rfl⟩,q⟩
theorem iV:qW X (.builtin "ord") (fun xs H Q=>∃x,xs=[.str x]/\x.length=1/\Q (.int (x.cps.getD 0 0:Nat)) H):=by
 intro pins s σ H xs us Q I r h
 obtain⟨x,rfl,hz,q⟩:=h
 obtain⟨u,rfl,t,rfl⟩:=zF r
 exact ord_of_one hz ⟨.int _,H,I.tok _,⟨_,rfl⟩,q⟩
end
structure ObjM(h:Heap)(x dx C:Addr)(mA:Str->Option Value):Prop where
 obj:h.get? x=some (PySem.W.instObj C dx)
 ns:h.Ns1 dx mA
 ne:dx≠x
theorem lG{h:Heap}{dx:Addr}{mA:Str->Option Value}(n:h.Ns1 dx mA):∃od,h.get? dx=some od/\∀name,W.lookIn name od=some (mA name):=by
 obtain⟨o,es,ep,ho,hd,hk,_,hm⟩:=n
 refine⟨o,ho,fun name=>?_⟩
 have e:=hm name
 unfold nsFind findBy at e
 rw[<- Array.find?_toList]at e
 unfold W.lookIn
 rw[hd]
 dsimp only
 split
 ·rename_i y q
  rw[q]at e
  exact congrArg some e
 ·rename_i q
  rw[q]at e
  have a:es.toList.any (·.refKey)=false:=by
   rw[List.any_eq_false]
   intro y hy
   obtain⟨z,t,hkey⟩:=hk y (Array.mem_toList_iff.mp hy)
   simp [DictEntry.refKey,hkey]
  have a':¬es.toList.any (·.refKey)=true:=by rw[a];exact Bool.false_ne_true
  rw[if_neg a']
  exact congrArg some e
theorem ObjM.look{h:Heap}{x dx C:Addr}{mA:Str->Option Value}(I:ObjM h x dx C mA):∃od,W.InstAt h x (W.instObj C dx) C (some od)/\∀name,W.lookIn name od=some (mA name):=
 let⟨od,ho,hl⟩:=lG I.ns
 ⟨od,⟨I.obj,rfl,rfl,ho⟩,hl⟩
section
variable{prog:Program}{w:World}{A:Around}{E:Value->Shared->Prop}{s:Shared}{K:Frag}{x dx C f:Addr}{mA:Str->Option Value}{name:Str}{v:Value}
theorem rW{expr:Bool}{Q:Value->Shared->Prop}(X:K.In s.heap)(I:ObjM s.heap x dx C mA)(hg:W.plainGet K C name=true)(hh:W.hasDictIn K C=true)
  (ha:W.findIn K (.ref C) name=some none)(hv:mA name=some v)(hv':W.handedIn v=true)(h:Q v {s with toks:=s.toks+1}):
  wpAny (model prog w) A (getAttr (.ref x) name expr) Q E s:=by
 obtain⟨od,J,hl⟩:=I.look
 exact W.get_value X J (W.plainGet_of hg).1 (W.findObj_own hh ha rfl (by rw[hl,hv])) hv' h
theorem ot{pl:Sem Bool}{Q:Value×List Value->Shared->Prop}(X:K.In s.heap)(I:ObjM s.heap x dx C mA)(hg:W.plainGet K C name=true)
  (hf:W.findIn K (.ref C) name=some (some (.ref f)))(ht:W.isFn K (.ref f)=true)(hv:mA name=none)(h:Q (.ref f,[.ref x]) s):
  wpAny (model prog w) A (getMethod (.ref x) name pl) Q E s:=by
 obtain⟨od,J,hl⟩:=I.look
 exact W.method_fn X J (W.plainGet_of hg).1 (W.plainGet_of hg).2 hf (beq_iff_eq.mp ht) (by show(W.lookIn name od).map (·.isSome)=some false;rw[hl,hv];rfl) h
theorem rT{ns:List Str}{Q:Unit->Shared->Prop}(X:K.In s.heap)(I:ObjM s.heap x dx C mA)
  (hs:W.findIn K (.ref C) "__setattr__"=some (some (.builtin "object.__setattr__")))(hp:W.plainOver K C=true)(ht:W.takerIn K C name=some none)(hh:W.hasDictIn K C=true)
  (hw:PySem.Within mA ns)(hsz:ns.length<=sizeLine)
  (h:∀h',ObjM h' x dx C (fun y=>if y=name then some v else mA y)->Heap.SameBut dx s.heap h'->Q () {s with heap:=h',toks:=s.toks+2}):
  wpAny (model prog w) A (setAttr (.ref x) name v) Q E s:=by
 obtain⟨od,J,hl⟩:=I.look
 refine W.set_plain X J hs (W.osa_open (s:={s with toks:=s.toks+1}) (r:=none) X J hp ht fun b=>?_)
 obtain⟨cd,hc,hd'⟩:=W.any_some hh
 have hx:s.heap.get? x=some ⟨.ref C,some dx,.plain,#[]⟩:=I.obj
 refine wpAny_bind (wpAny_pure (wpAny_bind (wpAny_bind (wpAny_loadPart hx (wpAny_bind (W.Looks.here (s:={s with toks:=s.toks+1}) (W.looks_clsIn X hc) ?_))))))
 rw[hd']
 refine wpAny_pure (a:=some dx) (wpAny_bind (wpAny_pure (wpAny_bind ?_)))
 refine wpAny_nsSet1 (s:={s with toks:=s.toks+1}) I.ns fun h' hn2 hs2=>?_
 obtain⟨oD,esD,epD,hoD,hdD,hcD⟩:=hn2.count (PySem.Within.cons name v hw)
 refine wpAny_bind (wpAny_lookBehind hoD (by rw[hdD];exact pastItsLine_dict (Nat.le_trans hcD (by rw[List.length_cons];omega))) ?_)
 exact wpAny_pure (h _ ⟨(hs2.2 _ (Ne.symm I.ne)).trans I.obj,hn2,I.ne⟩ hs2)
theorem oS{R:Result->Shared->Prop}{vs:List Value}{kw:List (Str×Value)}(X:K.In s.heap)(hm:W.makesIn K C=true)
  (hi:W.findIn K (.ref C) "__init__"=some (some (.ref f)))(hf:W.typeIn K (.ref f)=some (.type "function"))
  (h:codeAny (model prog w) (A.under (.builtin "type.__call__" ⟨.ref C::vs,kw⟩)) (.call (.ref f) ⟨.ref (s.heap.objs.size+1)::vs,kw⟩) (W.InitBack (s.heap.objs.size+1) R)
   {s with heap:=(s.heap.push W.emptyDict).push (W.instObj C s.heap.objs.size)}):
  codeAny (model prog w) A (.call (.ref C) ⟨vs,kw⟩) R s:=by
 obtain⟨hh,g,d,t,os⟩:=s
 exact W.make_core (W.makes_of X hm) (W.looks_findIn X hi) (fun self=>W.bind_fn X self hf) (.inl rfl) h
end
def zA(f:Str)(v:V):List (Str×V)->List (Str×V)
 | []=>[(f,v)]
 |(g,x)::r=>if g=f then(g,v)::r else(g,x)::zA f v r
theorem cb(f g:Str)(v:V):∀fs:List (Str×V),(zA f v fs).lookup g=if g=f then some v else fs.lookup g
 | []=>by
  show List.lookup g [(f,v)]=_
  by_cases h:g=f
  ·have hb:(g==f)=true:=beq_iff_eq.mpr h
   simp only[List.lookup,hb,if_pos h]
  ·have hb:(g==f)=false:=beq_eq_false_iff_ne.mpr h
   simp only[List.lookup,hb,if_neg h]
 |(k,x)::r=>by
  have ih:=cb f g v r
  rw[show zA f v ((k,x)::r)=(if k=f then(k,v)::r else(k,x)::zA f v r)from rfl]
  by_cases hk:k=f
  ·rw[if_pos hk]
   by_cases h:g=k
   ·have hb:(g==k)=true:=beq_iff_eq.mpr h
    simp only[List.lookup,hb,if_pos (h.trans hk)]
   ·have hb:(g==k)=false:=beq_eq_false_iff_ne.mpr h
    simp only[List.lookup,hb,if_neg (fun e:g=f=>h (e.trans hk.symm))]
  ·rw[if_neg hk]
   by_cases h:g=k
   ·have hb:(g==k)=true:=beq_iff_eq.mpr h
    simp only[List.lookup,hb,if_neg (fun e:g=f=>hk (h.symm.trans e))]
   ·have hb:(g==k)=false:=beq_eq_false_iff_ne.mpr h
    simp only[List.lookup,hb]
    exact ih
theorem bi(f:Str)(v:V):∀fs:List (Str×V),f∈(zA f v fs).map (·.1)/\∀g,g∈fs.map (·.1)->g∈(zA f v fs).map (·.1)
 | []=>⟨by simp [zA],fun g h=>by simp at h⟩
 |(k,x)::r=>by
  obtain⟨i1,i2⟩:=bi f v r
  rw[show zA f v ((k,x)::r)=(if k=f then(k,v)::r else(k,x)::zA f v r)from rfl]
  by_cases hk:k=f
  ·rw[if_pos hk]
   subst hk
   exact⟨by simp,fun g h=>by simpa using h⟩
  ·rw[if_neg hk]
   refine⟨?_,fun g h=>?_⟩
   ·rw[List.map_cons]
    exact List.mem_cons_of_mem _ i1
   ·rw[List.map_cons]at h⊢
    rcases List.mem_cons.mp h with e|e
    ·exact List.mem_cons.mpr (.inl e)
    ·exact List.mem_cons_of_mem _ (i2 g e)
theorem b8(f:Str)(v:V):∀fs:List (Str×V),(zA f v fs).length<=fs.length+1
 | []=>by simp [zA]
 |(k,x)::r=>by
  have ih:=b8 f v r
  rw[show zA f v ((k,x)::r)=(if k=f then(k,v)::r else(k,x)::zA f v r)from rfl]
  by_cases hk:k=f
  ·rw[if_pos hk,List.length_cons,List.length_cons];omega
  ·rw[if_neg hk,List.length_cons,List.length_cons];omega
theorem RelO.some_of{v:V}{o:Option Value}(r:RelO (some v) o):∃u,o=some u/\RelV v u:=by
 cases o with
 |none=>exact(show False from r).elim
 |some u=>exact⟨u,rfl,r⟩
theorem RelO.none_of{o:Option Value}(r:RelO none o):o=none:=by
 cases o with
 |none=>rfl
 |some u=>exact(show False from r).elim
theorem mK{v:V}{u:Value}(r:RelV v u):W.handedIn u=true:=by
 cases v with
 |non=>cases(show u=Value.none from r);rfl
 |bl b=>cases(show u=Value.bool b from r);rfl
 |int i=>obtain⟨t,e⟩:=(show∃t,u=Value.int i t from r);cases e;rfl
 |str x=>obtain⟨t,e⟩:=(show∃t,u=Value.str x t from r);cases e;rfl
 |byt b=>obtain⟨t,e⟩:=(show∃t,u=Value.bytes b t from r);cases e;rfl
 |flt b=>obtain⟨t,e⟩:=(show∃t,u=Value.float b t from r);cases e;rfl
 |ref a=>cases(show u=Value.ref a from r);rfl
 |ty n=>cases(show u=Value.type n from r);rfl
section
variable{P:Program}{w:World}{H H':Hp}{h h':Heap}{a C dx:Addr}{fs fs':List (Str×V)}
theorem bD(hok:HOk P w H h)(e:H a=some (.ins C dx fs)):∃mA,ObjM h a dx C mA/\(∀f,RelO (fs.lookup f) (mA f))/\PySem.Within mA (fs.map (·.1))/\fs.length<=1000/\H dx=some (.own a):=by
 obtain⟨d,z,ne,ob,mA,n,r,q⟩:=(show ObjOk P w H h a (.ins C dx fs)from hok a _ e)
 exact⟨mA,⟨ob,n,ne⟩,r,q,z,d⟩
end
structure Cls(K:Frag)(C:Addr):Prop where
 pg:PySem.W.plainGet K C Str.empty=true
 hd:PySem.W.hasDictIn K C=true
 po:PySem.W.plainOver K C=true
 sa:PySem.W.findIn K (.ref C) "__setattr__"=some (some (.builtin "object.__setattr__"))
theorem Cls.get{K:Frag}{C:Addr}(c:Cls K C)(f:Str):W.plainGet K C f=true:=c.pg
def NoAttr(K:Frag)(C:Addr)(f:Str):Prop:=PySem.W.findIn K (.ref C) f=some none
theorem NoAttr.taker{K:Frag}{C:Addr}{f:Str}(n:NoAttr K C f):W.takerIn K C f=some none:=by
 unfold W.takerIn
 rw[show W.findIn K (.ref C) f=some none from n]
 rfl
structure Meth(K:Frag)(C:Addr)(m:Str)(f:Addr):Prop where
 at_:PySem.W.findIn K (.ref C) m=some (some (.ref f))
 fn:PySem.W.isFn K (.ref f)=true
 kp:PySem.W.keepIn K (.ref f)=true
section
variable{X:Cx}{pins:List (Addr×Obj)}{σ:St}{H:Hp}{s:Shared}{a C dx:Addr}{fs:List (Str×V)}{f:Str}{v:V}{A:Around}{E:Value->Shared->Prop}
theorem j7{b:Bool}{Q:Value->Shared->Prop}(I:Inv X pins σ H s)(e:H a=some (.ins C dx fs))(c:Cls X.K C)(n:NoAttr X.K C f)(l:fs.lookup f=some v)
  (h:∀u s',Inv X pins σ H s'->RelV v u->Q u s'):wpAny (model X.prog X.w) A (getAttr (.ref a) f b) Q E s:=by
 obtain⟨mA,O,r,_,_,_⟩:=bD I.hok e
 obtain⟨u,hu,ru⟩:=RelO.some_of (v:=v) (o:=mA f) (by rw[<- l];exact r f)
 exact rW I.kIn O (c.get f) c.hd n hu (mK ru) (h u _ (I.tok _) ru)
theorem cN{m:Str}{g:Addr}{pl:Sem Bool}{Q:Value×List Value->Shared->Prop}(I:Inv X pins σ H s)(e:H a=some (.ins C dx fs))(c:Cls X.K C)(k:Meth X.K C m g)(l:fs.lookup m=none)
  (h:Q (.ref g,[.ref a]) s):wpAny (model X.prog X.w) A (getMethod (.ref a) m pl) Q E s:=by
 obtain⟨mA,O,r,_,_,_⟩:=bD I.hok e
 have hn:mA m=none:=RelO.none_of (by rw[<- l];exact r m)
 exact ot I.kIn O (c.get m) k.at_ k.fn hn h
theorem km{y:V}{u:Value}{Q:Unit->Shared->Prop}(I:Inv X pins σ H s)(e:H a=some (.ins C dx fs))(c:Cls X.K C)(n:NoAttr X.K C f)(hl:fs.length<1000)(ry:RelV y u)
  (h:∀s',Inv X pins σ (upd H a (.ins C dx (zA f y fs))) s'->Q () s'):wpAny (model X.prog X.w) A (setAttr (.ref a) f u) Q E s:=by
 obtain⟨mA,O,r,wi,_,ho⟩:=bD I.hok e
 have hz:(fs.map (·.1)).length<=sizeLine:=by rw[List.length_map,sizeLine_eq];omega
 refine rT I.kIn O c.sa c.po n.taker c.hd wi hz fun h' O' sb=>h _ ?_
 have hd:∃o,h'.get? dx=some o:=let⟨o,_,_,e',_⟩:=O'.ns;⟨o,e'⟩
 refine I.write (x:=a) (e:=dx) (by rw[e];exact True.intro) (.inr ho) (fun b q hb z=>(sb.2 b hb).trans z) hd ?_
 refine⟨by rw[qi O.ne];exact ho,?_,O.ne,O'.obj,_,O'.ns,fun g=>?_,fun g hg=>?_⟩
 ·have:=b8 f y fs;omega
 ·show RelO ((zA f y fs).lookup g) (if g=f then some u else mA g)
  rw[cb]
  by_cases q:g=f
  ·rw[if_pos q,if_pos q];exact ry
  ·rw[if_neg q,if_neg q];exact r g
 ·by_cases q:g=f
  ·rw[q];exact(bi f y fs).1
  ·refine(bi f y fs).2 g (wi g fun z=>hg ?_)
   show(if g=f then some u else mA g)=none
   rw[if_neg q];exact z
theorem Inv.made(I:Inv X pins σ H s):Inv X pins σ (upd (upd H s.heap.objs.size (.own (s.heap.objs.size+1))) (s.heap.objs.size+1) (.ins C s.heap.objs.size []))
  {s with heap:=(s.heap.push W.emptyDict).push (W.instObj C s.heap.objs.size)}:=by
 have e1:(s.heap.push W.emptyDict).get? s.heap.objs.size=some W.emptyDict:=Heap.get?_push_size s.heap rfl
 have e2:((s.heap.push W.emptyDict).push (W.instObj C s.heap.objs.size)).get? (s.heap.objs.size+1)=some (W.instObj C s.heap.objs.size):=by
  have:=Heap.get?_push_size (s.heap.push W.emptyDict) (o:=W.instObj C s.heap.objs.size) rfl
  rwa [Heap.size_push]at this
 have e3:(s.heap.push W.emptyDict).Ns s.heap.objs.size (fun _=>none):=⟨W.emptyDict,#[],_,e1,rfl,(fun e he=>absurd he (by simp)),fun _=>rfl⟩
 have I1:=I.laid (a:=s.heap.objs.size) (o:= .own (s.heap.objs.size+1)) (h':=s.heap.push W.emptyDict) (t':=s.toks) (fun b u q=>Heap.get?_push_of_some _ q) (Nat.le_refl _) ⟨_,e1⟩
 refine I1.laid (a:=s.heap.objs.size+1) (o:= .ins C s.heap.objs.size []) (t':=s.toks) (fun b u q=>Heap.get?_push_of_some _ q) (Nat.le_of_eq (Heap.size_push _ _)) ?_
 have ne:s.heap.objs.size≠s.heap.objs.size+1:=Nat.ne_of_lt (Nat.lt_succ_self _)
 refine⟨by rw[qi ne,qc],Nat.zero_le _,ne,e2,fun _=>none,(Heap.Ns1.of_empty e3).at fun o q=>Heap.get?_push_of_some _ q,fun _=>True.intro,fun y hy=>absurd rfl hy⟩
theorem sB{prog:Program}{w:World}{env:Env}{e:Expr}{f:Str}{pos:Pos}{s:Shared}{Q:Value->Shared->Prop}(hb:attributeBase e f env (eval e env)=eval e env)
  (h:wpAny (model prog w) A (eval e env) (fun o s₁=>wpAny (model prog w) A (getAttr o f true) Q E s₁) E s):wpAny (model prog w) A (eval (.Attribute e f pos) env) Q E s:=
 Attribute_any_ h (by rw[arm_eval_Attribute,hb])
end
section
variable{X:Cx}{o e value:Expr}{f:Str}{pos pos' tpos:Pos}{ta tv:TE}
end
section
variable{X:Cx}{pins:List (Addr×Obj)}{σ:St}{H:Hp}{s:Shared}{A:Around}{E:Value->Shared->Prop}{Q:Value->Shared->Prop}{c:Value}{b:Bool}
inductive TyOf (K:Frag) (H:Hp):V->Value->Prop where
 |non:TyOf K H .non (.type "NoneType")
 |bl (x:Bool):TyOf K H (.bl x) (.type "bool")
 |int (i:Int):TyOf K H (.int i) (.type "int")
 |str (x:Str):TyOf K H (.str x) (.type "str")
 |flt (x:UInt64):TyOf K H (.flt x) (.type "float")
 |lst {a:Addr} {xs:List V} (e:H a=some (.lst xs)):TyOf K H (.ref a) (.type "list")
 |frz {a:Addr} {o:Obj} {xs:List V} (e:H a=some (.frz o (.lst xs))):TyOf K H (.ref a) (.type "list")
 |tup {a:Addr} {xs:List V} (e:H a=some (.tup xs)):TyOf K H (.ref a) (.type "tuple")
 |dK {a:Addr} {kvs:List (qG×V)} (e:H a=some (.dK kvs)):TyOf K H (.ref a) (.type "dict")
 |dT {a:Addr} {kvs:List (List qG×V)} (e:H a=some (.dT kvs)):TyOf K H (.ref a) (.type "dict")
 | ins {a C dx:Addr} {fs:List (Str×V)} (e:H a=some (.ins C dx fs)) (cl:Cls K C) (ha:PySem.W.findIn K (.ref C) "__class__"=some (some (.builtin "object.__class__")))
   (hn:PySem.W.specialIn K (.builtin "object.__class__") "__get__"=some (some (.builtin "getset_descriptor.__get__"))) (htk:PySem.W.takesIn K (.builtin "object.__class__")=some true)
   (hm:PySem.W.mroIn K C (.type "object")=some true):TyOf K H (.ref a) (.ref C)
theorem lK{x:V}{u t:Value}(I:Inv X pins σ H s)(rx:RelV x u)(ty:TyOf X.K H x t)(e:W.kitOne X.K t c=some b)(h:∀tk,Q (.bool b) {s with toks:=tk}):
  wpAny (model X.prog X.w) A (call (.builtin "isinstance") [u,c]) Q E s:=by
 cases ty with
 |non=>cases(show u=Value.none from rx);exact W.kia_one W.kitx_none I.kIn True.intro e (fun z=>nomatch z) h
 |bl y=>cases(show u=Value.bool y from rx);exact W.kia_one W.kitx_bool I.kIn True.intro e (fun z=>nomatch z) h
 |int i=>obtain⟨t,q⟩:=(show∃t,u=Value.int i t from rx);cases q;exact W.kia_one W.kitx_int I.kIn True.intro e (fun z=>nomatch z) h
 |str y=>obtain⟨t,q⟩:=(show∃t,u=Value.str y t from rx);cases q;exact W.kia_one W.kitx_str I.kIn True.intro e (fun z=>nomatch z) h
 |flt y=>obtain⟨t,q⟩:=(show∃t,u=Value.float y t from rx);cases q;exact W.kia_one W.kitx_float I.kIn True.intro e (fun z=>nomatch z) h
 | @lst a xs ea=>
  cases(show u=Value.ref a from rx)
  obtain⟨_,_,n,_,h1⟩:=(show ObjOk X.prog X.w H s.heap a (.lst xs)from I.hok a _ ea)
  exact W.kia_one W.kitx_list I.kIn ⟨_,h1,rfl⟩ e (fun z=>nomatch z) h
 | @frz a ob xs ea=>
  cases(show u=Value.ref a from rx)
  obtain⟨_,_,_,n,_,h1⟩:=(show ObjOk X.prog X.w H s.heap a (.frz ob (.lst xs))from I.hok a _ ea)
  exact W.kia_one W.kitx_list I.kIn ⟨_,h1,rfl⟩ e (fun z=>nomatch z) h
 | @tup a xs ea=>
  cases(show u=Value.ref a from rx)
  obtain⟨_,_,_,p⟩:=(show ObjOk X.prog X.w H s.heap a (.tup xs)from I.hok a _ ea)
  obtain⟨o,h1,h2,_⟩:=p
  exact W.kia_one W.kitx_tuple I.kIn ⟨o,h1,h2⟩ e (fun z=>nomatch z) h
 | @dK a kvs ea=>
  cases(show u=Value.ref a from rx)
  obtain⟨_,_,vs,_,p⟩:=(show ObjOk X.prog X.w H s.heap a (.dK kvs)from I.hok a _ ea)
  obtain⟨o,es,ep,h1,h2,_⟩:=p
  exact W.kia_one W.kitx_dict I.kIn ⟨o,h1,h2.1⟩ e (fun z=>nomatch z) h
 | @dT a kvs ea=>
  cases(show u=Value.ref a from rx)
  obtain⟨_,_,xs,_,o,es,ep,h1,h2,_⟩:=(show ObjOk X.prog X.w H s.heap a (.dT kvs)from I.hok a _ ea)
  exact W.kia_one W.kitx_dict I.kIn ⟨o,h1,h2.1⟩ e (fun z=>nomatch z) h
 | @ins a C dx fs ea cl ha hn htk hm=>
  cases(show u=Value.ref a from rx)
  obtain⟨mA,O,_⟩:=bD I.hok ea
  obtain⟨od,J,_⟩:=O.look
  exact W.kia_one (W.kitx_own (cl.get _) cl.hd ha hn htk hm) I.kIn J e (fun z=>nomatch z) h
end
structure Room(k:Nat)(A:Around):Prop where
 hd:A.handled=none
 dp:A.depth+3*k+5<recursionLimit
 un:A.units+16*k+200<cLine
theorem Room.mono{j k:Nat}{A:Around}(r:Room k A)(h:j<=k):Room j A:=⟨r.hd,by have:=r.dp;omega,by have:=r.un;omega⟩
theorem Room.mo{j k:Nat}{A:Around}(r:Room k A)(h:j<=k:=by first|decide|omega):Room j A:=r.mono h
theorem Room.deeper{k:Nat}{A:Around}(r:Room (k+1) A)(env:Env):Room k (A.deeper env):=
 ⟨r.hd,by have:=r.dp;show A.depth+1+3*k+5<_;omega,by have:=r.un;show A.units+3+16*k+200<_;omega⟩
theorem kg{A:Around}{C:Addr}{us:List Value}{kw:List (Str×Value)}:(A.under (.builtin "type.__call__" ⟨.ref C::us,kw⟩)).depth=A.depth+1:=by
 first|rfl|simp [Around.under,Code.weight,Code.isCreation,Code.isGuard,Code.isCaller,Code.frames,Code.isFrame,guardIds]
theorem kG{A:Around}{C:Addr}{us:List Value}{kw:List (Str×Value)}:(A.under (.builtin "type.__call__" ⟨.ref C::us,kw⟩)).units=A.units+1:=by
 first|rfl|simp [Around.under,Code.cUnits,Code.frames,Code.isFrame]
theorem Room.make{k:Nat}{A:Around}(r:Room (k+1) A)(C:Addr)(us:List Value)(kw:List (Str×Value)):Room k (A.under (.builtin "type.__call__" ⟨.ref C::us,kw⟩)):=
 ⟨r.hd,by have:=r.dp;rw[kg];omega,by have:=r.un;rw[kG];omega⟩
theorem Room.depth{k:Nat}{A:Around}(r:Room k A):A.depth<recursionLimit:=by have:=r.dp;omega
def oA:TA:=fun _ H Q=>Q [] H
def k4(ta:TE)(tr:TA):TA:=fun σ H Q=>ta σ H fun x H1=>tr σ H1 fun xs H2=>Q (x::xs) H2
section
variable{X:Cx}{e:Expr}{es:List Expr}{te:TE}{t:TA}{pos:Pos}
theorem uS:PA X [] oA:=fun _ _ _ _ H Q I h=>Calls.spliced_nil ⟨[],H,I,.nil,h⟩
theorem s0(ha:PE X e te)(hr:PA X es t)(hs:starEach (e::es) X.env=(false,eval e X.env)::starEach es X.env:=by rfl):PA X (e::es) (k4 te t):=by
 intro pos pins s σ H Q I h
 rw[hs]
 show wpAny _ _ (spliced ((false,eval e X.env)::backTo pos (starEach es X.env))) _ _ s
 refine Calls.spliced_cons (qt (ha pins s σ H _ I h) fun u s1 ⟨x,H1,I1,r1,q1⟩=>?_)
 exact qt (hr pos pins s1 σ H1 _ I1 q1) fun us s2 ⟨xs,H2,I2,r2,q2⟩=>⟨x::xs,H2,I2,.cons r1 r2,q2⟩
def vk(t:TA):TE:=fun σ H Q=>t σ H fun xs H1=>xs.length<=sizeLine/\∀p,H1 p=none->Q (.ref p) (upd H1 p (.tup xs))
def tY(t:TA):TE:=fun σ H Q=>t σ H fun xs H1=>xs.length<=sizeLine/\∀p,H1 p=none->Q (.ref p) (upd H1 p (.lst xs))
theorem vh{x1}(h:PA X es t):PE X (.Tuple es x1 pos) (vk t):=by
 intro pins s σ H Q I hq
 refine wpAny_Tuple_spliced (qt (h pos pins s σ H _ I hq) fun us s1 ⟨xs,H1,I1,r,z,q⟩=>⟨by rw[<- r.length];exact z,?_⟩)
 have hf:H1 s1.heap.objs.size=none:=I1.hok.fresh (Nat.le_refl _)
 refine⟨.ref s1.heap.objs.size,upd H1 s1.heap.objs.size (.tup xs),I1.laid (t':=s1.toks) (fun b u e=>Heap.get?_push_of_some _ e) (Nat.le_refl _) ?_,rfl,q _ hf⟩
 exact⟨z,us,r,⟨_,Heap.get?_push_size _ rfl,rfl,_,rfl⟩⟩
theorem uD(h:PA X es t):PE X (.List es pos) (tY t):=by
 intro pins s σ H Q I hq
 refine wpAny_List_spliced (qt (h pos pins s σ H _ I hq) fun us s1 ⟨xs,H1,I1,r,z,q⟩=>⟨by rw[<- r.length];exact z,?_⟩)
 have hf:H1 s1.heap.objs.size=none:=I1.hok.fresh (Nat.le_refl _)
 refine⟨.ref s1.heap.objs.size,upd H1 s1.heap.objs.size (.lst xs),I1.laid (t':=s1.toks) (fun b u e=>Heap.get?_push_of_some _ e) (Nat.le_refl _) ?_,rfl,q _ hf⟩
 exact⟨z,us,0,r,Heap.get?_push_size _ rfl⟩
end
abbrev Sp:=List V->Hp->VK->XK->Prop
abbrev a6:=List Env->Hp->Shared->XK->Value->Shared->Prop
structure Env0(P:Program)(w:World)(K:Frag)(mg:Str->Option Value)(base:Heap)(A:Around)(outer:List Env)(s:Shared)(H:Hp):Prop where
 frames:A.frames=some outer
 mod:Mod K mg base
 bs:∀b o,base.get? b=some o->s.heap.get? b=some o/\H b=none
 bsz:base.objs.size<=s.heap.objs.size
 funs:s.heap.FunFrames base outer
 frf:∀b∈aC outer,H b=none
 hok:HOk P w H s.heap
 bare:AllBare s.gens
def CE(outer:List Env)(P:Program)(w:World)(H:Hp)(s:Shared)(Q:VK)(u:Value)(s':Shared):Prop:=
 ∃v H',s'.os=s.os/\AllBare s'.gens/\Un (aC outer) [] H H' s.heap s'.heap/\HOk P w H' s'.heap/\RelV v u/\Q v H'
def CR(CX:a6)(outer:List Env)(P:Program)(w:World)(H:Hp)(s:Shared)(Q:VK)(E:XK)(r:Result)(s':Shared):Prop:=
 match r with
 | .ok (.ret u)=>CE outer P w H s Q u s'
 | .ok _=>False
 | .error e=>CX outer H s E e s'
structure FnOk(P:Program)(w:World)(K:Frag)(mg:Str->Option Value)(base:Heap)(CX:a6)(k:Nat)(f:Addr)(fd:FuncData)(ps:List Str)(sp:Sp):Prop where
 len:∀vs H Q E,sp vs H Q E->vs.length=ps.length
 run:∀(A:Around) (outer:List Env) (s:Shared) (H:Hp) (args:Args) (us:List Value) (vs:List V) (Q:VK) (E:XK),Room k A->Env0 P w K mg base A outer s H->BindsTo s fd args (ps.zip us)->Vals vs us->sp vs H Q E->
  codeAny (model P w) A (.call (.ref f) args) (CR CX outer P w H s Q E) s
theorem Env0.make{P:Program}{w:World}{K:Frag}{mg:Str->Option Value}{base:Heap}{A:Around}{outer:List Env}{s:Shared}{H:Hp}(e:Env0 P w K mg base A outer s H)(C:Addr)(us:List Value)(kw:List (Str×Value)):
  Env0 P w K mg base (A.under (.builtin "type.__call__" ⟨.ref C::us,kw⟩)) outer s H:=⟨by first|exact e.frames|(simpa [Around.under,Code.envs,Code.isFrame,pushEnvs]using e.frames),e.mod,e.bs,e.bsz,e.funs,e.frf,e.hok,e.bare⟩
section
variable{X:Cx}{pins:List (Addr×Obj)}{σ:St}{H:Hp}{s s':Shared}
theorem Inv.env0(I:Inv X pins σ H s):Env0 X.prog X.w X.K X.mg X.base X.A X.stack s H:=
 ⟨I.ok.frames,I.ok.mod,I.bs,Nat.le_trans I.ok.bsz I.sz,I.stack,I.stkFree,I.hok,I.bare⟩
theorem Inv.after{Q:VK}{u:Value}(I:Inv X pins σ H s)(h:CE X.stack X.prog X.w H s Q u s'):EP X pins σ Q u s':=by
 obtain⟨v,H',os,bare,un,hok,r,q⟩:=h
 obtain⟨hh,g,d,t,os'⟩:=s'
 obtain rfl:os'=s.os:=os
 exact⟨v,H',I.call (h':=hh) (g':=g) (d':=d) (t':=t) (ch:=[]) un hok bare (fun b z=>absurd z (by simp)),r,q⟩
end
def lv(sp:Sp)(dvs:List V)(E:XK)(t:TA):TE:=fun σ H Q=>t σ H fun vs H1=>sp (vs++dvs) H1 Q E
def ra(C:Addr)(sp:Sp)(dvs:List V)(E:XK)(t:TA):TE:=fun σ H Q=>t σ H fun vs H1=>∀x dx,H1 x=none->H1 dx=none->dx≠x->
 sp (.ref x::(vs++dvs)) (upd (upd H1 dx (.own x)) x (.ins C dx [])) (fun v H2=>v= .non/\Q (.ref x) H2) E
def Binds(K:Frag)(fd:FuncData)(ps:List Str)(ds:List Value):Prop:=
 ∀(s:Shared) (us:List Value),K.In s.heap->(us++ds).length=ps.length->BindsTo s fd ⟨us,[]⟩ (ps.zip (us++ds))
theorem Binds.all{K:Frag}{fd:FuncData}{ps:List Str}(h:∀us:List Value,us.length=ps.length->bindArgs fd ⟨us,[]⟩=pure (ps.zip us)):Binds K fd ps []:=fun s us _ hl=>by
 rw[List.append_nil]at hl⊢
 exact .of_eq (h us hl)
def bj(CX:a6)(X:Cx)(E:XK):Prop:=∀(pins:List (Addr×Obj)) (σ:St) (H:Hp) (s:Shared) (e:Value) (s':Shared),Inv X pins σ H s->CX X.stack H s E e s'->X.xe e s'
section
variable{X:Cx}{CX:a6}{k:Nat}{f C:Addr}{fd:FuncData}{ps:List Str}{sp:Sp}{dvs:List V}{ds:List Value}{E:XK}{x m:Str}{p pos apos:Pos}{e o:Expr}{es:List Expr}{ta:TE}{t:TA}
theorem iD{pins:List (Addr×Obj)}{σ:St}{H:Hp}{s:Shared}{Q:VK}{us:List Value}{vs:List V}(F:FnOk X.prog X.w X.K X.mg X.base CX k f fd ps sp)(hr:Room k X.A)(hb:Binds X.K fd ps ds)(hd:Vals dvs ds)(hx:bj CX X E)
  (I:Inv X pins σ H s)(r:Vals vs us)(h:sp (vs++dvs) H Q E):wpAny (model X.prog X.w) X.A (call (.ref f) us) (EP X pins σ Q) X.xe s:=by
 have r2:Vals (vs++dvs) (us++ds):=r.append hd
 have hl:(us++ds).length=ps.length:=by rw[<- r2.length];exact F.len _ _ _ _ h
 refine wpAny_call (codeAny_mono (F.run X.A X.stack s H ⟨us,[]⟩ (us++ds) (vs++dvs) Q E hr I.env0 (hb s us I.kIn hl) r2 h) fun r s' hq=>?_)
 cases r with
 |error e=>exact hx pins σ H s e s' I hq
 |ok fl=>
  cases fl with
  |ret u=>exact I.after hq
  |next=>exact False.elim hq
  |brk=>exact False.elim hq
  |cont=>exact False.elim hq
theorem tz(F:FnOk X.prog X.w X.K X.mg X.base CX k f fd ps sp)(hr:Room k X.A)(hg:Gl X x)(hm:X.mg x=some (.ref f))(hk:W.keepIn X.K (.ref f)=true)(hb:Binds X.K fd ps ds)(hd:Vals dvs ds)(hx:bj CX X E)
  (ha:PA X (e::es) t)(hdb:(x==("__debug__":Str))=false:=by decide)(he:starEach (e::es) X.env=(false,eval e X.env)::starEach es X.env:=by rfl)(hpl:(backTo pos (starEach es X.env)).any (·.1)=false:=by rfl):
  PE X (.Call (.Name x p) (e::es) [] pos) (lv sp dvs E t):=by
 intro pins s σ H Q I h
 refine wpAny_Call_Name_kw (eo I hg hm ?_ hdb)
 refine W.callWith_K (h₀:=X.base) I.ok.mod.kin hk (qt (ha pos pins s σ H _ I h) fun us s1 ⟨vs,H1,I1,r,q⟩=>⟨I1.kIn,?_⟩) he hpl
 exact iD F hr hb hd hx I1 r q
structure Mk(K:Frag)(C f:Addr):Prop where
 makes:PySem.W.makesIn K C=true
 init:PySem.W.findIn K (.ref C) "__init__"=some (some (.ref f))
 fn:PySem.W.isFn K (.ref f)=true
 kp:PySem.W.keepIn K (.ref C)=true
theorem pq{pins:List (Addr×Obj)}{σ:St}{H:Hp}{s:Shared}{Q:VK}{us:List Value}{vs:List V}(M:Mk X.K C f)(F:FnOk X.prog X.w X.K X.mg X.base CX k f fd ps sp)(hr:Room (k+1) X.A)(hb:Binds X.K fd ps ds)(hd:Vals dvs ds)
  (hx:bj CX X E)(I:Inv X pins σ H s)(r:Vals vs us)
  (h:∀x dx,H x=none->H dx=none->dx≠x->sp (.ref x::(vs++dvs)) (upd (upd H dx (.own x)) x (.ins C dx [])) (fun v H2=>v= .non/\Q (.ref x) H2) E):
  wpAny (model X.prog X.w) X.A (call (.ref C) us) (EP X pins σ Q) X.xe s:=by
 have hq:=h (s.heap.objs.size+1) s.heap.objs.size (I.hok.fresh (Nat.le_succ _)) (I.hok.fresh (Nat.le_refl _)) (Nat.ne_of_lt (Nat.lt_succ_self _))
 have I2:=Inv.made (C:=C) I
 have r2:Vals (V.ref (s.heap.objs.size+1)::(vs++dvs)) (Value.ref (s.heap.objs.size+1)::(us++ds)):= .cons rfl (r.append hd)
 have hl:(Value.ref (s.heap.objs.size+1)::us++ds).length=ps.length:=by
  have e:=r2.length
  rw[F.len _ _ _ _ hq]at e
  exact e.symm
 refine wpAny_call (oS (f:=f) I.kIn M.makes M.init (beq_iff_eq.mp M.fn) (codeAny_mono (F.run _ X.stack _ _ ⟨Value.ref (s.heap.objs.size+1)::us,[]⟩ (Value.ref (s.heap.objs.size+1)::(us++ds)) _ _ E (hr.make C us [])
  (I2.env0.make C us []) (hb _ (Value.ref (s.heap.objs.size+1)::us) I2.kIn hl) r2 hq) fun r s' hq'=>?_))
 cases r with
 |error e=>exact hx pins σ _ _ e s' I2 hq'
 |ok fl=>
  cases fl with
  |ret u=>
   obtain⟨v,H',I3,rv,ev,q3⟩:=I2.after hq'
   subst ev
   exact⟨rv,⟨V.ref (s.heap.objs.size+1),H',I3,rfl,q3⟩⟩
  |next=>exact False.elim hq'
  |brk=>exact False.elim hq'
  |cont=>exact False.elim hq'
theorem tf(M:Mk X.K C f)(F:FnOk X.prog X.w X.K X.mg X.base CX k f fd ps sp)(hr:Room (k+1) X.A)(hg:Gl X x)(hm:X.mg x=some (.ref C))(hb:Binds X.K fd ps ds)(hd:Vals dvs ds)(hx:bj CX X E)
  (ha:PA X (e::es) t)(hdb:(x==("__debug__":Str))=false:=by decide)(he:starEach (e::es) X.env=(false,eval e X.env)::starEach es X.env:=by rfl)(hpl:(backTo pos (starEach es X.env)).any (·.1)=false:=by rfl):
  PE X (.Call (.Name x p) (e::es) [] pos) (ra C sp dvs E t):=by
 intro pins s σ H Q I h
 refine wpAny_Call_Name_kw (eo I hg hm ?_ hdb)
 refine W.callWith_K (h₀:=X.base) I.ok.mod.kin M.kp (qt (ha pos pins s σ H _ I h) fun us s1 ⟨vs,H1,I1,r,q⟩=>⟨I1.kIn,?_⟩) he hpl
 exact pq M F hr hb hd hx I1 r q
end
section
variable{X:Cx}{CX:a6}{k:Nat}{f C:Addr}{fd:FuncData}{ps ks:List Str}{sp:Sp}{E:XK}{x m:Str}{p pos apos kpos:Pos}{e o:Expr}{es:List Expr}{kws:List Keyword}{te ta:TE}{t tk:TA}{nm:Option Str}
variable{g:List Value->List Value->List Value}{gV:List V->List V->List V}
end
structure FnScope(N P:List Str)(sc:Scope):Prop where
 kind:sc.kind= .function
 co:sc.isCoroutine=false
 gen:sc.isGenerator=false
 nd:N.Nodup
 pre:N.take P.length=P
 par:∀x∈P,sc.names.lookup x=some .local\/sc.names.lookup x=some .cell
 nofree:∀y∈sc.names,y.2≠ .free
theorem fW{kindOf:Str->Option NameKind}{x:Str}:∀{binds:List (Str×Value)} {m:Str->Option Value},(∀v,(x,v)∉binds)->bindL kindOf binds m x=m x
 | [],_,_=>rfl
 |(n,v)::r,m,h=>by
  unfold bindL
  rw[fW fun w hw=>h w (List.mem_cons_of_mem _ hw)]
  split
  ·have:x≠n:=by rintro rfl;exact h v List.mem_cons_self
   simp [this]
  ·rfl
theorem fG{kindOf:Str->Option NameKind}{x:Str}:∀{binds:List (Str×Value)} {m:Str->Option Value},(∀v,(x,v)∉binds)->bindC kindOf binds m x=m x
 | [],_,_=>rfl
 |(n,v)::r,m,h=>by
  unfold bindC
  rw[fG fun w hw=>h w (List.mem_cons_of_mem _ hw)]
  split
  ·rfl
  ·have:x≠n:=by rintro rfl;exact h v List.mem_cons_self
   simp [this]
theorem f6{kindOf:Str->Option NameKind}{x:Str}{v:Value}:∀{P:List Str} {vs:List Value} {i:Nat} {m:Str->Option Value},P.Nodup->P[i]? =some x->vs[i]? =some v->kindOf x=some .local->
  bindL kindOf (P.zip vs) m x=some v
 | [],_,_,_,_,h,_,_=>by simp at h
 |_::_,[],_,_,_,_,h,_=>by simp at h
 |p::P,w::vs,0,m,nd,h1,h2,hk=>by
  simp at h1 h2;subst h1;subst h2
  show bindL kindOf ((p,w)::P.zip vs) m p=_
  unfold bindL
  rw[fW fun v hv=>(List.nodup_cons.mp nd).1 (List.of_mem_zip hv).1,if_pos hk]
  simp
 |p::P,w::vs,i+1,m,nd,h1,h2,hk=>by
  show bindL kindOf ((p,w)::P.zip vs) m x=_
  unfold bindL
  exact f6 (i:=i) (List.nodup_cons.mp nd).2 (by simpa using h1) (by simpa using h2) hk
theorem fL{kindOf:Str->Option NameKind}{x:Str}{v:Value}:∀{P:List Str} {vs:List Value} {i:Nat} {m:Str->Option Value},P.Nodup->P[i]? =some x->vs[i]? =some v->kindOf x≠some .local->
  bindC kindOf (P.zip vs) m x=some v
 | [],_,_,_,_,h,_,_=>by simp at h
 |_::_,[],_,_,_,_,h,_=>by simp at h
 |p::P,w::vs,0,m,nd,h1,h2,hk=>by
  simp at h1 h2;subst h1;subst h2
  show bindC kindOf ((p,w)::P.zip vs) m p=_
  unfold bindC
  rw[fG fun v hv=>(List.nodup_cons.mp nd).1 (List.of_mem_zip hv).1,if_neg hk]
  simp
 |p::P,w::vs,i+1,m,nd,h1,h2,hk=>by
  show bindC kindOf ((p,w)::P.zip vs) m x=_
  unfold bindC
  exact fL (i:=i) (List.nodup_cons.mp nd).2 (by simpa using h1) (by simpa using h2) hk
def Qt(N:List Str)(vs:List V):St:=vs.map some++List.replicate (N.length-vs.length) none
def Z3(CX:a6)(P:Program)(w:World)(K:Frag)(mg:Str->Option Value)(base:Heap)(N:List Str)(qual:Str)(scope:Scope)(f:Addr)(cd:Value)(A:Around)(outer:List Env)(s:Shared)(H:Hp)(E:XK):Cx where
 prog:=P
 w:=w
 K:=K
 mg:=mg
 base:=base
 A:=A.deeper (envOfC qual scope s.heap.objs.size f cd)
 N:=N
 s₀:=s
 H₀:=H
 env:=envOfC qual scope s.heap.objs.size f cd
 outer:=outer
 stack:=envOfC qual scope s.heap.objs.size f cd::outer
 ex:=[]
 calm:=true
 fn:=fun _=>true
 pn:=[]
 xe:=fun e s'=>wpAny (model P w) (A.deeper (envOfC qual scope s.heap.objs.size f cd)) (leaving (envOfC qual scope s.heap.objs.size f cd) e) (fun _ s''=>CX outer H s E e s'') (fun e' s''=>CX outer H s E e' s'') s'
theorem ia{sc:Scope}{n:Nat}{x:Str}(h:sc.names.lookup x=some .cell):∃c,(cellsFrom n sc.names []).lookup x=some c:=by
 have q:=W.cellsFrom_some sc.names n [] (.inl h)
 exact Option.isSome_iff_exists.mp q
theorem mH{CX:a6}{P:Program}{w:World}{K:Frag}{mg:Str->Option Value}{base:Heap}{N ps:List Str}{qual:Str}{scope:Scope}{f:Addr}{cd:Value}{A:Around}{outer:List Env}{s s1:Shared}{H:Hp}{E:XK}{us:List Value}{vs:List V}
  (S:FnScope N ps scope)(hd:A.handled=none)(e0:Env0 P w K mg base A outer s H)(hl:vs.length=ps.length)(r:Vals vs us)
  (x:InCallC s s.heap.objs.size (bindL (envOfC qual scope s.heap.objs.size f cd).kindOf (ps.zip us) fun _=>none) (cellsFrom (s.heap.objs.size+1) scope.names []) (bindC (envOfC qual scope s.heap.objs.size f cd).kindOf (ps.zip us) fun _=>none) s1):
  Inv (Z3 CX P w K mg base N qual scope f cd A outer s H E) [] (Qt N vs) H s1:=by
 have hpl:ps.length<=N.length:=by have:=congrArg List.length S.pre;rw[List.length_take]at this;omega
 obtain⟨h1,tk,rfl,hk⟩:=x.done
 have noA:∀b:Addr,b∉(Z3 CX P w K mg base N qual scope f cd A outer s H E).ex:=fun b z=>absurd (show b∈([]:List Addr)from z) (by simp)
 refine⟨⟨e0.mod,S.kind,rfl,rfl,Nat.le_refl _,fun y z c h1 h2=>?_,fun y hy=>?_,fun y c _ h=>?_,fun _=>hd,Around.frames_deeper e0.frames,.inr ⟨rfl,rfl⟩,fun b z=>absurd z (noA b),e0.bs,e0.bsz,fun b _ _=>noA b,fun b z=>absurd z (noA b),e0.funs,e0.frf⟩,
  rfl,e0.bare,Un.kept hk,⟨_,x.toInCall.ns,fun i y v h1 h2 h3=>?_⟩,fun y c h=>⟨_,x.cell y c h⟩,e0.hok.fresh (Nat.le_refl _),fun y c h=>?_,fun p hp=>absurd (show p∈([]:List (Addr×Obj))from hp) (by simp),e0.hok.kept hk,?_⟩
 ·exact name_of_addr x.apart (PySem.mem_of_lookup h1) (PySem.mem_of_lookup h2)
 ·have hy:scope.names.lookup y=some .cell\/scope.names.lookup y=some .free:=hy
  rcases hy with hy|hy
  ·exact ia hy
  ·exact absurd rfl (S.nofree _ (PySem.mem_of_lookup hy))
 ·exact Nat.le_of_lt (x.above y c (PySem.mem_of_lookup h))
 ·have hi:i<vs.length:=by
   unfold Qt at h2
   by_cases hi:i<vs.length
   ·exact hi
   ·rw[List.getElem?_append_right (by simpa using hi)]at h2
    rw[List.getElem?_replicate]at h2
    split at h2<;>cases h2
  have ha:vs[i]? =some v:=by
   unfold Qt at h2
   rw[List.getElem?_append_left (by simpa using hi),List.getElem?_map]at h2
   cases e:vs[i]? with
   |none=>rw[e]at h2;cases h2
   |some a=>rw[e]at h2;cases h2;rfl
  obtain⟨u,hu,rv⟩:=r.get ha
  have hp:ps[i]? =some y:=by
   rw[<- S.pre,List.getElem?_take_of_lt (by omega)];exact h1
  have ndP:ps.Nodup:=by rw[<- S.pre];exact S.nd.sublist (List.take_sublist _ _)
  refine⟨u,rv,?_⟩
  rcases S.par y (List.mem_of_getElem? hp)with k|k
  ·exact .inl ⟨k,f6 ndP hp hu k⟩
  ·obtain⟨c,e⟩:=ia (n:=s.heap.objs.size+1) k
   refine .inr ⟨.inl k,c,e,?_⟩
   have q:=x.cell y c e
   rw[fL ndP hp hu (by show scope.names.lookup y≠_;rw[k];decide)]at q
   exact q
 ·exact e0.hok.fresh (Nat.le_of_lt (x.above y c (PySem.mem_of_lookup h)))
 ·unfold Qt
  show _=N.length
  rw[List.length_append,List.length_map,List.length_replicate]
  omega
theorem v6{CX:a6}{P:Program}{w:World}{K:Frag}{mg:Str->Option Value}{base:Heap}{k:Nat}{f:Addr}{name qual:Str}{params:Arguments}{body:List Stmt}{scope:Scope}{dV kV doc pm cdv ct oc:Value}{an od:Option Addr}
  {osl:Array (Option Value)}{N ps:List Str}{sp:Sp}(lk:K.lookup f=some ⟨oc,od,.func (W.fnOf name qual params body scope dV kV doc pm an cdv ct),osl⟩)(hcd:W.codeIn K cdv qual=true)(S:FnScope N ps scope)
  (len:∀vs H Q E,sp vs H Q E->vs.length=ps.length)
  (hbody:∀(A:Around) (outer:List Env) (s:Shared) (H:Hp) (vs:List V) (Q:VK) (E:XK),Room k (A.deeper (envOfC qual scope s.heap.objs.size f cdv))->sp vs H Q E->
   ∃t,PSs (Z3 CX P w K mg base N qual scope f cdv A outer s H E) body t/\t {nx:=fun _ H'=>Q .non H',rt:=Q} (Qt N vs) H):
  FnOk P w K mg base CX (k+1) f (W.fnOf name qual params body scope dV kV doc pm an cdv ct) ps sp:=by
 refine⟨len,fun A outer s H args us vs Q E hr e0 hb r hsp=>?_⟩
 have hl:=len _ _ _ _ hsp
 have KX:K.In s.heap:=e0.mod.kin.keeps fun b o e=>(e0.bs b o e).1
 have lim:s.heap.NoLimit:=e0.mod.nolimit.keeps fun b o e=>(e0.bs b o e).1
 have hkind:∀y∈ps.zip us,scope.names.lookup y.1=some .local\/(scope.names.lookup y.1=some .cell/\((cellsFrom (s.heap.objs.size+1) scope.names []).lookup y.1).isSome=true):=fun⟨n,v⟩ hy=>by
  rcases S.par n (List.of_mem_zip hy).1 with q|q
  ·exact .inl q
  ·exact .inr ⟨q,W.cellsFrom_some _ _ _ (.inl q)⟩
 refine codeAny_call_function hr.depth (KX _ _ lk) rfl S.co S.gen rfl (W.codeRec_of KX hcd) (hb _ _ _ _ ?_)
 refine wpAny_newFunctionEnv_cells S.kind hkind fun env he s1 x=>?_
 subst he
 refine⟨lim.keeps x.toInCall.keep,codeAny_func ?_⟩
 obtain⟨t,ht,hq⟩:=hbody A outer s H vs Q E (hr.deeper _) hsp
 have I:Inv (Z3 CX P w K mg base N qual scope f cdv A outer s H E) [] (Qt N vs) H s1:=mH S hr.hd e0 hl r x
 refine wpAny_mono (ht [] s1 (Qt N vs) H _ I hq) (fun fl s' hs=>?_) fun e s' hs=>hs
 have fin:∀{σ':St} {H':Hp} {v:V} {u:Value},Inv (Z3 CX P w K mg base N qual scope f cdv A outer s H E) [] σ' H' s'->RelV v u->Q v H'->CE outer P w H s Q u s':=
  fun{σ' H' v u} J rv q=>⟨v,H',J.os,J.bare,J.base,J.hok,rv,q⟩
 cases fl with
 |ret u=>
  obtain⟨v,σ',H',J,rv,q⟩:=hs
  exact fin J rv q
 |next=>
  obtain⟨σ',H',J,q⟩:=hs
  exact fin (v:=V.non) (u:=Value.none) J rfl q
 |brk=>
  obtain⟨_,_,_,q⟩:=hs
  exact False.elim q
 |cont=>
  obtain⟨_,_,_,q⟩:=hs
  exact False.elim q
section
variable{X:Cx}{x:Str}{p pos:Pos}{e:Expr}{es:List Expr}{t:TA}{id T:String}{r:List V->Hp->VK->Prop}
def rK(r:List V->Hp->VK->Prop)(t:TA):TE:=fun σ H Q=>t σ H fun vs H1=>r vs H1 Q
theorem oj(hc:qW X (.builtin id) r)(hg:Gl X x)(hm:X.mg x=none)(hv:bootBuiltins x=some (.builtin id))(ha:PA X (e::es) t)(hn:x≠"__name__":=by decide)(hdb:(x==("__debug__":Str))=false:=by decide)
  (he:starEach (e::es) X.env=(false,eval e X.env)::starEach es X.env:=by rfl)(hpl:(backTo pos (starEach es X.env)).any (·.1)=false:=by rfl):PE X (.Call (.Name x p) (e::es) [] pos) (rK r t):=by
 intro pins s σ H Q I h
 refine wpAny_Call_Name_kw (QV I hg hm hv ?_ hn hdb)
 exact PyProof.Rows.callWith_builtin1 (qt (ha pos pins s σ H _ I h) fun us s1 ⟨vs,H1,I1,r1,q1⟩=>hc pins s1 σ H1 vs us Q I1 r1 q1) he hpl
theorem mh(hc:qW X (.type T) r)(hg:Gl X x)(hm:X.mg x=none)(hv:bootBuiltins x=some (.type T))(ha:PA X (e::es) t)(hn:x≠"__name__":=by decide)(hdb:(x==("__debug__":Str))=false:=by decide)
  (he:starEach (e::es) X.env=(false,eval e X.env)::starEach es X.env:=by rfl)(hpl:(backTo pos (starEach es X.env)).any (·.1)=false:=by rfl):PE X (.Call (.Name x p) (e::es) [] pos) (rK r t):=by
 intro pins s σ H Q I h
 refine wpAny_Call_Name_kw (QV I hg hm hv ?_ hn hdb)
 exact PyProof.Rows.callWith_type1 (qt (ha pos pins s σ H _ I h) fun us s1 ⟨vs,H1,I1,r1,q1⟩=>hc pins s1 σ H1 vs us Q I1 r1 q1) he hpl
end
end L2
namespace HT
open PySem PyProof.Rows
section
open PySem.SeqAt
open PySem.AutoSeq1 (wpAny_loadPart')
open PySem.MeetsSeq PySem.MeetsSeq2 PySem.MeetsSeq3
end
section
variable{prog:Program}{w:World}{A:Around}{E:Value->Shared->Prop}{s:Shared}
theorem cat_tup{t b:Addr}{vs ws:List Value}{Q:Value->Shared->Prop}(ht:IsTup s.heap t vs.toArray)(hb:IsTup s.heap b ws.toArray)(hv:vs≠[])
  (h1:ws=[]->Q (.ref t) s)(h2:ws≠[]->Q (.ref s.heap.objs.size) {s with heap:=s.heap.push {cls:= .type "tuple",data:= .seq (vs++ws).toArray}})
  (hsz:vs.length+ws.length<=sizeLine):wpAny (model prog w) A (binaryOp .Add (.ref t) (.ref b)) Q E s:=by
 obtain⟨⟨cls,dd,data,sl⟩,ho,hc,n,hd⟩:=id ht
 obtain⟨⟨cls2,dd2,data2,sl2⟩,ho2,hc2,n2,hd2⟩:=id hb
 simp only at hc hd hc2 hd2
 subst hc hd hc2 hd2
 have e:vs.toArray++ws.toArray=(vs++ws).toArray:=by simp
 by_cases hw:ws=[]
 ·exact concat_meets ⟨_,ho,rfl⟩ ⟨_,ho2,rfl⟩ noFill_tuple_add seq_tuple_add PySem.F.slot_tuple_add PySem.F.entry_tuple_add (PySem.F.args_tuple_add_2 _ _)
   (tuple_addW1 t b vs.toArray ws.toArray n n2 dd dd2 sl sl2 (by simpa using hv) (by simp [hw])) ⟨ho,ho2,h1 hw⟩
 ·refine concat_meets ⟨_,ho,rfl⟩ ⟨_,ho2,rfl⟩ noFill_tuple_add seq_tuple_add PySem.F.slot_tuple_add PySem.F.entry_tuple_add (PySem.F.args_tuple_add_2 _ _)
   (tuple_addW2 t b vs.toArray ws.toArray n n2 dd dd2 sl sl2 (by simpa using hv) (by simpa using hw) (by rw[List.size_toArray,List.size_toArray];exact hsz)) ⟨ho,ho2,?_⟩
  rw[e]
  exact h2 hw
def sIx(n d:Nat):Option Int->Nat
 |none=>d
 |some v=>if v<0 then(v+(n:Int)).toNat else min v.toNat n
theorem vq(n d:Nat)(hd:d<=n)(o:Option Int):sIx n d o<=n:=by
 cases o with
 |none=>exact hd
 |some v=>
  show(if v<0 then(v+(n:Int)).toNat else min v.toNat n)<=n
  by_cases hv:v<0
  ·rw[if_pos hv];omega
  ·rw[if_neg hv];exact Nat.min_le_right _ _
theorem jS(v:Int)(n d:Nat):(if v<0 then max (v+(n:Int)) 0 else min v (n:Int))=((sIx n d (some v):Nat):Int):=by
 show(if v<0 then max (v+(n:Int)) 0 else min v (n:Int))=(((if v<0 then(v+(n:Int)).toNat else min v.toNat n):Nat):Int)
 by_cases hv:v<0
 ·simp only[if_pos hv];omega
 ·simp only[if_neg hv];omega
theorem kY(lo hi:Option Int)(n:Nat):Builtin.Slice.sliceAdjust lo hi 1 (n:Int)=(((sIx n 0 lo:Nat):Int),((sIx n n hi:Nat):Int)):=by
 have h1:¬((1:Int)<0):=by omega
 unfold Builtin.Slice.sliceAdjust
 simp only[h1,if_false]
 refine Prod.ext ?_ ?_
 ·cases lo with
  |none=>rfl
  |some v=>exact jS v n 0
 ·cases hi with
  |none=>rfl
  |some v=>exact jS v n n
theorem lw(i j:Nat):Builtin.Slice.slicePlaces (i:Int) (j:Int) 1=j-i:=by
 unfold Builtin.Slice.slicePlaces
 have h1:(1:Int)>0:=by omega
 simp only[h1,if_true,Int.ediv_one]
 split<;>omega
theorem dw{v:Value}{o:Option Int}{Q:Option Int->Shared->Prop}(p:IsPart v o)(h:Q o s):wpAny (model prog w) A (Builtin.Slice.slicePartIndex v) Q E s:=by
 cases p with
 |none=>exact slicePart_none h
 |int i t=>exact slicePart_int h
theorem sliceApplied_gen{sl:Addr}{vl vu:Value}{lo hi:Option Int}{n:Nat}{Q:Int×Int×Nat->Shared->Prop}(hs:s.heap.IsSliceOf sl vl vu .none)(pl:IsPart vl lo)(pu:IsPart vu hi)
  (h:Q (((sIx n 0 lo:Nat):Int),1,sIx n n hi-sIx n 0 lo) s):wpAny (model prog w) A (Builtin.Slice.sliceApplied (.ref sl) (pure (n:Int))) Q E s:=by
 obtain⟨os,hos,hcs,hds⟩:=id hs
 unfold Builtin.Slice.sliceApplied Builtin.Slice.sliceFields
 refine wpAny_bind (wpAny_bind (wpAny_field hos hds (x:=vl) rfl (wpAny_bind (wpAny_field hos hds (x:=vu) rfl (wpAny_bind (wpAny_field hos hds (x:= .none) rfl (wpAny_pure ?_)))))))
 refine wpAny_bind (slicePart_none ?_)
 show wpAny _ _ (if((1:Int)==0)=true then _ else _) _ _ s
 rw[if_neg (by decide)]
 refine wpAny_bind (dw pl (wpAny_bind (dw pu (wpAny_bind (wpAny_pure ?_)))))
 show wpAny _ _ (match Builtin.Slice.sliceAdjust lo hi 1 (n:Int)with|(lo,hi)=>pure (lo,(1:Int),Builtin.Slice.slicePlaces lo hi 1)) _ _ s
 rw[kY lo hi n]
 show wpAny _ _ (pure (((sIx n 0 lo:Nat):Int),(1:Int),Builtin.Slice.slicePlaces ((sIx n 0 lo:Nat):Int) ((sIx n n hi:Nat):Int) 1)) _ _ s
 rw[lw]
 exact wpAny_pure h
theorem oX(xs:Array Value)(i k:Nat):((List.range k).filterMap fun(m:Nat)=>xs[((i:Int)+(m:Int)*1).toNat]?).toArray=((xs.toList.drop i).take k).toArray:=by
 have e:(fun(m:Nat)=>xs[((i:Int)+(m:Int)*1).toNat]?)=fun m=>xs[i+m]? :=by
  funext m
  have:((i:Int)+(m:Int)*1).toNat=i+m:=by omega
  rw[this]
 rw[e]
 have:=pick_run xs i k
 rw[List.filterMap_map]at this
 have e2:((fun x=>xs[x]?)∘fun x=>i+x)=fun m=>xs[i+m]? :=rfl
 rw[e2]at this
 rw[this]
theorem getItem_tuple_cut{t sl:Addr}{items:Array Value}{vl vu:Value}{lo hi:Option Int}{Q:Value->Shared->Prop}(ht:IsTup s.heap t items)(hs:s.heap.IsSliceOf sl vl vu .none)(pl:IsPart vl lo)(pu:IsPart vu hi)
  (hw:¬(sIx items.size 0 lo=0/\sIx items.size items.size hi=items.size))
  (h:Q (.ref s.heap.objs.size) {s with heap:=s.heap.push {cls:= .type "tuple",data:= .seq ((items.toList.drop (sIx items.size 0 lo)).take (sIx items.size items.size hi-sIx items.size 0 lo)).toArray}})
  (hsz:items.size<=sizeLine):wpAny (model prog w) A (getItem (.ref t) (.ref sl)) Q E s:=by
 have htake:sizeOk (.seq ((items.toList.drop (sIx items.size 0 lo)).take (sIx items.size items.size hi-sIx items.size 0 lo)).toArray):=by
  show((items.toList.drop (sIx items.size 0 lo)).take (sIx items.size items.size hi-sIx items.size 0 lo)).toArray.size<=sizeLine
  rw[List.size_toArray,List.length_take,List.length_drop,Array.length_toList]
  omega
 have hj:sIx items.size items.size hi<=items.size:=vq _ _ (Nat.le_refl _) hi
 obtain⟨os,hos,hcs,hds⟩:=id hs
 have hTs:s.TypeIs (.ref sl) "slice":=⟨os,hos,hcs⟩
 unfold getItem
 try with_reducible refine wpAny_holding ?_
 first|refine wpAny_bind (wpAny_pure ?_)|skip
 refine wpAny_bind (wpAny_sequenceKey ht.typeIs (by decide) ?_)
 refine wpAny_bind (wpAny_callSpecial?_slot (name:=Str.ofString "__getitem__") ht.typeIs PyProof.Rows.slot_tuple_getitem
  (wpAny_call_entry PyProof.Rows.slot_tuple_getitem ht.typeIs entry_tuple_getitem ?_ (args_tuple_getitem _ _)))
 show wpAny _ _ (Builtin.Tuple.tupleItemsOf (.ref t) >>= _) _ _ s
 refine wpAny_bind (tupleItemsOf_ ht ?_)
 refine wpAny_bind (wpAny_typeOf hTs ?_)
 rw[if_pos (by decide)]
 refine wpAny_bind (sliceApplied_gen hs pl pu ?_)
 have hno:¬((((sIx items.size 0 lo:Nat):Int)==0&&(1:Int)==1&&(sIx items.size items.size hi-sIx items.size 0 lo)==items.size)=true):=by
  intro q
  rw[Bool.and_eq_true,Bool.and_eq_true]at q
  have q1:((sIx items.size 0 lo:Nat):Int)=0:=eq_of_beq q.1.1
  have q2:sIx items.size items.size hi-sIx items.size 0 lo=items.size:=eq_of_beq q.2
  exact hw ⟨by omega,by omega⟩
 show wpAny _ _ (if(((sIx items.size 0 lo:Nat):Int)==0&&(1:Int)==1&&(sIx items.size items.size hi-sIx items.size 0 lo)==items.size)=true then _ else _) _ _ s
 rw[if_neg hno,oX]
 first
  |exact wpAny_bind (m:=Builtin.Tuple.tupleExact _) (wpAny_newObj_type (wpAny_pure ⟨_,rfl,wpAny_pure h⟩) htake)
  |exact wpAny_bind (m:=Builtin.Tuple.tupleExact _) (wpAny_newObj_type (wpAny_bind (wpAny_pure (wpAny_pure ⟨_,rfl,wpAny_pure h⟩))) htake)
  |exact wpAny_bind (wpAny_bind (m:=Builtin.Tuple.tupleExact _) (wpAny_newObj_type (wpAny_pure (wpAny_pure ⟨_,rfl,wpAny_pure h⟩)) htake))
  |exact wpAny_bind (wpAny_bind (m:=Builtin.Tuple.tupleExact _) (wpAny_newObj_type (wpAny_pure ⟨_,rfl,wpAny_pure h⟩) htake))
end
end HT
namespace L2
open PySem PySem.Spec PyProof.Rows
abbrev TO:=St->Hp->(Option Int->Hp->Prop)->Prop
def PO(X:Cx)(e:Option Expr)(t:TO):Prop:=
 ∀(pins:List (Addr×Obj)) (s:Shared) (σ:St) (H:Hp) (Q:Option Int->Hp->Prop),Inv X pins σ H s->t σ H Q->
  wpAny (model X.prog X.w) X.A (evalPart e X.env) (fun u s'=>∃o H',Inv X pins σ H' s'/\IsPart u o/\Q o H') X.xe s
def jJ:TO:=fun _ H Q=>Q none H
def rN(t:TE):TO:=fun σ H Q=>t σ H fun x H1=>∃i,x= .int i/\Q (some i) H1
section
variable{X:Cx}{e:Expr}{te:TE}{lo hi:Option Expr}{tl th:TO}{pos p2:Pos}
theorem sI:PO X none jJ:=by
 intro pins s σ H Q I h
 rw[evalPart_none]
 exact wpAny_pure ⟨none,H,I,.none,h⟩
theorem sv(h:PE X e te):PO X (some e) (rN te):=by
 intro pins s σ H Q I hw
 rw[evalPart_some]
 refine qt (h pins s σ H _ I hw) fun u s1 ⟨x,H1,I1,r1,q1⟩=>?_
 obtain⟨i,rfl,q⟩:=q1
 obtain⟨t,rfl⟩:=r1
 exact⟨some i,H1,I1,.int i t,q⟩
def mQ(X:Cx)(r:V->Option Int->Option Int->Hp->VK->Prop):Prop:=
 ∀(pins:List (Addr×Obj)) (s:Shared) (σ:St) (H:Hp) (x:V) (v vl vu:Value) (lo hi:Option Int) (sl:Addr) (Q:VK),Inv X pins σ H s->RelV x v->s.heap.IsSliceOf sl vl vu .none->IsPart vl lo->IsPart vu hi->r x lo hi H Q->
  ∃T id,typeLookup (.type T) "__getitem__"=pure (some (.builtin id))/\s.TypeIs v T/\wpAny (model X.prog X.w) X.A (getItem v (.ref sl)) (EP X pins σ Q) X.xe s
def we(r:V->Option Int->Option Int->Hp->VK->Prop)(te:TE)(tl th:TO):TE:=fun σ H Q=>te σ H fun x H1=>tl σ H1 fun l H2=>th σ H2 fun u H3=>r x l u H3 Q
theorem oK{r:V->Option Int->Option Int->Hp->VK->Prop}(hr:mQ X r)(he:PE X e te)(hl:PO X lo tl)(hu:PO X hi th):PE X (.Subscript e (.Slice lo hi none p2) pos) (we r te tl th):=by
 intro pins s σ H Q I h
 refine Subscript_ (qt (he pins s σ H _ I h) fun v s1 ⟨x,H1,I1,r1,q1⟩=>?_)
 refine wpAny_Slice (qt (hl pins s1 σ H1 _ I1 q1) fun vl s2 ⟨l,H2,I2,pl,q2⟩=>qt (hu pins s2 σ H2 _ I2 q2) fun vu s3 ⟨u,H3,I3,pu,q3⟩=>?_)
 rw[evalPart_none]
 refine wpAny_pure ?_
 have I4:Inv X pins σ H3 {s3 with heap:=s3.heap.push {cls:= .type "slice",data:= .fields #[vl,vu,.none]}}:=I3.kept (t':=s3.toks) fun b ob q=>Heap.get?_push_of_some _ q
 obtain⟨T,id,hT,ht,hg⟩:=hr pins {s3 with heap:=s3.heap.push {cls:= .type "slice",data:= .fields #[vl,vu,.none]}} σ H3 x v vl vu l u s3.heap.objs.size Q I4 r1 (Heap.IsSliceOf.new ..) pl pu q3
 show wpAny (model X.prog X.w) X.A (subscriptTail e (.Slice lo hi none p2) v (.ref s3.heap.objs.size)) (EP X pins σ Q) X.xe {s3 with heap:=s3.heap.push {cls:= .type "slice",data:= .fields #[vl,vu,.none]}}
 exact tail_any (ops:=[.ref s3.heap.objs.size,v]) ht hT hg (by with_unfolding_all rfl)
def ZB(xs:List V)(lo hi:Option Int):List V:=(xs.drop (HT.sIx xs.length 0 lo)).take (HT.sIx xs.length xs.length hi-HT.sIx xs.length 0 lo)
theorem bZ(xs:List V)(lo hi:Option Int):(ZB xs lo hi).length<=xs.length:=by
 unfold ZB
 rw[List.length_take,List.length_drop]
 omega
def wv(K:Frag):V->Option Int->Option Int->Hp->VK->Prop:=fun x lo hi H Q=>∃a xs,x= .ref a/\SqT K H a xs/\
 ¬(HT.sIx xs.length 0 lo=0/\HT.sIx xs.length xs.length hi=xs.length)/\∀p,H p=none->Q (.ref p) (upd H p (.tup (ZB xs lo hi)))
theorem uL:mQ X (wv X.K):=by
 intro pins s σ H x v vl vu lo hi sl Q I rx hs pl pu h
 obtain⟨a,xs,rfl,hx,hw,q⟩:=h
 cases rx
 obtain⟨its,r,ht,hz⟩:=I.tuple hx
 have hlen:its.toArray.size=xs.length:=by rw[List.size_toArray];exact r.length.symm
 refine⟨"tuple",_,PyProof.Rows.slot_tuple_getitem.lookup,ht.typeIs,?_⟩
 refine HT.getItem_tuple_cut ht hs pl pu (by rw[hlen];exact hw) ?_ (by rw[hlen];exact hz)
 rw[hlen]
 refine⟨.ref s.heap.objs.size,_,I.laid (t':=s.toks) (o:= .tup (ZB xs lo hi)) (fun b ob q=>Heap.get?_push_of_some _ q) (Nat.le_refl _) ?_,rfl,q _ (I.hok.fresh (Nat.le_refl _))⟩
 exact⟨Nat.le_trans (bZ xs lo hi) hz,_,(r.drop (HT.sIx xs.length 0 lo)).take (HT.sIx xs.length xs.length hi-HT.sIx xs.length 0 lo),IsTup.new _ _⟩
def vL(K:Frag):R2:=fun x y H Q=>∃a b xs ys,x= .ref a/\y= .ref b/\SqT K H a xs/\SqT K H b ys/\xs≠[]/\xs.length+ys.length<=sizeLine/\
 (ys=[]->Q (.ref a) H)/\(ys≠[]->∀p,H p=none->Q (.ref p) (upd H p (.tup (xs++ys))))
theorem Vals.nil_iff{xs:List V}{us:List Value}(r:Vals xs us):us=[]↔xs=[]:=by
 cases r with
 |nil=>simp
 |cons _ _=>simp
theorem sT:q8 X (binaryOp .Add) (vL X.K):=by
 intro pins s σ H x y v u Q I rx ry h
 obtain⟨a,b,xs,ys,rfl,rfl,ha,hb,hx,hz,q1,q2⟩:=h
 cases rx
 cases ry
 obtain⟨its,r1,p1,_⟩:=I.tuple ha
 obtain⟨its2,r2,p2,_⟩:=I.tuple hb
 refine HT.cat_tup p1 p2 (fun z=>hx (r1.nil_iff.mp z)) (fun z=>⟨.ref a,H,I,rfl,q1 (r2.nil_iff.mp z)⟩) (fun z=>?_) (by rw[<- r1.length,<- r2.length];exact hz)
 refine⟨.ref s.heap.objs.size,_,I.laid (t':=s.toks) (o:= .tup (xs++ys)) (fun b ob q=>Heap.get?_push_of_some _ q) (Nat.le_refl _) ?_,rfl,q2 (fun w=>z (r2.nil_iff.mpr w)) _ (I.hok.fresh (Nat.le_refl _))⟩
 exact⟨by rw[List.length_append];exact hz,_,r1.append r2,IsTup.new _ _⟩
end
def Z4(n:Nat)(i:Int):Option Nat:=if 0<=i then(if i<n then some i.toNat else none)else if -(n:Int)<=i then some (i+n).toNat else none
def QX{α:Type}(xs:List α)(i:Int):Option α:=(Z4 xs.length i).bind fun j=>xs[j]?
theorem jz{n:Nat}{i:Int}{j:Nat}(h:Z4 n i=some j):seqIndex? i n=some j/\j<n/\ -(n:Int)<=i/\i<n:=by
 unfold Z4 at h
 by_cases h0:0<=i
 ·rw[if_pos h0]at h
  by_cases h1:i<n
  ·rw[if_pos h1]at h
   have e:i.toNat=j:=Option.some.inj h
   exact⟨by rw[seqIndex_of h0 h1,e],by omega,by omega,h1⟩
  ·rw[if_neg h1]at h;cases h
 ·rw[if_neg h0]at h
  by_cases h1: -(n:Int)<=i
  ·rw[if_pos h1]at h
   have e:(i+n).toNat=j:=Option.some.inj h
   exact⟨by rw[seqIndex_neg (by omega) h1,e],by omega,h1,by omega⟩
  ·rw[if_neg h1]at h;cases h
theorem jp{α:Type}{xs:List α}{i:Int}{v:α}(h:QX xs i=some v):∃j,seqIndex? i xs.length=some j/\xs[j]? =some v/\j<xs.length/\ -(xs.length:Int)<=i/\i<xs.length:=by
 unfold QX at h
 cases e:Z4 xs.length i with
 |none=>rw[e]at h;cases h
 |some j=>
  rw[e]at h
  obtain⟨h1,h2,h3,h4⟩:=jz e
  exact⟨j,h1,h,h2,h3,h4⟩
theorem QH{α:Type}{xs:List α}{j:Nat}{v:α}(h:xs[j]? =some v):QX xs (j:Int)=some v:=by
 have hj:j<xs.length:=(List.getElem?_eq_some_iff.mp h).1
 have e:Z4 xs.length (j:Int)=some j:=by
  unfold Z4
  rw[if_pos (by omega),if_pos (by omega)];simp
 unfold QX;rw[e];exact h
def jF(b:Expr):Prop:=∀o i,subscripted b false o i=operate [o,i] (getItem o i)
def IxR(X:Cx)(r:R2):Prop:=
 ∀(value slice:Expr) (pins:List (Addr×Obj)) (s:Shared) (σ:St) (H:Hp) (x y:V) (v u:Value) (Q:VK),Inv X pins σ H s->RelV x v->RelV y u->r x y H Q->
  subscripted slice false v u=operate [v,u] (getItem v u)->wpAny (model X.prog X.w) X.A (subscriptTail value slice v u) (EP X pins σ Q) X.xe s
def c6(X:Cx)(id:String)(r:V->List V->Hp->VK->Prop):Prop:=
 ∀(pins:List (Addr×Obj)) (s:Shared) (σ:St) (H:Hp) (x:V) (xs:List V) (v:Value) (us:List Value) (Q:VK),Inv X pins σ H s->RelV x v->Vals xs us->r x xs H Q->
  wpAny (model X.prog X.w) X.A (call (.builtin id) (v::us)) (EP X pins σ Q) X.xe s
section
variable{X:Cx}{a b:Expr}{ta tb:TE}{pos:Pos}
theorem IxR.or{r r':R2}(h:IxR X r)(h':IxR X r'):IxR X (fun x y H Q=>r x y H Q\/r' x y H Q):=by
 intro value slice pins s σ H x y v u Q I rx ry q hs
 rcases q with q|q
 ·exact h value slice pins s σ H x y v u Q I rx ry q hs
 ·exact h' value slice pins s σ H x y v u Q I rx ry q hs
theorem vP{r:R2}(hr:IxR X r)(ha:PE X a ta)(hb:PE X b tb)(hs:jF b):PE X (.Subscript a b pos) (fh r ta tb):=by
 intro pins s σ H Q I h
 exact Subscript_ (o0 ha hb I h fun v u s2 x y H2 I2 rx ry q=>hr a b pins s2 σ H2 x y v u Q I2 rx ry q (hs _ _))
def uZ(K:Frag):R2:=fun x y H Q=>∃p xs i v,x= .ref p/\y= .int i/\SqL K H p xs/\QX xs i=some v/\Q v H
def uy(K:Frag):R2:=fun x y H Q=>∃p xs i v,x= .ref p/\y= .int i/\SqT K H p xs/\QX xs i=some v/\Q v H
theorem qD:IxR X (uZ X.K):=by
 intro value slice pins s σ H x y v u Q I rx ry h hs
 obtain⟨p,xs,i,z,rfl,rfl,hq,he,q⟩:=h
 cases rx
 obtain⟨t,rfl⟩:=ry
 obtain⟨its,r,pl,hz⟩:=I.list hq
 obtain⟨j,h1,h2,h3,h4,h5⟩:=jp he
 obtain⟨w,ew,rw'⟩:=r.get h2
 have hl:=r.length
 have hn:=Za
 have fin:EP X pins σ Q w s:=⟨z,H,I,rw',q⟩
 by_cases h0:0<=i
 ·have hj:i.toNat=j:=by
   rw[seqIndex_of h0 h5]at h1
   exact Option.some.inj h1
  exact item_listR pl.isList h0 (by omega) (by rw[hj];simpa using ew) fin hs
 ·have hj:(i+(its.toArray.size:Int)).toNat=j:=by
   rw[seqIndex_neg (by omega) h4]at h1
   rw[List.size_toArray,<- hl]
   exact Option.some.inj h1
  exact subscriptTail_builtinR (x:=w) pl.isList.typeIs slot_list_getitem.lookup
   (wpAny_getItem_list_neg (Q:=fun r s'=>r=w/\EP X pins σ Q r s') pl.isList (by omega) (by rw[List.size_toArray]<;>omega) (by omega) (by rw[hj];simpa using ew) ⟨rfl,fin⟩) hs
theorem zo:IxR X (uy X.K):=by
 intro value slice pins s σ H x y v u Q I rx ry h hs
 obtain⟨p,xs,i,z,rfl,rfl,hq,he,q⟩:=h
 cases rx
 obtain⟨t,rfl⟩:=ry
 obtain⟨its,r,pl,hz⟩:=I.tuple hq
 obtain⟨j,h1,h2,h3,h4,h5⟩:=jp he
 obtain⟨w,ew,rw'⟩:=r.get h2
 have hl:=r.length
 have hn:=Za
 have fin:EP X pins σ Q w s:=⟨z,H,I,rw',q⟩
 exact subscriptTail_builtinR (x:=w) pl.typeIs slot_tuple_getitem.lookup
  (getItem_tuple (j:=j) (Q:=fun r s'=>r=w/\EP X pins σ Q r s') pl (by omega) (by omega) (by rw[List.size_toArray,<- hl];exact h1) (by simpa using ew) ⟨rfl,fin⟩) hs
theorem j9(its:List Value)(n j:Nat)(u:Value):Obj.mapSeq (·.setIfInBounds j u) {cls:= .type "list",data:= .seq its.toArray n}={cls:= .type "list",data:= .seq (its.set j u).toArray n}:=by
 simp [Obj.mapSeq]
theorem Inv.lst{pins:List (Addr×Obj)}{σ:St}{H:Hp}{s:Shared}{p:Addr}{xs:List V}(I:Inv X pins σ H s)(h:H p=some (.lst xs)):
  ∃(its:List Value) (n:Nat),Vals xs its/\s.heap.get? p=some {cls:= .type "list",data:= .seq its.toArray n}/\xs.length<=sizeLine:=by
 obtain⟨z,its,n,r,e⟩:=I.hok p _ h
 exact⟨its,n,r,e,z⟩
theorem Inv.lstUpd{pins:List (Addr×Obj)}{σ:St}{H:Hp}{s:Shared}{p:Addr}{xs ys:List V}{its its':List Value}{n n':Nat}{f:Obj->Obj}(I:Inv X pins σ H s)(h:H p=some (.lst xs))
  (ho:s.heap.get? p=some {cls:= .type "list",data:= .seq its.toArray n})(hf:f {cls:= .type "list",data:= .seq its.toArray n}={cls:= .type "list",data:= .seq its'.toArray n'})(r:Vals ys its')(hz:ys.length<=sizeLine)(t:Nat):
  Inv X pins σ (upd H p (.lst ys)) {s with heap:=s.heap.update p f,toks:=t}:=by
 have e:(s.heap.update p f).get? p=some {cls:= .type "list",data:= .seq its'.toArray n'}:=by
  rw[Heap.get?_update_self f ho (by rw[hf]<;>rfl),hf]
 refine I.write (x:=p) (e:=p) (by rw[h];trivial) (.inl rfl) (fun b u hb q=>(Heap.get?_update_other _ _ (Ne.symm hb)).trans q) ⟨_,e⟩ ?_
 exact⟨hz,its',n',r,e⟩
def vH:V->V->V->Hp->(Hp->Prop)->Prop:=fun o i v H Q=>∃p xs k j,o= .ref p/\i= .int k/\H p=some (.lst xs)/\Z4 xs.length k=some j/\Q (upd H p (.lst (xs.set j v)))
theorem Q1:gH X vH:=by
 intro pins s σ H o i v ov iv u Q I ro ri rv h
 obtain⟨p,xs,k,j,rfl,rfl,hp,hj,q⟩:=h
 cases ro
 obtain⟨t,rfl⟩:=ri
 obtain⟨its,n,r,ho,hz⟩:=I.lst hp
 obtain⟨h1,h2,h3,h4⟩:=jz hj
 have hl:=r.length
 have hn:=Za
 have I':Inv X pins σ (upd H p (.lst (xs.set j v))) {s with heap:=s.heap.update p (Obj.mapSeq (·.setIfInBounds j u))}:=
  I.lstUpd hp ho (j9 its n j u) (r.set rv j) (by rw[List.length_set];exact hz) s.toks
 by_cases h0:0<=k
 ·have hk:k.toNat=j:=by
   rw[seqIndex_of h0 h4]at h1
   exact Option.some.inj h1
  exact W.ki_setAt ho h0 (by omega) (by rw[List.size_toArray,<- hl];exact h4) (by rw[hk];exact⟨_,I',q⟩)
 ·have hk:(k+(its.toArray.size:Int)).toNat=j:=by
   rw[seqIndex_neg (by omega) h3]at h1
   rw[List.size_toArray,<- hl]
   exact Option.some.inj h1
  exact W.ki_setBack ho (by omega) (by rw[List.size_toArray,<- hl];exact h3) (by omega) (by rw[hk];exact⟨_,I',q⟩)
theorem iI(lo hi:Option Int)(n:Nat):(sliceBounds lo hi none n).1=((HT.sIx n 0 lo:Nat):Int)/\(sliceBounds lo hi none n).2.1=((HT.sIx n n hi:Nat):Int)/\(sliceBounds lo hi none n).2.2=1:=by
 refine⟨?_,?_,rfl⟩
 ·cases lo with
  |none=>simp [sliceBounds,HT.sIx]
  |some i=>
   simp only[sliceBounds,HT.sIx,Option.getD_none,show(1:Int)>0 by decide,if_true]
   by_cases h:i<0
   ·simp only[h,if_true]<;>omega
   ·simp only[h,if_false]<;>omega
 ·cases hi with
  |none=>simp [sliceBounds,HT.sIx]
  |some i=>
   simp only[sliceBounds,HT.sIx,Option.getD_none,show(1:Int)>0 by decide,if_true]
   by_cases h:i<0
   ·simp only[h,if_true]<;>omega
   ·simp only[h,if_false]<;>omega
theorem gj(its:List Value)(lo hi:Option Int):slicePick its.toArray lo hi none=((its.drop (HT.sIx its.length 0 lo)).take (HT.sIx its.length its.length hi-HT.sIx its.length 0 lo)).toArray:=by
 obtain⟨h1,h2,h3⟩:=iI lo hi its.toArray.size
 unfold slicePick
 rw[h1,h2,h3]
 simp only[sliceRange_one,pick_run,List.size_toArray]<;>rfl
def wn(K:Frag):V->Option Int->Option Int->Hp->VK->Prop:=fun x lo hi H Q=>∃a xs,x= .ref a/\SqL K H a xs/\∀p,H p=none->Q (.ref p) (upd H p (.lst (ZB xs lo hi)))
theorem sV:mQ X (wn X.K):=by
 intro pins s σ H x v vl vu lo hi sl Q I rx hs pl pu h
 obtain⟨a,xs,rfl,hx,q⟩:=h
 cases rx
 obtain⟨its,r,ht,hz⟩:=I.list hx
 have hlen:=r.length
 refine⟨"list",_,slot_list_getitem.lookup,ht.isList.typeIs,?_⟩
 refine wpAny_getItem_list_slice ht.isList hs pl pu .none (by simp) ?_ (by rw[List.size_toArray]<;>omega)
 rw[gj,<- hlen]
 refine⟨.ref s.heap.objs.size,_,I.laid (t':=s.toks) (o:= .lst (ZB xs lo hi)) (fun b ob q=>Heap.get?_push_of_some _ q) (Nat.le_refl _) ?_,rfl,q _ (I.hok.fresh (Nat.le_refl _))⟩
 exact⟨Nat.le_trans (bZ xs lo hi) hz,_,0,(r.drop (HT.sIx xs.length 0 lo)).take (HT.sIx xs.length xs.length hi-HT.sIx xs.length 0 lo),Heap.get?_push_size _ rfl⟩
theorem qF:qW X (.builtin "len") (fun xs H Q=>∃p ys,xs=[.ref p]/\(SqL X.K H p ys\/SqT X.K H p ys)/\Q (.int ys.length) H):=by
 intro pins s σ H xs us Q I r h
 obtain⟨p,ys,rfl,hq,q⟩:=h
 obtain⟨u,rfl,rx⟩:=zF r
 cases rx
 have hn:=Za
 rcases hq with hq|hq
 ·obtain⟨its,r',pl,hz⟩:=I.list hq
  have hlen:=r'.length
  exact Calls.call_len_list pl.isList (by simp only[List.size_toArray]<;>omega) ⟨.int ys.length,H,I.tok _,⟨s.toks+1,by rw[List.size_toArray,hlen]⟩,q⟩
 ·obtain⟨its,r',pl,hz⟩:=I.tuple hq
  have hlen:=r'.length
  exact len_tuple pl (by simp only[List.size_toArray]<;>omega) ⟨.int ys.length,H,I.tok _,⟨s.toks+1,by rw[List.size_toArray,hlen]⟩,q⟩
theorem iq:qW X (.builtin "len") (fun xs H Q=>∃z,xs=[.str z]/\z.length<=sizeLine/\Q (.int z.length) H):=by
 intro pins s σ H xs us Q I r h
 obtain⟨z,rfl,hz,q⟩:=h
 obtain⟨u,rfl,t,rfl⟩:=zF r
 have hn:=Za
 exact len_str (by omega) ⟨.int z.length,H,I.tok _,⟨_,rfl⟩,q⟩
theorem zw:qW X (.type "list") (fun xs H Q=>∃p ys,xs=[.ref p]/\(SqL X.K H p ys\/SqT X.K H p ys)/\∀l,H l=none->Q (.ref l) (upd H l (.lst ys))):=by
 intro pins s σ H xs us Q I r h
 obtain⟨p,ys,rfl,hq,q⟩:=h
 obtain⟨u,rfl,rx⟩:=zF r
 cases rx
 have fin:∀(its:List Value),Vals ys its->ys.length<=sizeLine->∀(h':Heap) (c':Nat),(∀b o',s.heap.get? b=some o'->h'.get? b=some o')->
   h'.get? s.heap.objs.size=some {cls:= .type "list",dict:=none,data:= .seq its.toArray c',slots:= #[]}->EP X pins σ Q (.ref s.heap.objs.size) {s with heap:=h'}:=fun its r' hz h' c' kp e=>
  ⟨.ref s.heap.objs.size,_,I.laid (t':=s.toks) kp (Nat.le_refl _) (show ObjOk X.prog X.w _ h' _ (.lst ys)from⟨hz,its,c',r',e⟩),rfl,q _ (I.hok.fresh (Nat.le_refl _))⟩
 rcases hq with hq|hq
 ·obtain⟨its,r',pl,hz⟩:=I.list hq
  have hlen:=r'.length
  obtain⟨o,ho,hc,n,hd⟩:=pl.isList
  exact call_list_seq p (.inl rfl) ho hc hd (fun h' c' kp e=>fin its r' hz h' c' kp e) (by simp only[List.size_toArray]<;>omega)
 ·obtain⟨its,r',pl,hz⟩:=I.tuple hq
  have hlen:=r'.length
  obtain⟨o,ho,hc,n,hd⟩:=pl
  exact call_list_seq p (.inr rfl) ho hc hd (fun h' c' kp e=>fin its r' hz h' c' kp e) (by simp only[List.size_toArray]<;>omega)
theorem qP:qW X (.type "tuple") (fun xs H Q=>∃p ys,xs=[.ref p]/\((SqL X.K H p ys/\∀l,H l=none->Q (.ref l) (upd H l (.tup ys)))\/(SqT X.K H p ys/\Q (.ref p) H))):=by
 intro pins s σ H xs us Q I r h
 obtain⟨p,ys,rfl,h⟩:=h
 obtain⟨u,rfl,rx⟩:=zF r
 cases rx
 rcases h with⟨hq,q⟩|⟨hq,q⟩
 ·obtain⟨its,r',pl,hz⟩:=I.list hq
  have hlen:=r'.length
  refine call_tuple_list pl.isList (fun h' kp=>?_) (by simp only[List.size_toArray]<;>omega)
  have I1:Inv X pins σ H {s with heap:=h'}:=I.kept (t':=s.toks) kp
  have I2:Inv X pins σ (upd H h'.objs.size (.tup ys)) {s with heap:=h'.push {cls:= .type "tuple",data:= .seq its.toArray}}:=
   I1.laid (t':=s.toks) (fun b o e=>Heap.get?_push_of_some _ e) (Nat.le_refl _) (show ObjOk X.prog X.w _ _ _ (.tup ys)from⟨hz,its,r',IsTup.new _ _⟩)
  exact⟨.ref h'.objs.size,_,I2,rfl,q _ (I1.hok.fresh (Nat.le_refl _))⟩
 ·obtain⟨its,r',pl,hz⟩:=I.tuple hq
  exact call_tuple_same pl ⟨.ref p,H,I,rfl,q⟩
def ud(K:Frag)(T:String)(x:V)(H:Hp):Prop:=match x with
 | .str _=>T="str"
 | .int _=>T="int"
 | .ref p=>(T="list"/\∃xs,SqL K H p xs)\/(T="tuple"/\∃o,K.lookup p=some o/\o.cls= .type "tuple"/\o.dict=none)\/
   (T="dict"/\((∃kvs,H p=some (.dK kvs))\/∃kvs,H p=some (.dT kvs)))\/(T="set"/\∃S n,H p=some (.set S n))
 |_=>False
theorem mI{pins:List (Addr×Obj)}{σ:St}{H:Hp}{s:Shared}{T:String}{x:V}{v:Value}(I:Inv X pins σ H s)(r:RelV x v)(ty:ud X.K T x H):
  s.TypeIs v T/\∀a,v= .ref a->∃ob,s.heap.get? a=some ob/\ob.dict=none:=by
 cases x with
 |str z=>
  obtain⟨t,rfl⟩:=r
  cases(show T="str" from ty)
  exact⟨typeIs_str s z t,fun _ e=>nomatch e⟩
 |int i=>
  obtain⟨t,rfl⟩:=r
  cases(show T="int" from ty)
  exact⟨typeIs_int s i t,fun _ e=>nomatch e⟩
 |ref p=>
  cases r
  rcases ty with⟨rfl,xs,hq⟩|⟨rfl,o,hk,hc,hd⟩|⟨rfl,hk⟩|⟨rfl,S,n,hk⟩
  ·obtain⟨its,_,pl,_⟩:=I.list hq
   refine⟨pl.isList.typeIs,fun a e=>?_⟩
   cases e
   obtain⟨o,n,e,c,hd,_⟩:=pl
   exact⟨o,e,hd⟩
  ·refine⟨⟨o,I.kIn p o hk,hc⟩,fun a e=>?_⟩
   cases e
   exact⟨o,I.kIn _ o hk,hd⟩
  ·have z:∃o,s.heap.get? p=some o/\o.ExactDict:=by
    rcases hk with⟨kvs,hk⟩|⟨kvs,hk⟩
    ·obtain⟨_,_,_,_,o,_,_,e,ex,_⟩:=I.hok p _ hk
     exact⟨o,e,ex⟩
    ·obtain⟨_,_,_,_,o,_,_,e,ex,_⟩:=I.hok p _ hk
     exact⟨o,e,ex⟩
   obtain⟨o,e,ex⟩:=z
   refine⟨⟨o,e,ex.1⟩,fun a e2=>?_⟩
   cases e2
   exact⟨o,e,ex.2.1⟩
  ·obtain⟨o,_,_,_,e,ex,_⟩:=I.hok p _ hk
   refine⟨⟨o,e,ex.1⟩,fun a e2=>?_⟩
   cases e2
   exact⟨o,e,ex.2.1⟩
 |_=>exact False.elim ty
def ve(K:Frag)(T:String)(r:V->List V->Hp->VK->Prop)(to:TE):TE:=fun σ H Q=>to σ H fun x H1=>ud K T x H1/\r x [] H1 Q
def tS(K:Frag)(T:String)(r:V->List V->Hp->VK->Prop)(to:TE)(t:TA):TE:=fun σ H Q=>to σ H fun x H1=>ud K T x H1/\t σ H1 fun xs H2=>r x xs H2 Q
variable{o e:Expr}{es:List Expr}{to:TE}{t:TA}{name:Str}{apos cpos:Pos}{T id:String}{r:V->List V->Hp->VK->Prop}
theorem vi(pa:PlainAttrs T)(slot:Slot T name id)(hty:typeOf (.builtin id)=pure (.type "method_descriptor"))(hm:c6 X id r)(ho:PE X o to)
  (hbase:attributeBase o name X.env (eval o X.env)=eval o X.env:=by rfl)(hline:(apos.endLine==cpos.line)=true:=by rfl):PE X (.Call (.Attribute o name apos) [] [] cpos) (ve X.K T r to):=by
 intro pins s σ H Q I h
 refine wpAny_Call_method0_late hbase hline (qt (ho pins s σ H _ I h) fun v s1 ⟨x,H1,I1,r1,ty,q1⟩=>?_)
 obtain⟨h1,h2⟩:=mI I1 r1 ty
 exact⟨T,id,pa,slot,hty,h1,h2,Calls.callWith_builtin rfl (PySem.evalArgs_none (hm pins s1 σ H1 x [] v [] Q I1 r1 .nil q1))⟩
theorem v5(pa:PlainAttrs T)(slot:Slot T name id)(hty:typeOf (.builtin id)=pure (.type "method_descriptor"))(hm:c6 X id r)(ho:PE X o to)(ha:PA X (e::es) t)
  (hbase:attributeBase o name X.env (eval o X.env)=eval o X.env:=by rfl)
  (hfew:((backTo cpos (starEach (e::es) X.env)).all (fun x=> !x.1)&&(backToKw cpos (keywordEach [] X.env)).all (fun x=>x.1.isSome)
   &&decide ((e::es).length+([]:List Keyword).length+(if([]:List Keyword).isEmpty then 0 else 1)<30))=true:=by rfl)
  (hline:(apos.endLine==cpos.line)=true:=by rfl)(hs:starEach (e::es) X.env=(false,eval e X.env)::starEach es X.env:=by rfl)(hplain:(backTo cpos (starEach es X.env)).any (·.1)=false:=by rfl):
  PE X (.Call (.Attribute o name apos) (e::es) [] cpos) (tS X.K T r to t):=by
 intro pins s σ H Q I h
 refine wpAny_Call_method_late hbase hfew hline rfl (qt (ho pins s σ H _ I h) fun v s1 ⟨x,H1,I1,r1,ty,q1⟩=>?_)
 obtain⟨h1,h2⟩:=mI I1 r1 ty
 refine⟨T,id,pa,slot,hty,h1,h2,?_⟩
 have hA:=ha cpos pins s1 σ H1 _ I1 q1
 rw[hs]at hA⊢
 refine Calls.callWith_builtin (by show(false||(backTo cpos (starEach es X.env)).any (·.1))=false;rw[hplain]<;>rfl) (Calls.evalArgs_plain ?_)
 exact qt hA fun us s2 ⟨vs,H2,I2,r2,q2⟩=>hm pins s2 σ H2 x vs v us Q I2 r1 r2 q2
end
def p8(X:Cx)(id:String)(r:V->List V->Hp->VK->Prop):Prop:=
 ∀(pins:List (Addr×Obj)) (s:Shared) (σ:St) (H:Hp) (x:V) (xs:List V) (v:Value) (us:List Value) (Q:VK),Inv X pins σ H s->RelV x v->Vals xs us->r x xs H Q->
  wpAny (model X.prog X.w) X.A (call (.builtin id) (v::us)) (EP X pins σ Q) X.xe s
theorem Vals.one:∀{x:V} {us:List Value},Vals [x] us->∃u,us=[u]/\RelV x u
 |_,_,.cons r .nil=>⟨_,rfl,r⟩
theorem Vals.two:∀{x y:V} {us:List Value},Vals [x,y] us->∃u v,us=[u,v]/\RelV x u/\RelV y v
 |_,_,_,.cons r (.cons q .nil)=>⟨_,_,rfl,r,q⟩
theorem Vals.zero:∀{us:List Value},Vals [] us->us=[]
 |_,.nil=>rfl
theorem Vals.eraseIdx:∀{xs:List V} {us:List Value} (i:Nat),Vals xs us->Vals (xs.eraseIdx i) (us.eraseIdx i)
 |_,_,_,.nil=> .nil
 |_,_,0,.cons _ t=>t
 |_,_,i+1,.cons r t=> .cons r (Vals.eraseIdx i t)
theorem Vals.reverse{xs:List V}{us:List Value}(h:Vals xs us):Vals xs.reverse us.reverse:=by
 induction h with
 |nil=>exact .nil
 |cons r t ih=>rw[List.reverse_cons,List.reverse_cons];exact Vals.append ih (.cons r .nil)
theorem Vals.rep{xs:List V}{us:List Value}(h:Vals xs us):∀k:Nat,Vals (List.replicate k xs).flatten (List.replicate k us).flatten
 |0=> .nil
 |k+1=>by
  rw[List.replicate_succ,List.replicate_succ,List.flatten_cons,List.flatten_cons]
  exact Vals.append h (Vals.rep h k)
theorem fj{α:Type}:∀(l:List α) (i:Nat),(l.eraseIdx i).length<=l.length
 | [],_=>Nat.le_refl _
 |_::_,0=>Nat.le_succ _
 |_::r,i+1=>Nat.succ_le_succ (fj r i)
theorem fC(its:List Value):∀(k:Nat) (acc:List Value),
  List.foldl (fun x1 x2=>x1++x2) acc.toArray (List.replicate k its.toArray)=(acc++(List.replicate k its).flatten).toArray
 |0,acc=>by simp
 |k+1,acc=>by
  have e:acc.toArray++its.toArray=(acc++its).toArray:=by simp
  have e2:(acc++its)++(List.replicate k its).flatten=acc++(List.replicate (k+1) its).flatten:=by
   rw[List.replicate_succ,List.flatten_cons,List.append_assoc]
  rw[<- e2,<- fC its k (acc++its),<- e,List.replicate_succ,List.foldl_cons]
section
variable{X:Cx}{pins:List (Addr×Obj)}{σ:St}{H:Hp}{s:Shared}{l b:Addr}{xs ys zs:List V}
theorem Inv.lset{its its':List Value}{n:Nat}{f:Array Value->Array Value}{t':Nat}(I:Inv X pins σ H s)(hH:H l=some (.lst xs))
  (e:s.heap.get? l=some {cls:= .type "list",data:= .seq its.toArray n})(hf:f its.toArray=its'.toArray)(hv:Vals ys its')(hz:ys.length<=sizeLine):
  Inv X pins σ (upd H l (.lst ys)) {s with heap:=s.heap.update l (Obj.mapSeq f),toks:=t'}:=by
 have q:=PySem.IsL.update e f
 rw[hf]at q
 refine I.write (x:=l) (e:=l) (by rw[hH];exact trivial) (.inl rfl) (fun b' u hb hu=>(Heap.get?_update_other s.heap (Obj.mapSeq f) (Ne.symm hb)).trans hu) ⟨_,q⟩ ?_
 exact⟨hz,its',_,hv,q⟩
theorem Inv.lnew{its:List Value}{t':Nat}(I:Inv X pins σ H s)(hv:Vals ys its)(hz:ys.length<=sizeLine):
  Inv X pins σ (upd H s.heap.objs.size (.lst ys)) {s with heap:=s.heap.push {cls:= .type "list",data:= .seq its.toArray},toks:=t'}:=
 I.laid (fun _ _ q=>Heap.get?_push_of_some _ q) (Nat.le_refl _) ⟨hz,its,0,hv,Heap.get?_push_size _ rfl⟩
theorem Inv.fresh(I:Inv X pins σ H s):H s.heap.objs.size=none:=I.hok.fresh (Nat.le_refl _)
theorem Inv.lstM(I:Inv X pins σ H s)(hH:H l=some (.lst xs)):xs.length<=sizeLine/\∃(its:List Value) (n:Nat),Vals xs its/\xs.length=its.length/\s.heap.get? l=some {cls:= .type "list",data:= .seq its.toArray n}:=by
 obtain⟨z,its,n,r,e⟩:=I.hok l _ hH
 exact⟨z,its,n,r,r.length,e⟩
theorem oT{n:Nat}(h:n<=sizeLine):Builtin.List.listTooLong n=false:=by
 unfold Builtin.List.listTooLong
 exact decide_eq_false (by omega)
end
section
variable{X:Cx}
def jO:V->List V->Hp->VK->Prop:=fun x vs H Q=>∃l xs y,x= .ref l/\vs=[y]/\H l=some (.lst xs)/\xs.length<sizeLine/\Q .non (upd H l (.lst (xs++[y])))
theorem ny:p8 X "list.append" jO:=by
 intro pins s σ H x vs v us Q I rx rv h
 obtain⟨l,xs,y,rfl,rfl,hH,hz,q⟩:=h
 cases rx
 obtain⟨u,rfl,ru⟩:=rv.one
 obtain⟨z,its,n,r,hl,e⟩:=I.lstM hH
 refine call_meets F.slot_list_append ⟨_,e,rfl⟩ F.entry_list_append (F.args_list_append_2 _ _) (PySem.list_append l its.toArray n u (by rw[List.size_toArray];omega)) ⟨e,?_⟩
 refine⟨.non,_,I.lset (its':=its++[u]) hH e (by simp) (r.append (.cons ru .nil)) ?_,rfl,q⟩
 rw[List.length_append,List.length_singleton]
 omega
def l6:V->List V->Hp->VK->Prop:=fun x vs H Q=>∃l xs i k y,x= .ref l/\vs=[.int i]/\H l=some (.lst xs)/\ -(2 ^ 63)<=i/\i<2 ^ 63/\seqIndex? i xs.length=some k/\xs[k]? =some y/\Q y (upd H l (.lst (xs.eraseIdx k)))
theorem pF:p8 X "list.pop" l6:=by
 intro pins s σ H x vs v us Q I rx rv h
 obtain⟨l,xs,i,k,y,rfl,rfl,hH,h1,h2,hk,hy,q⟩:=h
 cases rx
 obtain⟨u,rfl,ru⟩:=rv.one
 obtain⟨t,rfl⟩:=ru
 obtain⟨z,its,n,r,hl,e⟩:=I.lstM hH
 obtain⟨w,hw,rw'⟩:=r.get hy
 refine call_meets F.slot_list_pop ⟨_,e,rfl⟩ F.entry_list_pop (F.args_list_pop_2 _ _)
  (MeetsSeq.list_pop_at l its.toArray n i t k w (fitsIndex_both h1 h2) (by rw[List.size_toArray,<- hl];exact hk) (by rw[<- Array.getElem?_toList];exact hw) (by rw[List.size_toArray];omega)) ⟨e,?_⟩
 refine⟨y,_,I.lset (its':=its.eraseIdx k) hH e ?_ (r.eraseIdx k) ?_,rw',q⟩
 ·show its.toArray.eraseIdxIfInBounds k=(its.eraseIdx k).toArray
  rw[List.eraseIdxIfInBounds_toArray]
 ·have:=fj xs k
  omega
def gZ:V->List V->Hp->VK->Prop:=fun x vs H Q=>∃l xs,x= .ref l/\vs=[]/\H l=some (.lst xs)/\Q .non (upd H l (.lst xs.reverse))
theorem lD:p8 X "list.reverse" gZ:=by
 intro pins s σ H x vs v us Q I rx rv h
 obtain⟨l,xs,rfl,rfl,hH,q⟩:=h
 cases rx
 have hus:=rv.zero
 subst hus
 obtain⟨z,its,n,r,hl,e⟩:=I.lstM hH
 refine call_meets F.slot_list_reverse ⟨_,e,rfl⟩ F.entry_list_reverse (F.args_list_reverse_1 _) (AutoSeq1.list_reverse_list_0 l its.toArray n (by rw[List.size_toArray];omega)) ⟨e,?_⟩
 refine⟨.non,_,I.lset (its':=its.reverse) hH e (by simp) r.reverse ?_,rfl,q⟩
 rw[List.length_reverse]
 omega
def nv:V->List V->Hp->VK->Prop:=fun x vs H Q=>∃l xs,x= .ref l/\vs=[]/\H l=some (.lst xs)/\Q .non (upd H l (.lst []))
theorem pC:p8 X "list.clear" nv:=by
 intro pins s σ H x vs v us Q I rx rv h
 obtain⟨l,xs,rfl,rfl,hH,q⟩:=h
 cases rx
 have hus:=rv.zero
 subst hus
 obtain⟨z,its,n,r,hl,e⟩:=I.lstM hH
 refine call_meets F.slot_list_clear ⟨_,e,rfl⟩ F.entry_list_clear (F.args_list_clear_1 _) (AutoSeq1.list_clear_list_0 l its.toArray n (by rw[List.size_toArray];omega)) ⟨e,?_⟩
 exact⟨.non,_,I.lset (its':=[]) (ys:=[]) hH e rfl .nil (Nat.zero_le _),rfl,q⟩
def wk:R2:=fun x y H Q=>∃l b xs zs,x= .ref l/\y= .ref b/\H l=some (.lst xs)/\H b=some (.lst zs)/\xs.length+zs.length<=sizeLine/\∀p,H p=none->Q (.ref p) (upd H p (.lst (xs++zs)))
theorem tI:q8 X (binaryOp .Add) wk:=by
 intro pins s σ H x y v u Q I rx ry h
 obtain⟨l,b,xs,zs,rfl,rfl,hH,hB,hz,q⟩:=h
 cases rx
 cases ry
 obtain⟨z,its,n,r,hl,e⟩:=I.lstM hH
 obtain⟨z2,its2,n2,r2,hl2,e2⟩:=I.lstM hB
 refine PySem.P.add_list e e2 ?_ (by rw[List.size_toArray,List.size_toArray];omega)
 have ea:its.toArray++its2.toArray=(its++its2).toArray:=by simp
 rw[ea]
 exact⟨.ref _,_,I.lnew (t':=s.toks) (r.append r2) (by rw[List.length_append];omega),rfl,q _ I.fresh⟩
def wz:R2:=fun x y H Q=>∃l k xs,x= .ref l/\y= .int k/\H l=some (.lst xs)/\ -(2 ^ 63)<=k/\k<2 ^ 63/\xs.length*k.toNat<=sizeLine/\
 ∀p,H p=none->Q (.ref p) (upd H p (.lst (List.replicate k.toNat xs).flatten))
theorem se{α:Type}(xs:List α)(k:Nat):(List.replicate k xs).flatten.length=k*xs.length:=by
 induction k with
 |zero=>simp
 |succ k ih=>rw[List.replicate_succ,List.flatten_cons,List.length_append,ih,Nat.succ_mul,Nat.add_comm]
theorem nu:q8 X (binaryOp .Mult) wz:=by
 intro pins s σ H x y v u Q I rx ry h
 obtain⟨l,k,xs,rfl,rfl,hH,h1,h2,hz,q⟩:=h
 cases rx
 obtain⟨t,rfl⟩:=ry
 obtain⟨z,its,n,r,hl,e⟩:=I.lstM hH
 have hlen:its.toArray.size*k.toNat<=sizeLine:=by rw[List.size_toArray,<- hl];exact hz
 have hcap:¬its.toArray.size*k.toNat>(2 ^ 63-1)/8:=by
  have:(sizeLine:Nat)<=(2 ^ 63-1)/8:=by decide
  omega
 have hfit:¬(!Builtin.List.listFitsIndex k)=true:=by
  rw[fitsIndex_both h1 h2]
  exact Bool.false_ne_true
 have hlong:¬Builtin.List.listTooLong (its.toArray.size*k.toNat)=true:=by
  rw[oT hlen]
  exact Bool.false_ne_true
 have hnew:List.foldl (fun x1 x2=>x1++x2) #[] (List.replicate (if its.toArray.isEmpty=true then 0 else k.toNat) its.toArray)=(List.replicate k.toNat its).flatten.toArray:=by
  have f0:∀m:Nat,List.foldl (fun x1 x2=>x1++x2) #[] (List.replicate m its.toArray)=(List.replicate m its).flatten.toArray:=fun m=>by
   have:=fC its m []
   rw[List.nil_append]at this
   exact this
  rw[f0]
  cases its with
  |nil=>simp
  |cons a r'=>rw[if_neg (by simp)]
 refine wpAny_binaryOp_repeat_ref (T:="list") (U:="int") (by decide) ⟨_,e,rfl⟩ (fun s'=>typeIs_int s' k t) noFill_list_mul F.fills_int_mul F.slot_int_rmul repeat_list F.slot_int_index.lookup
  (call_meets F.slot_int_rmul (typeIs_int s k t) F.entry_int_rmul (F.args_int_rmul_2 _ _) (int___rmul___int_list k t l its.toArray n)
   ⟨e,rfl,⟨_,e,rfl⟩,call_meets F.slot_list_mul ⟨_,e,rfl⟩ F.entry_list_mul (F.args_list_mul_2 _ _) (AutoListH.list___mul___list_int_3 l its.toArray n k t hfit hcap hlong) ⟨e,?_⟩⟩)
 rw[hnew]
 exact⟨.ref _,_,I.lnew (t':=s.toks) (r.rep k.toNat) (by rw[se,Nat.mul_comm];exact hz),rfl,q _ I.fresh⟩
end
section
variable{prog:Program}{w:World}{A:Around}{E:Value->Shared->Prop}{s:Shared}
end
section
variable{X:Cx}
end
end L2
namespace Att
open PySem PySem.W PySem.Calls PyProof.Rows
theorem cV{P:Params}{h:Heap}:∀(ns:List Int) (vs:List Value),WellAll P h vs (ns.map WData.int)->IntsAre vs ns:=by
 intro ns
 induction ns with
 |nil=>
  intro vs w
  rw[List.map_nil]at w
  cases w
  exact .nil
 |cons n ns ih=>
  intro vs w
  rw[List.map_cons]at w
  cases w with
  |cons a b=>
   cases a
   exact .cons _ _ (ih _ b)
theorem nI{l:OpenLaw}{n:Nat}(hn:l.most=some n){P:Params}{h:Heap}{args:List WData}{vals:List Value}
  (hpre:l.row.toRowW.claim.pre args=true)(hwl:WellAll P h vals args):
  ∃a vs ns,vals=[Value.ref a]/\args=[WData.list (ns.map WData.int)]/\h.get? a=some {cls:= .type "list",data:= .seq vs.toArray}/\IntsAre vs ns/\ns.length<=n:=by
 have hsh:WShape.hasAll [] args [.list .int]=true:=(pre_splitW hpre).1
 have hc:l.pre.holds [] {args:=args}=true:=(pre_splitW hpre).2
 obtain⟨d,r,rfl,h1,h2⟩:=hasAllW_cons hsh
 obtain rfl:=hasAllW_nil h2
 obtain⟨xs,rfl,h3⟩:=hasW_list h1
 obtain⟨ns,rfl⟩:=items_int h3
 have hlen:ns.length<=n:=by
  unfold OpenLaw.pre at hc
  have h4:(WTm.not (.lt (.lit (.int (n:Int))) (.len (.arg 0)))).holds [] {args:=[.list (ns.map .int)]}=true:=by
   have h4:=(holds_andW hc).1
   rw[hn]at h4
   exact h4
  have h5:=condW_of h4 (w_not (w_lt w_lit (w_len_list (w_arg rfl))))
  rw[List.length_map]at h5
  refine Nat.le_of_not_lt fun q=>?_
  have q':(n:Int)<((ns.length:Nat):Int):=by omega
  first
   |(rw[decide_eq_true q']at h5;exact absurd h5 (by decide))
   |(simp at h5;omega)
 cases hwl with
 |cons w1 w2=>
  cases w2
  cases w1 with
  |list ho hall=>exact⟨_,_,ns,rfl,rfl,ho,cV ns _ hall,hlen⟩
theorem mM(l:OpenLaw)(args:List WData):l.row.toRowW.claim.post args (.bool true) args=true:=
 postW_of (r:=l.row.toRowW) (X:=(true==true))
  (show WShape.has [] (.bool true) .bool=true by first|rfl|decide|simp [WShape.has,WShape.arms,WShape.armsAll])
  (show(WTm.eq .res (.lit (.bool true))).value [] {args:=args,res:=some (.bool true),after:=args}=some (.bool (true==true))from w_eq_bool (w_res rfl) w_lit) rfl
theorem attach_call{l:OpenLaw}{n:Nat}{q:Program}{loose:List Str}{XP:(Str->Option Value)->Heap->Prop}{YP:World->Heap->Prop}{d:DefRec}
  (hn:l.most=some n)(hdf:d.params.defaults=[])
  (call:∀(w:World) (s₀ s₁:Shared) (mg mb:Str->Option Value) (fa:Addr) (o:Obj) (pm cd doc:Value) (a:Addr) (vs:List Value) (ns:List Int),
   Ground q loose [] XP w s₀ mg mb s₁.heap->YP w s₁.heap->
   s₁.heap.get? fa=some o->o.data= .func (docDef d.name d.params d.body d.scope pm cd doc)->s₁.heap.CodeRec cd d.name->mg d.name=some (.ref fa)->
   s₁.heap.get? a=some {cls:= .type "list",data:= .seq vs.toArray}->IntsAre vs ns->ns.length<=n->s₁.gens= #[]->
   codeAny (model l.prog w) callerA (.call (.ref fa) ⟨[.ref a],[]⟩) (fun r s'=>r= .ok (.ret (.bool true))/\OldK s₁.heap s'.heap/\s'.os=s₁.os/\AllBare s'.gens) s₁):
  WalkO q loose XP YP l.row.toRowW d [] (fun f vs=>PySem.call f vs):=by
 intro w s₀ s₁ mg mb G Y fa o pm cd doc dV kV ho hd hcd hD hmg hg args vals as hpre hlay hrd hwl hlo
 obtain rfl:dV= .none:=Dflts.none hD hdf
 obtain rfl:kV= .none:=Dflts.noKw hD
 obtain⟨a,vs,ns,rfl,rfl,hobj,hints,hlen⟩:=nI hn hpre hwl
 refine enter_call (codeAny_mono (call w s₀ s₁ mg mb fa o pm cd doc a vs ns G Y ho (fd_plain hd) hcd hmg hobj hints hlen hg) fun r s' hq=>?_)
 obtain⟨rfl,h2,h3,h4⟩:=hq
 exact⟨.inl ⟨.bool true,.bool true,[],rfl,fun _=>rfl,.bool true,mM l _,fun _=>⟨List.Pairwise.nil,fun _ hm=>(nomatch hm)⟩⟩,h2,h3,h4⟩
section
variable{prog:Program}{w:World}{A:Around}{E:Value->Shared->Prop}{s:Shared}{K:Frag}
end
end Att
namespace L2
open PySem PySem.Spec PyProof.Rows
theorem fu:∀{vs:List Value} {ns:List Int},IntsAre vs ns->Vals (ns.map V.int) vs
 |_,_,.nil=> .nil
 |_,_,.cons n t h=> .cons ⟨t,rfl⟩ (fu h)
def oO(H:Hp):Prop:=∀b,H b=none\/∃o xs,H b=some (.frz o (.lst xs))
theorem nQ{P:Program}{w:World}{K:Frag}{mg mb:Str->Option Value}{CX:a6}{k:Nat}{fa a:Addr}{fd:FuncData}{x:Str}{sp:Sp}{s₁:Shared}{vs:List Value}{ns:List Int}
  (KX:K.In s₁.heap)(hns:s₁.heap.Ns mainGlobals mg)(hb:s₁.heap.Ns builtinsNs mb)(hbb:∀x:Str,x≠"__name__"->mb x=bootBuiltins x)(hlim:s₁.heap.NoLimit)(hg:s₁.gens= #[])
  (ha:s₁.heap.get? a=some {cls:= .type "list",data:= .seq vs.toArray})(hi:IntsAre vs ns)(hl:ns.length<=sizeLine)(hr:Room k callerA)
  (F:∀base:Heap,K.In base->base.Ns mainGlobals mg->FnOk P w K mg base CX k fa fd [x] sp)(hbind:∀(s:Shared) (u:Value),BindsTo s fd ⟨[u],[]⟩ [(x,u)])
  (hsp:∀H:Hp,oO H->SqL K H a (ns.map V.int)->sp [.ref a] H (fun v _=>v= .bl true) fun _ _ _=>False)
  (hCX:∀H e s',CX [] H s₁ (fun _ _ _=>False) e s'->False):
  codeAny (model P w) callerA (.call (.ref fa) ⟨[.ref a],[]⟩) (fun r s'=>r= .ok (.ret (.bool true))/\OldK s₁.heap s'.heap/\s'.os=s₁.os/\AllBare s'.gens) s₁:=by
 have rv:=fu hi
 have lenV:=hi.length
 have core:∀H:Hp,oO H->SqL K H a (ns.map V.int)->HOk P w H s₁.heap->(∀b,H b≠none->b=a)->(H a≠none->K.lookup a=none)->
   codeAny (model P w) callerA (.call (.ref fa) ⟨[.ref a],[]⟩) (fun r s'=>r= .ok (.ret (.bool true))/\OldK s₁.heap s'.heap/\s'.os=s₁.os/\AllBare s'.gens) s₁:=by
  intro H hO hS hok hA hK
  have base_of:∀{b:Addr} {o:Obj},s₁.heap.get? b=some o->H b=none->(ae s₁.heap H).get? b=some o:=fun e n=>pI e n
  have noA:∀{b:Addr} {o:Obj} {es:Array DictEntry} {ep:Nat},s₁.heap.get? b=some o->o.data= .dict es ep->H b=none:=fun{b o es ep} e d=>by
   cases q:H b with
   |none=>rfl
   |some u=>
    have e':b=a:=hA b (by rw[q];simp)
    subst e'
    rw[ha]at e;cases e
    have d':Data.seq vs.toArray _=Data.dict es ep:=d
    cases d'
  have nsK:∀{b:Addr} {m:Str->Option Value},s₁.heap.Ns b m->(ae s₁.heap H).Ns b m:=fun{b m} ⟨o,es,ep,e,d,r⟩=>⟨o,es,ep,base_of e (noA e d),d,r⟩
  have hKb:K.In (ae s₁.heap H):=fun b o e=>base_of (KX b o e) (by
   cases q:H b with
   |none=>rfl
   |some u=>
    have e':b=a:=hA b (by rw[q];simp)
    subst e'
    rw[hK (by rw[q];simp)]at e;cases e)
  have hM:Mod K mg (ae s₁.heap H):=⟨hKb,nsK hns,⟨mb,nsK hb,hbb⟩,let⟨mc,h1,h2⟩:=hlim;⟨mc,nsK h1,h2⟩⟩
  have e0:Env0 P w K mg (ae s₁.heap H) callerA [] s₁ H:=⟨rfl,hM,fun b o e=>tq e,Nat.le_of_eq (nD _ _),trivial,fun b hb=>absurd (show b∈([]:List Addr)from hb) (by simp),hok,.of_eq hg⟩
  refine codeAny_mono ((F _ hKb (nsK hns)).run callerA [] s₁ H ⟨[.ref a],[]⟩ [.ref a] [.ref a] _ _ hr e0 (hbind s₁ (.ref a)) (.cons rfl .nil) (hsp H hO hS)) fun r s' h=>?_
  cases r with
  |error e=>exact(hCX H e s' h).elim
  |ok fl=>
   cases fl with
   |next=>exact False.elim h
   |brk=>exact False.elim h
   |cont=>exact False.elim h
   |ret u=>
    obtain⟨v,H',os,bare,un,hok',r',q⟩:=h
    have q':v= .bl true:=q
    subst q'
    obtain rfl:u=Value.bool true:=r'
    refine⟨rfl,OldK.of_keep fun b o e=>?_,os,bare⟩
    cases q:H b with
    |none=>exact un.keep b o e q (by intro z;exact absurd (show b∈([]:List Addr)from z) (by simp)) (by simp)
    |some u=>
     rcases hO b with z|⟨ob,xs,z⟩
     ·rw[q]at z;cases z
     ·have z2:=un.frzs b ob _ z
      obtain⟨e1,_⟩:=hok b _ z
      obtain⟨e2,_⟩:=hok' b _ z2
      rw[e]at e1;cases e1
      exact e2
 cases hk:K.lookup a with
 |some o=>
  have e:=KX a o hk
  rw[ha]at e
  cases e
  refine core (fun _=>none) (fun _=> .inl rfl) (.inr ⟨_,vs.toArray,_,hk,rfl,rfl,rfl,by rw[List.size_toArray,lenV];exact hl,by simpa using rv⟩) (fun b u z=>by have z':(none:Option HO)=some u:=z;cases z') (fun b z=>absurd rfl z) fun z=>absurd rfl z
 |none=>
  refine core (fun b=>if b=a then some (.frz {cls:= .type "list",data:= .seq vs.toArray} (.lst (ns.map V.int)))else none) (fun b=>?_) (.inl (.inr ⟨{cls:= .type "list",data:= .seq vs.toArray},if_pos rfl⟩)) (fun b u z=>?_) (fun b z=>?_) fun _=>hk
  ·by_cases hb:b=a
   ·exact .inr ⟨_,_,if_pos hb⟩
   ·exact .inl (if_neg hb)
  ·by_cases hb:b=a
   ·have z':=(if_pos hb).symm.trans z
    cases z'
    subst hb
    exact⟨ha,by rw[List.length_map];exact hl,vs,_,rv,ha⟩
   ·have z':=(if_neg hb).symm.trans z
    cases z'
  ·by_cases hb:b=a
   ·exact hb
   ·exact absurd (if_neg hb) z
theorem sU{l:W.OpenLaw}{n k:Nat}{q:Program}{loose:List Str}{XP:(Str->Option Value)->Heap->Prop}{YP:World->Heap->Prop}{d:DefRec}{K:Params->Frag}{CX:World->a6}{sp:World->Sp}{x:Str}
  (hn:l.most=some n)(hn2:n<=sizeLine)(hdf:d.params.defaults=[])(hr:Room k callerA)
  (hY:∀(w:World) (h:Heap),YP w h->(K w.params).In h)
  (F:∀(w:World) (mg:Str->Option Value) (fa:Addr) (h:Heap),(K w.params).In h->h.Ns mainGlobals mg->mg d.name=some (.ref fa)->
   ∃fd:FuncData,(∀(s:Shared) (u:Value),BindsTo s fd ⟨[u],[]⟩ [(x,u)])/\
    ∀base:Heap,(K w.params).In base->base.Ns mainGlobals mg->FnOk l.prog w (K w.params) mg base (CX w) k fa fd [x] (sp w))
  (hsp:∀(w:World) (H:Hp) (a:Addr) (ns:List Int),ns.length<=n->oO H->SqL (K w.params) H a (ns.map V.int)->sp w [.ref a] H (fun v _=>v= .bl true) fun _ _ _=>False)
  (hCX:∀(w:World) (H:Hp) (s:Shared) (e:Value) (s':Shared),CX w [] H s (fun _ _ _=>False) e s'->False):
  W.WalkO q loose XP YP l.row.toRowW d [] (fun f vs=>PySem.call f vs):=by
 refine Att.attach_call hn hdf fun w s₀ s₁ mg mb fa o pm cd doc a vs ns G Y ho hd hcd hmg hobj hints hlen hg=>?_
 have KX:=hY w _ Y
 obtain⟨fd,hb,hF⟩:=F w mg fa _ KX G.T.g hmg
 exact nQ KX G.T.g G.T.b G.T.builtins G.T.nolimit hg hobj hints (Nat.le_trans hlen hn2) hr hF hb (fun H hO hS=>hsp w H a ns hlen hO hS) fun H e s'=>hCX w H s₁ e s'
def qT(s:Stmt)(j:Nat):Stmt:=match s with
 | .ClassDef _ _ _ body _ _ _ _ _ _ _=>body.getD j (.Pass ⟨0,0,0,0⟩)
 |_=> .Pass ⟨0,0,0,0⟩
def zM(s:Stmt):Arguments:=match s with
 | .FunctionDef _ a _ _ _ _ _ _ _ _=>a
 |_=>{posonlyargs:=[],args:=[],vararg:=none,kwonlyargs:=[],kw_defaults:=[],kwarg:=none,defaults:=[]}
def zf(s:Stmt):List Stmt:=match s with
 | .FunctionDef _ _ b _ _ _ _ _ _ _=>b
 |_=>[]
def qg(s:Stmt):Scope:=match s with
 | .FunctionDef _ _ _ _ _ _ sc _ _ _=>sc
 |_=>{kind:= .function,names:=[],isGenerator:=false,isCoroutine:=false}
abbrev Zz:a6:=fun _ _ _ _ _ _=>False
abbrev E0:XK:=fun _ _ _=>False
theorem gt{X:Cx}:bj Zz X E0:=fun _ _ _ _ _ _ _ h=>h.elim
structure Fun(K:Frag)(x qual:Str)(st:Stmt)(f:Addr)(fd:FuncData):Prop where
 ex:∃(oc:Value) (od:Option Addr) (kV doc pm:Value) (an:Option Addr) (cdv ct:Value) (osl:Array (Option Value)),
  fd=PySem.W.fnOf x qual (zM st) (zf st) (qg st) .none kV doc pm an cdv ct/\K.lookup f=some ⟨oc,od,.func fd,osl⟩/\PySem.W.codeIn K cdv qual=true
 kp:PySem.W.keepIn K (.ref f)=true
section
variable{P:Program}{w:World}{K:Frag}{mg:Str->Option Value}{base:Heap}
theorem Fun.ok{x qual:Str}{st:Stmt}{f:Addr}{fd:FuncData}{N ps:List Str}{k:Nat}{sp:Sp}(F:Fun K x qual st f fd)(S:FnScope N ps (qg st))(len:∀vs H Q E,sp vs H Q E->vs.length=ps.length)
  (hbody:∀(cdv:Value) (A:Around) (outer:List Env) (s:Shared) (H:Hp) (vs:List V) (Q:VK) (E:XK),Room k (A.deeper (envOfC qual (qg st) s.heap.objs.size f cdv))->sp vs H Q E->
   ∃t,PSs (Z3 Zz P w K mg base N qual (qg st) f cdv A outer s H E).nox (zf st) t/\t {nx:=fun _ H'=>Q .non H',rt:=Q} (Qt N vs) H):FnOk P w K mg base Zz (k+1) f fd ps sp:=by
 obtain⟨oc,od,kV,doc,pm,an,cdv,ct,osl,rfl,lk,hcd⟩:=F.ex
 refine v6 lk hcd S len fun A outer s H vs Q E hr hsp=>?_
 obtain⟨t,h,q⟩:=hbody cdv A outer s H vs Q E hr hsp
 exact⟨t,h.nox,q⟩
theorem Fun.binds{x qual:Str}{st:Stmt}{f:Addr}{fd:FuncData}{ps:List Str}(F:Fun K x qual st f fd)
  (h:∀(kV doc pm:Value) (an:Option Addr) (cdv ct:Value) (us:List Value),us.length=ps.length->bindArgs (W.fnOf x qual (zM st) (zf st) (qg st) .none kV doc pm an cdv ct) ⟨us,[]⟩=pure (ps.zip us)):Binds K fd ps []:=by
 obtain⟨oc,od,kV,doc,pm,an,cdv,ct,osl,rfl,lk,hcd⟩:=F.ex
 exact .all (h kV doc pm an cdv ct)
theorem gO{x qual:Str}{st:Stmt}{f:Addr}{oc:Value}{od an:Option Addr}{osl:Array (Option Value)}{kV doc pm cdv ct:Value}(l:K.lookup f=some ⟨oc,od,.func (W.fnOf x qual (zM st) (zf st) (qg st) .none kV doc pm an cdv ct),osl⟩)
  (c:W.codeIn K cdv qual=true)(k:W.keepIn K (.ref f)=true):Fun K x qual st f (W.fnOf x qual (zM st) (zf st) (qg st) .none kV doc pm an cdv ct):=⟨⟨oc,od,kV,doc,pm,an,cdv,ct,osl,rfl,l,c⟩,k⟩
end
section
variable{X:Cx}
end
theorem qS{A B:Prop}(h:B):if false=true then A else B:=by
 rw[if_neg Bool.false_ne_true]
 exact h
theorem zc{A B:Prop}(h:A):if true=true then A else B:=by
 rw[if_pos rfl]
 exact h
theorem qL{c A B:Prop} [Decidable c](h1:c->A)(h2:¬c->B):if c then A else B:=by
 by_cases h:c
 ·rw[if_pos h]
  exact h1 h
 ·rw[if_neg h]
  exact h2 h
theorem cK{c A B:Prop} [Decidable c](hc:c)(h:B):if(!decide c)=true then A else B:=by
 rw[decide_eq_true hc]
 exact qS h
def Same(H H':Hp):Prop:=∀b o,H b=some o->H' b=some o
theorem Same.refl(H:Hp):Same H H:=fun _ _ h=>h
theorem Same.trans{H H1 H2:Hp}(a:Same H H1)(b:Same H1 H2):Same H H2:=fun c o h=>b c o (a c o h)
theorem Same.seq{K:Frag}{H H':Hp}{a:Addr}{xs:List V}(e:Same H H')(h:SqL K H a xs):SqL K H' a xs:=by
 rcases h with(h|⟨o,h⟩)|h
 ·exact .inl (.inl (e _ _ h))
 ·exact .inl (.inr ⟨o,e _ _ h⟩)
 ·exact .inr h
end L2
namespace L3
open PySem PySem.Spec PyProof.Rows L2
def Zh(X:Cx)(N:List Str)(scope:Scope)(cl:List (Str×Addr))(C:Addr)(s:Shared)(H:Hp)(fp:List Addr):Cx:=
 {X with N:=N,s₀:=s,H₀:=H,env:=compEnvC scope cl C X.env,outer:=X.stack,ex:=fp,fn:=fun _=>false,pn:=[],xe:=fun _ _=>False}
structure BScope(X:Cx)(scope:Scope)(fr:List Str)(js:List Nat):Prop where
 kind:scope.kind= .function
 names:∀x∈scope.names,x.2= .local->scope.names.lookup x.1=some .local
 nocell:∀x∈scope.names,x.2≠ .cell
 free:∀x∈scope.names,x.2= .free->x.1∈fr
 len:js.length=fr.length
 at_:∀(i j:Nat) (y:Str),js[i]? =some j->fr[i]? =some y->X.N[j]? =some y/\X.env.kindOf y=some .cell/\(relabel scope X.env).names.lookup y=some .cell
theorem Qg{α:Type}{y:Str}:∀{l:List (Str×α)},y∈l.map (·.1)->∃c,l.lookup y=some c
 | [],h=>by simp at h
 |(n,a)::r,h=>by
  cases e:y==n with
  |true=>exact⟨a,by simp [List.lookup_cons,e]⟩
  |false=>
   have hr:y∈r.map (·.1):=by
    rcases List.mem_cons.mp h with z|z
    ·exact absurd z (by simpa using e)
    ·exact z
   obtain⟨c,hc⟩:=Qg hr
   exact⟨c,by simp [List.lookup_cons,e,hc]⟩
def σ0(k:Nat)(js:List Nat)(σ:L2.St):L2.St:=List.replicate k none++js.map fun j=>(σ[j]?).join
def gs(k:Nat)(js:List Nat)(g:TG)(te:TE)(σ:L2.St)(Q:VK)(J:It)(H1:Hp):Prop:=∃W:Nat->Nat->List V->L2.St->Hp->Prop,(∃m,W 0 m [] (σ0 k js σ) H1)/\∀i m ys τ H,W i m ys τ H->
 (J.stop i H/\∀p,H p=none->Q (.ref p) (upd H p (.lst ys)))\/(J.go i H/\ys.length<sizeLine/\∀x H',J.yld i H x H'->g x τ H' fun τ2 H2=>∃N:V->Hp->Prop,(∀v H3,N v H3->∃m',m'<m/\W (i+1) m' (ys++[v]) τ2 H3)/\te τ2 H2 N)
def dz(k:Nat)(js:List Nat)(wi:TI)(g:TG)(te:TE):TE:=fun σ H Q=>wi σ H (gs k js g te σ Q)
section
variable{prog:Program}{w:World}{A:Around}{R:Result->Shared->Prop}{s:Shared}
theorem iB{elt target iter:Expr}{scope:Scope}{pos:Pos}{it acc:Value}{env:Env}(I:Nat->Shared->Prop)
  (turn:∀n s,I n s->wpAny (model prog w) A (pyNext it) (fun r s₁=>match r with
   |none=>R (.ok .next) s₁
   | some v=>wpAny (model prog w) A (letOwnedTupleGo target it v) (fun _ s₁'=>wpAny (model prog w) A (assign target env v) (fun _ s₂=>wpAny (model prog w) A (eval elt env) (fun x s₃=>
     wpAny (model prog w) A (call (.builtin "list.append") [acc,x]) (fun _ s₄=>∃m,m<n/\I m s₄) (fun _ _=>False) s₃)
     (fun _ _=>False) s₂) (fun _ _=>False) s₁') (fun _ _=>False) s₁) (fun _ _=>False) s)
  (n:Nat)(h:I n s):
  codeAny (model prog w) A (.compLoop (.ListComp elt [⟨target,iter,[],0⟩] scope pos) 0 it acc env) R s:=by
 refine codeAny_loop rfl I (fun n s hI=>?_) n h
 show wpAny _ _ ((compTurn (.ListComp elt [⟨target,iter,[],0⟩] scope pos) 0 it acc env).onRaise (fun x=>do noteFrame x env;theTreesLotGoes x)) _ _ s
 refine wpAny_noted ?_
 rw[compTurn_list1]
 refine wpAny_bind (wpAny_standAt (wpAny_bind (wpAny_mono (turn n s hI) (fun r s₁ h₁=>?_) fun _ _ h'=>h'.elim)))
 cases r with
 |none=>exact wpAny_pure h₁
 |some v=>
  refine wpAny_bind (wpAny_mono h₁ (fun _ s₁' h₁'=>?_) fun _ _ h'=>h'.elim)
  exact wpAny_bind (wpAny_mono h₁' (fun _ s₂ h₂=>wpAny_bind (wpAny_bind (wpAny_mono h₂ (fun x s₃ h₃=>wpAny_bind (wpAny_mono h₃
   (fun _ s₄ h₄=>wpAny_pure (wpAny_pure ⟨rfl,h₄⟩)) fun _ _ h'=>h'.elim)) fun _ _ h'=>h'.elim))) fun _ _ h'=>h'.elim)
end
variable{X:Cx}
structure Away(X:Cx)(pins:List (Addr×Obj))(H:Hp)(C:Addr):Prop where
 free:H C=none
 loc:C≠X.env.locals
 new:X.s₀.heap.objs.size<=C
 cell:∀x c,X.env.cells.lookup x=some c->c≠C
 pin:∀p∈X.pn++pins,p.1≠C
theorem gN{elt tg iter:Expr}{scope:Scope}{cl:List (Str×Addr)}{pos fpos:Pos}{fr own:List Str}{js:List Nat}{wi:TI}{g:TG}{te:TE}{use:Option (Value->Sem Unit)}{Post:Value->Shared->Prop}
  {pins:List (Addr×Obj)}{s:Shared}{σ:L2.St}{H:Hp}{Q:VK}
  (hc:X.calm=true)(hi:PI X tg iter wi)(hclos:closureFor scope X.env=pure cl)(hcl:∀y c,cl.lookup y=some c->X.env.cells.lookup y=some c)(hfr:cl.map (·.1)=fr)
  (S:BScope X scope fr js)
  (hg:∀C s H fp,PG (Zh X (own++fr) scope cl C s H fp) tg g)(he:∀C s H fp,PE (Zh X (own++fr) scope cl C s H fp) elt te)
  (hs:∀x,foldedSetIterable iter X.env x=pure x)
  (I:L2.Inv X pins σ H s)(h:dz own.length js wi g te σ H Q)
  (hfin:∀(acc C:Addr) (s5:Shared) (H':Hp) (m:Str->Option Value),L2.Inv X pins σ H' s5->s5.heap.Ns C m->Away X pins H' C->Q (.ref acc) H'->compPost (model X.prog X.w) X.A X.xe use Post (.ref acc) C (.ok .next) s5):
  wpAny (model X.prog X.w) X.A (comprehension (.ListComp elt [⟨tg,iter,[],0⟩] scope pos) scope X.env fpos (newList []) false (eval iter X.env) use) Post X.xe s:=by
 refine wpAny_comprehension_free (use:=use) rfl hs hclos S.kind S.names (qt (hi pins s σ H _ I h) fun v s1 h1=>qt h1 fun itv s2 h2=>?_)
 obtain⟨it,fp,tn,J,H2,e,I2,T,st2,f2,W,⟨m0,w0⟩,turn⟩:=h2
 subst e
 refine wpAny_newObj_type (wpAny_newFunctionEnv S.nocell (by intro y hy;simp at hy) (fun h₁ hns₁ hsb₁=>?_) S.kind)
 dsimp only at hns₁ hsb₁⊢
 generalize hH2:s2.heap.push {cls:= .type "list",dict:=none,data:= .seq ([]:List Value).toArray}=G at hns₁ hsb₁⊢
 have hC:G.objs.size=s2.heap.objs.size+1:=by rw[<- hH2,Heap.size_push]
 have hDC:s2.heap.objs.size≠G.objs.size:=by rw[hC];exact Nat.ne_of_lt (Nat.lt_succ_self _)
 have below:∀b,b<s2.heap.objs.size->b≠G.objs.size/\b≠s2.heap.objs.size:=fun b hb=>⟨by rw[hC];exact Nat.ne_of_lt (Nat.lt_succ_of_lt hb),Nat.ne_of_lt hb⟩
 have old:∀b o,s2.heap.get? b=some o->h₁.get? b=some o:=fun b o e=>hsb₁.extBut b o (below b (Heap.lt_size e)).1 (Heap.get?_push_of_some _ (hH2▸Heap.get?_push_of_some _ e))
 have hacc:h₁.get? s2.heap.objs.size=some {cls:= .type "list",data:= .seq ([]:List Value).toArray 0}:=hsb₁.extBut _ _ hDC (Heap.get?_push_of_some _ (hH2▸Heap.get?_push_size _ rfl))
 let Y:Cx:=Zh X (own++fr) scope cl G.objs.size s2 H2 fp
 have fplt:∀b∈fp,b<s2.heap.objs.size:=fun b hb=>by obtain⟨o,e,_⟩:=T.obj _ _ st2 b hb;exact Heap.lt_size e
 have okY:Y.Ok:=by
  refine⟨I2.ok.mod,S.kind,I2.ok.glob,I2.ok.blt,by show s2.heap.objs.size<=G.objs.size;omega,?_,?_,?_,I2.ok.hd,I2.ok.frames,.inl rfl,?_,I2.bs,Nat.le_trans I2.ok.bsz I2.sz,?_,?_,I2.stack,I2.stkFree⟩
  ·exact fun x y c e1 e2=>I2.ok.inj x y c (hcl x c e1) (hcl y c e2)
  ·intro x hx
   have hx':(relabel scope X.env).names.lookup x=some .cell\/(relabel scope X.env).names.lookup x=some .free:=hx
   have hm:∃k,(x,k)∈scope.names/\k= .free:=by
    have aux:∀kk:NameKind,(kk= .cell\/kk= .free)->(relabel scope X.env).names.lookup x=some kk->∃k,(x,k)∈scope.names/\k= .free:=by
     intro kk hk el
     obtain⟨⟨n,k⟩,hmem,e⟩:=List.mem_map.mp (PySem.mem_of_lookup el)
     dsimp only at e
     split at e
     ·rename_i hcond
      cases e
      refine⟨k,hmem,?_⟩
      simp only[Bool.and_eq_true,beq_iff_eq]at hcond
      exact hcond.1.1
     ·cases e
      rcases hk with z|z
      ·subst z;exact absurd rfl (S.nocell _ hmem)
      ·exact⟨_,hmem,z⟩
    rcases hx' with z|z
    ·exact aux _ (.inl rfl) z
    ·exact aux _ (.inr rfl) z
   obtain⟨k,hmem,hk⟩:=hm
   exact Qg (l:=cl) (by rw[hfr];exact S.free _ hmem hk)
  ·exact fun x c e _=>nomatch e
  ·refine fun b hb=>⟨?_,fun x c e=>(f2 b hb).2.2.2.2.1 x c (hcl x c e)⟩
   show b≠G.objs.size
   exact(below b (fplt b hb)).1
  ·intro b o e hb
   rcases(f2 b hb).2.2.2.1 with z|z
   ·exact I2.ok.noex b o e z
   ·exact absurd (Nat.lt_of_lt_of_le (Heap.lt_size e) (Nat.le_trans I2.ok.bsz z)) (Nat.lt_irrefl _)
  ·intro b hb hf
   rcases List.mem_cons.mp (I2.stkSub b hf)with z|z
   ·exact(f2 b hb).2.1 z
   ·exact(f2 b hb).2.2.1 z
 have lenσ:(σ0 own.length js σ).length=(own++fr).length:=by unfold σ0;simp [S.len]
 have IY:Inv Y [] (σ0 own.length js σ) H2 {s2 with heap:=h₁,toks:=s2.toks+([]:List (Str×Value)).length}:=by
  refine⟨okY,rfl,I2.bare,Un.kept old,⟨_,hns₁,?_⟩,?_,?_,?_,fun p hp=>absurd (show p∈([]:List (Addr×Obj))from hp) (by simp),I2.hok.kept old,lenσ⟩
  ·intro i x v hN hv _
   have hN':(own++fr)[i]? =some x:=hN
   unfold σ0 at hv
   by_cases hlt:i<own.length
   ·rw[List.getElem?_append_left (by simpa using hlt),List.getElem?_replicate]at hv
    split at hv<;>cases hv
   ·rw[List.getElem?_append_right (by simpa using Nat.le_of_not_lt hlt),List.length_replicate,List.getElem?_map]at hv
    rw[List.getElem?_append_right (Nat.le_of_not_lt hlt)]at hN'
    cases ej:js[i-own.length]? with
    |none=>rw[ej]at hv;cases hv
    |some j=>
     rw[ej]at hv
     have hσ:σ[j]? =some (some v):=by
      have hv':(σ[j]?).join=some v:=Option.some.inj hv
      cases q:σ[j]? with
      |none=>rw[q]at hv';cases hv'
      |some o=>rw[q]at hv';have:o=some v:=hv';rw[this]
     obtain⟨hNj,hk,hkr⟩:=S.at_ _ j x ej hN'
     obtain⟨m,hn,hl⟩:=I2.loc
     obtain⟨u,ru,lk⟩:=hl j x v hNj hσ (.inr (.inl hk))
     refine⟨u,ru,.inr ?_⟩
     rcases lk with⟨k1,_⟩|⟨_,c,ec,ic⟩
     ·rw[hk]at k1;cases k1
     ·obtain⟨c',hc'⟩:=Qg (y:=x) (l:=cl) (by rw[hfr];exact List.mem_of_getElem? hN')
      have:c'=c:=by have:=hcl x c' hc';rw[ec]at this;exact(Option.some.inj this).symm
      subst this
      refine⟨?_,c',hc',?_⟩
      ·show(relabel scope X.env).names.lookup x=some .cell\/(relabel scope X.env).names.lookup x=some .free
       exact .inl hkr
      ·obtain⟨oc,hoc,hd⟩:=ic
       exact⟨oc,old _ _ hoc,hd⟩
  ·intro x c e
   obtain⟨v,oc,hoc,hd⟩:=I2.cell x c (hcl x c e)
   exact⟨v,oc,old _ _ hoc,hd⟩
  ·exact I2.hok.fresh (by show s2.heap.objs.size<=G.objs.size;omega)
  ·exact fun x c e=>I2.freeC x c (hcl x c e)
 have accfs:s2.heap.objs.size∉aC X.stack:=fun hf=>by
  rcases List.mem_cons.mp (I2.stkSub _ hf)with z|z
  ·exact absurd (by rw[<- z];exact Nat.le_refl _:s2.heap.objs.size<=X.env.locals) (Nat.not_le.mpr I2.lt)
  ·exact I2.nofs (Nat.le_refl _) z
 have acccell:∀x c,cl.lookup x=some c->c≠s2.heap.objs.size:=fun x c e z=>by
  obtain⟨v,oc,hoc,_⟩:=I2.cell x c (hcl x c e)
  exact absurd (Heap.lt_size hoc) (by rw[z];exact Nat.lt_irrefl _)
 have fpY:∀{H':Hp} {pl:List (Addr×Obj)},(∀b∈fp,H' b=none)->(∀p∈pl,p.1=s2.heap.objs.size)->∀b∈fp,Zd Y pl H' b:=fun{H' pl} hn hp b hb=>
  ⟨hn b hb,(below b (fplt b hb)).1,okY.exfs b hb,.inl hb,fun x c e=>(f2 b hb).2.2.2.2.1 x c (hcl x c e),fun p hpp=>by
   have hpp':p∈pl:=by simpa [Y,Zh]using hpp
   rw[hp p hpp'];exact Ne.symm (below b (fplt b hb)).2⟩
 have loop:∀s₃:Shared,Inv Y [] (σ0 own.length js σ) H2 s₃->tn 0 s₃.heap->s₃.heap.get? s2.heap.objs.size=some {cls:= .type "list",data:= .seq ([]:List Value).toArray 0}->
   codeAny (model X.prog X.w) X.A (.compLoop (.ListComp elt [⟨tg,iter,[],0⟩] scope pos) 0 (.ref it) (.ref s2.heap.objs.size) (compEnvC scope cl G.objs.size X.env))
    (compPost (model X.prog X.w) X.A X.xe use Post (.ref s2.heap.objs.size) G.objs.size) s₃:=by
  intro s₃ I3 st3 ha3
  refine iB (fun n s'=>∃i ys τ H' its k,Inv Y [(s2.heap.objs.size,{cls:= .type "list",data:= .seq its.toArray k})] τ H' s'/\tn i s'.heap/\(∀b∈fp,H' b=none)/\Vals ys its/\ys.length<=sizeLine/\W i n ys τ H') ?_ m0 ?_
  ·rintro n s4 ⟨i,ys,τ,H4,its,k,I4,st4,fr4,vl,hz,w4⟩
   have pin4:=I4.pin (s2.heap.objs.size,{cls:= .type "list",data:= .seq its.toArray k}) (by simp [Y,Zh])
   rcases turn i n ys τ H4 w4 with⟨stop,qn⟩|⟨go,hlt,step⟩
   ·refine qt (T.done Y rfl rfl rfl hc i _ s4 τ H4 _ I4 (fpY fr4 (by simp)) st4 stop) fun r s5 ⟨hr,I5⟩=>?_
    subst hr
    show compPost _ _ _ _ _ _ _ _ _
    obtain⟨m5,hn5,_⟩:=I5.loc
    have pin5:=I5.pin (s2.heap.objs.size,{cls:= .type "list",data:= .seq its.toArray k}) (by simp [Y,Zh])
    have nacc:H4 s2.heap.objs.size=none:=pin5.2.1
    have B:=I5.base
    have nC:H4 G.objs.size=none:=I5.free
    refine hfin s2.heap.objs.size G.objs.size s5 (upd H4 s2.heap.objs.size (.lst ys)) m5 ?_ hn5 ?_ (qn _ nacc)
    ·refine I2.call' (s':=s5) (ch:=fp) I5.os ⟨B.keep,B.slot,fun b o e n hx=>?_,B.there,fun b xs e=>?_,fun b o u e=>?_,fun b ps e=>?_⟩ ?_ I5.bare ?_
     ·rw[qi (below b (Heap.lt_size e)).2];exact B.free b o e n hx
     ·have e1:=B.tups b xs e
      rw[qi (qo e1 nacc)];exact e1
     ·have e1:=B.frzs b o u e
      rw[qi (qo e1 nacc)];exact e1
     ·obtain⟨more,e1⟩:=B.tbls b ps e
      exact⟨more,by rw[qi (qo e1 nacc)];exact e1⟩
     ·intro b u e
      by_cases hb:b=s2.heap.objs.size
      ·subst hb
       rw[qc]at e;cases e
       exact⟨hz,its,k,vl,pin5.1⟩
      ·rw[qi hb]at e
       exact(I5.hok b u e).stay (fun c v _ q=>q) (fun c q=>by rw[qi (qo q nacc)];exact q) fun c xs q=>by rw[qi (qo q nacc)];exact q
     ·exact fun b hb=>⟨(f2 b hb).2.2.2.1,(f2 b hb).2.1,(f2 b hb).2.2.2.2.1,(f2 b hb).2.2.2.2.2⟩
    ·have hge:s2.heap.objs.size<=G.objs.size:=by omega
     refine⟨by rw[qi (Ne.symm hDC)];exact nC,?_,Nat.le_trans I2.sz hge,fun x c e z=>?_,fun p hp z=>?_⟩
     ·exact Nat.ne_of_gt (Nat.lt_of_lt_of_le I2.lt hge)
     ·obtain⟨v,oc,hoc,_⟩:=I2.cell x c e
      exact absurd (Nat.lt_of_lt_of_le (Heap.lt_size hoc) hge) (by rw[z];exact Nat.lt_irrefl _)
     ·exact absurd (Nat.lt_of_lt_of_le (Heap.lt_size (I2.pin p hp).1) hge) (by rw[z];exact Nat.lt_irrefl _)
   ·refine qt (T.item Y rfl rfl rfl hc i _ s4 τ H4 _ I4 (fpY fr4 (by simp)) st4 go) fun r s5 ⟨u,hr,h5⟩=>?_
    subst hr
    refine qt h5 fun _ s6 ⟨x,H6,I6,r6,y6,st6,fr6⟩=>?_
    have I6':=I6.pinned (fpY fr6 (by simp)) (T.obj _ _ st6)
    refine qt (hg _ _ _ _ _ s6 τ H6 x u _ I6' r6 (step x H6 y6)) fun _ s7 ⟨τ7,H7,I7,N,hN,q7⟩=>?_
    refine qt (he _ _ _ _ _ s7 τ7 H7 _ I7 q7) fun v' s8 ⟨y,H8,I8,r8,n8⟩=>?_
    obtain⟨m',hm',w8⟩:=hN _ _ n8
    have pin8:=I8.pin (s2.heap.objs.size,{cls:= .type "list",data:= .seq its.toArray k}) (by simp [Zh])
    have pinfp:∀b∈fp,∀o,s6.heap.get? b=some o->s8.heap.get? b=some o/\H8 b=none:=fun b hb o e=>by
     have:=I8.pin (b,o) (List.mem_append_right _ (List.mem_append_right _ (af hb e)))
     exact⟨this.1,this.2.1⟩
    refine wpAny_list_append_plain (items:=its.toArray) ⟨k,pin8.1⟩ (fun h' ha' hs'=>?_) (by have:=vl.length;simp;omega)
    obtain⟨k',ha'⟩:=ha'
    have I9:Inv Y [] τ7 H8 {s8 with heap:=h'}:=by
     refine(I8.pins_of (pins':=[]) (by simp)).turned (t':=s8.toks) (it:=s2.heap.objs.size) (fun b o hb e=>(hs'.2 b hb).trans e) pin8.2.1 ?_ (.inr (Nat.le_refl _)) (fun x c e=>acccell x c e) (fun p hp=>absurd (show p∈([]:List (Addr×Obj))from by simpa [Y,Zh]using hp) (by simp))
     exact hDC
    have ea:(its.toArray.push v')=(its++[v']).toArray:=by simp
    rw[ea]at ha'
    refine⟨m',hm',i+1,ys++[y],τ7,H8,its++[v'],k',I9.pins_of ?_,T.keep _ _ _ st6 fun b hb o e=>(hs'.2 b (below b (fplt b hb)).2).trans (pinfp b hb o e).1,fun b hb=>?_,vl.append (.cons r8 .nil),?_,w8⟩
    ·intro p hp
     rw[List.mem_singleton.mp hp]
     exact⟨ha',pin8.2.1,hDC,accfs,fun v z=>by cases z⟩
    ·obtain⟨o,e,_⟩:=T.obj _ _ st6 b hb
     exact(pinfp b hb o e).2
    ·rw[List.length_append,List.length_singleton];omega
  ·refine⟨0,[],σ0 own.length js σ,H2,[],0,I3.pins_of ?_,st3,fun b hb=>(f2 b hb).1,.nil,Nat.zero_le _,w0⟩
   intro p hp
   rw[List.mem_singleton.mp hp]
   exact⟨ha3,I2.hok.fresh (Nat.le_refl _),hDC,accfs,fun v z=>by cases z⟩
 have st1:tn 0 h₁:=T.keep _ _ _ st2 fun b _ o e=>old b o e
 exact codeAny_compStart_list (loop _ IY st1 hacc) (T.self _ 0 _ _ _ st1 (loop _ IY st1 hacc))
theorem sY{elt tg iter:Expr}{scope:Scope}{cl:List (Str×Addr)}{pos:Pos}{fr own:List Str}{js:List Nat}{wi:TI}{g:TG}{te:TE}
  (hc:X.calm=true)(hi:PI X tg iter wi)(hclos:closureFor scope X.env=pure cl)(hcl:∀y c,cl.lookup y=some c->X.env.cells.lookup y=some c)(hfr:cl.map (·.1)=fr)
  (S:BScope X scope fr js)
  (hg:∀C s H fp,PG (Zh X (own++fr) scope cl C s H fp) tg g)(he:∀C s H fp,PE (Zh X (own++fr) scope cl C s H fp) elt te)
  (hs:∀x,foldedSetIterable iter X.env x=pure x:=by intro _;rfl):
  PE X (.ListComp elt [⟨tg,iter,[],0⟩] scope pos) (dz own.length js wi g te):=by
 intro pins s σ H Q I h
 rw[eval_ListComp]
 refine gN (use:=none) hc hi hclos hcl hfr S hg he hs I h fun acc C s5 H' m I5 hn aw q=>?_
 exact⟨m,hn,fun h' hs'=>⟨.ref acc,H',I5.turned (t':=s5.toks) (fun b o hb e=>(hs'.2 b hb).trans e) aw.free aw.loc (.inr aw.new) aw.cell aw.pin,rfl,q⟩⟩
theorem sZ{elt tg iter:Expr}{scope:Scope}{cl:List (Str×Addr)}{pos spos py:Pos}{fr own:List Str}{js:List Nat}{wi:TI}{g:TG}{te:TE}{i:Nat}{y:Str}
  (hN:X.N.Nodup)(hi':X.N[i]? =some y)(hx:fN X.env.scope y)
  (hc:X.calm=true)(hi:PI X tg iter wi)(hclos:closureFor scope X.env=pure cl)(hcl:∀y c,cl.lookup y=some c->X.env.cells.lookup y=some c)(hfr:cl.map (·.1)=fr)
  (S:BScope X scope fr js)
  (hg:∀C s H fp,PG (Zh X (own++fr) scope cl C s H fp) tg g)(he:∀C s H fp,PE (Zh X (own++fr) scope cl C s H fp) elt te)
  (hs:∀x,foldedSetIterable iter X.env x=pure x:=by intro _;rfl)(hsw:swapsWith (.ListComp elt [⟨tg,iter,[],0⟩] scope pos) (some (.Name y py)) spos.line X.env=pure true:=by rfl)
  (hf:X.fn y=true\/X.env.scope.names.lookup y=some .local:=by first|exact .inl rfl|exact .inr rfl|assumption):
  PS X (.Assign [.Name y py] (.ListComp elt [⟨tg,iter,[],0⟩] scope pos) spos) (eN (dz own.length js wi g te) (Qc i)):=by
 intro pins s σ H D I h
 rw[exec_Assign_Name_used _ _ _ _ hsw]
 refine wpAny_bind (wpAny_standAt (wpAny_bind ?_))
 show wpAny _ X.A (do let _ <- comprehension (.ListComp elt [⟨tg,iter,[],0⟩] scope pos) scope X.env _ (newList []) false (eval iter X.env) (some (assign (.Name y py) X.env))) _ _ s
 refine wpAny_bind (wpAny_mono (gN (use:=some (assign (.Name y py) X.env)) (Post:=fun _ s'=>SP X pins D .next s') hc hi hclos hcl hfr S hg he hs I h ?_) (fun _ s' hq=>wpAny_pure (wpAny_pure hq)) fun _ _ e=>e)
 intro acc C s5 H' m I5 hn aw q
 show wpAny _ X.A (assign (.Name y py) X.env (.ref acc)) _ _ _
 refine wpAny_assign_Name (fB (v:= .ref acc) I5 hN hi' hx rfl (fun s6 I6 ⟨a,hs6,ha⟩=>?_) hf)
 have hCa:C≠a:=by
  rcases ha with z|z
  ·rw[z];exact aw.loc
  ·exact Ne.symm (aw.cell _ _ z)
 refine⟨m,hn.sameBut hs6 hCa,fun h' hs'=>?_⟩
 exact⟨_,H',I6.turned (t':=s6.toks) (fun b o hb e=>(hs'.2 b hb).trans e) aw.free aw.loc (.inr aw.new) aw.cell aw.pin,q⟩
section
variable{js:List Nat}{te:TE}{σ:L2.St}{H:Hp}{Q:VK}{K:Frag}
abbrev Q6(js:List Nat)(σ:L2.St):L2.St:=js.map fun j=>(σ[j]?).join
abbrev c8(J:It)(js:List Nat)(te:TE)(σ:L2.St)(H1:Hp)(Q:VK):Prop:=gs 1 js (Qc 0) te σ Q J H1
theorem ap{J:It}{n:Nat}(hn:n<=sizeLine)(item:Nat->V->Prop)(Pv:Nat->List V->Hp->Prop)(h0:Pv 0 [] H)(hgo:∀i ys H,i<n->Pv i ys H->J.go i H)(hst:∀ys H,Pv n ys H->J.stop n H)
  (hy:∀i ys H x H',i<n->Pv i ys H->J.yld i H x H'->H'=H/\item i x)
  (hs:∀i ys H x,i<n->ys.length=i->Pv i ys H->item i x->te (some x::Q6 js σ) H fun v H3=>Pv (i+1) (ys++[v]) H3)
  (hd:∀ys H,ys.length=n->Pv n ys H->∀p,H p=none->Q (.ref p) (upd H p (.lst ys))):c8 J js te σ H Q:=by
 refine⟨fun i m ys τ H=>m=n-i/\i<=n/\ys.length=i/\Pv i ys H/\∃o,τ=o::Q6 js σ,⟨n,by simp,Nat.zero_le _,rfl,h0,none,rfl⟩,?_⟩
 rintro i m ys τ H ⟨rfl,hi,hl,p,o,rfl⟩
 by_cases hlt:i<n
 ·refine .inr ⟨hgo i ys H hlt p,by omega,fun x H' y=>?_⟩
  obtain⟨e,hx⟩:=hy i ys H x H' hlt p y
  subst e
  exact⟨fun v H3=>Pv (i+1) (ys++[v]) H3,fun v H3 p3=>⟨n-(i+1),by omega,rfl,hlt,by simp [hl],p3,_,rfl⟩,hs i ys _ x hlt hl p hx⟩
 ·have e:i=n:=by omega
  subst e
  exact .inl ⟨hst ys H p,hd ys H hl p⟩
theorem Q9{a:Addr}{xs:List V}(hn:xs.length<=sizeLine)(Pv:Nat->List V->Hp->Prop)(h0:Pv 0 [] H)(hl:∀i ys H,Pv i ys H->SqL K H a xs)
  (hs:∀i ys H x,xs[i]? =some x->ys.length=i->Pv i ys H->te (some x::Q6 js σ) H fun v H3=>Pv (i+1) (ys++[v]) H3)
  (hd:∀ys H,ys.length=xs.length->Pv xs.length ys H->∀p,H p=none->Q (.ref p) (upd H p (.lst ys))):c8 (cM K a) js te σ H Q:=
 ap hn (fun i x=>xs[i]? =some x) Pv h0 (fun i ys H hi p=>⟨xs,xs[i],hl _ _ _ p,by simp [hi]⟩) (fun ys H p=>⟨xs,hl _ _ _ p,Nat.le_refl _⟩) (fun i ys H x H' _ p y=>⟨y.1,y.2 xs (hl _ _ _ p)⟩) (fun i ys H x _ hl p hx=>hs i ys H x hx hl p) hd
theorem pj{a:Addr}{xs:List V}(hn:xs.length<=sizeLine)(Pv:Nat->List V->Hp->Prop)(h0:Pv 0 [] H)(hl:∀i ys H,Pv i ys H->SqT K H a xs)
  (hs:∀i ys H x,xs[i]? =some x->ys.length=i->Pv i ys H->te (some x::Q6 js σ) H fun v H3=>Pv (i+1) (ys++[v]) H3)
  (hd:∀ys H,ys.length=xs.length->Pv xs.length ys H->∀p,H p=none->Q (.ref p) (upd H p (.lst ys))):c8 (fI K a) js te σ H Q:=
 ap hn (fun i x=>xs[i]? =some x) Pv h0 (fun i ys H hi p=>⟨xs,xs[i],hl _ _ _ p,by simp [hi]⟩) (fun ys H p=>⟨xs,hl _ _ _ p,Nat.le_refl _⟩) (fun i ys H x H' _ p y=>⟨y.1,y.2 xs (hl _ _ _ p)⟩) (fun i ys H x _ hl p hx=>hs i ys H x hx hl p) hd
theorem Zm{lo:Int}{n:Nat}(hn:n<=sizeLine)(Pv:Nat->List V->Hp->Prop)(h0:Pv 0 [] H)
  (hs:∀i ys H,i<n->ys.length=i->Pv i ys H->te (some (.int (lo+i))::Q6 js σ) H fun v H3=>Pv (i+1) (ys++[v]) H3)
  (hd:∀ys H,ys.length=n->Pv n ys H->∀p,H p=none->Q (.ref p) (upd H p (.lst ys))):c8 (fU lo n) js te σ H Q:=
 ap hn (fun i x=>x= .int (lo+i)) Pv h0 (fun i ys H hi p=>hi) (fun ys H p=>Nat.le_refl _) (fun i ys H x H' _ p y=>y) (fun i ys H x hi hl p hx=>by subst hx;exact hs i ys H hi hl p) hd
end
end L3
namespace L3
open PySem PySem.Spec PyProof.Rows L2
section
variable{X:Cx}{pins:List (Addr×Obj)}{σ:L2.St}{H:Hp}{s:Shared}
theorem fb{h':Heap}{t':Nat}{ch:List Addr}{a:Addr}{xs:List V}{its:List Value}(I:L2.Inv X pins σ H s)(k:∀b o,b∉ch->s.heap.get? b=some o->h'.get? b=some o)(hch:∀b∈ch,Zd X pins H b)
  (ho:∀b∈ch,∃o,h'.get? b=some o)(ha:s.heap.objs.size<=a)(hz:xs.length<=sizeLine)(hv:Vals xs its)(ht:IsTup h' a its.toArray):L2.Inv X pins σ (upd H a (.tup xs)) {s with heap:=h',toks:=t'}:=by
 have na:H a=none:=I.hok.fresh ha
 have nlt:∀b o,s.heap.get? b=some o->b≠a:=fun b o e=>Nat.ne_of_lt (Nat.lt_of_lt_of_le (Heap.lt_size e) ha)
 have nch:∀b u,H b=some u->b∉ch:=fun b u e z=>by rw[(hch b z).1]at e;cases e
 refine I.step (g':=s.gens) (d':=s.drawn) (ch:=ch) (fun b hb=>⟨(hch b hb).2.2.2.1,(hch b hb).2.1,(hch b hb).2.2.2.2.1,(hch b hb).2.2.2.2.2⟩) (fun b o _ _ hc e _=>k b o hc e) (fun b o _ _ hc e _=>⟨o.slots,k b o hc e⟩)
  (fun b o _ e n=>by rw[qi (nlt b o e)];exact n) (fun b o hc e=>⟨o,k b o hc e⟩) (fun b ys e=>by rw[qi (qo e na)];exact e) (fun b o u e=>by rw[qi (qo e na)];exact e)
  (fun b ps e=>⟨#[],by rw[qi (qo e na),e];simp⟩) (fun m hm=>?_) (fun b u e=>?_) I.bare
 ·obtain⟨o,es,ep,ho,r⟩:=hm
  exact⟨o,es,ep,k _ o (fun z=>(hch _ z).2.1 rfl) ho,r⟩
 ·by_cases hb:b=a
  ·subst hb
   rw[qc]at e;cases e
   exact⟨hz,its,hv,ht⟩
  ·rw[qi hb]at e
   refine(I.hok b u e).stay (fun c v hc q=>k c v ?_ q) (fun c q=>by rw[qi (qo q na)];exact q) fun c ys q=>by rw[qi (qo q na)];exact q
   rcases hc with z|z
   ·rw[z];exact nch b u e
   ·exact nch c _ z
def jP(K:Frag)(a:Addr):It:=
 ⟨fun i H=>∃xs x,SqL K H a xs/\xs[i]? =some x,fun i H x H'=>∃p v,H p=none/\x= .ref p/\(∀xs,SqL K H a xs->xs[i]? =some v)/\H'=upd H p (.tup [.int i,v]),fun i H=>∃xs,SqL K H a xs/\xs.length<=i⟩
theorem gd{P:Program}{w:World}{K:Frag}{elts:List Expr}{x1}{pos:Pos}(a e it:Addr)(hei:e≠it):
  Turn P w K (.Tuple elts x1 pos) (jP K a) [e,it] e (fun i h=>(∃old,IsEnum h e it i old)/\h.IsListIter it a i) where
 mem:=by simp
 obj:=fun i h st b hb=>by
  obtain⟨⟨old,he⟩,⟨o,ho,hc,hd⟩⟩:=st
  rcases List.mem_cons.mp hb with z|z
  ·subst z
   refine⟨_,he,fun v z=>?_⟩
   have z':Data.fields _=Data.cell v:=z
   cases z'
  ·rw[List.mem_singleton.mp z]
   exact⟨o,ho,fun v z=>by rw[hd]at z;cases z⟩
 keep:=fun i h h' st k=>⟨let⟨old,he⟩:=st.1;⟨old,k e (by simp) _ he⟩,st.2.at fun o q=>k it (by simp) o q⟩
 item:=by
  intro X hP hw hK hc i pins s σ H E I hf st hg
  subst hP hw hK
  obtain⟨xs,x,hq,hx⟩:=hg
  obtain⟨its,rv,p,hz⟩:=I.list hq
  obtain⟨u,hu,ru⟩:=rv.get hx
  obtain⟨⟨old,he⟩,hit⟩:=st
  refine wpAny_pyNext_enum_item he hit p.isList (x:=u) (by simpa using hu) hei fun h' ho hit' ht hsz hk=>⟨_,rfl,?_⟩
  refine wpAny_letOwnedTupleGo_enum ho fun h'' he'' hs''=>?_
  have helt:e<s.heap.objs.size:=Heap.lt_size he
  have hilt:it<s.heap.objs.size:=by obtain⟨_,y,_⟩:=hit;exact Heap.lt_size y
  refine⟨.ref s.heap.objs.size,upd H s.heap.objs.size (.tup [.int i,x]),?_,rfl,⟨_,x,I.hok.fresh (Nat.le_refl _),rfl,fun ys hy=>by rw[I.list_inj hy hq];exact hx,rfl⟩,⟨⟨_,by simpa using he''⟩,?_⟩,?_⟩
  ·show L2.Inv X pins σ _ {s with heap:=h'',toks:=s.toks+1}
   refine fb (s:=s) (its:=[.int i s.toks,u]) I (ch:=[e,it]) (fun b o hb q=>?_) hf (fun b hb=>?_) (Nat.le_refl _) (by show 2<=sizeLine;decide) (.cons ⟨_,rfl⟩ (.cons ru .nil)) ?_
   ·have hb1:b≠e:=fun z=>hb (by simp [z])
    have hb2:b≠it:=fun z=>hb (by simp [z])
    exact(hs''.2 b hb1).trans (hk b o hb1 hb2 q)
   ·rcases List.mem_cons.mp hb with z|z
    ·subst z;exact⟨_,he''⟩
    ·rw[List.mem_singleton.mp z]
     obtain⟨o,y,_⟩:=hit'
     exact⟨o,(hs''.2 it (Ne.symm hei)).trans y⟩
   ·exact⟨_,(hs''.2 _ (Nat.ne_of_gt helt)).trans ht,rfl,_,rfl⟩
  ·exact hit'.extBut hs''.extBut (Ne.symm hei)
  ·intro b hb
   rw[qi]
   ·exact(hf b hb).1
   ·rcases List.mem_cons.mp hb with z|z
    ·subst z;exact Nat.ne_of_lt helt
    ·rw[List.mem_singleton.mp z];exact Nat.ne_of_lt hilt
 done:=by
  intro X hP hw hK hc i pins s σ H E I hf st hg
  subst hP hw hK
  obtain⟨xs,hq,hx⟩:=hg
  obtain⟨its,rv,p,hz⟩:=I.list hq
  obtain⟨⟨old,he⟩,hit⟩:=st
  obtain⟨f0,f1,f2,f3,f4,f5⟩:=hf it (by simp)
  have hl:=rv.length
  exact wpAny_pyNext_enum_end (I.ok.hd hc) he hit p.isList (by simp;omega) fun h' eb=>⟨rfl,I.turned (t':=s.toks) (fun b o hb e=>eb b o hb e) f0 f1 f3 f4 f5⟩
 self:=fun _ _ _ _ _ st h=>by
  obtain⟨⟨old,he⟩,_⟩:=st
  exact wpAny_pyIter_enum he h
def rJ(K:Frag)(ta:TA):TI:=fun σ H R=>ta σ H fun vs H1=>∃a,vs=[.ref a]/\(∃xs,SqL K H1 a xs)/\R (jP K a) H1
theorem sf{a:Expr}{ta:TA}{p pos:Pos}{elts:List Expr}{x1}{tpos:Pos}(hg:Gl X "enumerate")(hm:X.mg "enumerate"=none)(ha:PA X [a] ta)(hs:starEach [a] X.env=[(false,eval a X.env)]:=by rfl):
  PI X (.Tuple elts x1 tpos) (.Call (.Name "enumerate" p) [a] [] pos) (rJ X.K ta):=by
 intro pins s σ H R I h
 refine Call_ (QV I hg hm boot_enumerate (PyProof.Rows.callWith_type1 (qt (ha pos pins s σ H _ I h) fun us s1 ⟨vs,H1,I1,r1,q1⟩=>?_) hs rfl))
 obtain⟨l,e,⟨xs,hq⟩,q⟩:=q1
 subst e
 obtain⟨u,rfl,ru⟩:=r1.one
 cases ru
 obtain⟨its,rv,pl,hz⟩:=I1.list hq
 refine call_enumerate_list pl.isList fun h' he hit hsz hk=>wpAny_pyIter_enum he ?_
 have I2:L2.Inv X pins σ H1 {s1 with heap:=h'}:=I1.kept (t':=s1.toks) hk
 refine⟨s1.heap.objs.size+1,[s1.heap.objs.size+1,s1.heap.objs.size],_,_,H1,rfl,I2,gd l _ _ (Nat.ne_of_gt (Nat.lt_succ_self _)),⟨⟨_,he⟩,hit⟩,fun b hb=>?_,q⟩
 have hb':s1.heap.objs.size<=b:=by
  rcases List.mem_cons.mp hb with z|z
  ·rw[z];exact Nat.le_succ _
  ·rw[List.mem_singleton.mp z];exact Nat.le_refl _
 exact I1.fpOk hb' (I1.hok.fresh hb')
theorem cy{K:Frag}{a:Addr}{xs:List V}{g:TG}{tb:TS}{D:Ends}{σ:L2.St}{H:Hp}(Pv:Nat->L2.St->Hp->Prop)(h0:Pv 0 σ H)(hl:∀i σ H,i<=xs.length->Pv i σ H->SqL K H a xs)
  (hs:∀i x σ H p,xs[i]? =some x->Pv i σ H->H p=none->g (.ref p) σ (upd H p (.tup [.int i,x])) fun σ2 H2=>tb {D with nx:=Pv (i+1),ct:=Pv (i+1),bk:=D.nx} σ2 H2)(hd:∀σ H,Pv xs.length σ H->D.nx σ H):
  ∃W:Nat->Nat->L2.St->Hp->Prop,(∃m,W 0 m σ H)/\∀i m σ H,W i m σ H->
   ((jP K a).stop i H/\D.nx σ H)\/((jP K a).go i H/\∃N:L2.St->Hp->Prop,(∀σ' H',N σ' H'->∃m',m'<m/\W (i+1) m' σ' H')/\∀x H',(jP K a).yld i H x H'->g x σ H' fun σ2 H2=>tb {D with nx:=N,ct:=N,bk:=D.nx} σ2 H2):=by
 refine⟨fun i m σ H=>m=xs.length-i/\i<=xs.length/\Pv i σ H,⟨xs.length,by simp,Nat.zero_le _,h0⟩,?_⟩
 rintro i m σ H ⟨rfl,hi,p⟩
 have q:=hl i σ H hi p
 by_cases hlt:i<xs.length
 ·refine .inr ⟨⟨xs,xs[i],q,by simp [hlt]⟩,Pv (i+1),fun σ' H' p'=>⟨xs.length-(i+1),by omega,rfl,hlt,p'⟩,fun x H' y=>?_⟩
  obtain⟨pp,v,hp,rfl,hv,rfl⟩:=y
  exact hs i v σ H pp (hv xs q) p hp
 ·have e:i=xs.length:=by omega
  subst e
  exact .inl ⟨⟨xs,q,Nat.le_refl _⟩,hd σ H p⟩
end
def zj(t c:String):Bool:=t==c||(t=="bool"&&c=="int")
abbrev iG:List String:=["NoneType","bool","int","str","list","tuple"]
abbrev kC:List String:=["bool","int","str","list","tuple"]
theorem jY(K:Frag):∀t∈iG,∀c∈kC,W.kitOne K (.type t) (.type c)=some (zj t c):=by
 intro t ht c hc
 simp only[iG,kC,List.mem_cons,List.not_mem_nil,or_false]at ht hc
 rcases ht with rfl|rfl|rfl|rfl|rfl|rfl<;>rcases hc with rfl|rfl|rfl|rfl|rfl<;>kernel_rfl
section
variable{X:Cx}
theorem gY:qW X (.builtin "isinstance") (fun xs H Q=>∃x c t,xs=[x,.ty c]/\TyOf X.K H x (.type t)/\t∈iG/\c∈kC/\Q (.bl (zj t c)) H):=by
 intro pins s σ H xs us Q I r h
 obtain⟨x,c,t,rfl,ty,ht,hc,q⟩:=h
 obtain⟨u,v,rfl,ru,rv⟩:=gv r
 cases(show v=Value.type c from rv)
 exact lK I ru ty (jY X.K t ht c hc) fun tk=>⟨.bl _,H,I.tok tk,rfl,q⟩
theorem gD:∀{bs:List Bool} {us:List Value},Vals (bs.map V.bl) us->us=bs.map Value.bool
 | [],_,.nil=>rfl
 |b::bs,_,.cons r t=>by
  cases(show _=Value.bool b from r)
  rw[gD t];rfl
theorem kq(bs:List Bool):((List.range bs.length).all fun i=>(bs[i]?).getD true)=bs.all id:=by
 rw[Bool.eq_iff_iff,List.all_eq_true,List.all_eq_true]
 constructor
 ·intro h b hb
  obtain⟨i,hi,e⟩:=List.mem_iff_getElem.mp hb
  have:=h i (List.mem_range.mpr hi)
  rw[List.getElem?_eq_getElem hi,Option.getD_some,e]at this
  exact this
 ·intro h i hi
  have hi':=List.mem_range.mp hi
  rw[List.getElem?_eq_getElem hi',Option.getD_some]
  exact h _ (List.getElem_mem hi')
theorem bB(hc:X.calm=true):qW X (.builtin "all") (fun xs H Q=>∃(p:Addr) (bs:List Bool),xs=[.ref p]/\SqL X.K H p (bs.map V.bl)/\Q (.bl (bs.all id)) H):=by
 intro pins s σ H xs us Q I r h
 obtain⟨p,bs,rfl,hq,q⟩:=h
 obtain⟨u,rfl,ru⟩:=zF r
 cases ru
 obtain⟨its,rv,pl,hz⟩:=I.list hq
 have e:=gD rv
 have hl:=pl.isList
 have hlt:p<s.heap.objs.size:=by obtain⟨_,e,_⟩:=hl;exact Heap.lt_size e
 refine call_all_walk (wpAny_pyIter_list hl ?_)
 refine⟨s.heap.objs.size,[s.heap.objs.size,p],[s.heap.objs.size],its.toArray.size,_,_,fun i=>(bs[i]?).getD true,rfl,Walks.list (A:=X.A.in1) (I.ok.hd hc) _ p (Nat.ne_of_lt hlt) its.toArray,
  ⟨⟨_,Heap.get?_push_size _ rfl,rfl,rfl⟩,hl.push _⟩,fun i v s' Q' E' hP hQ=>?_,fun h' tk hk=>?_⟩
 ·have hP':its[i]? =some v:=by simpa using hP
  rw[e,List.getElem?_map]at hP'
  cases eb:bs[i]? with
  |none=>rw[eb]at hP';cases hP'
  |some b=>
   rw[eb]at hP'
   cases(Option.some.inj hP':Value.bool b=v)
   simp only[eb,Option.getD_some]at hQ
   exact wpAny_truthy_bool hQ
 ·have e2:((List.range its.toArray.size).all fun i=>(bs[i]?).getD true)=bs.all id:=by
   rw[List.size_toArray,e,List.length_map];exact kq bs
  rw[e2]
  refine⟨.bl _,H,I.kept (h':=h') (t':=tk) fun b o q=>hk b o (fun hm=>?_) (Heap.get?_push_of_some _ q),rfl,q⟩
  rw[List.mem_singleton.mp hm]at q
  exact Nat.lt_irrefl _ (Heap.lt_size q)
theorem fy:qW X (.type "range") (fun xs H Q=>∃j:Int,xs=[.int j]/\∀p,H p=none->Q (.ref p) (upd H p (.rng 0 j))):=by
 intro pins s σ H xs us Q I r h
 obtain⟨j,rfl,q⟩:=h
 obtain⟨u,rfl,ru⟩:=zF r
 obtain⟨t,rfl⟩:=ru
 refine call_range_1 ⟨.ref s.heap.objs.size,_,I.laid (o:= .rng 0 j) (fun b o e=>Heap.get?_push_of_some _ e) (Nat.le_refl _) ⟨_,_,_,Heap.get?_push_size _ rfl⟩,rfl,q _ (I.hok.fresh (Nat.le_refl _))⟩
theorem kf(hc:X.calm=true):qW X (.type "list") (fun xs H Q=>∃(p:Addr) (j:Nat),xs=[.ref p]/\H p=some (.rng 0 (j:Int))/\j<=2 ^ 24/\∀l,H l=none->Q (.ref l) (upd H l (.lst ((List.range j).map fun i=>V.int (i:Nat))))):=by
 intro pins s σ H xs us Q I r h
 obtain⟨p,j,rfl,hp,hj,q⟩:=h
 obtain⟨u,rfl,ru⟩:=zF r
 cases ru
 obtain⟨t,u,v,e⟩:=I.hok p _ hp
 refine call_list_range (n:=j) (I.ok.hd hc) (show IsRange s.heap p 0 (j:Int) 1 t u v from e) (small_one (by omega) (by omega) (by omega) (by omega)) (by rw[rangeSize_one];split<;>omega) hj fun h' tk acc' c' hk hS' hacc=>?_
 refine⟨.ref s.heap.objs.size,_,I.laid (h':=h') (t':=tk) hk (Nat.le_refl _) ?_,rfl,q _ (I.hok.fresh (Nat.le_refl _))⟩
 have aux:∀(us:List Value) (n k:Nat),us.length=n->(∀i v,us[i]? =some v->∃t,v=Value.int ((k+i:Nat):Int) t)->Vals ((List.range' k n).map fun i=>V.int (i:Nat)) us:=by
  intro us
  induction us with
  |nil=>intro n k hn _;cases hn;exact .nil
  |cons u us ih=>
   intro n k hn hv
   cases n with
   |zero=>cases hn
   |succ n=>
    rw[List.range'_succ,List.map_cons]
    obtain⟨t,ht⟩:=hv 0 u rfl
    refine .cons ⟨t,by simpa using ht⟩ (ih n (k+1) (by simpa using hn) fun i v hi=>?_)
    obtain⟨t,ht⟩:=hv (i+1) v hi
    exact⟨t,by rw[ht];congr 1;omega⟩
 have vals:Vals ((List.range j).map fun i=>V.int (i:Nat)) acc'.toList:=by
  rw[List.range_eq_range']
  refine aux _ _ 0 (by rw[Array.length_toList];exact hacc.1) fun i v hi=>?_
  obtain⟨t,ht⟩:=hacc.2 i v (by rw[<- Array.getElem?_toList];exact hi)
  exact⟨t,by rw[ht];congr 1;omega⟩
 exact⟨by simp only[List.length_map,List.length_range];exact Nat.le_trans hj (by rw[sizeLine_eq];decide),acc'.toList,c',vals,hS'⟩
def wA:V->Option Int->Option Int->Hp->VK->Prop:=fun x lo hi H Q=>∃a xs,x= .ref a/\H a=some (.tup xs)/\∀p H',Same H H'->H' p=some (.tup (ZB xs lo hi))->(p=a\/H p=none)->Q (.ref p) H'
theorem aH{prog:Program}{w:World}{A:Around}{E:Value->Shared->Prop}{s:Shared}{t sl:Addr}{items:Array Value}{vl vu:Value}{lo hi:Option Int}{Q:Value->Shared->Prop}(ht:IsTup s.heap t items)(hs:s.heap.IsSliceOf sl vl vu .none)(pl:IsPart vl lo)(pu:IsPart vu hi)
  (hw:HT.sIx items.size 0 lo=0/\HT.sIx items.size items.size hi=items.size)(h:Q (.ref t) s):wpAny (model prog w) A (getItem (.ref t) (.ref sl)) Q E s:=by
 obtain⟨os,hos,hcs,hds⟩:=id hs
 have hTs:s.TypeIs (.ref sl) "slice":=⟨os,hos,hcs⟩
 unfold getItem
 try with_reducible refine wpAny_holding ?_
 first|refine wpAny_bind (wpAny_pure ?_)|skip
 refine wpAny_bind (wpAny_sequenceKey ht.typeIs (by decide) ?_)
 refine wpAny_bind (wpAny_callSpecial?_slot (name:=Str.ofString "__getitem__") ht.typeIs PyProof.Rows.slot_tuple_getitem
  (wpAny_call_entry PyProof.Rows.slot_tuple_getitem ht.typeIs entry_tuple_getitem ?_ (args_tuple_getitem _ _)))
 show wpAny _ _ (Builtin.Tuple.tupleItemsOf (.ref t) >>= _) _ _ s
 refine wpAny_bind (tupleItemsOf_ ht ?_)
 refine wpAny_bind (wpAny_typeOf hTs ?_)
 rw[if_pos (by decide)]
 refine wpAny_bind (HT.sliceApplied_gen hs pl pu ?_)
 show wpAny _ _ (if(((HT.sIx items.size 0 lo:Nat):Int)==0&&(1:Int)==1&&(HT.sIx items.size items.size hi-HT.sIx items.size 0 lo)==items.size)=true then _ else _) _ _ s
 rw[hw.1,hw.2,if_pos (by simp)]
 refine wpAny_bind (m:=Builtin.Tuple.tupleIsExact _) ?_
 unfold Builtin.Tuple.tupleIsExact
 refine wpAny_bind (wpAny_typeOf ht.typeIs (wpAny_pure ?_))
 rw[if_pos (by rfl)]
 exact wpAny_bind (wpAny_rule (wpAny_pure ⟨_,rfl,wpAny_pure h⟩))
theorem jD:mQ X wA:=by
 intro pins s σ H x v vl vu lo hi sl Q I rx hs pl pu h
 obtain⟨a,xs,rfl,hx,q⟩:=h
 by_cases hw:HT.sIx xs.length 0 lo=0/\HT.sIx xs.length xs.length hi=xs.length
 ·cases rx
  obtain⟨its,r,ht,hz⟩:=I.tuple (SqT.of hx)
  have hlen:its.toArray.size=xs.length:=by rw[List.size_toArray];exact r.length.symm
  refine⟨"tuple",_,PyProof.Rows.slot_tuple_getitem.lookup,ht.typeIs,?_⟩
  refine aH ht hs pl pu (by rw[hlen];exact hw) ⟨.ref a,H,I,rfl,q a H (Same.refl H) ?_ (.inl rfl)⟩
  have:ZB xs lo hi=xs:=by unfold ZB;rw[hw.1,hw.2];simp
  rw[this];exact hx
 ·exact uL pins s σ H _ v vl vu lo hi sl Q I rx hs pl pu ⟨a,xs,rfl,SqT.of hx,hw,fun p hp=>q p _ (fun b o e=>by rw[qi (qo e hp)];exact e) qc (.inr hp)⟩
def v9:R2:=fun x y H Q=>∃a b xs ys,x= .ref a/\y= .ref b/\H a=some (.tup xs)/\H b=some (.tup ys)/\xs.length+ys.length<=sizeLine/\∀p H',Same H H'->H' p=some (.tup (xs++ys))->Q (.ref p) H'
theorem Z6:q8 X (binaryOp .Add) v9:=by
 intro pins s σ H x y v u Q I rx ry h
 obtain⟨a,b,xs,ys,rfl,rfl,ha,hb,hz,q⟩:=h
 by_cases hx:xs=[]
 ·subst hx
  cases rx
  cases ry
  obtain⟨its,r1,p1,_⟩:=I.tuple (SqT.of ha)
  obtain⟨its2,r2,p2,_⟩:=I.tuple (SqT.of hb)
  cases r1
  obtain⟨⟨cls,dd,data,sl⟩,ho,hc,n,hd⟩:=id p1
  obtain⟨⟨cls2,dd2,data2,sl2⟩,ho2,hc2,n2,hd2⟩:=id p2
  simp only at hc hd hc2 hd2
  subst hc hd hc2 hd2
  exact concat_meets ⟨_,ho,rfl⟩ ⟨_,ho2,rfl⟩ noFill_tuple_add seq_tuple_add PySem.F.slot_tuple_add PySem.F.entry_tuple_add (PySem.F.args_tuple_add_2 _ _)
   (tuple_addW0 a b _ its2.toArray n n2 dd dd2 sl sl2 (by simp)) ⟨ho,ho2,⟨.ref b,H,I,rfl,q b H (Same.refl H) hb⟩⟩
 ·refine sT pins s σ H _ _ v u Q I rx ry ⟨a,b,xs,ys,rfl,rfl,SqT.of ha,SqT.of hb,hx,hz,fun e=>q a H (Same.refl H) (by subst e;simpa using ha),fun _ p hp=>q p _ (fun b o e=>by rw[qi (qo e hp)];exact e) qc⟩
theorem jW{ns:List Int}{us:List Value}(r:Vals (ns.map V.int) us)(j:Nat)(h:j<us.length)(h':j<ns.length):∃t,us[j]=Value.int ns[j] t:=by
 obtain⟨u,hu,ru⟩:=r.get (i:=j) (x:=V.int ns[j]) (by rw[List.getElem?_map,List.getElem?_eq_getElem h'];rfl)
 rw[List.getElem?_eq_getElem h]at hu
 cases hu
 exact ru
theorem pE(ns ms:List Int)(h:ns.length=ms.length):((List.range ns.length).all fun j=>(ns.getD j 0==ms.getD j 0))=decide (ns=ms):=by
 rw[Bool.eq_iff_iff,List.all_eq_true,decide_eq_true_iff]
 constructor
 ·intro q
  refine List.ext_getElem h fun i h1 h2=>?_
  have:=q i (List.mem_range.mpr h1)
  simp only[List.getD_eq_getElem?_getD,List.getElem?_eq_getElem h1,List.getElem?_eq_getElem h2,Option.getD_some,beq_iff_eq]at this
  exact this
 ·rintro rfl i _
  simp
end
def Qb:Expr->Bool
 | .Starred .. =>false
 |_=>true
theorem ZO{e:Expr}{es:List Expr}{env:Env}(h:Qb e=true):starEach (e::es) env=(false,eval e env)::starEach es env:=by
 cases e<;>first|rfl|cases h
theorem wJ{X:Cx}{e:Expr}{es:List Expr}{te:TE}{t:TA}(ha:PE X e te)(hr:PA X es t)(h:Qb e=true:=by rfl):PA X (e::es) (k4 te t):=s0 ha hr (ZO h)
structure Df(P:Program)(w:World)(K:Frag)(mg:Str->Option Value)(base:Heap)(x:Str)(ps:List Str)(k:Nat)(sp:Sp):Prop where
 ex:∃(f:Addr) (fd:FuncData),FnOk P w K mg base Zz k f fd ps sp/\mg x=some (.ref f)/\PySem.W.keepIn K (.ref f)=true/\Binds K fd ps []
structure At(K:Frag)(mg:Str->Option Value)(x:Str)(st:Stmt)(ps:List Str):Prop where
 ex:∃(f:Addr) (fd:FuncData),Fun K x x st f fd/\mg x=some (.ref f)/\PySem.W.keepIn K (.ref f)=true/\Binds K fd ps []
section
variable{P:Program}{w:World}{K:Frag}{mg:Str->Option Value}{base:Heap}
theorem At.df{x:Str}{st:Stmt}{ps N:List Str}{k:Nat}{sp:Sp}(a:At K mg x st ps)(S:FnScope N ps (qg st))(len:∀vs H Q E,sp vs H Q E->vs.length=ps.length)
  (hbody:∀(f:Addr) (cdv:Value) (A:Around) (outer:List Env) (s:Shared) (H:Hp) (vs:List V) (Q:VK) (E:XK),Room k (A.deeper (envOfC x (qg st) s.heap.objs.size f cdv))->sp vs H Q E->
   ∃t,PSs (Z3 Zz P w K mg base N x (qg st) f cdv A outer s H E).nox (zf st) t/\t {nx:=fun _ H'=>Q .non H',rt:=Q} (Qt N vs) H):Df P w K mg base x ps (k+1) sp:=by
 obtain⟨f,fd,F,m,kp,bd⟩:=a.ex
 exact⟨f,fd,F.ok S len (fun cdv A outer s H vs Q E hr h=>hbody f cdv A outer s H vs Q E hr h),m,kp,bd⟩
end
section
variable{X:Cx}{x:Str}{ps:List Str}{k:Nat}{sp:Sp}{e:Expr}{es:List Expr}{p pos:Pos}{t:TA}
theorem uk(D:Df X.prog X.w X.K X.mg X.base x ps k sp)(hr:Room k X.A)(ha:PA X (e::es) t)(hg:Gl X x:=by rfl)(hdb:(x==("__debug__":Str))=false:=by decide)(he:starEach (e::es) X.env=(false,eval e X.env)::starEach es X.env:=by rfl)(hpl:(backTo pos (starEach es X.env)).any (·.1)=false:=by rfl):
  PE X (.Call (.Name x p) (e::es) [] pos) (lv sp [] E0 t):=by
 obtain⟨f,fd,ok,m,kp,bd⟩:=D.ex
 exact tz ok hr hg m kp bd .nil gt ha hdb he hpl
end
theorem cB{X:Cx}{scope:Scope}(kind:scope.kind= .function)(names:∀x∈scope.names,x.2= .local->scope.names.lookup x.1=some .local)(nocell:∀x∈scope.names,x.2≠ .cell)
  (free:∀x∈scope.names,x.2= .free->x.1∈([]:List Str)):BScope X scope [] []:=⟨kind,names,nocell,free,rfl,fun i j y h=>by simp at h⟩
theorem kM{X:Cx}{scope:Scope}{y:Str}{j:Nat}(kind:scope.kind= .function)(names:∀x∈scope.names,x.2= .local->scope.names.lookup x.1=some .local)(nocell:∀x∈scope.names,x.2≠ .cell)
  (free:∀x∈scope.names,x.2= .free->x.1∈([y]:List Str))(h1:X.N[j]? =some y)(h2:X.env.kindOf y=some .cell)(h3:(relabel scope X.env).names.lookup y=some .cell):BScope X scope [y] [j]:=
 ⟨kind,names,nocell,free,rfl,fun i j' y' e1 e2=>by
  cases i with
  |zero=>cases e1;cases e2;exact⟨h1,h2,h3⟩
  |succ i=>simp at e1⟩
theorem j6{X:Cx}{y:Str}{c:Addr}(h:X.env.cells.lookup y=some c):∀z d,([(y,c)]:List (Str×Addr)).lookup z=some d->X.env.cells.lookup z=some d:=fun z d e=>by
 by_cases hz:z=y
 ·subst hz
  simp at e
  rw[<- e];exact h
 ·simp [List.lookup_cons,show(z==y)=false from by simpa using hz]at e
abbrev lu(n m k:Int):HO:= .lst [.int n,.int m,.int k]
theorem _root_.L2.Same.upd{H:Hp}{p:Addr}{o:HO}(h:H p=none):Same H (upd H p o):=fun b u e=>by rw[qi (qo e h)];exact e
theorem ng(c:Bool): -(2 ^ 64:Int)<(if c=true then(1:Int)else 0):=by cases c<;>decide
theorem lT(c:Bool):(if c=true then(1:Int)else 0)<(2 ^ 64:Int):=by cases c<;>decide
theorem j5{n j:Nat}(h:j<n):Z4 n (j:Int)=some j:=by unfold Z4;rw[if_pos (by omega),if_pos (by omega)];simp
def bh(ns:List Int)(lo hi:Option Int):List Int:=(ns.drop (HT.sIx ns.length 0 lo)).take (HT.sIx ns.length ns.length hi-HT.sIx ns.length 0 lo)
theorem iA(ns:List Int)(lo hi:Option Int):ZB (ns.map V.int) lo hi=(bh ns lo hi).map V.int:=by unfold ZB bh;rw[List.length_map,List.map_take,List.map_drop]
theorem zH{ns:List Int}{i:Nat}{x:V}(h:(ns.map V.int)[i]? =some x):∃z,x= .int z/\ns[i]? =some z:=by
 rw[List.getElem?_map]at h
 cases e:ns[i]? with
 |none=>rw[e]at h;cases h
 |some z=>rw[e]at h;exact⟨z,(Option.some.inj h).symm,rfl⟩
theorem ef{ns:List Int}{i:Nat}(h:i<ns.length):(ns.map V.int)[i]? =some (.int ns[i]):=by rw[List.getElem?_map,List.getElem?_eq_getElem h];rfl
theorem au(ns:List Int)(i:Nat)(z:Int):(ns.map V.int).set i (.int z)=(ns.set i z).map V.int:=by rw[List.map_set]
def rL:Option HO->Option String
 |some (.lst _)=>some "list"
 |some (.tup _)=>some "tuple"
 |_=>none
def kd(H:Hp):V->Option String
 | .non=>some "NoneType"
 | .bl _=>some "bool"
 | .int _=>some "int"
 | .str _=>some "str"
 | .ref a=>rL (H a)
 |_=>none
theorem lP{o:Option HO}{t:String}(h:rL o=some t):(∃xs,o=some (.lst xs)/\t="list")\/(∃xs,o=some (.tup xs)/\t="tuple"):=by
 cases o with
 |none=>cases h
 |some u=>
  cases u with
  |lst xs=>cases h;exact .inl ⟨xs,rfl,rfl⟩
  |tup xs=>cases h;exact .inr ⟨xs,rfl,rfl⟩
  |_=>cases h
theorem cP{H:Hp}{a:Addr}{t:String}(h:kd H (.ref a)=some t):(∃xs,H a=some (.lst xs)/\t="list")\/(∃xs,H a=some (.tup xs)/\t="tuple"):=lP h
theorem vZ{K:Frag}{H:Hp}{x:V}{t:String}(h:kd H x=some t):TyOf K H x (.type t)/\t∈iG:=by
 cases x with
 |non=>cases h;exact⟨.non,by simp⟩
 |bl b=>cases h;exact⟨.bl b,by simp⟩
 |int i=>cases h;exact⟨.int i,by simp⟩
 |str x=>cases h;exact⟨.str x,by simp⟩
 |byt b=>cases h
 |flt b=>cases h
 |ty b=>cases h
 |ref a=>
  rcases cP h with⟨xs,e,rfl⟩|⟨xs,e,rfl⟩
  ·exact⟨.lst e,by simp⟩
  ·exact⟨.tup e,by simp⟩
theorem bG{H H':Hp}{x:V}{t:String}(s:Same H H')(h:kd H x=some t):kd H' x=some t:=by
 cases x with
 |ref a=>
  rcases cP h with⟨xs,e,rfl⟩|⟨xs,e,rfl⟩
  ·show rL (H' a)=_;rw[s _ _ e];rfl
  ·show rL (H' a)=_;rw[s _ _ e];rfl
 |_=>exact h
def aq:V->Bool
 | .int i=>decide (0<=i)&&decide (i<16)
 |_=>false
theorem QJ{α:Type}{xs:List α}{r:Int}(h0:0<=r)(h1:r<xs.length):∃v,QX xs r=some v/\v∈xs:=by
 have hr:r.toNat<xs.length:=by omega
 refine⟨xs[r.toNat],?_,List.getElem_mem hr⟩
 have e:QX xs ((r.toNat:Nat):Int)=some xs[r.toNat]:=QH (List.getElem?_eq_getElem hr)
 rwa [show((r.toNat:Nat):Int)=r by omega]at e
def gx(K:Frag):Sp:=fun vs H Q _=>∃(a:Addr) (ns:List Int),vs=[.ref a]/\SqL K H a (ns.map V.int)/\ns.length<=63/\∀H',Q (.bl true) H'
def jZ:Sp:=fun vs H Q _=>∃x t,vs=[x]/\kd H x=some t/\Q (.bl (aq x)) H
def iT:Sp:=fun vs H Q _=>∃p xs,vs=[.ref p]/\H p=some (.tup xs)/\xs.length<=sizeLine/\(∀x∈xs,∃t,kd H x=some t)/\∀H',Same H H'->Q (.bl (xs.all aq)) H'
end L3
namespace L3
open PySem PySem.Spec L2
structure QE(X:Cx)(e:Expr)(t:TE):Prop where
 h:PE X e t
structure QT(X:Cx)(e:Expr)(t:TT):Prop where
 h:PT X e t
structure QW(X:Cx)(e:Expr)(t:TT):Prop where
 h:PW X e t
structure QA(X:Cx)(e:List Expr)(t:TA):Prop where
 h:PA X e t
structure QS(X:Cx)(e:Stmt)(t:TS):Prop where
 h:PS X e t
structure QSs(X:Cx)(e:List Stmt)(t:TS):Prop where
 h:PSs X e t
structure QG(X:Cx)(e:Expr)(t:TG):Prop where
 h:PG X e t
structure QGs(X:Cx)(e:List Expr)(t:ZG):Prop where
 h:j3 X e t
structure QO(X:Cx)(e:Option Expr)(t:TO):Prop where
 h:PO X e t
structure QI(X:Cx)(tg e:Expr)(t:TI):Prop where
 h:PI X tg e t
variable{X:Cx}
theorem qe{i j pos}:QE X (.Constant (.int i) j pos) (tC (.int i)):=⟨uo⟩
theorem Qs{b j pos}:QE X (.Constant (.bool b) j pos) (tC (.bl b)):=⟨v4⟩
theorem zd{j pos}:QE X (.Constant .none j pos) (tC .non):=⟨ur⟩
theorem qh{x j pos}:QE X (.Constant (.str x) j pos) (tC (.str x)):=⟨vB⟩
theorem qX{x:Str}{v:V}{u:Value}{pos:Pos}(hg:Gl X x)(hm:X.mg x=some u)(r:RelV v u)(hd:(x==("__debug__":Str))=false:=by decide):QE X (.Name x pos) (tC v):=⟨sj (hg:=hg) (hm:=hm) (r:=r) (hd:=hd)⟩
theorem zp{x:Str}{v:V}{u:Value}{pos:Pos}(hg:Gl X x)(hm:X.mg x=none)(hv:bootBuiltins x=some u)(r:RelV v u)(hn:x≠"__name__":=by decide)(hd:(x==("__debug__":Str))=false:=by decide):QE X (.Name x pos) (tC v):=⟨rV (hg:=hg) (hm:=hm) (hv:=hv) (r:=r) (hn:=hn) (hd:=hd)⟩
theorem qk{a b:Expr}{ta tb:TE}{pos:Pos}{op:Operator}{r:R2}(ho:q8 X (binaryOp op) r)(ha:QE X a ta)(hb:QE X b tb):QE X (.BinOp a op b pos) (fh r ta tb):=⟨vW (ho:=ho) (ha:=ha.h) (hb:=hb.h)⟩
theorem vM{a:Expr}{ta:TE}{pos:Pos}{op:UnaryOp}{r:V->Hp->VK->Prop}(ho:rg X (unaryOp op) r)(ha:QE X a ta):QE X (.UnaryOp op a pos) (wj r ta):=⟨vR (ho:=ho) (ha:=ha.h)⟩
theorem zx{a b:Expr}{ta tb:TE}{pos:Pos}{op:CmpOp}{r:R2}(ho:q8 X (compareOp op) r)(ha:QE X a ta)(hb:QE X b tb)(hm:behindInMarks op b=false):QE X (.Compare a [op] [b] pos) (fh r ta tb):=⟨r9 (ho:=ho) (ha:=ha.h) (hb:=hb.h) (hm:=hm)⟩
theorem qu{a b:Expr}{ta tb:TE}{pos:Pos}{op:CmpOp}{r:R2}(ho:q8 X (compareOp op) r)(ha:QE X a ta)(hb:QE X b tb)(hm:behindInMarks op b=false):QT X (.Compare a [op] [b] pos) (bF (fh r ta tb)):=⟨sX (ho:=ho) (ha:=ha.h) (hb:=hb.h) (hm:=hm)⟩
theorem cq{a b c:Expr}{ta tb tc:TE}{pos:Pos}{op op':CmpOp}{r r':R2}(ho:q8 X (compareOp op) r)(ho':q8 X (compareOp op') r')(ha:QE X a ta)(hb:QE X b tb)(hc:QE X c tc)(hm:lastMarks [op,op'] [b,c]=false:=by with_unfolding_all rfl):QE X (.Compare a [op,op'] [b,c] pos) (cU r r' ta tb tc):=⟨nR (ho:=ho) (ho':=ho') (ha:=ha.h) (hb:=hb.h) (hc:=hc.h) (hm:=hm)⟩
theorem ig{a b c:Expr}{ta tb tc:TE}{pos:Pos}{op op':CmpOp}{r r':R2}(ho:q8 X (compareOp op) r)(ho':q8 X (compareOp op') r')(ha:QE X a ta)(hb:QE X b tb)(hc:QE X c tc)(hm:lastMarks [op,op'] [b,c]=false:=by with_unfolding_all rfl):QT X (.Compare a [op,op'] [b,c] pos) (bF (cU r r' ta tb tc)):=⟨om (ho:=ho) (ho':=ho') (ha:=ha.h) (hb:=hb.h) (hc:=hc.h) (hm:=hm)⟩
theorem Qm{a b:Expr}{rest:List Expr}{ta tb:TE}{pos:Pos}(ha:QE X a ta)(hb:QE X (.BoolOp .And (b::rest) pos) tb):QE X (.BoolOp .And (a::b::rest) pos) (rB ta tb):=⟨uH (ha:=ha.h) (hb:=hb.h)⟩
theorem Zs{a:Expr}{pos:Pos}{op}{t:TE}(h:QE X a t):QE X (.BoolOp op [a] pos) t:=⟨vf (h:=h.h)⟩
theorem g9{a:Expr}{ta:TE}{pos:Pos}(ha:QE X a ta):QE X (.UnaryOp .Not a pos) (rm ta):=⟨uz (ha:=ha.h)⟩
theorem Qn{a b:Expr}{rest:List Expr}{tA tB':TT}{pos:Pos}(ha:QT X a tA)(hb:QW X (.BoolOp .And (b::rest) pos) tB'):QW X (.BoolOp .And (a::b::rest) pos) (tP tA tB'):=⟨vd (ha:=ha.h) (hb:=hb.h)⟩
theorem zE{a b:Expr}{rest:List Expr}{tA tB':TT}{pos:Pos}(ha:QT X a tA)(hb:QW X (.BoolOp .Or (b::rest) pos) tB'):QW X (.BoolOp .Or (a::b::rest) pos) (uG tA tB'):=⟨vI (ha:=ha.h) (hb:=hb.h)⟩
theorem QK{a:Expr}{tA:TT}{pos:Pos}(ha:QT X a tA):QW X (.BoolOp .And [a] pos) tA:=⟨sN (ha:=ha.h)⟩
theorem zJ{a:Expr}{tA:TT}{pos:Pos}(ha:QT X a tA):QW X (.BoolOp .Or [a] pos) tA:=⟨vv (ha:=ha.h)⟩
theorem zB{a:Expr}{tA:TT}{pos:Pos}(ha:QT X a tA):QT X (.UnaryOp .Not a pos) (tL tA):=⟨vj (ha:=ha.h)⟩
theorem zn{e:Expr}{t:TE}(h:QE X e t)(he:∀whole,isTrue e X.env whole=(do let v <- whole;standAt e.pos;holding [v] (truthy v)):=by intro _;rfl):QT X e (tB t):=⟨tH (h:=h.h) (he:=he)⟩
theorem pH{a b:Expr}{ta tb:TE}{tA:TT}{pos:Pos}{c:Expr}(hc:QT X c tA)(ha:QE X a ta)(hb:QE X b tb):QE X (.IfExp c a b pos) (wb tA ta tb):=⟨oG (hc:=hc.h) (ha:=ha.h) (hb:=hb.h)⟩
theorem qb{e:Expr}{es:List Expr}{te:TE}{t:TA}(ha:QE X e te)(hr:QA X es t)(h:Qb e=true:=by rfl):QA X (e::es) (k4 te t):=⟨wJ (ha:=ha.h) (hr:=hr.h) (h:=h)⟩
theorem qa:QA X [] oA:=⟨uS⟩
theorem qA{es:List Expr}{t:TA}{pos:Pos}{x1}(h:QA X es t):QE X (.Tuple es x1 pos) (vk t):=⟨vh (h:=h.h)⟩
theorem zk{es:List Expr}{t:TA}{pos:Pos}(h:QA X es t):QE X (.List es pos) (tY t):=⟨uD (h:=h.h)⟩
theorem qB{a b:Expr}{ta tb:TE}{pos:Pos}{r:R2}(hr:IxR X r)(ha:QE X a ta)(hb:QE X b tb)(hs:jF b):QE X (.Subscript a b pos) (fh r ta tb):=⟨vP (hr:=hr) (ha:=ha.h) (hb:=hb.h) (hs:=hs)⟩
theorem cJ{e:Expr}{te:TE}{lo hi:Option Expr}{tl th:TO}{pos p2:Pos}{r:V->Option Int->Option Int->Hp->VK->Prop}(hr:mQ X r)(he:QE X e te)(hl:QO X lo tl)(hu:QO X hi th):QE X (.Subscript e (.Slice lo hi none p2) pos) (we r te tl th):=⟨oK (hr:=hr) (he:=he.h) (hl:=hl.h) (hu:=hu.h)⟩
theorem eT:QO X none jJ:=⟨sI⟩
theorem eZ{e:Expr}{te:TE}(h:QE X e te):QO X (some e) (rN te):=⟨sv (h:=h.h)⟩
theorem qp{x:Str}{p pos:Pos}{e:Expr}{es:List Expr}{t:TA}{id:String}{r:List V->Hp->VK->Prop}(hc:qW X (.builtin id) r)(hg:Gl X x)(hm:X.mg x=none)(hv:bootBuiltins x=some (.builtin id))(ha:QA X (e::es) t)(hn:x≠"__name__":=by decide)(hdb:(x==("__debug__":Str))=false:=by decide)(he:starEach (e::es) X.env=(false,eval e X.env)::starEach es X.env:=by rfl)(hpl:(backTo pos (starEach es X.env)).any (·.1)=false:=by rfl):QE X (.Call (.Name x p) (e::es) [] pos) (rK r t):=⟨oj (hc:=hc) (hg:=hg) (hm:=hm) (hv:=hv) (ha:=ha.h) (hn:=hn) (hdb:=hdb) (he:=he) (hpl:=hpl)⟩
theorem qC{x:Str}{p pos:Pos}{e:Expr}{es:List Expr}{t:TA}{T:String}{r:List V->Hp->VK->Prop}(hc:qW X (.type T) r)(hg:Gl X x)(hm:X.mg x=none)(hv:bootBuiltins x=some (.type T))(ha:QA X (e::es) t)(hn:x≠"__name__":=by decide)(hdb:(x==("__debug__":Str))=false:=by decide)(he:starEach (e::es) X.env=(false,eval e X.env)::starEach es X.env:=by rfl)(hpl:(backTo pos (starEach es X.env)).any (·.1)=false:=by rfl):QE X (.Call (.Name x p) (e::es) [] pos) (rK r t):=⟨mh (hc:=hc) (hg:=hg) (hm:=hm) (hv:=hv) (ha:=ha.h) (hn:=hn) (hdb:=hdb) (he:=he) (hpl:=hpl)⟩
theorem qm{x:Str}{ps:List Str}{k:Nat}{sp:Sp}{e:Expr}{es:List Expr}{p pos:Pos}{t:TA}(D:Df X.prog X.w X.K X.mg X.base x ps k sp)(hr:Room k X.A)(ha:QA X (e::es) t)(hg:Gl X x:=by rfl)(hdb:(x==("__debug__":Str))=false:=by decide)(he:starEach (e::es) X.env=(false,eval e X.env)::starEach es X.env:=by rfl)(hpl:(backTo pos (starEach es X.env)).any (·.1)=false:=by rfl):QE X (.Call (.Name x p) (e::es) [] pos) (lv sp [] E0 t):=⟨uk (D:=D) (hr:=hr) (ha:=ha.h) (hg:=hg) (hdb:=hdb) (he:=he) (hpl:=hpl)⟩
theorem qx:QSs X [] kE:=⟨sS⟩
theorem qd{st:Stmt}{rest:List Stmt}{t u:TS}(h1:QS X st t)(h2:QSs X rest u):QSs X (st::rest) (cz t u):=⟨oF (h1:=h1.h) (h2:=h2.h)⟩
theorem qf{st:Stmt}{t:TS}(h1:QS X st t):QSs X [st] t:=⟨sK (h1:=h1.h)⟩
theorem qz{pos:Pos}{i:Nat}{x:Str}{e:Expr}{te:TE}{pos':Pos}(hN:X.N.Nodup)(hi:X.N[i]? =some x)(hx:fN X.env.scope x)(he:QE X e te)(hs:swapsWith e (some (.Name x pos')) pos.line X.env=pure false:=by rfl)(hf:X.fn x=true\/X.env.scope.names.lookup x=some .local:=by first|exact .inl rfl|exact .inr rfl|assumption):QS X (.Assign [.Name x pos'] e pos) (eN te (Qc i)):=⟨ub (hN:=hN) (hi:=hi) (hx:=hx) (he:=he.h) (hs:=hs) (hf:=hf)⟩
theorem zr{pos:Pos}{tg e:Expr}{te:TE}{g:TG}(he:QE X e te)(hg:QG X tg g)(hs:swapsWithSole [tg] e pos.line X.env=pure false:=by rfl)(hw:swappedStores [tg] e X.env=pure none:=by rfl)(h1:(assignEach [tg] X.env).map (·.2)=[assign tg X.env]:=by rfl):QS X (.Assign [tg] e pos) (eN te g):=⟨tX (he:=he.h) (hg:=hg.h) (hs:=hs) (hw:=hw) (h1:=h1)⟩
theorem qj{e:Expr}{te:TE}{pos:Pos}(he:QE X e te):QS X (.Return (some e) pos) (uJ te):=⟨ue (he:=he.h)⟩
theorem qI{t u:TS}{pos:Pos}{c:Expr}{a b:List Stmt}{tc:TT}(hc:QT X c tc)(ha:QSs X a t)(hb:QSs X b u):QS X (.If c a b pos) (eC tc t u):=⟨vX (hc:=hc.h) (ha:=ha.h) (hb:=hb.h)⟩
theorem zC{tg:Expr}{iter:Expr}{body:List Stmt}{wi:TI}{g:TG}{tb:TS}{pos:Pos}(hp:PassesOwn (model X.prog X.w) X.A X.env X.xe)(hc:X.calm=true)(hi:QI X tg iter wi)(hg:QG X tg g)(hb:QSs X body tb)(hs:∀x,foldedSetIterable iter X.env x=pure x:=by intro _;rfl):QS X (.For tg iter body [] pos) (vc wi g tb):=⟨uF (hp:=hp) (hc:=hc) (hi:=hi.h) (hg:=hg.h) (hb:=hb.h) (hs:=hs)⟩
theorem qV{e:Expr}{te:TE}{pos:Pos}(he:QE X e te)(hs:swapsWith e none pos.line X.env=pure false:=by rfl):QS X (.Expr e pos) (rC te):=⟨sA (he:=he.h) (hs:=hs)⟩
theorem sE{pos:Pos}{o i e:Expr}{to ti te:TE}{tget:V->V->Hp->VK->Prop}{tip:nG}{tset:cp}{op:Operator}{tpos:Pos}(ho:QE X o to)(hi:QE X i ti)(hg:oE X tget)(he:QE X e te)(hp:uX X op tip)(hs:gH X tset)(ha:∀ov iv new,augStore i ov iv new=(do holding [new,ov,iv] (setItem ov iv new);release [new,ov,iv] [];pure .next):=by intros;rfl):QS X (.AugAssign (.Subscript o i tpos) op e pos) (rn to ti te tget tip tset):=⟨sx (ho:=ho.h) (hi:=hi.h) (hg:=hg) (he:=he.h) (hp:=hp) (hs:=hs) (ha:=ha)⟩
theorem zZ{tg:Expr}{l:Expr}{tl:TE}(hl:QE X l tl):QI X tg l (pY X.K tl):=⟨tw (hl:=hl.h)⟩
theorem tT{tg:Expr}{l:Expr}{tl:TE}(hl:QE X l tl):QI X tg l (vw X.K tl):=⟨tJ (hl:=hl.h)⟩
theorem QF{tg:Expr}{a:Expr}{ta:TA}{p pos:Pos}(hg:Gl X "range")(hm:X.mg "range"=none)(ha:QA X [a] ta)(hs:starEach [a] X.env=[(false,eval a X.env)]:=by rfl):QI X tg (.Call (.Name "range" p) [a] [] pos) (rM ta):=⟨l7 (hg:=hg) (hm:=hm) (ha:=ha.h) (hs:=hs)⟩
theorem mN{tg:Expr}{a b:Expr}{ta:TA}{p pos:Pos}(hg:Gl X "range")(hm:X.mg "range"=none)(ha:QA X [a,b] ta)(hs:starEach [a,b] X.env=[(false,eval a X.env),(false,eval b X.env)]:=by rfl)(hs2:starEach [b] X.env=[(false,eval b X.env)]:=by rfl):QI X tg (.Call (.Name "range" p) [a,b] [] pos) (pS ta):=⟨mC (hg:=hg) (hm:=hm) (ha:=ha.h) (hs:=hs) (hs2:=hs2)⟩
theorem jr{a:Expr}{ta:TA}{p pos:Pos}{elts:List Expr}{x1}{tpos:Pos}(hg:Gl X "enumerate")(hm:X.mg "enumerate"=none)(ha:QA X [a] ta)(hs:starEach [a] X.env=[(false,eval a X.env)]:=by rfl):QI X (.Tuple elts x1 tpos) (.Call (.Name "enumerate" p) [a] [] pos) (rJ X.K ta):=⟨sf (hg:=hg) (hm:=hm) (ha:=ha.h) (hs:=hs)⟩
theorem ql{pos:Pos}{i:Nat}{x:Str}(hN:X.N.Nodup)(hi:X.N[i]? =some x)(hx:fN X.env.scope x)(hf:X.fn x=true\/X.env.scope.names.lookup x=some .local:=by first|exact .inl rfl|exact .inr rfl|assumption):QG X (.Name x pos) (Qc i):=⟨sP (hN:=hN) (hi:=hi) (hx:=hx) (hf:=hf)⟩
theorem dn{pos:Pos}{es:List Expr}{k:Nat}{t:ZG}{n:Nat}(hc:X.calm=true)(h:QGs X es t)(hn:(assignEach es X.env).length=n:=by rfl)(hst:(assignEach es X.env).findIdx? (·.1)=none:=by rfl):QG X (.Tuple es k pos) (ku X.K n t):=⟨iS (hc:=hc) (h:=h.h) (hn:=hn) (hst:=hst)⟩
theorem aM{pos:Pos}{o i:Expr}{to ti:TE}{t:cp}(ho:QE X o to)(hi:QE X i ti)(hs:gH X t)(ha:∀v,assign (.Subscript o i pos) X.env v=(do
      let ov <- holding [v] (eval o X.env)
      let iv <- holding [v,ov] (eval i X.env)
      standAt pos
      holding [v,ov,iv] (setItem ov iv v)
      release [v,ov,iv] []):=by intro _;rfl):QG X (.Subscript o i pos) (tO to ti t):=⟨vA (ho:=ho.h) (hi:=hi.h) (hs:=hs) (ha:=ha)⟩
theorem qY:QGs X [] kT:=⟨sO⟩
theorem qq{e:Expr}{es:List Expr}{t:TG}{u:ZG}(h1:QG X e t)(h2:QGs X es u)(hs:(assignEach (e::es) X.env).map (·.2)=assign e X.env::(assignEach es X.env).map (·.2):=by rfl):QGs X (e::es) (bK t u):=⟨pB (h1:=h1.h) (h2:=h2.h) (hs:=hs)⟩
theorem QW.pt{e:Expr}{t:TT}(h:QW X e t):QT X e t:=⟨PW.pt h.h⟩
theorem qv(i:Nat){x:Str}{pos:Pos}(hN:X.N[i]? =some x:=by rfl)(hv:tQ X.env.scope x:=by first|exact Or.inl rfl|exact Or.inr (Or.inl rfl)|exact Or.inr (Or.inr rfl))(hd:(x==("__debug__":Str))=false:=by decide)
  (hcd:(x==("__classdict__":Str))=false:=by decide):QE X (.Name x pos) (ul i):=⟨tN hN hv hd hcd⟩
theorem zD{elt tg iter:Expr}{scope:Scope}{cl:List (Str×Addr)}{pos:Pos}{fr own:List Str}{js:List Nat}{wi:TI}{g:TG}{te:TE}
  (hc:X.calm=true)(hi:QI X tg iter wi)(hclos:closureFor scope X.env=pure cl)(hcl:∀y c,cl.lookup y=some c->X.env.cells.lookup y=some c)(hfr:cl.map (·.1)=fr)
  (S:BScope X scope fr js)
  (hg:∀C s H fp,QG (Zh X (own++fr) scope cl C s H fp) tg g)(he:∀C s H fp,QE (Zh X (own++fr) scope cl C s H fp) elt te)
  (hs:∀x,foldedSetIterable iter X.env x=pure x:=by intro _;rfl):
  QE X (.ListComp elt [⟨tg,iter,[],0⟩] scope pos) (dz own.length js wi g te):=⟨sY hc hi.h hclos hcl hfr S (fun C s H fp=>(hg C s H fp).h) (fun C s H fp=>(he C s H fp).h) hs⟩
theorem j1{elt tg iter:Expr}{scope:Scope}{cl:List (Str×Addr)}{pos spos py:Pos}{fr own:List Str}{js:List Nat}{wi:TI}{g:TG}{te:TE}{i:Nat}{y:Str}
  (hN:X.N.Nodup)(hi':X.N[i]? =some y)(hx:fN X.env.scope y)
  (hc:X.calm=true)(hi:QI X tg iter wi)(hclos:closureFor scope X.env=pure cl)(hcl:∀y c,cl.lookup y=some c->X.env.cells.lookup y=some c)(hfr:cl.map (·.1)=fr)
  (S:BScope X scope fr js)
  (hg:∀C s H fp,QG (Zh X (own++fr) scope cl C s H fp) tg g)(he:∀C s H fp,QE (Zh X (own++fr) scope cl C s H fp) elt te)
  (hs:∀x,foldedSetIterable iter X.env x=pure x:=by intro _;rfl)(hsw:swapsWith (.ListComp elt [⟨tg,iter,[],0⟩] scope pos) (some (.Name y py)) spos.line X.env=pure true:=by rfl)
  (hf:X.fn y=true\/X.env.scope.names.lookup y=some .local:=by first|exact .inl rfl|exact .inr rfl|assumption):
  QS X (.Assign [.Name y py] (.ListComp elt [⟨tg,iter,[],0⟩] scope pos) spos) (eN (dz own.length js wi g te) (Qc i)):=⟨sZ hN hi' hx hc hi.h hclos hcl hfr S (fun C s H fp=>(hg C s H fp).h) (fun C s H fp=>(he C s H fp).h) hs hsw hf⟩
section
variable{P:Program}{w:World}{K:Frag}{mg:Str->Option Value}{base:Heap}
theorem At.dq{x:Str}{st:Stmt}{ps N:List Str}{k:Nat}{sp:Sp}(a:At K mg x st ps)(S:FnScope N ps (qg st))(len:∀vs H Q E,sp vs H Q E->vs.length=ps.length)
  (hbody:∀(f:Addr) (cdv:Value) (A:Around) (outer:List Env) (s:Shared) (H:Hp) (vs:List V) (Q:VK) (E:XK),Room k (A.deeper (PyProof.Rows.envOfC x (qg st) s.heap.objs.size f cdv))->sp vs H Q E->
   ∃t,QSs (Z3 Zz P w K mg base N x (qg st) f cdv A outer s H E).nox (zf st) t/\t {nx:=fun _ H'=>Q .non H',rt:=Q} (Qt N vs) H):Df P w K mg base x ps (k+1) sp:=
 a.df S len fun f cdv A outer s H vs Q E hr h=>let⟨t,q1,q2⟩:=hbody f cdv A outer s H vs Q E hr h;⟨t,q1.h,q2⟩
theorem _root_.L2.Fun.dq{x qual:Str}{st:Stmt}{f:Addr}{fd:FuncData}{N ps:List Str}{k:Nat}{sp:Sp}(F:Fun K x qual st f fd)(S:FnScope N ps (qg st))(len:∀vs H Q E,sp vs H Q E->vs.length=ps.length)
  (hbody:∀(cdv:Value) (A:Around) (outer:List Env) (s:Shared) (H:Hp) (vs:List V) (Q:VK) (E:XK),Room k (A.deeper (PyProof.Rows.envOfC qual (qg st) s.heap.objs.size f cdv))->sp vs H Q E->
   ∃t,QSs (Z3 Zz P w K mg base N qual (qg st) f cdv A outer s H E).nox (zf st) t/\t {nx:=fun _ H'=>Q .non H',rt:=Q} (Qt N vs) H):FnOk P w K mg base Zz (k+1) f fd ps sp:=
 F.ok S len fun cdv A outer s H vs Q E hr h=>let⟨t,q1,q2⟩:=hbody cdv A outer s H vs Q E hr h;⟨t,q1.h,q2⟩
theorem vK{x:Str}{st:Stmt}{ps:List Str}{f:Addr}{fd:FuncData}(F:Fun K x x st f fd)(m:mg x=some (.ref f))(b:Binds K fd ps []):At K mg x st ps:=⟨f,fd,F,m,F.kp,b⟩
end
end L3
namespace L3
open PySem PySem.Spec PyProof.Rows L2
section
variable{prog:Program}{w:World}{A:Around}{E:Value->Shared->Prop}{s:Shared}
end
section
variable{X:Cx}
end
def digs:List Int:=(List.range 16).map fun i=>((i:Nat):Int)
theorem iN:digs.length=16:=by decide
theorem vF:((List.range 16).map fun i=>V.int ((i:Nat):Int))=digs.map V.int:=by decide +kernel
theorem sC{α:Type}{xs:List α}{z:Int}{j:Nat}{v:α}(e:z=(j:Int))(h:xs[j]? =some v):QX xs z=some v:=by rw[e];exact QH h
theorem eM{n j:Nat}{z:Int}(e:z=(j:Int))(h:j<n):Z4 n z=some j:=by rw[e];exact j5 h
theorem iZ{z:Int}(h:z∈digs):0<=z/\z<16:=by
 obtain⟨i,hi,e⟩:=List.mem_map.mp h
 have:=List.mem_range.mp hi
 omega
end L3
namespace L3
open PySem PySem.Spec PyProof.Rows L2
open Sem (wp)
section
variable{prog:Program}{w:World}{A:Around}{E:Value->Shared->Prop}{s:Shared}
theorem kB{it t:Addr}{i:Nat}{its:Array Value}{x:Value}{Q:Value->Shared->Prop}(hit:s.heap.IsTupleIter it t i)(ht:s.heap.IsTuple t its)(hx:its[i]? =some x)
  (hQ:∀h',h'.IsTupleIter it t (i+1)->Heap.SameBut it s.heap h'->Q x {s with heap:=h'}):wpAny (model prog w) A (Builtin.SmallTypes.nextOf (.ref it)) Q E s:=by
 obtain⟨o,ho,hc,hd⟩:=id hit
 obtain⟨ol,hol,_,nl,hdl⟩:=ht
 unfold Builtin.SmallTypes.nextOf
 refine wpAny_bind (wpAny_callSpecial?_slot (name:=Str.ofString "__next__") hit.typeIs F.slot_tuple_iterator_next
  (wpAny_call_entry F.slot_tuple_iterator_next hit.typeIs F.entry_tuple_iterator_next ?_ (F.args_tuple_iterator_next_1 _)))
 show wpAny _ _ (field (.ref it) 0 >>= _) _ _ s
 refine wpAny_bind (wpAny_field ho hd (x:= .ref t) rfl ?_)
 show wpAny _ _ (if(Value.ref t==Value.none)=true then _ else _) _ _ s
 rw[if_neg (show¬((Value.ref t==Value.none)=true)from Bool.false_ne_true)]
 show wpAny _ _ (field (.ref it) 1 >>= _) _ _ s
 refine wpAny_bind (wpAny_field ho hd (x:= .int i 0) rfl ?_)
 show wpAny _ _ (seqItems? (.ref t) >>= _) _ _ s
 refine wpAny_bind (wpAny_seqItems hol hdl ?_)
 simp only[Int.toNat_natCast,hx]
 refine wpAny_bind (wpAny_setField ho hd (by simp) (wpAny_pure ⟨x,rfl,wpAny_pure (hQ _ ?_ (Heap.SameBut.update ..))⟩))
 exact⟨_,Heap.get?_update_self _ ho (Obj.isFreed_of_fields (Obj.data_mapFields hd _)),(Obj.cls_mapFields ..).trans hc,by
  rw[Obj.data_mapFields hd];simp [rawInt]⟩
theorem fK{it t:Addr}{i:Nat}{its:Array Value}{Q:Value->Shared->Prop}(hh:A.handled=none)(hit:s.heap.IsTupleIter it t i)(ht:s.heap.IsTuple t its)(hx:its[i]? =none)
  (hE:∀h' e,Heap.ExtBut it s.heap h'->(∃o,h'.get? e=some o/\o.cls= .type "StopIteration")->E (.ref e) {s with heap:=h'}):
  wpAny (model prog w) A (Builtin.SmallTypes.nextOf (.ref it)) Q E s:=by
 obtain⟨o,ho,hc,hd⟩:=id hit
 obtain⟨ol,hol,_,nl,hdl⟩:=ht
 unfold Builtin.SmallTypes.nextOf
 refine wpAny_bind (wpAny_callSpecial?_slot (name:=Str.ofString "__next__") hit.typeIs F.slot_tuple_iterator_next
  (wpAny_call_entry F.slot_tuple_iterator_next hit.typeIs F.entry_tuple_iterator_next ?_ (F.args_tuple_iterator_next_1 _)))
 show wpAny _ _ (field (.ref it) 0 >>= _) _ _ s
 refine wpAny_bind (wpAny_field ho hd (x:= .ref t) rfl ?_)
 show wpAny _ _ (if(Value.ref t==Value.none)=true then _ else _) _ _ s
 rw[if_neg (show¬((Value.ref t==Value.none)=true)from Bool.false_ne_true)]
 show wpAny _ _ (field (.ref it) 1 >>= _) _ _ s
 refine wpAny_bind (wpAny_field ho hd (x:= .int i 0) rfl ?_)
 show wpAny _ _ (seqItems? (.ref t) >>= _) _ _ s
 refine wpAny_bind (wpAny_seqItems hol hdl ?_)
 simp only[Int.toNat_natCast,hx]
 refine wpAny_bind (wpAny_rule (wpAny_bind (wpAny_setField ho hd (by simp) ?_)))
 show wpAny _ _ (newExc (.type "StopIteration") [] >>= _) _ _ _
 refine wpAny_bind ?_
 simp only[newExc,newTuple]
 refine wpAny_bind (wpAny_newObj_type ?_ (by size_fits))
 refine wpAny_bind (m:=firstArgMember _ _) (wpAny_of_eq (a:=Value.none) (by first|rfl|(simp only[firstArgMember];rfl)) ?_)
 refine wpAny_newObj_type ?_ (by size_fits)
 simp only[raiseNew]
 refine wpAny_bind (wpAny_handled ?_)
 first|rw[show A.in1.handled=none from hh]|rw[hh]
 refine wpAny_bind (wpAny_pure (wpAny_throw ?_))
 exact hE _ _ (((Heap.SameBut.update ..).extBut.push _).push _) ⟨_,Heap.get?_push_size _ rfl,rfl⟩
end
theorem c5{prog:Program}{w:World}{A:Around}(hh:A.handled=none)(it t:Addr)(hne:t≠it)(its:Array Value):
  Draws prog w A it [it,t] its.size (fun i v=>its[i]? =some v) (fun i h=>h.IsTupleIter it t i/\h.IsTuple t its) where
 live:=fun _ _ st=>let⟨o,ho,_⟩:=st.1;⟨o,ho⟩
 frame:=fun _ _ _ st hk=>⟨st.1.at fun o e=>hk it (by simp) o e,let⟨o,e,r⟩:=st.2;⟨o,hk t (by simp) o e,r⟩⟩
 item:=fun i s Q E hi st hQ=>by
  refine kB st.1 st.2 (x:=its[i]) (by simp [hi]) fun h' hit' hs'=>?_
  exact hQ _ h' s.toks (by simp [hi]) ⟨hit',let⟨o,e,r⟩:=st.2;⟨o,hs'.extBut _ _ hne e,r⟩⟩ hs'
 done:=fun s Q E st hE=>fK hh st.1 st.2 (by simp) hE
open AutoSeq1 (wpAny_loadPart')in
theorem ji(l:Addr)(items:Array Value)(n:Nat)(dct:Option Addr)(sl:Array (Option Value)):
  Meets (Builtin.«enumerate.__new__» ⟨[.type "enumerate",.ref l],[]⟩) (fun _ R s=>s.heap.get? l=some {cls:= .type "tuple",dict:=dct,data:= .seq items n,slots:=sl}/\
   R (.ok (.ret (.ref (s.heap.push {cls:= .type "tuple_iterator",data:= .fields #[.ref l,.int 0 0]}).objs.size)))
    {s with heap:=(s.heap.push {cls:= .type "tuple_iterator",data:= .fields #[.ref l,.int 0 0]}).push {cls:= .type "enumerate",data:= .fields #[.none,.bool false,.ref s.heap.objs.size,rawInt 0,.none,.none]}}):=
 .of_wp fun prog w A R s h=>by
  obtain⟨hp,g,d,tk,os⟩:=s;obtain⟨hl,h⟩:=h
  have hsub:=sub_enumerate
  have hL:Heap.IsTuple (Shared.heap ⟨hp,g,d,tk,os⟩) l items:=⟨_,hl,rfl,n,rfl⟩
  wp_walk using wpAny_loadPart' hl
  refine wpAny_stack_any fun st=>wpAny_pure ?_
  split
  ·rename_i c _ _ _ _ _
   cases(c==Value.type "enumerate")
   ·wp_walk using wpAny_loadPart' hl,wpAny_pyIter_tuple hL
    exact⟨_,rfl,h⟩
   ·wp_walk using wpAny_loadPart' hl,wpAny_pyIter_tuple hL
    exact⟨_,rfl,h⟩
  ·wp_walk using wpAny_loadPart' hl,wpAny_pyIter_tuple hL
   exact⟨_,rfl,h⟩
section
variable{prog:Program}{w:World}{A:Around}{E:Value->Shared->Prop}{s:Shared}
theorem kZ{l:Addr}{items:Array Value}{Q:Value->Shared->Prop}(hL:s.heap.IsTuple l items)
  (h:∀h',IsEnum h' (s.heap.objs.size+1) s.heap.objs.size 0 .none->h'.IsTupleIter s.heap.objs.size l 0->(∀b o,s.heap.get? b=some o->h'.get? b=some o)->Q (.ref (s.heap.objs.size+1)) {s with heap:=h'}):
  wpAny (model prog w) A (call (.type "enumerate") [.ref l]) Q E s:=by
 obtain⟨⟨c,dct,dt,sl⟩,hl,hc,n,hd⟩:=hL
 replace hc:c= .type "tuple":=hc
 replace hd:dt= .seq items n:=hd
 subst hc hd
 refine callType_new F.called_enumerate (by decide) (F.typeCall_enumerate_1 _) (F.newCall_enumerate_1 _) (fun obj=>F.args_object_init_2 obj _) F.entry_enumerate_new
  (ji l items n dct sl) ⟨hl,?_⟩
 have hz:(s.heap.push {cls:= .type "tuple_iterator",data:= .fields #[.ref l,.int 0 0]}).objs.size=s.heap.objs.size+1:=Heap.size_push ..
 show _/\_
 rw[hz]
 have he:IsEnum ((s.heap.push {cls:= .type "tuple_iterator",data:= .fields #[.ref l,.int 0 0]}).push
   {cls:= .type "enumerate",data:= .fields #[.none,.bool false,.ref s.heap.objs.size,rawInt 0,.none,.none]}) (s.heap.objs.size+1) s.heap.objs.size 0 .none:=by
  have:=Heap.get?_push_size (s.heap.push {cls:= .type "tuple_iterator",data:= .fields #[.ref l,.int 0 0]})
   (o:={cls:= .type "enumerate",data:= .fields #[.none,.bool false,.ref s.heap.objs.size,rawInt 0,.none,.none]}) rfl
  rw[hz]at this;exact this
 exact⟨⟨_,he,rfl⟩,h _ he ⟨_,Heap.get?_push_of_some _ (Heap.get?_push_size _ rfl),rfl,rfl⟩ fun b o x=>Heap.get?_push_of_some _ (Heap.get?_push_of_some _ x)⟩
end
def iH(K:Frag)(a:Addr):It:=
 ⟨fun i H=>∃xs x,SqT K H a xs/\xs[i]? =some x,fun i H x H'=>∃p v,H p=none/\x= .ref p/\(∀xs,SqT K H a xs->xs[i]? =some v)/\H'=upd H p (.tup [.int i,v]),fun i H=>∃xs,SqT K H a xs/\xs.length<=i⟩
theorem ke{P:Program}{w:World}{K:Frag}{elts:List Expr}{x1}{pos:Pos}(a e it:Addr)(hei:e≠it):
  Turn P w K (.Tuple elts x1 pos) (iH K a) [e,it] e (fun i h=>(∃old,IsEnum h e it i old)/\h.IsTupleIter it a i) where
 mem:=by simp
 obj:=fun i h st b hb=>by
  obtain⟨⟨old,he⟩,⟨o,ho,hc,hd⟩⟩:=st
  rcases List.mem_cons.mp hb with z|z
  ·subst z
   refine⟨_,he,fun v z=>?_⟩
   have z':Data.fields _=Data.cell v:=z
   cases z'
  ·rw[List.mem_singleton.mp z]
   exact⟨o,ho,fun v z=>by rw[hd]at z;cases z⟩
 keep:=fun i h h' st k=>⟨let⟨old,he⟩:=st.1;⟨old,k e (by simp) _ he⟩,st.2.at fun o q=>k it (by simp) o q⟩
 item:=by
  intro X hP hw hK hc i pins s σ H E I hf st hg
  subst hP hw hK
  obtain⟨xs,x,hq,hx⟩:=hg
  obtain⟨its,rv,p,hz⟩:=I.tuple hq
  obtain⟨u,hu,ru⟩:=rv.get hx
  obtain⟨⟨old,he⟩,hit⟩:=st
  have nae:a≠e:=fun z=>by
   subst z
   obtain⟨o,ho,hcl,_⟩:=p
   rw[he]at ho;cases ho;exact absurd (show Value.type "enumerate"=Value.type "tuple" from hcl) (by decide)
  have nai:a≠it:=fun z=>by
   subst z
   obtain⟨o,ho,hcl,_⟩:=p
   obtain⟨o',ho',hc',_⟩:=hit
   rw[ho]at ho';cases ho';rw[hcl]at hc';exact absurd hc' (by decide)
  have hil:i<its.toArray.size:=by
   have:=(List.getElem?_eq_some_iff.mp hu).1
   simpa using this
  refine wpAny_pyNext_enum_itemD (c5 (A:=X.A.in1) (I.ok.hd hc) it a nai its.toArray) he ⟨hit,p⟩ hil hei (by simp [hei,Ne.symm nae]) fun v h' tk hv ho ⟨hit',_⟩ ht hsz hk=>⟨_,rfl,?_⟩
  have ev:v=u:=by
   have hv':its[i]? =some v:=by simpa using hv
   rw[hu]at hv';exact(Option.some.inj hv').symm
  subst ev
  refine wpAny_letOwnedTupleGo_enum ho fun h'' he'' hs''=>?_
  have helt:e<s.heap.objs.size:=Heap.lt_size he
  have hilt:it<s.heap.objs.size:=by obtain⟨_,y,_⟩:=hit;exact Heap.lt_size y
  refine⟨.ref s.heap.objs.size,upd H s.heap.objs.size (.tup [.int i,x]),?_,rfl,⟨_,x,I.hok.fresh (Nat.le_refl _),rfl,fun ys hy=>by rw[I.tuple_inj hy hq];exact hx,rfl⟩,⟨⟨_,by simpa using he''⟩,?_⟩,?_⟩
  ·show L2.Inv X pins σ _ {s with heap:=h'',toks:=tk+1}
   refine fb (s:=s) (its:=[.int i tk,v]) I (ch:=[e,it]) (fun b o hb q=>?_) hf (fun b hb=>?_) (Nat.le_refl _) (by show 2<=sizeLine;decide) (.cons ⟨_,rfl⟩ (.cons ru .nil)) ?_
   ·have hb1:b≠e:=fun z=>hb (by simp [z])
    have hb2:b≠it:=fun z=>hb (by simp [z])
    exact(hs''.2 b hb1).trans (hk b o hb1 hb2 q)
   ·rcases List.mem_cons.mp hb with z|z
    ·subst z;exact⟨_,he''⟩
    ·rw[List.mem_singleton.mp z]
     obtain⟨o,y,_⟩:=hit'
     exact⟨o,(hs''.2 it (Ne.symm hei)).trans y⟩
   ·exact⟨_,(hs''.2 _ (Nat.ne_of_gt helt)).trans ht,rfl,_,rfl⟩
  ·exact hit'.extBut hs''.extBut (Ne.symm hei)
  ·intro b hb
   rw[qi]
   ·exact(hf b hb).1
   ·rcases List.mem_cons.mp hb with z|z
    ·subst z;exact Nat.ne_of_lt helt
    ·rw[List.mem_singleton.mp z];exact Nat.ne_of_lt hilt
 done:=by
  intro X hP hw hK hc i pins s σ H E I hf st hg
  subst hP hw hK
  obtain⟨xs,hq,hx⟩:=hg
  obtain⟨its,rv,p,hz⟩:=I.tuple hq
  obtain⟨⟨old,he⟩,hit⟩:=st
  obtain⟨f0,f1,f2,f3,f4,f5⟩:=hf it (by simp)
  have hl:=rv.length
  have nai:a≠it:=fun z=>by
   subst z
   obtain⟨o,ho,hcl,_⟩:=p
   obtain⟨o',ho',hc',_⟩:=hit
   rw[ho]at ho';cases ho';rw[hcl]at hc';exact absurd hc' (by decide)
  unfold pyNext
  have hT:s.TypeIs (.ref e) "enumerate":=⟨_,he,rfl⟩
  refine wpAny_bind (wpAny_attempt (wpAny_callSpecial?_slot (name:=Str.ofString "__next__") hT F.slot_enumerate_next
   (wpAny_call_entry F.slot_enumerate_next hT F.entry_enumerate_next ?_ (F.args_enumerate_next_1 _))))
  show wpAny _ _ (field (.ref e) 2 >>= _) _ _ _
  refine wpAny_bind (wpAny_field he rfl (x:= .ref it) rfl ?_)
  refine wpAny_bind (fK (I.ok.hd hc) hit p (by simp;omega) fun h' ex eb hx'=>?_)
  obtain⟨o,ho,hcl⟩:=hx'
  refine wpAny_bind (wpAny_isInstance (T:="StopIteration") (b:=true) ⟨o,ho,hcl⟩ isSubtype_stop ?_)
  exact wpAny_pure ⟨rfl,I.turned (t':=s.toks) (fun b o hb e=>eb b o hb e) f0 f1 f3 f4 f5⟩
 self:=fun _ _ _ _ _ st h=>by
  obtain⟨⟨old,he⟩,_⟩:=st
  exact wpAny_pyIter_enum he h
section
variable{X:Cx}
def mG(K:Frag)(ta:TA):TI:=fun σ H R=>ta σ H fun vs H1=>∃a,vs=[.ref a]/\((∃xs,SqL K H1 a xs)/\R (jP K a) H1\/(∃xs,SqT K H1 a xs)/\R (iH K a) H1)
theorem oW{a:Expr}{ta:TA}{p pos:Pos}{elts:List Expr}{x1}{tpos:Pos}(hg:Gl X "enumerate")(hm:X.mg "enumerate"=none)(ha:PA X [a] ta)(hs:starEach [a] X.env=[(false,eval a X.env)]:=by rfl):
  PI X (.Tuple elts x1 tpos) (.Call (.Name "enumerate" p) [a] [] pos) (mG X.K ta):=by
 intro pins s σ H R I h
 refine Call_ (QV I hg hm boot_enumerate (PyProof.Rows.callWith_type1 (qt (ha pos pins s σ H _ I h) fun us s1 ⟨vs,H1,I1,r1,q1⟩=>?_) hs rfl))
 obtain⟨l,e,q1⟩:=q1
 subst e
 obtain⟨u,rfl,ru⟩:=r1.one
 cases ru
 have fpk:∀b∈[s1.heap.objs.size+1,s1.heap.objs.size],Zd X pins H1 b:=fun b hb=>by
  have hb':s1.heap.objs.size<=b:=by
   rcases List.mem_cons.mp hb with z|z
   ·rw[z];exact Nat.le_succ _
   ·rw[List.mem_singleton.mp z];exact Nat.le_refl _
  exact I1.fpOk hb' (I1.hok.fresh hb')
 rcases q1 with⟨⟨xs,hq⟩,q⟩|⟨⟨xs,hq⟩,q⟩
 ·obtain⟨its,rv,pl,hz⟩:=I1.list hq
  refine call_enumerate_list pl.isList fun h' he hit hsz hk=>wpAny_pyIter_enum he ?_
  exact⟨s1.heap.objs.size+1,[s1.heap.objs.size+1,s1.heap.objs.size],_,_,H1,rfl,I1.kept (t':=s1.toks) hk,gd l _ _ (Nat.ne_of_gt (Nat.lt_succ_self _)),⟨⟨_,he⟩,hit⟩,fpk,q⟩
 ·obtain⟨its,rv,pl,hz⟩:=I1.tuple hq
  refine kZ (show s1.heap.IsTuple l its.toArray from pl) fun h' he hit hk=>wpAny_pyIter_enum he ?_
  exact⟨s1.heap.objs.size+1,[s1.heap.objs.size+1,s1.heap.objs.size],_,_,H1,rfl,I1.kept (t':=s1.toks) hk,ke l _ _ (Nat.ne_of_gt (Nat.lt_succ_self _)),⟨⟨_,he⟩,hit⟩,fpk,q⟩
theorem lM{K:Frag}{a:Addr}{xs:List V}{g:TG}{tb:TS}{D:Ends}{σ:L2.St}{H:Hp}(Pv:Nat->L2.St->Hp->Prop)(h0:Pv 0 σ H)(hl:∀i σ H,i<=xs.length->Pv i σ H->SqT K H a xs)
  (hs:∀i x σ H p,xs[i]? =some x->Pv i σ H->H p=none->g (.ref p) σ (upd H p (.tup [.int i,x])) fun σ2 H2=>tb {D with nx:=Pv (i+1),ct:=Pv (i+1),bk:=D.nx} σ2 H2)(hd:∀σ H,Pv xs.length σ H->D.nx σ H):
  ∃W:Nat->Nat->L2.St->Hp->Prop,(∃m,W 0 m σ H)/\∀i m σ H,W i m σ H->
   ((iH K a).stop i H/\D.nx σ H)\/((iH K a).go i H/\∃N:L2.St->Hp->Prop,(∀σ' H',N σ' H'->∃m',m'<m/\W (i+1) m' σ' H')/\∀x H',(iH K a).yld i H x H'->g x σ H' fun σ2 H2=>tb {D with nx:=N,ct:=N,bk:=D.nx} σ2 H2):=by
 refine⟨fun i m σ H=>m=xs.length-i/\i<=xs.length/\Pv i σ H,⟨xs.length,by simp,Nat.zero_le _,h0⟩,?_⟩
 rintro i m σ H ⟨rfl,hi,p⟩
 have q:=hl i σ H hi p
 by_cases hlt:i<xs.length
 ·refine .inr ⟨⟨xs,xs[i],q,by simp [hlt]⟩,Pv (i+1),fun σ' H' p'=>⟨xs.length-(i+1),by omega,rfl,hlt,p'⟩,fun x H' y=>?_⟩
  obtain⟨pp,v,hp,rfl,hv,rfl⟩:=y
  exact hs i v σ H pp (hv xs q) p hp
 ·have e:i=xs.length:=by omega
  subst e
  exact .inl ⟨⟨xs,q,Nat.le_refl _⟩,hd σ H p⟩
end
structure ZApart(z TI TO i1 i2:Addr)(f1 f2:List Addr):Prop where
 TIz:TI≠z
 TOz:TO≠z
 i1z:i1≠z
 i2z:i2≠z
 TITO:TI≠TO
 TIi1:TI≠i1
 TIi2:TI≠i2
 TOi1:TO≠i1
 TOi2:TO≠i2
 i12:i1≠i2
 z1:z∉f1
 z2:z∉f2
 t1:TO∉f1
 t2:TO∉f2
 x1:i2∉f1
 x2:i1∉f2
section
variable{prog:Program}{w:World}{A:Around}{E:Value->Shared->Prop}{s:Shared}{z TI TO i1 i2:Addr}{f1 f2:List Addr}{n1 n2 k:Nat}{P1 P2:Nat->Value->Prop}{S1 S2:Nat->Heap->Prop}{a b:Value}
theorem mE{Q:Value->Shared->Prop}(D1:Draws prog w A i1 f1 n1 P1 S1)(D2:Draws prog w A i2 f2 n2 P2 S2)(Z:ZApart z TI TO i1 i2 f1 f2)
  (hz:IsZip s.heap z TI TO .none)(hTI:IsPair s.heap TI (.ref i1) (.ref i2))(hTO:IsPair s.heap TO a b)(q1:S1 k s.heap)(q2:S2 k s.heap)(k1:k<n1)(k2:k<n2)
  (hQ:∀x y h' tk,P1 k x->P2 k y->IsZip h' z TI TO (rawInt s.heap.objs.size)->IsPair h' TO x y->S1 (k+1) h'->S2 (k+1) h'->IsPair h' s.heap.objs.size x y->
   (∀c o,c≠z->c≠TO->c≠i1->c≠i2->s.heap.get? c=some o->h'.get? c=some o)->Q (.ref s.heap.objs.size) {s with heap:=h',toks:=tk}):
  wpAny (model prog w) A (Builtin.«zip.__next__» ⟨[.ref z],[]⟩) (fun fin s'=>∃v,fin= .done (.ret v)/\Q v s') E s:=by
 obtain⟨hp,g,d,t0,os⟩:=s
 show wpAny _ _ (field (.ref z) 2 >>= _) _ _ _
 refine wpAny_bind (wpAny_field hz rfl (x:= .bool false) rfl ?_)
 show wpAny _ _ (field (.ref z) 3 >>= _) _ _ _
 refine wpAny_bind (wpAny_field hz rfl (x:= .ref TI) rfl ?_)
 refine wpAny_bind (wpAny_seqItems hTI rfl ?_)
 show wpAny _ _ (Builtin.SmallTypes.ownedTupleIsFree (.ref z) >>= _) _ _ _
 refine wpAny_bind ?_
 unfold Builtin.SmallTypes.ownedTupleIsFree
 refine wpAny_bind (wpAny_field hz rfl (x:= .none) rfl (wpAny_pure ?_))
 simp only[if_true]
 refine wpAny_bind (wpAny_rule ?_)
 refine wpAny_bind (wpAny_field hz rfl (x:= .ref TO) rfl ?_)
 refine wpAny_bind (wpAny_setField_rec hz (by simp) fun h₁ hz₁ hs₁=>?_)
 replace hz₁:IsZip h₁ z TI TO .ellipsis:=hz₁
 replace hs₁:Heap.SameBut z hp h₁:=hs₁
 refine wpAny_bind ?_
 simp only[List.zipIdx_cons,List.zipIdx_nil,List.forIn_cons,List.forIn_nil]
 refine wpAny_bind (wpAny_bind (wpAny_onRaise ?_))
 show wpAny _ _ (Builtin.SmallTypes.nextOf (.ref i1) >>= _) _ _ _
 have q1a:S1 k h₁:=D1.frame _ _ _ q1 fun c hc o e=>hs₁.extBut c o (fun y=>Z.z1 (y▸hc)) e
 refine wpAny_bind (D1.item k ⟨h₁,g,d,t0,os⟩ _ _ k1 q1a fun x h₂ tk₂ p1 q1b hs₂=>wpAny_pure ?_)
 replace hs₂:Heap.SameBut i1 h₁ h₂:=hs₂
 have hTO₂:IsPair h₂ TO a b:=hs₂.extBut _ _ Z.TOi1 (hs₁.extBut _ _ Z.TOz hTO)
 refine wpAny_bind (wpAny_seqItems hTO₂ rfl ?_)
 refine wpAny_bind (wpAny_updateSeq_pair hTO₂ fun h₃ hTO₃ hs₃=>?_)
 replace hTO₃:IsPair h₃ TO x b:=hTO₃
 replace hs₃:Heap.SameBut TO h₂ h₃:=hs₃
 refine wpAny_bind (wpAny_letGo (wpAny_pure ?_))
 refine wpAny_bind (wpAny_bind (wpAny_onRaise ?_))
 show wpAny _ _ (Builtin.SmallTypes.nextOf (.ref i2) >>= _) _ _ _
 have q2a:S2 k h₃:=D2.frame _ _ _ q2 fun c hc o e=>hs₃.extBut c o (fun y=>Z.t2 (y▸hc)) (hs₂.extBut c o (fun y=>Z.x2 (y▸hc)) (hs₁.extBut c o (fun y=>Z.z2 (y▸hc)) e))
 refine wpAny_bind (D2.item k ⟨h₃,g,d,tk₂,os⟩ _ _ k2 q2a fun y h₄ tk₄ p2 q2b hs₄=>wpAny_pure ?_)
 replace hs₄:Heap.SameBut i2 h₃ h₄:=hs₄
 have hTO₄:IsPair h₄ TO x b:=hs₄.extBut _ _ Z.TOi2 hTO₃
 refine wpAny_bind (wpAny_seqItems hTO₄ rfl ?_)
 refine wpAny_bind (wpAny_updateSeq_pair hTO₄ fun h₅ hTO₅ hs₅=>?_)
 replace hTO₅:IsPair h₅ TO x y:=hTO₅
 replace hs₅:Heap.SameBut TO h₄ h₅:=hs₅
 refine wpAny_bind (wpAny_letGo (wpAny_pure (wpAny_pure ?_)))
 refine wpAny_bind (wpAny_seqItems hTO₅ rfl ?_)
 refine wpAny_bind (wpAny_newTuple ?_)
 have hsz:h₅.objs.size=hp.objs.size:=by rw[hs₅.1,hs₄.1,hs₃.1,hs₂.1,hs₁.1]
 have hz₅:IsZip h₅ z TI TO .ellipsis:=hs₅.extBut _ _ Z.TOz.symm (hs₄.extBut _ _ Z.i2z.symm (hs₃.extBut _ _ Z.TOz.symm (hs₂.extBut _ _ Z.i1z.symm hz₁)))
 have hk₅:∀c o,c≠z->c≠TO->c≠i1->c≠i2->hp.get? c=some o->h₅.get? c=some o:=fun c o c1 c2 c3 c4 e=>
  hs₅.extBut _ _ c2 (hs₄.extBut _ _ c4 (hs₃.extBut _ _ c2 (hs₂.extBut _ _ c3 (hs₁.extBut _ _ c1 e))))
 have q1c:S1 (k+1) h₅:=D1.frame _ _ _ q1b fun c hc o e=>hs₅.extBut c o (fun y=>Z.t1 (y▸hc)) (hs₄.extBut c o (fun y=>Z.x1 (y▸hc)) (hs₃.extBut c o (fun y=>Z.t1 (y▸hc)) e))
 have q2c:S2 (k+1) h₅:=D2.frame _ _ _ q2b fun c hc o e=>hs₅.extBut c o (fun y=>Z.t2 (y▸hc)) e
 have hzlt:z<h₅.objs.size:=Heap.lt_size hz₅
 show wpAny _ _ (Builtin.SmallTypes.ownedTupleHandOut (.ref z) (.ref h₅.objs.size) >>= _) _ _ _
 refine wpAny_bind ?_
 unfold Builtin.SmallTypes.ownedTupleHandOut
 have hz₆:IsZip (h₅.push {cls:= .type "tuple",data:= .seq #[x,y]}) z TI TO .ellipsis:=Heap.get?_push_of_some _ hz₅
 refine wpAny_bind (wpAny_setField_rec hz₆ (by simp) fun h₇ hz₇ hs₇=>?_)
 replace hz₇:IsZip h₇ z TI TO (rawInt h₅.objs.size):=hz₇
 refine wpAny_setField_rec hz₇ (by simp) fun h₈ hz₈ hs₈=>?_
 replace hz₈:IsZip h₈ z TI TO (rawInt h₅.objs.size):=hz₈
 have up:∀c o,c≠z->h₅.get? c=some o->h₈.get? c=some o:=fun c o c1 e=>hs₈.extBut _ _ c1 (hs₇.extBut _ _ c1 (Heap.get?_push_of_some _ e))
 have hT₈:IsPair h₈ h₅.objs.size x y:=hs₈.extBut _ _ (Nat.ne_of_gt hzlt) (hs₇.extBut _ _ (Nat.ne_of_gt hzlt) (Heap.get?_push_size _ rfl))
 rw[hsz]at hz₈ hT₈
 refine wpAny_pure ⟨_,rfl,?_⟩
 show Q (.ref h₅.objs.size) _
 rw[hsz]
 exact hQ x y h₈ tk₄ p1 p2 hz₈ (up _ _ Z.TOz hTO₅) (D1.frame _ _ _ q1c fun c hc o e=>up c o (fun y=>Z.z1 (y▸hc)) e) (D2.frame _ _ _ q2c fun c hc o e=>up c o (fun y=>Z.z2 (y▸hc)) e) hT₈ fun c o c1 c2 c3 c4 e=>up c o c1 (hk₅ c o c1 c2 c3 c4 e)
theorem nV{Q:Fin->Shared->Prop}(D1:Draws prog w A i1 f1 n1 P1 S1)(Z:ZApart z TI TO i1 i2 f1 f2)
  (hz:IsZip s.heap z TI TO .none)(hTI:IsPair s.heap TI (.ref i1) (.ref i2))(q1:S1 n1 s.heap)
  (hE:∀h' e,(∀c o,c≠z->c≠i1->s.heap.get? c=some o->h'.get? c=some o)->(∃o,h'.get? e=some o/\o.cls= .type "StopIteration")->E (.ref e) {s with heap:=h'}):
  wpAny (model prog w) A (Builtin.«zip.__next__» ⟨[.ref z],[]⟩) Q E s:=by
 obtain⟨hp,g,d,t0,os⟩:=s
 show wpAny _ _ (field (.ref z) 2 >>= _) _ _ _
 refine wpAny_bind (wpAny_field hz rfl (x:= .bool false) rfl ?_)
 show wpAny _ _ (field (.ref z) 3 >>= _) _ _ _
 refine wpAny_bind (wpAny_field hz rfl (x:= .ref TI) rfl ?_)
 refine wpAny_bind (wpAny_seqItems hTI rfl ?_)
 show wpAny _ _ (Builtin.SmallTypes.ownedTupleIsFree (.ref z) >>= _) _ _ _
 refine wpAny_bind ?_
 unfold Builtin.SmallTypes.ownedTupleIsFree
 refine wpAny_bind (wpAny_field hz rfl (x:= .none) rfl (wpAny_pure ?_))
 simp only[if_true]
 refine wpAny_bind (wpAny_rule ?_)
 refine wpAny_bind (wpAny_field hz rfl (x:= .ref TO) rfl ?_)
 refine wpAny_bind (wpAny_setField_rec hz (by simp) fun h₁ hz₁ hs₁=>?_)
 replace hz₁:IsZip h₁ z TI TO .ellipsis:=hz₁
 replace hs₁:Heap.SameBut z hp h₁:=hs₁
 refine wpAny_bind ?_
 simp only[List.zipIdx_cons,List.zipIdx_nil,List.forIn_cons,List.forIn_nil]
 refine wpAny_bind (wpAny_bind (wpAny_onRaise ?_))
 show wpAny _ _ (Builtin.SmallTypes.nextOf (.ref i1) >>= _) _ _ _
 have q1a:S1 n1 h₁:=D1.frame _ _ _ q1 fun c hc o e=>hs₁.extBut c o (fun y=>Z.z1 (y▸hc)) e
 refine wpAny_bind (D1.done ⟨h₁,g,d,t0,os⟩ _ _ q1a fun h₂ e hs₂ he=>?_)
 obtain⟨oe,hoe,hce⟩:=he
 replace hs₂:Heap.ExtBut i1 h₁ h₂:=hs₂
 have hz₂:IsZip h₂ z TI TO .ellipsis:=hs₂ _ _ Z.i1z.symm hz₁
 have hez:e≠z:=fun x=>by subst x;rw[hz₂]at hoe;cases hoe;simp at hce
 refine wpAny_setField_rec hz₂ (by simp) fun h₃ _ hs₃=>hE h₃ e (fun c o c1 c3 x=>hs₃.extBut _ _ c1 (hs₂ _ _ c3 (hs₁.extBut _ _ c1 x))) ⟨oe,hs₃.extBut _ _ hez hoe,hce⟩
end
abbrev rf(h:Heap)(l1:Addr):Heap:=h.push {cls:= .type "tuple_iterator",data:= .fields #[.ref l1,.int 0 0]}
abbrev rp(h:Heap)(l1 l2:Addr):Heap:=(rf h l1).push {cls:= .type "tuple_iterator",data:= .fields #[.ref l2,.int 0 0]}
abbrev rj(h:Heap)(l1 l2:Addr):Heap:=(rp h l1 l2).push {cls:= .type "tuple",data:= .seq #[.ref h.objs.size,.ref (rf h l1).objs.size]}
abbrev pX(h:Heap)(l1 l2:Addr):Heap:=(rj h l1 l2).push {cls:= .type "tuple",data:= .seq #[.none,.none]}
abbrev jT(h:Heap)(l1 l2:Addr):Heap:=(pX h l1 l2).push {cls:= .type "zip",data:= .fields #[.none,.bool false,.bool false,.ref (rp h l1 l2).objs.size,.ref (rj h l1 l2).objs.size]}
theorem kA(l1 l2:Addr)(xs ys:Array Value):
  Meets (Builtin.«zip.__new__» ⟨[.type "zip",.ref l1,.ref l2],[]⟩) (fun _ R s=>s.heap.IsTuple l1 xs/\s.heap.IsTuple l2 ys/\
   R (.ok (.ret (.ref (pX s.heap l1 l2).objs.size))) {s with heap:=jT s.heap l1 l2}):=
 .of_wp fun prog w A R s h=>by
  obtain⟨hp,g,d,tk,os⟩:=s;obtain⟨hl1,hl2,h⟩:=h
  have hsub:=sub_zip
  have hL1:Heap.IsTuple (Shared.heap ⟨hp,g,d,tk,os⟩) l1 xs:=hl1
  have hL2:Heap.IsTuple (Shared.heap ⟨hp.push {cls:= .type "tuple_iterator",data:= .fields #[.ref l1,.int 0 0]},g,d,tk,os⟩) l2 ys:=let⟨o,e,r⟩:=hl2;⟨o,Heap.get?_push_of_some _ e,r⟩
  wp_walk using wpAny_pyIter_tuple hL1,wpAny_pyIter_tuple hL2
  exact⟨_,rfl,h⟩
section
variable{prog:Program}{w:World}{A:Around}{E:Value->Shared->Prop}{s:Shared}
theorem mj{l1 l2:Addr}{xs ys:Array Value}{Q:Value->Shared->Prop}(hl1:s.heap.IsTuple l1 xs)(hl2:s.heap.IsTuple l2 ys)
  (h:∀h',IsZip h' (s.heap.objs.size+4) (s.heap.objs.size+2) (s.heap.objs.size+3) .none->IsPair h' (s.heap.objs.size+2) (.ref s.heap.objs.size) (.ref (s.heap.objs.size+1))->
   IsPair h' (s.heap.objs.size+3) .none .none->h'.IsTupleIter s.heap.objs.size l1 0->h'.IsTupleIter (s.heap.objs.size+1) l2 0->
   (∀c o,s.heap.get? c=some o->h'.get? c=some o)->Q (.ref (s.heap.objs.size+4)) {s with heap:=h'}):
  wpAny (model prog w) A (call (.type "zip") [.ref l1,.ref l2]) Q E s:=by
 refine callType_new F.called_zip (by decide) (F.typeCall_zip_2 _ _) (F.newCall_zip_2 _ _) (fun obj=>F.args_object_init_3 obj _ _) F.entry_zip_new
  (kA l1 l2 xs ys) ⟨hl1,hl2,?_⟩
 have z1:(rf s.heap l1).objs.size=s.heap.objs.size+1:=Heap.size_push ..
 have z2:(rp s.heap l1 l2).objs.size=s.heap.objs.size+2:=by rw[Heap.size_push,z1]
 have z3:(rj s.heap l1 l2).objs.size=s.heap.objs.size+3:=by rw[Heap.size_push,z2]
 have z4:(pX s.heap l1 l2).objs.size=s.heap.objs.size+4:=by rw[Heap.size_push,z3]
 have g5:(jT s.heap l1 l2).get? (pX s.heap l1 l2).objs.size=some _:=Heap.get?_push_size _ rfl
 have g4:(jT s.heap l1 l2).get? (rj s.heap l1 l2).objs.size=some _:=Heap.get?_push_of_some _ (Heap.get?_push_size _ rfl)
 have g3:(jT s.heap l1 l2).get? (rp s.heap l1 l2).objs.size=some _:=Heap.get?_push_of_some _ (Heap.get?_push_of_some _ (Heap.get?_push_size _ rfl))
 have g2:(jT s.heap l1 l2).get? (rf s.heap l1).objs.size=some _:=Heap.get?_push_of_some _ (Heap.get?_push_of_some _ (Heap.get?_push_of_some _ (Heap.get?_push_size _ rfl)))
 have g1:(jT s.heap l1 l2).get? s.heap.objs.size=some _:=Heap.get?_push_of_some _ (Heap.get?_push_of_some _ (Heap.get?_push_of_some _ (Heap.get?_push_of_some _ (Heap.get?_push_size _ rfl))))
 show _/\_
 rw[z2,z3,z4]at g5
 rw[z1,z2]at g3
 rw[z3]at g4
 rw[z1]at g2
 rw[z4]
 exact⟨⟨_,g5,rfl⟩,h _ g5 g3 g4 ⟨_,g1,rfl,rfl⟩ ⟨_,g2,rfl,rfl⟩ fun c o x=>
  Heap.get?_push_of_some _ (Heap.get?_push_of_some _ (Heap.get?_push_of_some _ (Heap.get?_push_of_some _ (Heap.get?_push_of_some _ x))))⟩
end
section
variable{X:Cx}{pins:List (Addr×Obj)}{σ:L2.St}{H:Hp}{s:Shared}
theorem tD{h':Heap}{t':Nat}{ch:List Addr}(I:L2.Inv X pins σ H s)(k:∀b o,b∉ch->s.heap.get? b=some o->h'.get? b=some o)(hch:∀b∈ch,Zd X pins H b):L2.Inv X pins σ H {s with heap:=h',toks:=t'}:=by
 have nch:∀b u,H b=some u->b∉ch:=fun b u e z=>by rw[(hch b z).1]at e;cases e
 refine I.step (g':=s.gens) (d':=s.drawn) (ch:=ch) (fun b hb=>⟨(hch b hb).2.2.2.1,(hch b hb).2.1,(hch b hb).2.2.2.2.1,(hch b hb).2.2.2.2.2⟩) (fun b o _ _ hc e _=>k b o hc e) (fun b o _ _ hc e _=>⟨o.slots,k b o hc e⟩)
  (fun _ _ _ _ n=>n) (fun b o hc e=>⟨o,k b o hc e⟩) (fun _ _ e=>e) (fun _ _ _ e=>e) (fun b ps e=>⟨#[],by rw[e];simp⟩) (fun m hm=>?_) (fun b u e=>?_) I.bare
 ·obtain⟨o,es,ep,ho,r⟩:=hm
  exact⟨o,es,ep,k _ o (fun z=>(hch _ z).2.1 rfl) ho,r⟩
 ·refine(I.hok b u e).stay (fun c v hc q=>k c v ?_ q) (fun _ q=>q) fun _ _ q=>q
  rcases hc with z|z
  ·rw[z];exact nch b u e
  ·exact nch c _ z
theorem lx{H:Hp}{a b:Addr}{u:HO}(h:Rd H a u)(h':H b=none):a≠b:=by
 rcases h with h|⟨o,h⟩
 ·exact qo h h'
 ·exact qo h h'
def uO(a1 a2:Addr):It:=
  ⟨fun i H=>∃xs ys x y,Rd H a1 (.tup xs)/\Rd H a2 (.tup ys)/\xs[i]? =some x/\ys[i]? =some y,
   fun i H v H'=>∃p x y,H p=none/\v= .ref p/\(∀xs,Rd H a1 (.tup xs)->xs[i]? =some x)/\(∀ys,Rd H a2 (.tup ys)->ys[i]? =some y)/\H'=upd H p (.tup [x,y]),
   fun i H=>∃xs,Rd H a1 (.tup xs)/\xs.length=i⟩
theorem oH{P:Program}{w:World}{K:Frag}{elts:List Expr}{x1}{pos:Pos}(a1 a2 z TI TO i1 i2:Addr)(d1:TI≠z)(d2:TO≠z)(d3:i1≠z)(d4:i2≠z)(d5:TI≠TO)(d6:TI≠i1)(d7:TI≠i2)(d8:TO≠i1)(d9:TO≠i2)(d10:i1≠i2):
  Turn P w K (.Tuple elts x1 pos) (uO a1 a2) [z,TI,TO,i1,i2] z (fun i h=>IsZip h z TI TO .none/\IsPair h TI (.ref i1) (.ref i2)/\(∃a b,IsPair h TO a b)/\h.IsTupleIter i1 a1 i/\h.IsTupleIter i2 a2 i) where
 mem:=by simp
 obj:=fun i h st b hb=>by
  obtain⟨hz,hTI,⟨a,b',hTO⟩,⟨o1,ho1,_,hd1⟩,⟨o2,ho2,_,hd2⟩⟩:=st
  simp only[List.mem_cons,List.not_mem_nil,or_false]at hb
  rcases hb with rfl|rfl|rfl|rfl|rfl
  ·exact⟨_,hz,fun v y=>by have y':Data.fields _=Data.cell v:=y;cases y'⟩
  ·exact⟨_,hTI,fun v y=>by have y':Data.seq _ _=Data.cell v:=y;cases y'⟩
  ·exact⟨_,hTO,fun v y=>by have y':Data.seq _ _=Data.cell v:=y;cases y'⟩
  ·exact⟨_,ho1,fun v y=>by rw[hd1]at y;cases y⟩
  ·exact⟨_,ho2,fun v y=>by rw[hd2]at y;cases y⟩
 keep:=fun i h h' st k=>by
  obtain⟨hz,hTI,⟨a,b',hTO⟩,h1,h2⟩:=st
  exact⟨k z (by simp) _ hz,k TI (by simp) _ hTI,⟨a,b',k TO (by simp) _ hTO⟩,h1.at fun o e=>k i1 (by simp) o e,h2.at fun o e=>k i2 (by simp) o e⟩
 item:=by
  intro X hP hw hK hc i pins s σ H E I hf st hg
  subst hP hw hK
  obtain⟨xs,ys,x,y,ha1,ha2,hx,hy⟩:=hg
  obtain⟨its,rv,p,hz0⟩:=I.tuple (.inl ha1)
  obtain⟨its2,rv2,p2,hz2⟩:=I.tuple (.inl ha2)
  obtain⟨u,hu,ru⟩:=rv.get hx
  obtain⟨u2,hu2,ru2⟩:=rv2.get hy
  obtain⟨hz,hTI,⟨a,b',hTO⟩,h1,h2⟩:=st
  have n1:∀c∈[z,TI,TO,i1,i2],a1≠c:=fun c hc=>lx ha1 (hf c hc).1
  have n2:∀c∈[z,TI,TO,i1,i2],a2≠c:=fun c hc=>lx ha2 (hf c hc).1
  have Z:ZApart z TI TO i1 i2 [i1,a1] [i2,a2]:=⟨d1,d2,d3,d4,d5,d6,d7,d8,d9,d10,by simp [Ne.symm d3,Ne.symm (n1 z (by simp))],by simp [Ne.symm d4,Ne.symm (n2 z (by simp))],by simp [d8,Ne.symm (n1 TO (by simp))],by simp [d9,Ne.symm (n2 TO (by simp))],by simp [Ne.symm d10,Ne.symm (n1 i2 (by simp))],by simp [d10,Ne.symm (n2 i1 (by simp))]⟩
  have hil:i<its.toArray.size:=by have:=(List.getElem?_eq_some_iff.mp hu).1;simpa using this
  have hil2:i<its2.toArray.size:=by have:=(List.getElem?_eq_some_iff.mp hu2).1;simpa using this
  have hT:s.TypeIs (.ref z) "zip":=⟨_,hz,rfl⟩
  unfold pyNext
  refine wpAny_bind (wpAny_attempt (wpAny_callSpecial?_slot (name:=Str.ofString "__next__") hT F.slot_zip_next
   (wpAny_call_entry F.slot_zip_next hT F.entry_zip_next
    (mE (c5 (A:=X.A.in1) (I.ok.hd hc) i1 a1 (n1 i1 (by simp)) its.toArray) (c5 (A:=X.A.in1) (I.ok.hd hc) i2 a2 (n2 i2 (by simp)) its2.toArray) Z hz hTI hTO ⟨h1,p⟩ ⟨h2,p2⟩ hil hil2
     fun v v2 h' tk hv hv2 ho hTO' q1 q2 ht hk=>wpAny_pure ⟨_,rfl,?_⟩) (F.args_zip_next_1 _))))
  have ev:v=u:=by
   have hv':its[i]? =some v:=by simpa using hv
   rw[hu]at hv';exact(Option.some.inj hv').symm
  have ev2:v2=u2:=by
   have hv':its2[i]? =some v2:=by simpa using hv2
   rw[hu2]at hv';exact(Option.some.inj hv').symm
  subst ev ev2
  refine wpAny_letOwnedTupleGo_zip ho fun h'' hz'' hs''=>?_
  have lt:∀c∈[z,TI,TO,i1,i2],c<s.heap.objs.size:=fun c hc=>by
   simp only[List.mem_cons,List.not_mem_nil,or_false]at hc
   rcases hc with rfl|rfl|rfl|rfl|rfl
   ·exact Heap.lt_size hz
   ·exact Heap.lt_size hTI
   ·exact Heap.lt_size hTO
   ·obtain⟨_,e,_⟩:=h1;exact Heap.lt_size e
   ·obtain⟨_,e,_⟩:=h2;exact Heap.lt_size e
  have hTI':IsPair h'' TI (.ref i1) (.ref i2):=hs''.extBut _ _ d1 (hk _ _ d1 d5 d6 d7 hTI)
  have hTO'':IsPair h'' TO v v2:=hs''.extBut _ _ d2 hTO'
  have h1':h''.IsTupleIter i1 a1 (i+1):=q1.1.extBut hs''.extBut d3
  have h2':h''.IsTupleIter i2 a2 (i+1):=q2.1.extBut hs''.extBut d4
  refine⟨.ref s.heap.objs.size,upd H s.heap.objs.size (.tup [x,y]),?_,rfl,⟨_,x,y,I.hok.fresh (Nat.le_refl _),rfl,fun zs hy'=>by rw[I.tuple_inj (.inl hy') (.inl ha1)];exact hx,fun zs hy'=>by rw[I.tuple_inj (.inl hy') (.inl ha2)];exact hy,rfl⟩,⟨hz'',hTI',⟨_,_,hTO''⟩,h1',h2'⟩,?_⟩
  ·show L2.Inv X pins σ _ {s with heap:=h'',toks:=tk}
   refine fb (s:=s) (its:=[v,v2]) I (ch:=[z,TI,TO,i1,i2]) (fun b o hb q=>?_) hf (fun b hb=>?_) (Nat.le_refl _) (by show 2<=sizeLine;decide) (.cons ru (.cons ru2 .nil)) ?_
   ·simp only[List.mem_cons,List.not_mem_nil,or_false,not_or]at hb
    exact hs''.extBut b o hb.1 (hk b o hb.1 hb.2.2.1 hb.2.2.2.1 hb.2.2.2.2 q)
   ·simp only[List.mem_cons,List.not_mem_nil,or_false]at hb
    rcases hb with rfl|rfl|rfl|rfl|rfl
    ·exact⟨_,hz''⟩
    ·exact⟨_,hTI'⟩
    ·exact⟨_,hTO''⟩
    ·obtain⟨o,e,_⟩:=h1';exact⟨o,e⟩
    ·obtain⟨o,e,_⟩:=h2';exact⟨o,e⟩
   ·exact⟨_,hs''.extBut _ _ (Nat.ne_of_gt (lt z (by simp))) ht,rfl,_,rfl⟩
  ·intro b hb
   rw[qi (Nat.ne_of_lt (lt b hb))]
   exact(hf b hb).1
 done:=by
  intro X hP hw hK hc i pins s σ H E I hf st hg
  subst hP hw hK
  obtain⟨xs,ha1,hx⟩:=hg
  obtain⟨its,rv,p,hz0⟩:=I.tuple (.inl ha1)
  obtain⟨hz,hTI,⟨a,b',hTO⟩,h1,h2⟩:=st
  have n1:∀c∈[z,TI,TO,i1,i2],a1≠c:=fun c hc=>lx ha1 (hf c hc).1
  have Z:ZApart z TI TO i1 i2 [i1,a1] [i2]:=⟨d1,d2,d3,d4,d5,d6,d7,d8,d9,d10,by simp [Ne.symm d3,Ne.symm (n1 z (by simp))],by simp [Ne.symm d4],by simp [d8,Ne.symm (n1 TO (by simp))],by simp [d9],by simp [Ne.symm d10,Ne.symm (n1 i2 (by simp))],by simp [d10]⟩
  have hl:its.toArray.size=i:=by rw[List.size_toArray,<- rv.length];exact hx
  have hT:s.TypeIs (.ref z) "zip":=⟨_,hz,rfl⟩
  unfold pyNext
  refine wpAny_bind (wpAny_attempt (wpAny_callSpecial?_slot (name:=Str.ofString "__next__") hT F.slot_zip_next
   (wpAny_call_entry F.slot_zip_next hT F.entry_zip_next
    (nV (c5 (A:=X.A.in1) (I.ok.hd hc) i1 a1 (n1 i1 (by simp)) its.toArray) Z hz hTI ⟨by rw[hl];exact h1,p⟩ fun h' e hk he=>?_) (F.args_zip_next_1 _))))
  obtain⟨o,ho,hcl⟩:=he
  refine wpAny_bind (wpAny_isInstance (T:="StopIteration") (b:=true) ⟨o,ho,hcl⟩ isSubtype_stop ?_)
  refine wpAny_pure ⟨rfl,tD (t':=s.toks) I (ch:=[z,i1]) (fun b o hb e=>?_) (fun b hb=>hf b ?_)⟩
  ·simp only[List.mem_cons,List.not_mem_nil,or_false,not_or]at hb
   exact hk b o hb.1 hb.2 e
  ·simp only[List.mem_cons,List.not_mem_nil,or_false]at hb
   rcases hb with rfl|rfl<;>simp
 self:=fun _ _ _ _ _ st h=>wpAny_pyIter_zip st.1 h
def uA(ta:TA):TI:=fun σ H R=>ta σ H fun vs H1=>∃a1 a2 xs ys,vs=[.ref a1,.ref a2]/\Rd H1 a1 (.tup xs)/\Rd H1 a2 (.tup ys)/\R (uO a1 a2) H1
theorem uU{a b:Expr}{ta:TA}{p pos:Pos}{elts:List Expr}{x1}{tpos:Pos}(hg:Gl X "zip")(hm:X.mg "zip"=none)(ha:PA X [a,b] ta)(h1:Qb a=true:=by rfl)(h2:Qb b=true:=by rfl):
  PI X (.Tuple elts x1 tpos) (.Call (.Name "zip" p) [a,b] [] pos) (uA ta):=by
 intro pins s σ H R I h
 have hs2:starEach [b] X.env=[(false,eval b X.env)]:=ZO h2
 refine Call_ (QV I hg hm boot_zip (PyProof.Rows.callWith_type1 (qt (ha pos pins s σ H _ I h) fun us s1 ⟨vs,H1,I1,r1,q1⟩=>?_) (by rw[ZO h1,hs2]) (by rw[hs2];rfl)))
 obtain⟨a1,a2,xs,ys,e,e1,e2,q⟩:=q1
 subst e
 obtain⟨u,v,rfl,ru,rv⟩:=r1.two
 cases ru
 cases rv
 obtain⟨its,r1',p1,hz⟩:=I1.tuple (.inl e1)
 obtain⟨its2,r2',p2,hz2⟩:=I1.tuple (.inl e2)
 have ad:∀(n i j:Nat),i≠j->n+i≠n+j:=fun n i j h=>by omega
 refine mj (show s1.heap.IsTuple a1 its.toArray from p1) (show s1.heap.IsTuple a2 its2.toArray from p2) fun h' hz hTI hTO h1 h2 hk=>wpAny_pyIter_zip hz ?_
 refine⟨s1.heap.objs.size+4,[s1.heap.objs.size+4,s1.heap.objs.size+2,s1.heap.objs.size+3,s1.heap.objs.size,s1.heap.objs.size+1],_,_,H1,rfl,I1.kept (t':=s1.toks) hk,
  oH a1 a2 (s1.heap.objs.size+4) (s1.heap.objs.size+2) (s1.heap.objs.size+3) s1.heap.objs.size (s1.heap.objs.size+1) (ad _ 2 4 (by decide)) (ad _ 3 4 (by decide)) (ad _ 0 4 (by decide)) (ad _ 1 4 (by decide)) (ad _ 2 3 (by decide)) (ad _ 2 0 (by decide)) (ad _ 2 1 (by decide)) (ad _ 3 0 (by decide)) (ad _ 3 1 (by decide)) (ad _ 0 1 (by decide)),⟨hz,hTI,⟨_,_,hTO⟩,h1,h2⟩,fun b hb=>?_,q⟩
 have hb':s1.heap.objs.size<=b:=by
  simp only[List.mem_cons,List.not_mem_nil,or_false]at hb
  rcases hb with rfl|rfl|rfl|rfl|rfl
  ·exact Nat.le_add_right _ 4
  ·exact Nat.le_add_right _ 2
  ·exact Nat.le_add_right _ 3
  ·exact Nat.le_refl _
  ·exact Nat.le_add_right _ 1
 exact I1.fpOk hb' (I1.hok.fresh hb')
end
theorem oV{K:Frag}{js:List Nat}{te:TE}{σ:L2.St}{H:Hp}{Q:VK}{a1 a2:Addr}{xs ys:List V}(hl:xs.length=ys.length)(hn:xs.length<=sizeLine)(Pv:Nat->List V->Hp->Prop)(h0:Pv 0 [] H)
  (hk:∀i zs H,Pv i zs H->Rd H a1 (.tup xs)/\Rd H a2 (.tup ys))
  (hs:∀i zs H p x y,xs[i]? =some x->ys[i]? =some y->zs.length=i->Pv i zs H->H p=none->te (some x::some y::Q6 js σ) (upd H p (.tup [x,y])) fun v H3=>Pv (i+1) (zs++[v]) H3)
  (hd:∀zs H,zs.length=xs.length->Pv xs.length zs H->∀p,H p=none->Q (.ref p) (upd H p (.lst zs))):
  gs 2 js (ku K 2 (bK (Qc 0) (bK (Qc 1) kT))) te σ Q (uO a1 a2) H:=by
 refine⟨fun i m zs τ H=>m=xs.length-i/\i<=xs.length/\zs.length=i/\Pv i zs H/\∃o o',τ=o::o'::Q6 js σ,⟨xs.length,by simp,Nat.zero_le _,rfl,h0,none,none,rfl⟩,?_⟩
 rintro i m zs τ H ⟨rfl,hi,hzl,p,o,o',rfl⟩
 obtain⟨e1,e2⟩:=hk i zs H p
 by_cases hlt:i<xs.length
 ·have hlt2:i<ys.length:=by omega
  refine .inr ⟨⟨xs,ys,xs[i],ys[i],e1,e2,by simp [hlt],by simp [hlt2]⟩,by omega,fun v H' y=>?_⟩
  obtain⟨pp,x,y,hp,rfl,hx,hy,rfl⟩:=y
  refine⟨pp,_,rfl,SqT.of qc,rfl,_,_,rfl,_,_,rfl,rfl,?_⟩
  exact⟨fun v H3=>Pv (i+1) (zs++[v]) H3,fun v H3 p3=>⟨xs.length-(i+1),by omega,rfl,hlt,by simp [hzl],p3,_,_,rfl⟩,hs i zs _ pp x y (hx xs e1) (hy ys e2) hzl p hp⟩
 ·have e:i=xs.length:=by omega
  subst e
  exact .inl ⟨⟨xs,e1,rfl⟩,hd zs H hzl p⟩
end L3
namespace L3
open PySem PySem.Spec PyProof.Rows L2 PySem.SeqAt
open Sem (wp)
open AutoSeq1 (wpAny_loadPart')
section
variable{X:Cx}
theorem Rd.same{H H':Hp}{a:Addr}{u:HO}(s:Same H H')(h:Rd H a u):Rd H' a u:=by
 rcases h with h|⟨o,h⟩
 ·exact .inl (s _ _ h)
 ·exact .inr ⟨o,s _ _ h⟩
inductive Ty2 (H:Hp):V->String->Prop where
 |int (i:Int):Ty2 H (.int i) "int"
 |bl (b:Bool):Ty2 H (.bl b) "bool"
 |tup {a:Addr} {xs:List V} (h:Rd H a (.tup xs)):Ty2 H (.ref a) "tuple"
 |str (x:Str):Ty2 H (.str x) "str"
 |non:Ty2 H .non "NoneType"
 |lst {a:Addr} {xs:List V} (h:H a=some (.lst xs)):Ty2 H (.ref a) "list"
theorem sW{H:Hp}{x:V}{t:String}(h:Ty2 H x t):t∈iG:=by cases h<;>simp
theorem zb:qW X (.builtin "isinstance") (fun xs H Q=>∃x c t,xs=[x,.ty c]/\Ty2 H x t/\c∈kC/\Q (.bl (zj t c)) H):=by
 intro pins s σ H xs us Q I r h
 obtain⟨x,c,t,rfl,ty,hc,q⟩:=h
 obtain⟨u,v,rfl,ru,rv⟩:=gv r
 cases(show v=Value.type c from rv)
 have e:=jY X.K t (sW ty) c hc
 have fin:∀tk,EP X pins σ Q (.bool (zj t c)) {s with toks:=tk}:=fun tk=>⟨.bl _,H,I.tok tk,rfl,q⟩
 cases ty with
 |int i=>obtain⟨t,q⟩:=(show∃t,u=Value.int i t from ru);cases q;exact W.kia_one W.kitx_int I.kIn True.intro e (fun z=>nomatch z) fin
 |bl b=>cases(show u=Value.bool b from ru);exact W.kia_one W.kitx_bool I.kIn True.intro e (fun z=>nomatch z) fin
 | @tup a ys hr=>
  cases(show u=Value.ref a from ru)
  obtain⟨its,_,⟨o,h1,h2,_⟩,_⟩:=I.tuple (.inl hr)
  exact W.kia_one W.kitx_tuple I.kIn ⟨o,h1,h2⟩ e (fun z=>nomatch z) fin
 |str x=>obtain⟨t,q⟩:=(show∃t,u=Value.str x t from ru);cases q;exact W.kia_one W.kitx_str I.kIn True.intro e (fun z=>nomatch z) fin
 |non=>cases(show u=Value.none from ru);exact W.kia_one W.kitx_none I.kIn True.intro e (fun z=>nomatch z) fin
 | @lst a ys ea=>
  cases(show u=Value.ref a from ru)
  obtain⟨_,_,n,_,h1⟩:=(show ObjOk X.prog X.w H s.heap a (.lst ys)from I.hok a _ ea)
  exact W.kia_one W.kitx_list I.kIn ⟨_,h1,rfl⟩ e (fun z=>nomatch z) fin
end
def q9(t:List Int):List Int:=(List.range 16).map fun d=>((t.idxOf ((d:Nat):Int):Nat):Int)
theorem ZI(t:List Int):(q9 t).length=16:=by simp [q9]
section
variable{t:List Int}(p:t.Perm digs)
include p
theorem lI:t.Nodup:=p.nodup_iff.mpr (by decide)
theorem bJ:t.length=16:=by rw[p.length_eq,iN]
theorem sR{d:Nat}(h:d<16):((d:Nat):Int)∈t:=p.mem_iff.mpr (List.mem_map.mpr ⟨d,List.mem_range.mpr h,rfl⟩)
theorem im{i:Nat}(h:i<t.length):0<=t[i]/\t[i]<16:=iZ (p.mem_iff.mp (List.getElem_mem h))
theorem mn{i:Nat}(h:i<t.length):t.idxOf t[i]=i:=(lI p).idxOf_getElem i h
theorem rP{d:Nat}(h:d<16):(q9 t)[d]'(by rw[ZI];exact h)=((t.idxOf ((d:Nat):Int):Nat):Int):=by simp [q9]
end
end L3
namespace L3
open PySem PySem.Spec L2
variable{X:Cx}
theorem zS{sts:List Stmt}:QSs X sts mJ:=⟨mX⟩
theorem pA{a:Expr}{ta:TA}{p pos:Pos}{elts:List Expr}{x1}{tpos:Pos}(hg:Gl X "enumerate")(hm:X.mg "enumerate"=none)(ha:QA X [a] ta)(hs:starEach [a] X.env=[(false,eval a X.env)]:=by rfl):QI X (.Tuple elts x1 tpos) (.Call (.Name "enumerate" p) [a] [] pos) (mG X.K ta):=⟨oW (hg:=hg) (hm:=hm) (ha:=ha.h) (hs:=hs)⟩
theorem vm{a b:Expr}{ta:TA}{p pos:Pos}{elts:List Expr}{x1}{tpos:Pos}(hg:Gl X "zip")(hm:X.mg "zip"=none)(ha:QA X [a,b] ta)(h1:Qb a=true:=by rfl)(h2:Qb b=true:=by rfl):QI X (.Tuple elts x1 tpos) (.Call (.Name "zip" p) [a,b] [] pos) (uA ta):=⟨uU (hg:=hg) (hm:=hm) (ha:=ha.h) (h1:=h1) (h2:=h2)⟩
def BoxC(H:Hp)(b:Addr)(c:Nat):Prop:=∃n m k:Int,H b=some (lu n m k)/\0<=m/\m<4611686018427387904/\0<=k/\k<=c
structure GrC(b:Addr)(c:Nat)(H H':Hp):Prop where
 kp:∀a o,a≠b->H a=some o->H' a=some o
 bx:BoxC H' b c
theorem BoxC.mono{H:Hp}{b:Addr}{c d:Nat}(h:BoxC H b c)(l:c<=d):BoxC H b d:=let⟨n,m,k,e,a1,a2,a3,a4⟩:=h;⟨n,m,k,e,a1,a2,a3,by omega⟩
theorem GrC.mono{b:Addr}{c d:Nat}{H H':Hp}(h:GrC b c H H')(l:c<=d):GrC b d H H':=⟨h.kp,h.bx.mono l⟩
theorem GrC.trans{b:Addr}{c d:Nat}{H H1 H2:Hp}(x:GrC b c H H1)(y:GrC b d H1 H2):GrC b d H H2:=⟨fun c o n e=>y.kp c o n (x.kp c o n e),y.bx⟩
theorem _root_.L2.Same.grc{b:Addr}{c:Nat}{H H':Hp}(x:Same H H')(h:BoxC H b c):GrC b c H H':=⟨fun c o _ e=>x c o e,let⟨n,m,k,e,r⟩:=h;⟨n,m,k,x _ _ e,r⟩⟩
theorem GrC.same{b:Addr}{c:Nat}{H H1 H2:Hp}(x:GrC b c H H1)(y:Same H1 H2):GrC b c H H2:=x.trans (y.grc x.bx)
theorem zh{H:Hp}{b l:Addr}{c:Nat}(hb:BoxC H b c)(h:H l=none):l≠b:=fun z=>by
 obtain⟨_,_,_,e,_⟩:=hb
 subst z
 rw[e]at h
 cases h
def zL:Sp:=fun vs H Q _=>∃(b:Addr) (many:Int) (c:Nat),vs=[.ref b,.int many]/\BoxC H b c/\c<1000000000/\0<many/\many<1073741824/\∀r H',0<=r->r<many->GrC b (c+1) H H'->Q (.int r) H'
theorem za{H H':Hp}{p:Addr}(h:H' p=none)(s:Same H H'):H p=none:=by
 cases e:H p with
 |none=>rfl
 |some o=>rw[s _ _ e]at h;cases h
def ci:V->Bool
 | .int _=>true
 |_=>false
theorem sw{H:Hp}{x:V}{t:String}(h:kd H x=some t):ci x=(zj t "int"&& !zj t "bool"):=by
 cases x with
 |non=>cases h;decide
 |bl b=>cases h;show false=_;decide
 |int i=>cases h;show true=_;decide
 |str x=>cases h;show false=_;decide
 |byt b=>cases h
 |flt b=>cases h
 |ty b=>cases h
 |ref a=>
  rcases cP h with⟨xs,e,rfl⟩|⟨xs,e,rfl⟩
  ·show false=_;decide
  ·show false=_;decide
theorem pK{x:V}(h:ci x=true):∃i,x= .int i:=by
 cases x<;>first|exact⟨_,rfl⟩|cases h
theorem md{x:V}(h:ci x=false):aq x=false:=by
 cases x<;>first|rfl|cases h
def cH:Sp:=fun vs H Q _=>∃x t,vs=[x]/\kd H x=some t/\Q (.bl (ci x)) H
inductive Eqv (H:Hp):Nat->V->V->Prop where
 |int (n:Nat) (i:Int):Eqv H n (.int i) (.int i)
 |str (n:Nat) (x:Str):Eqv H n (.str x) (.str x)
 |non (n:Nat):Eqv H n .non .non
 | tup {n:Nat} {a b:Addr} {xs ys:List V} (h1:Rd H a (.tup xs)) (h2:Rd H b (.tup ys)) (hl:xs.length=ys.length) (hz:xs.length<=sizeLine)
   (hi:∀(i:Nat) (x y:V),xs[i]? =some x->ys[i]? =some y->Eqv H n x y):Eqv H (n+1) (.ref a) (.ref b)
theorem Eqv.same{H H':Hp}(s:Same H H'):∀{n:Nat} {x y:V},Eqv H n x y->Eqv H' n x y:=fun h=>by
 induction h with
 |int n i=>exact .int n i
 |str n x=>exact .str n x
 |non n=>exact .non n
 |tup h1 h2 hl hz _ ih=>exact .tup (Rd.same s h1) (Rd.same s h2) hl hz ih
theorem Eqv.ints{H:Hp}{n:Nat}{a b:Addr}{ns:List Int}(h1:Rd H a (.tup (ns.map V.int)))(h2:Rd H b (.tup (ns.map V.int)))(hz:ns.length<=sizeLine):Eqv H (n+1) (.ref a) (.ref b):=
 .tup h1 h2 rfl (by rw[List.length_map];exact hz) fun i x y e1 e2=>by
  rw[e1]at e2
  cases e2
  obtain⟨z,rfl,_⟩:=zH e1
  exact .int _ _
def tM(n:Nat):Sp:=fun vs H Q _=>∃x y,vs=[x,y]/\Eqv H n x y/\∀H',Same H H'->Q (.bl true) H'
theorem Same.sqt{K:Frag}{H H':Hp}{a:Addr}{xs:List V}(e:Same H H')(h:SqT K H a xs):SqT K H' a xs:=by
 rcases h with h|h
 ·exact .inl (Rd.same e h)
 ·exact .inr h
def Qd(t:List Int)(i:Nat):List Int:=(List.range 16).map fun d=>if((d:Nat):Int)∈t.take i then((t.idxOf ((d:Nat):Int):Nat):Int)else 0
theorem Z8(t:List Int)(i:Nat):(Qd t i).length=16:=by simp [Qd]
theorem n5(t:List Int):Qd t 0=List.replicate 16 0:=by simp only[Qd,List.take_zero,List.not_mem_nil,if_false];rfl
theorem lE{t:List Int}{i d:Nat}(h:d<16):(Qd t i)[d]'(by rw[Z8];exact h)=if((d:Nat):Int)∈t.take i then((t.idxOf ((d:Nat):Int):Nat):Int)else 0:=by simp [Qd]
theorem sk{t:List Int}(p:t.Perm digs):Qd t t.length=q9 t:=by
 unfold Qd q9
 refine List.map_congr_left fun d hd=>?_
 rw[List.take_length,if_pos (sR p (List.mem_range.mp hd))]
theorem oJ{t:List Int}(p:t.Perm digs){i:Nat}(hi:i<t.length):(Qd t i).set t[i].toNat (i:Int)=Qd t (i+1):=by
 have b:=im p hi
 refine List.ext_getElem (by rw[List.length_set,Z8,Z8]) fun d h1 h2=>?_
 have hd:d<16:=by rw[Z8]at h2;exact h2
 rw[List.getElem_set,lE hd,lE hd,List.take_add_one,List.getElem?_eq_getElem hi,Option.toList_some]
 by_cases e:t[i].toNat=d
 ·have e':((d:Nat):Int)=t[i]:=by omega
  rw[if_pos e,if_pos (by rw[e'];exact List.mem_append_right _ (List.mem_singleton.mpr rfl)),e',mn p hi]
 ·have e':((d:Nat):Int)≠t[i]:=by omega
  rw[if_neg e]
  simp only[List.mem_append,List.mem_singleton,e',or_false]
def lZ(K:Frag):Sp:=fun vs H Q _=>∃(a:Addr) (t:List Int),vs=[.ref a]/\(SqL K H a (t.map V.int)\/SqT K H a (t.map V.int))/\t.Perm digs/\∀p H',Same H H'->H' p=some (.tup ((q9 t).map V.int))->Q (.ref p) H'
theorem tE{X:Cx}{K:Frag}(hK:X.K=K){pos:Pos}{es:List Expr}{k:Nat}{t:ZG}(n:Nat)(hc:X.calm=true)(h:QGs X es t)(hn:(assignEach es X.env).length=n:=by rfl)(hst:(assignEach es X.env).findIdx? (·.1)=none:=by rfl):QG X (.Tuple es k pos) (ku K n t):=by
 subst hK
 exact⟨iS (hc:=hc) (h:=h.h) (hn:=hn) (hst:=hst)⟩
end L3
namespace L3
open PySem PySem.Spec PyProof.Rows L2
open Sem (wp)
namespace RV
theorem lV:Slot "reversed" "__init__" "object.__init__":=
  .of (owner := "object") (n := "__init__") (by rw[typeLookup_type,builtinLookup_eq_fast]
                                                kernel_rfl) (by decide +kernel) (by decide +kernel) (by decide +kernel)
    (by first | exact .inl (by decide +kernel) | exact .inr (by decide +kernel)) (by rw[isSubtype_type]
                                                                                     kernel_rfl)
theorem called:TypeCalled "reversed" "reversed.__new__" "object.__init__":=
 ⟨by decide +kernel,by decide +kernel,⟨_,_,F.mro_reversed⟩,F.made_reversed,by decide +kernel,F.sub_reversed_self,lV⟩
theorem slot_next:Slot "reversed" "__next__" "reversed.__next__":=
  .of (owner := "reversed") (n := "__next__") (by rw[typeLookup_type,builtinLookup_eq_fast]
                                                  kernel_rfl) (by decide +kernel) (by decide +kernel) (by decide +kernel)
    (by first | exact .inl (by decide +kernel) | exact .inr (by decide +kernel)) (by rw[isSubtype_type]
                                                                                     kernel_rfl)
theorem entry_next:entryFor table "reversed.__next__"=some Builtin.«reversed.__next__»:=entryFor_of_tree (by kernel_rfl)
theorem fY:Manifest.owners.lookup (String.ofList ['d', 'e', 's', 'r', 'e', 'v', 'e', 'r'].reverse)=some Manifest.sig_reversed:=by kernel_rfl
theorem args_next(a:Value):argsOk "reversed.__next__" ⟨[a],[]⟩:=by
 unfold argsOk
 rw[signature?_of (id:="reversed.__next__") (n:=['_', '_', 't', 'x', 'e', 'n', '_', '_']) (o:=['d', 'e', 's', 'r', 'e', 'v', 'e', 'r']) (by kernel_rfl) fY]
 kernel_rfl
theorem slot_iter:Slot "reversed" "__iter__" "reversed.__iter__":=
  .of (owner := "reversed") (n := "__iter__") (by rw[typeLookup_type,builtinLookup_eq_fast]
                                                  kernel_rfl) (by decide +kernel) (by decide +kernel) (by decide +kernel)
    (by first | exact .inl (by decide +kernel) | exact .inr (by decide +kernel)) (by rw[isSubtype_type]
                                                                                     kernel_rfl)
theorem args_iter(a:Value):argsOk "reversed.__iter__" ⟨[a],[]⟩:=by
 unfold argsOk
 rw[signature?_of (id:="reversed.__iter__") (n:=['_', '_', 'r', 'e', 't', 'i', '_', '_']) (o:=['d', 'e', 's', 'r', 'e', 'v', 'e', 'r']) (by kernel_rfl) fY]
 kernel_rfl
theorem entry_iter:entryFor table "reversed.__iter__"=some Builtin.«dict_keyiterator.__iter__»:=
  entryFor_alias (id':="dict_keyiterator.__iter__") (by kernel_rfl)
    (by first | rfl | decide +kernel | (unfold String.splitOn
                                        simp +decide [String.splitOnAux])) (by decide +kernel) (by kernel_rfl)
theorem no_tuple:typeLookup (.type "tuple") "__reversed__"=pure none:=by
 rw[typeLookup_type,builtinLookup_eq_fast]
 kernel_rfl
theorem tup_dict:isSubtype (.type "tuple") (.type "dict")=pure false:=by
 rw[isSubtype_type]
 kernel_rfl
theorem ri_rev:isSubtype (.type "range_iterator") (.type "reversed")=pure false:=by
 rw[isSubtype_type]
 kernel_rfl
theorem tc1(a:Value):checkTypeCall "reversed" ⟨[a],[]⟩=pure ():=by kernel_rfl
end RV
def RevT(h:Heap)(it t:Addr)(i:Int):Prop:=∃o,h.get? it=some o/\o.cls= .type "reversed"/\o.data= .fields #[.ref t,rawInt i]
theorem kW(l:Addr)(items:Array Value)(hz:items.size<=sizeLine):
  Meets (Builtin.«reversed.__new__» ⟨[.type "reversed",.ref l],[]⟩) (fun A R s=>s.heap.IsTuple l items/\
   R (.ok (.ret (.ref s.heap.objs.size))) {s with heap:=s.heap.push {cls:= .type "reversed",data:= .fields #[.ref l,rawInt ((items.size:Int)-1)]},toks:=s.toks+2}):=
 .of_wp fun prog w A R s h=>by
  obtain⟨hp,g,d,tk,os⟩:=s;obtain⟨hl,h⟩:=h
  have hsub:=F.sub_reversed_self
  have hT:Shared.TypeIs ⟨hp,g,d,tk,os⟩ (.ref l) "tuple":=let⟨o,e,c,_⟩:=hl;⟨o,e,c⟩
  have hL:Heap.IsTuple (Shared.heap ⟨hp,g,d,tk,os⟩) l items:=hl
  have hd:=RV.tup_dict
  have hI:IsTup (Shared.heap ⟨hp,g,d,tk,os⟩) l items:=hl
  have hn:=Za
  wp_walk using wpAny_specialOf hT RV.no_tuple,wpAny_of_eq hd,wpAny_specialOf hT F.slot_tuple_getitem.lookup,len_tuple hI (by omega)
  exact⟨_,rfl,h⟩
end L3
namespace L3
open PySem PySem.Spec PyProof.Rows L2
open Sem (wp)
abbrev rD(a b c:Int):Bool:=Builtin.Range.rangeFitsLong a&&Builtin.Range.rangeFitsLong b&&Builtin.Range.rangeFitsLong c&&Builtin.Range.rangeFitsLong (-c)&&Builtin.Range.rangeFitsLong (a-c)&&Builtin.Range.rangeFitsLong (Builtin.Range.rangeSize a b c)
theorem jk(r:Addr)(a b c:Int)(t u v:Tok)(hc0:¬(!rD a b c)=true):
  Meets (Builtin.«range.__reversed__» ⟨[.ref r],[]⟩) (fun _ R s=>s.heap.get? r=some {cls:= .type "range",dict:=none,data:= .fields #[.int a t,.int b u,.int c v],slots:= #[]}/\
   R (.ok (.ret (.ref s.heap.objs.size))) {s with heap:=s.heap.push {cls:= .type (if rD a b c then "range_iterator" else "longrange_iterator"),data:= .fields #[rawInt (a+(Builtin.Range.rangeSize a b c-1)*c),rawInt (Builtin.Range.rangeSize a b c),rawInt (-c)]}}):=
 .of_wp fun prog w A R s h=>by obtain⟨hp,g,d,tk,os⟩:=s;obtain⟨hl,h⟩:=h;wp_walk;exact⟨_,rfl,h⟩
theorem nq(n:Nat):Builtin.Range.rangeSize 0 n 1=n:=by
 unfold Builtin.Range.rangeSize
 rw[if_pos (by decide)]
 split<;>omega
theorem lU{n:Nat}(hn:(n:Int)<2 ^ 62):rD 0 n 1=true:=by
 unfold rD
 rw[nq]
 simp only[Builtin.Range.rangeFitsLong,Bool.and_eq_true,decide_eq_true_eq]
 omega
theorem kU(r:Addr)(n:Nat)(t u v:Tok)(hn:(n:Int)<2 ^ 62):
  Meets (Builtin.«range.__reversed__» ⟨[.ref r],[]⟩) (fun _ R s=>s.heap.get? r=some {cls:= .type "range",data:= .fields #[.int 0 t,.int n u,.int 1 v]}/\
   R (.ok (.ret (.ref s.heap.objs.size))) {s with heap:=s.heap.push {cls:= .type "range_iterator",data:= .fields #[rawInt ((n:Int)-1),rawInt n,rawInt (-1)]}}):=by
 have g:=jk r 0 n 1 t u v (by rw[lU hn];decide)
 rw[lU hn,nq,if_pos rfl,Int.mul_one,Int.zero_add]at g
 exact g
section
variable{prog:Program}{w:World}{A:Around}{E:Value->Shared->Prop}{s:Shared}
theorem RevT.typeIs{it t:Addr}{i:Int}(x:RevT s.heap it t i):s.TypeIs (.ref it) "reversed":=let⟨o,ho,hc,_⟩:=x;⟨o,ho,hc⟩
theorem i4{it t:Addr}{i:Nat}{items:Array Value}{x:Value}{Q:Option Value->Shared->Prop}(hit:RevT s.heap it t (i:Int))(hl:IsTup s.heap t items)(hx:items[i]? =some x)(hz:items.size<=sizeLine)
  (hQ:∀h' tk,RevT h' it t ((i:Int)-1)->Heap.SameBut it s.heap h'->Q (some x) {s with heap:=h',toks:=tk}):wpAny (model prog w) A (pyNext (.ref it)) Q E s:=by
 obtain⟨o,ho,hc,hd⟩:=id hit
 have hT:s.TypeIs (.ref t) "tuple":=let⟨o,e,c,_⟩:=hl;⟨o,e,c⟩
 have hn:=Za
 have hlt:i<items.size:=(Array.getElem?_eq_some_iff.mp hx).1
 unfold pyNext
 refine wpAny_bind (wpAny_attempt (wpAny_callSpecial?_slot (name:=Str.ofString "__next__") (RevT.typeIs hit) RV.slot_next
  (wpAny_call_entry RV.slot_next (RevT.typeIs hit) RV.entry_next ?_ (RV.args_next _))))
 unfold Builtin.«reversed.__next__»
 refine wpAny_bind (wpAny_of_eq (a:=(Value.ref it,[])) rfl ?_)
 try dsimp only
 refine wpAny_bind (wpAny_field ho hd (x:= .ref t) rfl ?_)
 refine wpAny_bind (wpAny_field ho hd (x:=rawInt (i:Int)) rfl ?_)
 show wpAny _ _ (if(i:Int)<0 then _ else _) _ _ s
 rw[if_neg (by omega)]
 try dsimp only
 refine wpAny_bind (wpAny_specialOf hT F.slot_tuple_getitem.lookup ?_)
 rw[if_neg (show¬((some (Value.builtin "tuple.__getitem__")).isNone=true)from Bool.false_ne_true)]
 refine wpAny_bind (wpAny_mkInt ?_)
 have hI:IsTup (Shared.heap {s with toks:=s.toks+1}) t items:=hl
 refine wpAny_bind (wpAny_attempt (getItem_tuple hI (by omega) (by omega) (by unfold seqIndex?;rw[if_neg (show¬((i:Int)<0) by omega)];simp [hlt]) hx ?_))
 try dsimp only
 refine wpAny_bind (wpAny_field (s:={s with toks:=s.toks+1}) ho hd (x:=rawInt (i:Int)) rfl ?_)
 show wpAny _ _ (setField (.ref it) 1 (rawInt ((i:Int)-1)) >>= _) _ _ _
 refine wpAny_bind (wpAny_setField (s:={s with toks:=s.toks+1}) ho hd (by simp) ?_)
 refine wpAny_pure ⟨x,rfl,wpAny_pure (hQ _ _ ?_ (Heap.SameBut.update ..))⟩
 exact⟨_,Heap.get?_update_self _ ho (Obj.isFreed_of_fields (Obj.data_mapFields hd _)),(Obj.cls_mapFields ..).trans hc,by
  rw[Obj.data_mapFields hd]
  simp⟩
theorem kR{it t:Addr}{Q:Option Value->Shared->Prop}(hh:A.handled=none)(hit:RevT s.heap it t (-1))
  (hQ:∀h',Heap.ExtBut it s.heap h'->Q none {s with heap:=h'}):wpAny (model prog w) A (pyNext (.ref it)) Q E s:=by
 obtain⟨o,ho,hc,hd⟩:=id hit
 unfold pyNext
 refine wpAny_bind (wpAny_attempt (wpAny_callSpecial?_slot (name:=Str.ofString "__next__") (RevT.typeIs hit) RV.slot_next
  (wpAny_call_entry RV.slot_next (RevT.typeIs hit) RV.entry_next ?_ (RV.args_next _))))
 unfold Builtin.«reversed.__next__»
 refine wpAny_bind (wpAny_of_eq (a:=(Value.ref it,[])) rfl ?_)
 try dsimp only
 refine wpAny_bind (wpAny_field ho hd (x:= .ref t) rfl ?_)
 refine wpAny_bind (wpAny_field ho hd (x:=rawInt (-1)) rfl ?_)
 show wpAny _ _ (if(-1:Int)<0 then _ else _) _ _ s
 rw[if_pos (by decide)]
 refine wpAny_bind (wpAny_rule ?_)
 refine wpAny_bind ?_
 show wpAny _ _ (setField (.ref it) 1 (rawInt (-1)) >>= _) _ _ _
 refine wpAny_bind (wpAny_setField ho hd (by simp) ?_)
 have hg1:=Heap.get?_update_self (Obj.mapFields (·.setIfInBounds 1 (rawInt (-1)))) ho (Obj.isFreed_of_fields (Obj.data_mapFields hd _))
 refine wpAny_setField hg1 (Obj.data_mapFields hd _) (by simp) ?_
 refine wpAny_bind ?_
 show wpAny _ _ (newExc (.type "StopIteration") [] >>= _) _ _ _
 refine wpAny_bind ?_
 simp only[newExc,newTuple]
 refine wpAny_bind (wpAny_newObj_type ?_ (by size_fits))
 refine wpAny_bind (m:=firstArgMember _ _) (wpAny_of_eq (a:=Value.none) (by first|rfl|(simp only[firstArgMember];rfl)) ?_)
 refine wpAny_newObj_type ?_ (by size_fits)
 simp only[raiseNew]
 refine wpAny_bind (wpAny_handled ?_)
 first|rw[show A.in1.handled=none from hh]|rw[hh]
 refine wpAny_bind (wpAny_pure (wpAny_throw ?_))
 refine wpAny_bind (wpAny_isInstance (T:="StopIteration") (b:=true) ⟨_,Heap.get?_push_size _ rfl,rfl⟩ isSubtype_stop ?_)
 exact wpAny_pure (hQ _ (((((Heap.SameBut.update ..).trans (Heap.SameBut.update ..)).extBut).push _).push _))
theorem lY{it t:Addr}{i:Int}{Q:Value->Shared->Prop}(hit:RevT s.heap it t i)(h:Q (.ref it) s):wpAny (model prog w) A (pyIter (.ref it)) Q E s:=by
 refine wpAny_pyIter_slot (RevT.typeIs hit) RV.slot_iter (wpAny_call_entry RV.slot_iter (RevT.typeIs hit) RV.entry_iter ?_ (RV.args_iter _))
 show wpAny _ _ (ret (.ref it)) _ _ s
 exact wpAny_pure ⟨_,rfl,"reversed",_,RevT.typeIs hit,RV.slot_next.lookup,h⟩
theorem ui{l:Addr}{items:Array Value}{Q:Value->Shared->Prop}(hl:s.heap.IsTuple l items)(hz:items.size<=sizeLine)
  (h:∀h' tk,RevT h' s.heap.objs.size l ((items.size:Int)-1)->(∀b o,s.heap.get? b=some o->h'.get? b=some o)->Q (.ref s.heap.objs.size) {s with heap:=h',toks:=tk}):
  wpAny (model prog w) A (call (.type "reversed") [.ref l]) Q E s:=by
 refine callType_new RV.called (by decide) (RV.tc1 _) (F.newCall_reversed_1 _) (fun obj=>F.args_object_init_2 obj _) F.entry_reversed_new (kW l items hz) ⟨hl,?_⟩
 exact⟨⟨_,Heap.get?_push_size _ rfl,rfl⟩,h _ _ ⟨_,Heap.get?_push_size _ rfl,rfl,rfl⟩ fun b o e=>Heap.get?_push_of_some _ e⟩
theorem tR{r:Addr}{n:Nat}{t u v:Tok}{Q:Value->Shared->Prop}(hr:s.heap.get? r=some {cls:= .type "range",data:= .fields #[.int 0 t,.int n u,.int 1 v]})(hn:(n:Int)<2 ^ 62)
    (h:∀h',IsRangeIter h' s.heap.objs.size ((n:Int)-1) n (-1)->(∀b o,s.heap.get? b=some o->h'.get? b=some o)->Q (.ref s.heap.objs.size) {s with heap:=h'}):
    wpAny (model prog w) A (call (.type "reversed") [.ref r]) Q E s:=by
  have hT:s.TypeIs (.ref r) "range":=⟨_,hr,rfl⟩
  refine callType_other (U:="range_iterator") (Q₁:=fun obj s₁=>obj= .ref s.heap.objs.size/\∃h',s₁={s with heap:=h'}/\IsRangeIter h' s.heap.objs.size ((n:Int)-1) n (-1)/\∀b o,s.heap.get? b=some o->h'.get? b=some o) (by decide +kernel) F.create_reversed ⟨_,_,F.mro_reversed⟩ F.made_reversed RV.ri_rev (RV.tc1 _) ?_ ?_
  · refine codeAny_of_tree ?_
    show wpAny _ A.in1.in1 (do checkBuiltinCall "reversed.__new__" ⟨[.type "reversed",.ref r],[]⟩;again (.builtin "reversed.__new__" ⟨[.type "reversed",.ref r],[]⟩)) _ _ s
    refine wpAny_bind (wpAny_of_eq (F.newCall_reversed_1 _) (wpAny_pure ⟨plainId_quiet F.plain_reversed_new _,codeAny_builtin F.entry_reversed_new ?_⟩))
    rw[Around.under_plainId F.plain_reversed_new _]
    unfold Builtin.«reversed.__new__»
    refine wpAny_bind (wpAny_of_eq (newClass_reversed _) ?_)
    try dsimp only
    refine wpAny_bind (wpAny_of_eq (a:=()) (by first|rfl|kernel_rfl) ?_)
    refine wpAny_bind (wpAny_of_eq (a:=()) (by first|rfl|kernel_rfl) ?_)
    try dsimp only
    refine wpAny_bind (wpAny_specialOf hT F.slot_range_reversed.lookup ?_)
    try dsimp only
    refine wpAny_bind (wpAny_of_eq (F.slot_range_reversed.bind _) ?_)
    try dsimp only
    first
    |rw[if_neg (show¬((Value.builtin "range.__reversed__"==Value.none)=true)from Bool.false_ne_true)]
    | (show wpAny _ _ (if(Value.builtin "range.__reversed__"==Value.none)=true then _ else _) _ _ _
       rw[if_neg (show¬((Value.builtin "range.__reversed__"==Value.none)=true)from Bool.false_ne_true)])
    refine wpAny_bind (wpAny_rule ?_)
    refine wpAny_bind (m:=runValue (.call (.builtin "range.__reversed__") ⟨[.ref r],[]⟩)) (show wpAny _ _ (call (.builtin "range.__reversed__") [.ref r]) _ _ _ from
      call_meets F.slot_range_reversed hT F.entry_range_reversed (F.args_range_reversed_1 _) (kU r n t u v hn) ⟨hr,?_⟩)
    first
    |exact wpAny_pure ⟨rfl,_,rfl,Heap.get?_push_size _ rfl,fun b o e=>Heap.get?_push_of_some _ e⟩
    |exact wpAny_bind (wpAny_pure (wpAny_pure ⟨rfl,_,rfl,Heap.get?_push_size _ rfl,fun b o e=>Heap.get?_push_of_some _ e⟩))
  · rintro obj s₁ ⟨rfl,h',rfl,hi,hk⟩
    exact⟨⟨_,hi,rfl⟩,h h' hi hk⟩
end
def k9(K:Frag)(a:Addr)(n:Nat):It:=
 ⟨fun i H=>i<n/\∃xs,SqL K H a xs/\xs.length=n,fun i H x H'=>H'=H/\∀xs,SqL K H a xs->xs[n-1-i]? =some x,fun i _=>n<=i⟩
def kN(K:Frag)(a:Addr)(n:Nat):It:=
 ⟨fun i H=>i<n/\∃xs,SqT K H a xs/\xs.length=n,fun i H x H'=>H'=H/\∀xs,SqT K H a xs->xs[n-1-i]? =some x,fun i _=>n<=i⟩
def lA(n:Nat):It:=⟨fun i _=>i<n,fun i H x H'=>H'=H/\x= .int ((n:Int)-1-i),fun i _=>n<=i⟩
theorem kI{P:Program}{w:World}{K:Frag}{tg:Expr}(a it:Addr)(n:Nat):Turn P w K tg (k9 K a n) [it] it (fun i h=>i<=n/\h.IsRevIter it a ((n:Int)-1-i)) where
 mem:=by simp
 obj:=fun i h st b hb=>by
  have e:b=it:=by simpa using hb
  subst e
  obtain⟨_,o,e,c,d⟩:=st
  exact⟨o,e,fun v z=>by rw[d]at z;cases z⟩
 keep:=fun i h h' st k=>⟨st.1,st.2.at fun o e=>k it (by simp) o e⟩
 item:=by
  intro X hP hw hK hc i pins s σ H E I hf st hg
  subst hP hw hK
  obtain⟨hi,xs,hq,hn⟩:=hg
  obtain⟨its,rv,p,hz⟩:=I.list hq
  have hlt:n-1-i<xs.length:=by omega
  obtain⟨u,hu,ru⟩:=rv.get (List.getElem?_eq_getElem hlt)
  obtain⟨f0,f1,f2,f3,f4,f5⟩:=hf it (by simp)
  have e1:(n:Int)-1-i=((n-1-i:Nat):Int):=by omega
  have st2:=st.2
  rw[e1]at st2
  refine wpAny_pyNext_rev_item st2 p.isList (x:=u) (by simpa using hu) fun h' st' sb=>?_
  have I1:L2.Inv X pins σ H {s with heap:=h'}:=I.turned (t':=s.toks) (fun b o hb e=>(sb.2 b hb).trans e) f0 f1 f3 f4 f5
  obtain⟨o,e,c,d⟩:=id st'
  refine⟨u,rfl,ax (s:={s with heap:=h'}) e c d (by decide) ⟨_,H,I1,ru,⟨rfl,fun ys hy=>by rw[I.list_inj hy hq];exact List.getElem?_eq_getElem hlt⟩,⟨by omega,?_⟩,fun b hb=>(hf b hb).1⟩⟩
  have e2:((n-1-i:Nat):Int)-1=(n:Int)-1-((i+1:Nat):Int):=by omega
  rw[<- e2]
  exact st'
 done:=by
  intro X hP hw hK hc i pins s σ H E I hf st hg
  subst hP hw hK
  obtain⟨f0,f1,f2,f3,f4,f5⟩:=hf it (by simp)
  have hi:i=n:=Nat.le_antisymm st.1 hg
  have st2:=st.2
  rw[show(n:Int)-1-i= -1 by omega]at st2
  exact wpAny_pyNext_rev_end (I.ok.hd hc) st2 fun h' eb=>⟨rfl,I.turned (t':=s.toks) (fun b o hb e=>eb b o hb e) f0 f1 f3 f4 f5⟩
 self:=fun _ _ _ _ _ st h=>wpAny_pyIter_revIter st.2 h
theorem lF{P:Program}{w:World}{K:Frag}{tg:Expr}(a it:Addr)(n:Nat):Turn P w K tg (kN K a n) [it] it (fun i h=>i<=n/\RevT h it a ((n:Int)-1-i)) where
 mem:=by simp
 obj:=fun i h st b hb=>by
  have e:b=it:=by simpa using hb
  subst e
  obtain⟨_,o,e,c,d⟩:=st
  exact⟨o,e,fun v z=>by rw[d]at z;cases z⟩
 keep:=fun i h h' st k=>⟨st.1,let⟨o,e,r⟩:=st.2;⟨o,k it (by simp) o e,r⟩⟩
 item:=by
  intro X hP hw hK hc i pins s σ H E I hf st hg
  subst hP hw hK
  obtain⟨hi,xs,hq,hn⟩:=hg
  obtain⟨its,rv,p,hz⟩:=I.tuple hq
  have hlen:=rv.length
  have hlt:n-1-i<xs.length:=by omega
  obtain⟨u,hu,ru⟩:=rv.get (List.getElem?_eq_getElem hlt)
  obtain⟨f0,f1,f2,f3,f4,f5⟩:=hf it (by simp)
  have e1:(n:Int)-1-i=((n-1-i:Nat):Int):=by omega
  have st2:=st.2
  rw[e1]at st2
  refine i4 st2 p (x:=u) (by simpa using hu) (by simp;omega) fun h' tk st' sb=>?_
  have I1:L2.Inv X pins σ H {s with heap:=h',toks:=tk}:=I.turned (t':=tk) (fun b o hb e=>(sb.2 b hb).trans e) f0 f1 f3 f4 f5
  obtain⟨o,e,c,d⟩:=id st'
  refine⟨u,rfl,ax (s:={s with heap:=h',toks:=tk}) e c d (by decide) ⟨_,H,I1,ru,⟨rfl,fun ys hy=>by rw[I.tuple_inj hy hq];exact List.getElem?_eq_getElem hlt⟩,⟨by omega,?_⟩,fun b hb=>(hf b hb).1⟩⟩
  have e2:((n-1-i:Nat):Int)-1=(n:Int)-1-((i+1:Nat):Int):=by omega
  rw[<- e2]
  exact st'
 done:=by
  intro X hP hw hK hc i pins s σ H E I hf st hg
  subst hP hw hK
  obtain⟨f0,f1,f2,f3,f4,f5⟩:=hf it (by simp)
  have hi:i=n:=Nat.le_antisymm st.1 hg
  have st2:=st.2
  rw[show(n:Int)-1-i= -1 by omega]at st2
  exact kR (I.ok.hd hc) st2 fun h' eb=>⟨rfl,I.turned (t':=s.toks) (fun b o hb e=>eb b o hb e) f0 f1 f3 f4 f5⟩
 self:=fun _ _ _ _ _ st h=>lY st.2 h
theorem mR{P:Program}{w:World}{K:Frag}{tg:Expr}(it:Addr)(n:Nat):Turn P w K tg (lA n) [it] it (fun i h=>IsRangeIter h it ((n:Int)-1+(i:Nat)*(-1)) ((n:Int)-(i:Nat)) (-1)) where
 mem:=by simp
 obj:=fun i h st b hb=>by
  have e:b=it:=by simpa using hb
  subst e
  exact⟨_,st,fun v z=>by
   have z':Data.fields _=Data.cell v:=z
   cases z'⟩
 keep:=fun i h h' st k=>k it (by simp) _ st
 item:=by
  intro X hP hw hK hc i pins s σ H E I hf st hg
  subst hP hw hK
  obtain⟨f0,f1,f2,f3,f4,f5⟩:=hf it (by simp)
  have W:=Walks.range (prog:=X.prog) (w:=X.w) (I.ok.hd hc) it ((n:Int)-1) (-1) n
  refine W.item i s _ _ hg st fun v h' tk hv st' kk=>?_
  obtain⟨t,rfl⟩:=hv
  have I1:L2.Inv X pins σ H {s with heap:=h',toks:=tk}:=I.turned (fun b o hb e=>kk b o (by simpa using hb) e) f0 f1 f3 f4 f5
  refine⟨_,rfl,ax (s:={s with heap:=h',toks:=tk}) (n:="range_iterator") st' rfl rfl (by decide) ⟨.int ((n:Int)-1-i),H,I1,⟨t,?_⟩,⟨rfl,rfl⟩,st',fun b hb=>(hf b hb).1⟩⟩
  rw[show(n:Int)-1+(i:Nat)*(-1)=(n:Int)-1-i by omega]
 done:=by
  intro X hP hw hK hc i pins s σ H E I hf st hg
  subst hP hw hK
  obtain⟨f0,f1,f2,f3,f4,f5⟩:=hf it (by simp)
  exact wpAny_pyNext_range_end (I.ok.hd hc) st (by have:n<=i:=hg;omega) fun h' eb=>⟨rfl,I.turned (t':=s.toks) (fun b o hb e=>eb b o hb e) f0 f1 f3 f4 f5⟩
 self:=fun _ _ _ _ _ st h=>wpAny_pyIter_rangeiter st h
section
variable{X:Cx}{tg:Expr}
theorem oi:bootBuiltins "reversed"=some (.type "reversed"):=by kernel_rfl
def vb(K:Frag)(ta:TA):TI:=fun σ H R=>ta σ H fun vs H1=>∃a,vs=[.ref a]/\((∃xs,SqL K H1 a xs/\R (k9 K a xs.length) H1)\/(∃xs,SqT K H1 a xs/\R (kN K a xs.length) H1)\/∃n:Nat,H1 a=some (.rng 0 n)/\(n:Int)<2 ^ 62/\R (lA n) H1)
theorem tV{a:Expr}{ta:TA}{p pos:Pos}(hg:Gl X "reversed")(hm:X.mg "reversed"=none)(ha:PA X [a] ta)(hn:Qb a=true:=by rfl):
  PI X tg (.Call (.Name "reversed" p) [a] [] pos) (vb X.K ta):=by
 intro pins s σ H R I h
 refine Call_ (QV I hg hm oi (PyProof.Rows.callWith_type1 (qt (ha pos pins s σ H _ I h) fun us s1 ⟨vs,H1,I1,r1,q1⟩=>?_) (ZO hn) rfl))
 obtain⟨l,e,q1⟩:=q1
 subst e
 obtain⟨u,rfl,ru⟩:=r1.one
 cases ru
 have fpk:∀b∈[s1.heap.objs.size],Zd X pins H1 b:=fun b hb=>by
  rw[List.mem_singleton.mp hb]
  exact I1.fpOk (Nat.le_refl _) (I1.hok.fresh (Nat.le_refl _))
 rcases q1 with⟨xs,hq,q⟩|⟨xs,hq,q⟩|⟨n,hq,hn62,q⟩
 ·obtain⟨its,rv,pl,hz⟩:=I1.list hq
  have hlen:=rv.length
  refine call_reversed_list pl.isList ?_
  have hi:(s1.heap.push (revObj l ((its.toArray.size:Int)-1))).IsRevIter s1.heap.objs.size l ((its.toArray.size:Int)-1):=⟨_,Heap.get?_push_size _ rfl,rfl,rfl⟩
  refine wpAny_pyIter_revIter hi ?_
  refine⟨s1.heap.objs.size,[s1.heap.objs.size],_,_,H1,rfl,I1.kept (t':=s1.toks) fun b o e=>Heap.get?_push_of_some _ e,kI l _ xs.length,⟨Nat.zero_le _,?_⟩,fpk,q⟩
  rw[show(xs.length:Int)-1-((0:Nat):Int)=(its.toArray.size:Int)-1 by simp [hlen]]
  exact hi
 ·obtain⟨its,rv,pl,hz⟩:=I1.tuple hq
  have hlen:=rv.length
  refine ui (show s1.heap.IsTuple l its.toArray from pl) (by simp;omega) fun h' tk hi hk=>lY hi ?_
  refine⟨s1.heap.objs.size,[s1.heap.objs.size],_,_,H1,rfl,I1.kept (t':=tk) hk,lF l _ xs.length,⟨Nat.zero_le _,?_⟩,fpk,q⟩
  rw[show(xs.length:Int)-1-((0:Nat):Int)=(its.toArray.size:Int)-1 by simp [hlen]]
  exact hi
 ·obtain⟨t,u,v,hr⟩:=I1.hok l _ hq
  refine tR hr hn62 fun h' hi hk=>wpAny_pyIter_rangeiter hi ?_
  refine⟨s1.heap.objs.size,[s1.heap.objs.size],_,_,H1,rfl,I1.kept (t':=s1.toks) hk,mR _ n,?_,fpk,q⟩
  show IsRangeIter _ _ _ _ _
  rw[show(n:Int)-1+((0:Nat):Int)*(-1)=(n:Int)-1 by omega,show(n:Int)-((0:Nat):Int)=n by omega]
  exact hi
def va(K:Frag)(tl:TE):TI:=fun σ H R=>tl σ H fun x H1=>∃a,x= .ref a/\((∃xs,SqL K H1 a xs)/\R (cM K a) H1\/(∃xs,SqT K H1 a xs)/\R (fI K a) H1)
theorem uR{l:Expr}{tl:TE}(hl:PE X l tl):PI X tg l (va X.K tl):=by
 intro pins s σ H R I h
 refine qt (hl pins s σ H _ I h) fun v s1 ⟨x,H1,I1,r1,q1⟩=>?_
 obtain⟨a,e,q1⟩:=q1
 subst e
 cases r1
 have fpk:∀b∈[s1.heap.objs.size],Zd X pins H1 b:=fun b hb=>by
  rw[List.mem_singleton.mp hb]
  exact I1.fpOk (Nat.le_refl _) (I1.hok.fresh (Nat.le_refl _))
 rcases q1 with⟨⟨xs,hq⟩,q⟩|⟨⟨xs,hq⟩,q⟩
 ·obtain⟨its,rv,p,hz⟩:=I1.list hq
  refine wpAny_pyIter_list p.isList ?_
  exact⟨s1.heap.objs.size,[s1.heap.objs.size],_,_,H1,rfl,I1.kept (t':=s1.toks) fun b o e=>Heap.get?_push_of_some _ e,ff a _,⟨_,Heap.get?_push_size _ rfl,rfl,rfl⟩,fpk,q⟩
 ·obtain⟨its,rv,p,hz⟩:=I1.tuple hq
  refine wpAny_pyIter_tuple (show s1.heap.IsTuple a its.toArray from p) ?_
  exact⟨s1.heap.objs.size,[s1.heap.objs.size],_,_,H1,rfl,I1.kept (t':=s1.toks) fun b o e=>Heap.get?_push_of_some _ e,du a _,⟨_,Heap.get?_push_size _ rfl,rfl,rfl⟩,fpk,q⟩
end
section
variable{K:Frag}{a:Addr}{xs:List V}{g:TG}{tb:TS}{D:Ends}{σ:L2.St}{H:Hp}
abbrev Q4(J:It)(g:TG)(tb:TS)(D:Ends)(σ:L2.St)(H:Hp):Prop:=∃W:Nat->Nat->L2.St->Hp->Prop,(∃m,W 0 m σ H)/\∀i m σ H,W i m σ H->
      (J.stop i H/\D.nx σ H)\/(J.go i H/\∃N:L2.St->Hp->Prop,(∀σ' H',N σ' H'->∃m',m'<m/\W (i+1) m' σ' H')/\∀x H',J.yld i H x H'->g x σ H' fun σ2 H2=>tb {D with nx:=N,ct:=N,bk:=D.nx} σ2 H2)
theorem bE{J:It}{n:Nat}(Pv:Nat->L2.St->Hp->Prop)(h0:Pv 0 σ H)(hgo:∀i σ H,i<n->Pv i σ H->J.go i H)(hst:∀H,J.stop n H)
  (hs:∀i x σ H H',i<n->Pv i σ H->J.yld i H x H'->g x σ H' fun σ2 H2=>tb {D with nx:=Pv (i+1),ct:=Pv (i+1),bk:=D.nx} σ2 H2)(hd:∀σ H,Pv n σ H->D.nx σ H):Q4 J g tb D σ H:=by
 refine⟨fun i m σ H=>m=n-i/\i<=n/\Pv i σ H,⟨n,by simp,Nat.zero_le _,h0⟩,?_⟩
 rintro i m σ H ⟨rfl,hi,p⟩
 by_cases hlt:i<n
 ·exact .inr ⟨hgo i σ H hlt p,Pv (i+1),fun σ' H' p'=>⟨n-(i+1),by omega,rfl,hlt,p'⟩,fun x H' y=>hs i x σ H H' hlt p y⟩
 ·have e:i=n:=by omega
  subst e
  exact .inl ⟨hst H,hd σ H p⟩
theorem nS(Pv:Nat->L2.St->Hp->Prop)(h0:Pv 0 σ H)(hl:∀i σ H,Pv i σ H->SqL K H a xs)
  (hs:∀i x σ H,i<xs.length->xs[xs.length-1-i]? =some x->Pv i σ H->g x σ H fun σ2 H2=>tb {D with nx:=Pv (i+1),ct:=Pv (i+1),bk:=D.nx} σ2 H2)(hd:∀σ H,Pv xs.length σ H->D.nx σ H):Q4 (k9 K a xs.length) g tb D σ H:=
 bE Pv h0 (fun i σ H hi p=>⟨hi,xs,hl i σ H p,rfl⟩) (fun _=>Nat.le_refl _) (fun i x σ H H' hi p y=>by
  obtain⟨rfl,y⟩:=y
  exact hs i x σ H' hi (y xs (hl i σ H' p)) p) hd
theorem oU(Pv:Nat->L2.St->Hp->Prop)(h0:Pv 0 σ H)(hl:∀i σ H,Pv i σ H->SqT K H a xs)
  (hs:∀i x σ H,i<xs.length->xs[xs.length-1-i]? =some x->Pv i σ H->g x σ H fun σ2 H2=>tb {D with nx:=Pv (i+1),ct:=Pv (i+1),bk:=D.nx} σ2 H2)(hd:∀σ H,Pv xs.length σ H->D.nx σ H):Q4 (kN K a xs.length) g tb D σ H:=
 bE Pv h0 (fun i σ H hi p=>⟨hi,xs,hl i σ H p,rfl⟩) (fun _=>Nat.le_refl _) (fun i x σ H H' hi p y=>by
  obtain⟨rfl,y⟩:=y
  exact hs i x σ H' hi (y xs (hl i σ H' p)) p) hd
theorem oY{n:Nat}(Pv:Nat->L2.St->Hp->Prop)(h0:Pv 0 σ H)
  (hs:∀i σ H,i<n->Pv i σ H->g (.int ((n:Int)-1-i)) σ H fun σ2 H2=>tb {D with nx:=Pv (i+1),ct:=Pv (i+1),bk:=D.nx} σ2 H2)(hd:∀σ H,Pv n σ H->D.nx σ H):Q4 (lA n) g tb D σ H:=
 bE Pv h0 (fun i σ H hi p=>hi) (fun _=>Nat.le_refl _) (fun i x σ H H' hi p y=>by
  obtain⟨rfl,rfl⟩:=y
  exact hs i σ H' hi p) hd
end
end L3
namespace L3
open PySem PySem.Spec L2
variable{X:Cx}
theorem mr{tg:Expr}{a:Expr}{ta:TA}{p pos:Pos}(hg:Gl X "reversed")(hm:X.mg "reversed"=none)(ha:QA X [a] ta)(hn:Qb a=true:=by rfl):QI X tg (.Call (.Name "reversed" p) [a] [] pos) (vb X.K ta):=⟨tV (hg:=hg) (hm:=hm) (ha:=ha.h) (hn:=hn)⟩
theorem uN{tg:Expr}{l:Expr}{tl:TE}(hl:QE X l tl):QI X tg l (va X.K tl):=⟨uR (hl:=hl.h)⟩
def aR(x:Int):Prop:=0<=x/\x<16
def q0(r:List Int):Prop:=∀x∈r,aR x
def pV(n i:Nat):Nat:=if i=0 then n-1 else i-1
def ah(r:List Int)(i:Nat):Int:=r.getD (pV r.length i) 0
def eU(t:List Int)(s:Int)(r:List Int)(i:Nat):List Int:=r.set i (t.getD ((r.getD i 0+s+i+ah r i)%16).toNat 0)
def cw(b:List Int)(s:Int)(r:List Int)(i:Nat):List Int:=r.set i ((b.getD (r.getD i 0).toNat 0-s-i-ah r i)%16)
def Zb(t:List Int)(s:Int)(r:List Int):Nat->List Int
 |0=>r
 |n+1=>eU t s (Zb t s r n) n
def ZC(b:List Int)(s:Int)(r:List Int):Nat->List Int
 |0=>r
 |n+1=>ZC b s (cw b s r n) n
def zU(t:List Int):List Int->List Int->List Int
 | [],r=>r
 |s::ks,r=>zU t ks (Zb t s r r.length)
def QD(b:List Int):List Int->List Int->List Int
 | [],r=>r
 |s::ks,r=>ZC b s (QD b ks r) r.length
theorem nO{t:List Int}{s:Int}{r:List Int}{i:Nat}:(eU t s r i).length=r.length:=List.length_set ..
theorem gF{b:List Int}{s:Int}{r:List Int}{i:Nat}:(cw b s r i).length=r.length:=List.length_set ..
theorem zV{t:List Int}{s:Int}{r:List Int}:∀{n:Nat},(Zb t s r n).length=r.length
 |0=>rfl
 |n+1=>by rw[Zb,nO,zV]
theorem gJ{b:List Int}{s:Int}:∀{n:Nat} {r:List Int},(ZC b s r n).length=r.length
 |0,_=>rfl
 |n+1,r=>by rw[ZC,gJ,gF]
theorem ar{t:List Int}:∀{ks r:List Int},(zU t ks r).length=r.length
 | [],_=>rfl
 |s::ks,r=>by rw[zU,ar,zV]
theorem cr{b:List Int}:∀{ks r:List Int},(QD b ks r).length=r.length
 | [],_=>rfl
 |s::ks,r=>by rw[QD,gJ,cr]
theorem iX{r:List Int}{i:Nat}{x:Int}(h:q0 r)(hx:aR x):q0 (r.set i x):=fun y hy=>by
 rcases List.mem_or_eq_of_mem_set hy with z|z
 ·exact h y z
 ·rw[z];exact hx
theorem Zq(x:Int):aR (x%16):=⟨Int.emod_nonneg _ (by decide),Int.emod_lt_of_pos _ (by decide)⟩
theorem eF{r:List Int}(h:q0 r)(i:Nat):aR (r.getD i 0):=by
 rw[List.getD_eq_getElem?_getD]
 by_cases hi:i<r.length
 ·rw[List.getElem?_eq_getElem hi];exact h _ (List.getElem_mem hi)
 ·rw[List.getElem?_eq_none (by omega)];exact⟨by decide,by decide⟩
theorem pw{t:List Int}(p:t.Perm digs):q0 t:=fun x hx=>iZ (p.mem_iff.mp hx)
theorem pM{t:List Int}(p:t.Perm digs){s:Int}{r:List Int}{i:Nat}(h:q0 r):q0 (eU t s r i):=iX h (eF (pw p) _)
theorem gQ{b:List Int}{s:Int}{r:List Int}{i:Nat}(h:q0 r):q0 (cw b s r i):=iX h (Zq _)
theorem ai{t:List Int}(p:t.Perm digs){s:Int}{r:List Int}(h:q0 r):∀{n:Nat},q0 (Zb t s r n)
 |0=>h
 |n+1=>pM p (ai p h)
theorem ip{b:List Int}{s:Int}:∀{n:Nat} {r:List Int},q0 r->q0 (ZC b s r n)
 |0,_,h=>h
 |n+1,_,h=>ip (n:=n) (gQ h)
theorem hW{t:List Int}(p:t.Perm digs):∀{ks r:List Int},q0 r->q0 (zU t ks r)
 | [],_,h=>h
 |s::ks,_,h=>hW (ks:=ks) p (ai p h)
theorem hU{b:List Int}:∀{ks r:List Int},q0 r->q0 (QD b ks r)
 | [],_,h=>h
 |s::ks,_,h=>ip (hU (ks:=ks) h)
theorem gk{r:List Int}{i:Nat}{x:Int}(h:i<r.length):(r.set i x).getD i 0=x:=by
 rw[List.getD_eq_getElem?_getD,List.getElem?_set_self h];rfl
theorem ja{r:List Int}{i j:Nat}{x:Int}(h:i≠j):(r.set i x).getD j 0=r.getD j 0:=by
 rw[List.getD_eq_getElem?_getD,List.getElem?_set_ne h,<- List.getD_eq_getElem?_getD]
theorem vY{n i:Nat}(h2:2<=n)(hi:i<n):i≠pV n i:=by unfold pV;split<;>omega
theorem uC{r:List Int}{i:Nat}{x:Int}(h2:2<=r.length)(hi:i<r.length):ah (r.set i x) i=ah r i:=by
 unfold ah
 rw[List.length_set,ja (vY h2 hi)]
theorem nZ{r:List Int}{i:Nat}(hi:i<r.length):r.set i (r.getD i 0)=r:=by
 rw[List.getD_eq_getElem?_getD,List.getElem?_eq_getElem hi]
 exact List.set_getElem_self hi
theorem n9{t:List Int}(p:t.Perm digs){z:Int}(h:aR z):(q9 t).getD (t.getD z.toNat 0).toNat 0=z:=by
 have hz:z.toNat<t.length:=by rw[bJ p];have:=h.1;have:=h.2;omega
 have e:t.getD z.toNat 0=t[z.toNat]:=by rw[List.getD_eq_getElem?_getD,List.getElem?_eq_getElem hz];rfl
 have bd:=im p hz
 have hb:t[z.toNat].toNat<(q9 t).length:=by rw[ZI];omega
 rw[e,List.getD_eq_getElem?_getD,List.getElem?_eq_getElem hb,Option.getD_some,rP p (by rw[ZI]at hb;exact hb)]
 have e2:((t[z.toNat].toNat:Nat):Int)=t[z.toNat]:=by omega
 rw[e2,mn p hz]
 have:=h.1
 omega
theorem oQ{t:List Int}(p:t.Perm digs){s:Int}{r:List Int}{i:Nat}(hr:q0 r)(h2:2<=r.length)(hi:i<r.length):cw (q9 t) s (eU t s r i) i=r:=by
 unfold cw eU
 rw[gk hi,uC h2 hi,List.set_set,n9 p (Zq _)]
 have hd:=eF hr i
 have e:((r.getD i 0+s+i+ah r i)%16-s-i-ah r i)%16=r.getD i 0:=by
  have:=hd.1
  have:=hd.2
  omega
 rw[e,nZ hi]
theorem hZ{t:List Int}(p:t.Perm digs){s:Int}{r:List Int}(hr:q0 r)(h2:2<=r.length):∀{n:Nat},n<=r.length->ZC (q9 t) s (Zb t s r n) n=r
 |0,_=>rfl
 |n+1,hn=>by
  rw[Zb,ZC,oQ p (ai p hr) (by rw[zV];exact h2) (by rw[zV];omega)]
  exact hZ p hr h2 (by omega)
theorem iU{t:List Int}(p:t.Perm digs):∀{ks r:List Int},q0 r->2<=r.length->QD (q9 t) ks (zU t ks r)=r
 | [],_,_,_=>rfl
 |s::ks,r,hr,h2=>by
  rw[QD,zU,iU p (ai p hr) (by rw[zV];exact h2),ar,zV,hZ p hr h2 (Nat.le_refl _)]
theorem gT(t:List Int):∀(ks:List Int) (s:Int) (r:List Int),zU t (ks++[s]) r=Zb t s (zU t ks r) r.length
 | [],_,_=>rfl
 |a::ks,s,r=>by rw[List.cons_append,zU,gT t ks s,zU,zV]
def Sq(K:Frag)(H:Hp)(a:Addr)(xs:List V):Prop:=SqL K H a xs\/SqT K H a xs
theorem Sq.same{K:Frag}{H H':Hp}{a:Addr}{xs:List V}(e:Same H H')(h:Sq K H a xs):Sq K H' a xs:=h.elim (fun h=> .inl (e.seq h)) fun h=> .inr (Same.sqt e h)
theorem Sq.lst{K:Frag}{H:Hp}{a:Addr}{xs:List V}(h:H a=some (.lst xs)):Sq K H a xs:= .inl (SqL.of h)
theorem Sq.tup{K:Frag}{H:Hp}{a:Addr}{xs:List V}(h:H a=some (.tup xs)):Sq K H a xs:= .inr (SqT.of h)
def eI(K:Frag):Sp:=fun vs H Q _=>∃(a b c:Addr) (t ks ds:List Int),vs=[.ref a,.ref b,.ref c]/\Sq K H a (t.map V.int)/\Sq K H b (ks.map V.int)/\Sq K H c (ds.map V.int)/\t.length=16/\1<=ds.length/\ds.length<64/\
 ∀p H',Same H H'->H p=none->H' p=some (.tup ((zU t ks ds).map V.int))->Q (.ref p) H'
def fV(K:Frag):Sp:=fun vs H Q _=>∃(a b c:Addr) (t ks ds:List Int),vs=[.ref a,.ref b,.ref c]/\Sq K H a (t.map V.int)/\Sq K H b (ks.map V.int)/\Sq K H c (ds.map V.int)/\t.Perm digs/\q0 ds/\1<=ds.length/\ds.length<64/\
 ∀p H',Same H H'->H p=none->H' p=some (.tup ((QD (q9 t) ks ds).map V.int))->Q (.ref p) H'
theorem Zy{r:List Int}{i:Nat}{z:Int}(e:z=(i:Int))(h:i<r.length):QX (r.map V.int) z=some (.int (r.getD i 0)):=by
 rw[sC e (ef h),List.getD_eq_getElem?_getD,List.getElem?_eq_getElem h];rfl
theorem lW{r:List Int}{i:Nat}{z:Int}(e:z=(i:Int)-1)(h:i<r.length):QX (r.map V.int) z=some (.int (ah r i)):=by
 subst e
 unfold ah pV
 by_cases h0:i=0
 ·subst h0
  rw[if_pos rfl]
  have hl:r.length-1<r.length:=by omega
  unfold QX Z4
  rw[List.length_map,if_neg (by omega),if_pos (by omega)]
  have e2:((((0:Nat):Int)-1)+(r.length:Int)).toNat=r.length-1:=by omega
  show(r.map V.int)[((((0:Nat):Int)-1)+(r.length:Int)).toNat]? =_
  rw[e2,ef hl,List.getD_eq_getElem?_getD,List.getElem?_eq_getElem hl];rfl
 ·rw[if_neg h0]
  exact Zy (by omega) (by omega)
theorem Sq.ix{K:Frag}{H:Hp}{a:Addr}{xs:List V}{i:Int}{v:V}{Q:VK}(h:Sq K H a xs)(e:QX xs i=some v)(q:Q v H):uZ K (.ref a) (.int i) H Q\/uy K (.ref a) (.int i) H Q:=
 h.elim (fun h=> .inl ⟨a,xs,i,v,rfl,rfl,h,e,q⟩) fun h=> .inr ⟨a,xs,i,v,rfl,rfl,h,e,q⟩
section
variable{K:Frag}{a:Addr}{xs:List V}{g:TG}{tb:TS}{D:Ends}{σ:L2.St}{H H0:Hp}
theorem sH(hq:Sq K H0 a xs)(Pv:Nat->L2.St->Hp->Prop)(h0:Pv 0 σ H)(hk:∀i σ' H',Pv i σ' H'->Same H0 H')
  (hs:∀i x σ H,xs[i]? =some x->Pv i σ H->g x σ H fun σ2 H2=>tb {D with nx:=Pv (i+1),ct:=Pv (i+1),bk:=D.nx} σ2 H2)(hd:∀σ H,Pv xs.length σ H->D.nx σ H):
  ((∃xs,SqL K H a xs)/\Q4 (cM K a) g tb D σ H)\/((∃xs,SqT K H a xs)/\Q4 (fI K a) g tb D σ H):=by
 rcases hq with hq|hq
 ·exact .inl ⟨⟨xs,(hk _ _ _ h0).seq hq⟩,Zv Pv h0 (fun i σ H _ p=>(hk i σ H p).seq hq) hs hd⟩
 ·exact .inr ⟨⟨xs,Same.sqt (hk _ _ _ h0) hq⟩,rR Pv h0 (fun i σ H _ p=>Same.sqt (hk i σ H p) hq) hs hd⟩
theorem oZ(hq:Sq K H0 a xs)(Pv:Nat->L2.St->Hp->Prop)(h0:Pv 0 σ H)(hk:∀i σ' H',Pv i σ' H'->Same H0 H')
  (hs:∀i x σ H,i<xs.length->xs[xs.length-1-i]? =some x->Pv i σ H->g x σ H fun σ2 H2=>tb {D with nx:=Pv (i+1),ct:=Pv (i+1),bk:=D.nx} σ2 H2)(hd:∀σ H,Pv xs.length σ H->D.nx σ H):
  (∃xs,SqL K H a xs/\Q4 (k9 K a xs.length) g tb D σ H)\/(∃xs,SqT K H a xs/\Q4 (kN K a xs.length) g tb D σ H)\/(∃n:Nat,H a=some (.rng 0 n)/\(n:Int)<2 ^ 62/\Q4 (lA n) g tb D σ H):=by
 rcases hq with hq|hq
 ·exact .inl ⟨xs,(hk _ _ _ h0).seq hq,nS Pv h0 (fun i σ H p=>(hk i σ H p).seq hq) hs hd⟩
 ·exact .inr (.inl ⟨xs,Same.sqt (hk _ _ _ h0) hq,oU Pv h0 (fun i σ H p=>Same.sqt (hk i σ H p) hq) hs hd⟩)
end
theorem QM{H H2:Hp}{l:Addr}{o:HO}(s:Same H H2)(h:H l=none):Same H (upd H2 l o):=fun d u e=>by
 rw[qi (qo e h)];exact s _ _ e
theorem eY{ks:List Int}{j:Nat}{s:Int}(h:ks[j]? =some s):ks.take (j+1)=ks.take j++[s]:=by rw[List.take_add_one,h];rfl
theorem nJ{ks:List Int}{j:Nat}{s:Int}(h:ks[j]? =some s):ks.drop j=s::ks.drop (j+1):=by
 obtain⟨hj,e⟩:=List.getElem?_eq_some_iff.mp h
 rw[List.drop_eq_getElem_cons hj,e]
inductive Eqd (H:Hp):Nat->V->V->Prop where
 |int (n:Nat) (i:Int):Eqd H n (.int i) (.int i)
 |str (n:Nat) (x:Str):Eqd H n (.str x) (.str x)
 |non (n:Nat):Eqd H n .non .non
 |bl (n:Nat) (b:Bool):Eqd H n (.bl b) (.bl b)
 | tup {n:Nat} {a b:Addr} {xs ys:List V} (h1:Rd H a (.tup xs)) (h2:Rd H b (.tup ys)) (hl:xs.length=ys.length)
   (hi:∀(i:Nat) (x y:V),xs[i]? =some x->ys[i]? =some y->Eqd H n x y):Eqd H (n+1) (.ref a) (.ref b)
 | lst {n:Nat} {a b:Addr} {xs ys:List V} (h1:H a=some (.lst xs)) (h2:H b=some (.lst ys)) (hl:xs.length=ys.length)
   (hi:∀(i:Nat) (x y:V),xs[i]? =some x->ys[i]? =some y->Eqd H n x y):Eqd H (n+1) (.ref a) (.ref b)
theorem Z7(n:Nat):((List.range n).all fun _=>true)=true:=by simp
section
open SeqAt
variable{pins:List (Addr×Obj)}{σ:L2.St}{H:Hp}{s:Shared}
theorem zu{xs:List V}{us:List Value}(r:Vals xs us){j:Nat}(h:j<us.length):∃x,xs[j]? =some x/\RelV x us[j]:=by
 have hl:=r.length
 have hj:j<xs.length:=by omega
 obtain⟨u,hu,ru⟩:=r.get (List.getElem?_eq_getElem hj)
 rw[List.getElem?_eq_getElem h]at hu
 cases hu
 exact⟨_,List.getElem?_eq_getElem hj,ru⟩
theorem mW(I:L2.Inv X pins σ H s){n:Nat}{x y:V}(h:Eqd H n x y):∀{v u:Value} {A:Around},RelV x v->RelV y u->A.units+n<cLine->EqAt A s v u true:=by
 induction h with
 |int n i=>rintro v u A ⟨t,rfl⟩ ⟨t',rfl⟩ _;have:=EqAt.int_int (A:=A) (s:=s) i t i t';rwa [beq_self_eq_true]at this
 |str n z=>rintro v u A ⟨t,rfl⟩ ⟨t',rfl⟩ _;have:=EqAt.str_str (A:=A) (s:=s) z t z t';rwa [beq_self_eq_true]at this
 |non n=>
  intro v u A r1 r2 _
  cases(show v=Value.none from r1)
  cases(show u=Value.none from r2)
  exact EqAt.same _
 |bl n b=>
  intro v u A r1 r2 _
  cases(show v=Value.bool b from r1)
  cases(show u=Value.bool b from r2)
  exact EqAt.same _
 | @tup n a b xs ys h1 h2 hl _ ih=>
  intro v u A r1 r2 hu
  cases(show v=Value.ref a from r1)
  cases(show u=Value.ref b from r2)
  by_cases hab:a=b
  ·rw[hab];exact EqAt.same _
  ·obtain⟨its,q1,p1,_⟩:=I.tuple (.inl h1)
   obtain⟨its2,q2,p2,_⟩:=I.tuple (.inl h2)
   have l1:=q1.length
   have l2:=q2.length
   have e:=RcAt.tuples (A:=A) (e:=fun _=>true) (show s.heap.IsTuple a its.toArray from p1) (show s.heap.IsTuple b its2.toArray from p2) (by omega) (fun j z1 z2=>by
    obtain⟨x,ex,rx⟩:=zu q1 (j:=j) (by simpa using z1)
    obtain⟨y,ey,ry⟩:=zu q2 (j:=j) (by simpa using z2)
    exact ih j x y ex ey rx ry (by rw[Around.in1_units];omega))
   rw[Z7,show(its.toArray.size==its2.toArray.size)=true by simp;omega]at e
   exact EqAt.of_refs hab e
 | @lst n a b xs ys h1 h2 hl _ ih=>
  intro v u A r1 r2 hu
  cases(show v=Value.ref a from r1)
  cases(show u=Value.ref b from r2)
  by_cases hab:a=b
  ·rw[hab];exact EqAt.same _
  ·obtain⟨its,q1,p1,_⟩:=I.list (SqL.of h1)
   obtain⟨its2,q2,p2,_⟩:=I.list (SqL.of h2)
   have l1:=q1.length
   have l2:=q2.length
   have e:=RcAt.lists (A:=A) (e:=fun _=>true) p1.isList p2.isList (by simp;omega) (by omega) (fun j z1 z2=>by
    obtain⟨x,ex,rx⟩:=zu q1 (j:=j) (by simpa using z1)
    obtain⟨y,ey,ry⟩:=zu q2 (j:=j) (by simpa using z2)
    exact ih j x y ex ey rx ry (by rw[Around.in1_units];omega))
   rw[Z7]at e
   exact EqAt.of_refs hab e
theorem lS(I:L2.Inv X pins σ H s){n:Nat}{x y:V}{v u:Value}{A:Around}(h:Eqd H n x y)(r1:RelV x v)(r2:RelV y u)(hu:A.units+n<cLine):RcAt A s v u true/\RcNeAt A s v u false:=by
 cases h with
 |int n i=>
  obtain⟨t,rfl⟩:=r1
  obtain⟨t',rfl⟩:=r2
  have e1:=RcAt.int_int (A:=A) (s:=s) i t i t'
  have e2:=RcNeAt.int_int (A:=A) (s:=s) i t i t'
  rw[beq_self_eq_true]at e1 e2
  exact⟨e1,e2⟩
 |str n z=>
  obtain⟨t,rfl⟩:=r1
  obtain⟨t',rfl⟩:=r2
  have e1:=RcAt.str_str (A:=A) (s:=s) z t z t'
  have e2:=RcNeAt.str_str (A:=A) (s:=s) z t z t'
  rw[beq_self_eq_true]at e1 e2
  exact⟨e1,e2⟩
 |non n=>
  cases(show v=Value.none from r1)
  cases(show u=Value.none from r2)
  exact⟨RcAt.none_none,RcNeAt.none_none⟩
 |bl n b=>
  cases(show v=Value.bool b from r1)
  cases(show u=Value.bool b from r2)
  have e1:=RcAt.bool_bool (A:=A) (s:=s) b b
  have e2:=RcNeAt.bool_bool (A:=A) (s:=s) b b
  rw[beq_self_eq_true]at e1 e2
  exact⟨e1,e2⟩
 | @tup n a b xs ys h1 h2 hl ih=>
  cases(show v=Value.ref a from r1)
  cases(show u=Value.ref b from r2)
  obtain⟨its,q1,p1,_⟩:=I.tuple (.inl h1)
  obtain⟨its2,q2,p2,_⟩:=I.tuple (.inl h2)
  have l1:=q1.length
  have l2:=q2.length
  have he:∀j (z1:j<its.toArray.size) (z2:j<its2.toArray.size),EqAt A.in1 s its.toArray[j] its2.toArray[j] ((fun _=>true) j):=fun j z1 z2=>by
   obtain⟨x,ex,rx⟩:=zu q1 (j:=j) (by simpa using z1)
   obtain⟨y,ey,ry⟩:=zu q2 (j:=j) (by simpa using z2)
   exact mW I (ih j x y ex ey) rx ry (by rw[Around.in1_units];omega)
  have e1:=RcAt.tuples (A:=A) (e:=fun _=>true) (show s.heap.IsTuple a its.toArray from p1) (show s.heap.IsTuple b its2.toArray from p2) (by omega) he
  have e2:=RcNeAt.tuples (A:=A) (e:=fun _=>true) (show s.heap.IsTuple a its.toArray from p1) (show s.heap.IsTuple b its2.toArray from p2) (by omega) he
  rw[Z7,show(its.toArray.size==its2.toArray.size)=true by simp;omega]at e1 e2
  exact⟨e1,e2⟩
 | @lst n a b xs ys h1 h2 hl ih=>
  cases(show v=Value.ref a from r1)
  cases(show u=Value.ref b from r2)
  obtain⟨its,q1,p1,_⟩:=I.list (SqL.of h1)
  obtain⟨its2,q2,p2,_⟩:=I.list (SqL.of h2)
  have l1:=q1.length
  have l2:=q2.length
  have he:∀j (z1:j<its.toArray.size) (z2:j<its2.toArray.size),EqAt A.in1 s its.toArray[j] its2.toArray[j] ((fun _=>true) j):=fun j z1 z2=>by
   obtain⟨x,ex,rx⟩:=zu q1 (j:=j) (by simpa using z1)
   obtain⟨y,ey,ry⟩:=zu q2 (j:=j) (by simpa using z2)
   exact mW I (ih j x y ex ey) rx ry (by rw[Around.in1_units];omega)
  have e1:=RcAt.lists (A:=A) (e:=fun _=>true) p1.isList p2.isList (by simp;omega) (by omega) he
  have e2:=RcNeAt.lists (A:=A) (e:=fun _=>true) p1.isList p2.isList (by simp;omega) (by omega) he
  rw[Z7]at e1 e2
  exact⟨e1,e2⟩
def vo(b:Bool):R2:=fun x y H Q=>∃n,n<=32/\Eqd H n x y/\Q (.bl b) H
theorem ut{k:Nat}(hr:Room k X.A):q8 X (compareOp .Eq) (vo true):=by
 intro pins s σ H x y v u Q I rx ry h
 obtain⟨n,hn,e,q⟩:=h
 exact(lS I e rx ry (by have:=hr.un;omega)).1 _ _ _ _ ⟨.bl _,H,I,rfl,q⟩
theorem vx{k:Nat}(hr:Room k X.A):q8 X (compareOp .NotEq) (vo false):=by
 intro pins s σ H x y v u Q I rx ry h
 obtain⟨n,hn,e,q⟩:=h
 exact(lS I e rx ry (by have:=hr.un;omega)).2 _ _ _ _ ⟨.bl _,H,I,rfl,q⟩
end
end L3
namespace L3
open PySem PySem.Spec PyProof.Rows L2
open Sem (wp)
def rA(x:Str):It:=⟨fun i _=>i<x.cps.size,fun i H v H'=>H'=H/\∃c,x.cps[i]? =some c/\v= .str ⟨#[c]⟩,fun i _=>x.cps.size<=i⟩
theorem oo{P:Program}{w:World}{K:Frag}{tg:Expr}(it:Addr)(x:Str)(t:Tok):Turn P w K tg (rA x) [it] it (fun i h=>h.IsStrIter it "str_ascii_iterator" x t i) where
 mem:=by simp
 obj:=fun i h st b hb=>by
  have e:b=it:=by simpa using hb
  subst e
  obtain⟨o,e,c,d⟩:=st
  exact⟨o,e,fun v z=>by rw[d]at z;cases z⟩
 keep:=fun i h h' st k=>let⟨o,e,r⟩:=st;⟨o,k it (by simp) o e,r⟩
 item:=by
  intro X hP hw hK hc i pins s σ H E I hf st hg
  subst hP hw hK
  obtain⟨f0,f1,f2,f3,f4,f5⟩:=hf it (by simp)
  have W:=Walks.strAscii (prog:=X.prog) (w:=X.w) (I.ok.hd hc) it x t
  refine W.item i s _ _ hg st fun v h' tk hv st' kk=>?_
  obtain⟨c,u,hc',rfl⟩:=hv
  have I1:L2.Inv X pins σ H {s with heap:=h',toks:=tk}:=I.turned (fun b o hb e=>kk b o (by simpa using hb) e) f0 f1 f3 f4 f5
  obtain⟨o,e,cc,d⟩:=id st'
  exact⟨_,rfl,ax (s:={s with heap:=h',toks:=tk}) e cc d (by decide) ⟨.str ⟨#[c]⟩,H,I1,⟨u,rfl⟩,⟨rfl,c,hc',rfl⟩,st',fun b hb=>(hf b hb).1⟩⟩
 done:=by
  intro X hP hw hK hc i pins s σ H E I hf st hg
  subst hP hw hK
  obtain⟨f0,f1,f2,f3,f4,f5⟩:=hf it (by simp)
  have hg':x.cps.size<=i:=hg
  exact wpAny_pyNext_ascii_end (I.ok.hd hc) st (by simp [hg']) fun h' eb=>⟨rfl,I.turned (t':=s.toks) (fun b o hb e=>eb b o hb e) f0 f1 f3 f4 f5⟩
 self:=fun _ _ _ _ _ st h=>wpAny_pyIter_striter_ascii st h
section
variable{X:Cx}{tg:Expr}
def vn(tl:TE):TI:=fun σ H R=>tl σ H fun v H1=>∃x,v= .str x/\x.cps.all (· <128)=true/\R (rA x) H1
theorem uw{l:Expr}{tl:TE}(hl:PE X l tl):PI X tg l (vn tl):=by
 intro pins s σ H R I h
 refine qt (hl pins s σ H _ I h) fun v s1 ⟨x,H1,I1,r1,q1⟩=>?_
 obtain⟨z,rfl,ha,q⟩:=q1
 obtain⟨t,rfl⟩:=r1
 refine wpAny_pyIter_ascii ha ?_
 refine⟨s1.heap.objs.size,[s1.heap.objs.size],_,_,H1,rfl,I1.kept (t':=s1.toks) fun b o e=>Heap.get?_push_of_some _ e,oo _ z t,⟨_,Heap.get?_push_size _ rfl,rfl,rfl⟩,fun b hb=>?_,q⟩
 rw[List.mem_singleton.mp hb]
 exact I1.fpOk (Nat.le_refl _) (I1.hok.fresh (Nat.le_refl _))
theorem mD{l:Expr}{tl:TE}(hl:QE X l tl):QI X tg l (vn tl):=⟨uw hl.h⟩
end
theorem si{x:Str}{g:TG}{tb:TS}{D:Ends}{σ:L2.St}{H:Hp}(Pv:Nat->L2.St->Hp->Prop)(h0:Pv 0 σ H)
  (hs:∀i c σ H,x.cps[i]? =some c->Pv i σ H->g (.str ⟨#[c]⟩) σ H fun σ2 H2=>tb {D with nx:=Pv (i+1),ct:=Pv (i+1),bk:=D.nx} σ2 H2)(hd:∀σ H,Pv x.cps.size σ H->D.nx σ H):Q4 (rA x) g tb D σ H:=
 bE Pv h0 (fun i σ H hi p=>hi) (fun _=>Nat.le_refl _) (fun i v σ H H' hi p y=>by
  obtain⟨rfl,c,hc,rfl⟩:=y
  exact hs i c σ H' hc p) hd
section
variable{X:Cx}{o e:Expr}{es:List Expr}{to:TE}{t:TA}{name:Str}{apos cpos:Pos}{T id:String}{r:V->List V->Hp->VK->Prop}
theorem Qq(pa:PlainAttrs T)(slot:Slot T name id)(hty:typeOf (.builtin id)=pure (.type "method_descriptor"))(hm:c6 X id r)(ho:QE X o to)(ha:QA X (e::es) t)
  (hbase:attributeBase o name X.env (eval o X.env)=eval o X.env:=by rfl)
  (hfew:((backTo cpos (starEach (e::es) X.env)).all (fun x=> !x.1)&&(backToKw cpos (keywordEach [] X.env)).all (fun x=>x.1.isSome)
   &&decide ((e::es).length+([]:List Keyword).length+(if([]:List Keyword).isEmpty then 0 else 1)<30))=true:=by rfl)
  (hline:(apos.endLine==cpos.line)=true:=by rfl)(hs:starEach (e::es) X.env=(false,eval e X.env)::starEach es X.env:=by rfl)(hplain:(backTo cpos (starEach es X.env)).any (·.1)=false:=by rfl):
  QE X (.Call (.Attribute o name apos) (e::es) [] cpos) (tS X.K T r to t):=⟨v5 pa slot hty hm ho.h ha.h hbase hfew hline hs hplain⟩
theorem zm:c6 X "list.append" jO:=ny
end
theorem Z1(ns:List Int):∀n,n<=ns.length->preSum (fun i=>ns.getD i 0) n=(ns.take n).sum
 |0,_=>by simp [preSum]
 |n+1,h=>by
  have hn:n<ns.length:=by omega
  rw[preSum,Z1 ns n (by omega),List.take_add_one,List.getElem?_eq_getElem hn,Option.toList_some,List.sum_append,List.getD_eq_getElem?_getD,List.getElem?_eq_getElem hn]
  simp
theorem mY{B:Int}:∀{ns:List Int},(∀z∈ns,0<=z/\z<=B)->0<=ns.sum/\ns.sum<=ns.length*B
 | [],_=>⟨by simp,by simp⟩
 |n::r,h=>by
  have h1:=h n List.mem_cons_self
  have h2:=mY (ns:=r) fun z hz=>h z (List.mem_cons_of_mem _ hz)
  rw[List.sum_cons,List.length_cons]
  refine⟨by omega,?_⟩
  have:(((r.length+1:Nat):Int))*B=r.length*B+B:=by rw[Int.natCast_add,Int.add_mul];simp
  omega
section
variable{X:Cx}
theorem lX(hc:X.calm=true):qW X (.builtin "sum") (fun xs H Q=>∃(p:Addr) (ns:List Int),xs=[.ref p]/\Sq X.K H p (ns.map V.int)/\ns.length<=1000/\(∀z∈ns,0<=z/\z<=1000000)/\Q (.int ns.sum) H):=by
 intro pins s σ H xs us Q I r h
 obtain⟨p,ns,rfl,hq,hl,hb,q⟩:=h
 obtain⟨u,rfl,ru⟩:=zF r
 cases ru
 have bd:∀n,n<=ns.length->0<=preSum (fun i=>ns.getD i 0) n/\preSum (fun i=>ns.getD i 0) n<=1000000000:=fun n hn=>by
  rw[Z1 ns n hn]
  have h1:=mY (B:=1000000) (ns:=ns.take n) fun z hz=>hb z (List.mem_of_mem_take hz)
  have h2:(ns.take n).length<=1000:=by rw[List.length_take];omega
  omega
 have fit:∀j,j<ns.length->InLong ((fun i=>ns.getD i 0) j)/\InLong (preSum (fun i=>ns.getD i 0) (j+1)):=fun j hj=>by
  have b1:=bd (j+1) (by omega)
  have b2:0<=ns.getD j 0/\ns.getD j 0<=1000000:=by
   rw[List.getD_eq_getElem?_getD,List.getElem?_eq_getElem hj];exact hb _ (List.getElem_mem hj)
  unfold InLong
  simp only
  omega
 have eS:preSum (fun i=>ns.getD i 0) ns.length=ns.sum:=by rw[Z1 ns _ (Nat.le_refl _),List.take_length]
 have val:∀{its:List Value},Vals (ns.map V.int) its->∀(i:Nat) (v:Value),its.toArray[i]? =some v->∃t,v= .int ((fun i=>ns.getD i 0) i) t:=fun{its} rv i v hv=>by
  have hv':its[i]? =some v:=by simpa using hv
  have hi:i<its.length:=(List.getElem?_eq_some_iff.mp hv').1
  obtain⟨x,ex,rx⟩:=zu rv hi
  obtain⟨z,rfl,hz⟩:=zH ex
  obtain⟨t,ht⟩:=rx
  refine⟨t,?_⟩
  rw[(List.getElem?_eq_some_iff.mp hv').2]at ht
  rw[ht]
  show Value.int z t=Value.int (ns.getD i 0) t
  rw[List.getD_eq_getElem?_getD,hz];rfl
 rcases hq with hq|hq
 ·obtain⟨its,rv,pl,hz⟩:=I.list hq
  have hlen:ns.length=its.length:=by have:=rv.length;rwa [List.length_map]at this
  have hlt:p<s.heap.objs.size:=by obtain⟨_,e,_⟩:=pl.isList;exact Heap.lt_size e
  refine call_sum_walk (wpAny_pyIter_list pl.isList ?_)
  refine⟨s.heap.objs.size,[s.heap.objs.size,p],[s.heap.objs.size],its.toArray.size,_,_,fun i=>ns.getD i 0,rfl,Walks.list (A:=X.A.in1) (I.ok.hd hc) _ p (Nat.ne_of_lt hlt) its.toArray,
   ⟨⟨_,Heap.get?_push_size _ rfl,rfl,rfl⟩,pl.isList.push _⟩,fun b hb'=>?_,val rv,fun j hj=>fit j (by simp at hj;omega),fun h' tk t' hk=>?_⟩
  ·have sz:(s.heap.push {cls:= .type "list_iterator",data:= .fields #[.ref p,.int 0 0]}).objs.size=s.heap.objs.size+1:=Heap.size_push ..
   simp only[List.mem_cons,List.not_mem_nil,or_false]at hb'
   show b<(Heap.push s.heap _).objs.size
   rw[Heap.size_push]
   rcases hb' with rfl|rfl
   ·exact Nat.lt_succ_self _
   ·exact Nat.lt_succ_of_lt hlt
  ·have e2:preSum (fun i=>ns.getD i 0) its.toArray.size=ns.sum:=by rw[List.size_toArray,<- hlen];exact eS
   rw[e2]
   refine⟨.int _,H,I.kept (h':=h') (t':=tk) fun b o q=>hk b o (fun hm=>?_) (Heap.get?_push_of_some _ q),⟨_,rfl⟩,q⟩
   rw[List.mem_singleton.mp hm]at q
   exact Nat.lt_irrefl _ (Heap.lt_size q)
 ·obtain⟨its,rv,pl,hz⟩:=I.tuple hq
  have hlen:ns.length=its.length:=by have:=rv.length;rwa [List.length_map]at this
  have hT:s.heap.IsTuple p its.toArray:=pl
  have hlt:p<s.heap.objs.size:=by obtain⟨_,e,_⟩:=hT;exact Heap.lt_size e
  refine call_sum_walk (wpAny_pyIter_tuple hT ?_)
  refine⟨s.heap.objs.size,[s.heap.objs.size,p],[s.heap.objs.size],its.toArray.size,_,_,fun i=>ns.getD i 0,rfl,Walks.tuple (A:=X.A.in1) (I.ok.hd hc) _ p (Nat.ne_of_lt hlt) its.toArray,
   ⟨⟨_,Heap.get?_push_size _ rfl,rfl,rfl⟩,let⟨o,e,r⟩:=hT;⟨o,Heap.get?_push_of_some _ e,r⟩⟩,fun b hb'=>?_,val rv,fun j hj=>fit j (by simp at hj;omega),fun h' tk t' hk=>?_⟩
  ·simp only[List.mem_cons,List.not_mem_nil,or_false]at hb'
   show b<(Heap.push s.heap _).objs.size
   rw[Heap.size_push]
   rcases hb' with rfl|rfl
   ·exact Nat.lt_succ_self _
   ·exact Nat.lt_succ_of_lt hlt
  ·have e2:preSum (fun i=>ns.getD i 0) its.toArray.size=ns.sum:=by rw[List.size_toArray,<- hlen];exact eS
   rw[e2]
   refine⟨.int _,H,I.kept (h':=h') (t':=tk) fun b o q=>hk b o (fun hm=>?_) (Heap.get?_push_of_some _ q),⟨_,rfl⟩,q⟩
   rw[List.mem_singleton.mp hm]at q
   exact Nat.lt_irrefl _ (Heap.lt_size q)
end
end L3
namespace L3
open PySem PySem.Spec PyProof.Rows L2
section
variable{X:Cx}
theorem nP:oE X (fun x y H Q=>∃(p:Addr) (xs:List V) (i:Nat) (v:V),x= .ref p/\y= .int (i:Int)/\H p=some (.lst xs)/\xs[i]? =some v/\Q v H):=by
 intro pins s σ H o i ov iv Q I r1 r2 h
 obtain⟨p,xs,j,v,rfl,rfl,hH,hv,q⟩:=h
 cases r1
 obtain⟨t,rfl⟩:=r2
 obtain⟨its,r,pl,hz⟩:=I.list (SqL.of hH)
 obtain⟨u,hu,ru⟩:=r.get hv
 have hl:=r.length
 have hn:=Za
 have hj:j<xs.length:=(List.getElem?_eq_some_iff.mp hv).1
 exact wpAny_getItem_list pl.isList (by omega) (by omega) (by simpa using hu) ⟨v,H,I,ru,q⟩
end
def Q0(z:Str):Prop:=(∀c∈z.cps.toList,97<=c/\c<=122)/\1<=z.cps.toList.length/\z.cps.toList.length<=8
theorem gG{z:Str}(h:Q0 z):z.cps.all (· <128)=true:=by
 rw[Array.all_eq_true']
 intro c hc
 have:=h.1 c (by simpa using hc)
 simp;omega
def oz(c:Nat):List Int:=[((c:Int)-97)%16,((c:Int)-97)/16]
def Qp(cs:List Nat):List Int:=cs.flatMap oz
theorem nc(cs:List Nat)(c:Nat):Qp (cs++[c])=Qp cs++oz c:=by simp [Qp]
theorem fH(cs:List Nat):(Qp cs).length=2*cs.length:=by
 induction cs with
 |nil=>rfl
 |cons c r ih=>simp only[Qp,List.flatMap_cons,List.length_append,List.length_cons]at ih⊢;rw[ih];simp [oz];omega
def eE(ds:List Int)(j:Nat):Nat->Int
 |0=>0
 |n+1=>eE ds j n+if n%4=j then ds.getD n 0 else 0
def Q5(ds:List Int)(n:Nat):List Int:=[eE ds 0 n,eE ds 1 n,eE ds 2 n,eE ds 3 n]
theorem nA(ds:List Int)(n:Nat):(Q5 ds n).set (n%4) ((Q5 ds n).getD (n%4) 0+ds.getD n 0)=Q5 ds (n+1):=by
 have h:n%4=0\/n%4=1\/n%4=2\/n%4=3:=by omega
 rcases h with h|h|h|h<;>simp [Q5,eE,h]
def ZR(ds:List Int):List Int:=(Q5 ds ds.length).map (· %16)
theorem gB(ds:List Int):(ZR ds).length=4:=rfl
def f8:Sp:=fun vs H Q _=>∃z,vs=[.str z]/\Q0 z/\∀l H',Same H H'->H l=none->H' l=some (.lst ((Qp z.cps.toList).map V.int))->Q (.ref l) H'
def eu(K:Frag):Sp:=fun vs H Q _=>∃(a b:Addr) (z:Str) (t ks:List Int),vs=[.ref a,.ref b,.str z]/\Sq K H a (t.map V.int)/\Sq K H b (ks.map V.int)/\Q0 z/\t.length=16/\
 ∀p H',Same H H'->H p=none->H' p=some (.tup ((zU t ks (ZR (Qp z.cps.toList))).map V.int))->Q (.ref p) H'
theorem sM{cs:List Nat}{i c:Nat}(h:cs[i]? =some c):cs.take (i+1)=cs.take i++[c]:=by rw[List.take_add_one,h];rfl
theorem jy{z:Str}{i c:Nat}(h:z.cps[i]? =some c):z.cps.toList[i]? =some c:=by simpa using h
theorem uT{X:Cx}{scope:Scope}{y z:Str}{j k:Nat}(kind:scope.kind= .function)(names:∀x∈scope.names,x.2= .local->scope.names.lookup x.1=some .local)(nocell:∀x∈scope.names,x.2≠ .cell)
  (free:∀x∈scope.names,x.2= .free->x.1∈([y,z]:List Str))(h1:X.N[j]? =some y)(h2:X.env.kindOf y=some .cell)(h3:(relabel scope X.env).names.lookup y=some .cell)
  (g1:X.N[k]? =some z)(g2:X.env.kindOf z=some .cell)(g3:(relabel scope X.env).names.lookup z=some .cell):BScope X scope [y,z] [j,k]:=
 ⟨kind,names,nocell,free,rfl,fun i j' y' e1 e2=>by
  match i with
  |0=>cases e1;cases e2;exact⟨h1,h2,h3⟩
  |1=>cases e1;cases e2;exact⟨g1,g2,g3⟩
  |i+2=>simp at e1⟩
theorem tZ{X:Cx}{y z:Str}{c d:Addr}(h:X.env.cells.lookup y=some c)(g:X.env.cells.lookup z=some d):∀u e,([(y,c),(z,d)]:List (Str×Addr)).lookup u=some e->X.env.cells.lookup u=some e:=fun u e he=>by
 by_cases hu:u=y
 ·subst hu
  simp at he
  rw[<- he];exact h
 ·by_cases hv:u=z
  ·subst hv
   simp [List.lookup_cons,show(u==y)=false from by simpa using hu]at he
   rw[<- he];exact g
  ·simp [List.lookup_cons,show(u==y)=false from by simpa using hu,show(u==z)=false from by simpa using hv]at he
end L3
namespace L3
open PySem PySem.Spec PyProof.Rows L2
open Sem (wp)
section
variable{prog:Program}{w:World}{A:Around}{E:Value->Shared->Prop}{s:Shared}
theorem cT{it t:Addr}{items:Array Value}(hne:t≠it):∀(n i:Nat) (s:Shared) (Q:List Value->Shared->Prop),s.heap.IsListIter it t i->s.heap.IsList t items->i+n<=items.size->
  (∀h',h'.IsListIter it t (i+n)->Heap.SameBut it s.heap h'->Q ((items.toList.drop i).take n) {s with heap:=h'})->wpAny (model prog w) A (draw (.ref it) n) Q E s
 |0,i,s,Q,hit,_,_,hQ=>by
  show wpAny _ _ (pure []) Q E s
  refine wpAny_pure ?_
  have:=hQ s.heap hit (Heap.SameBut.refl ..)
  simpa using this
 |n+1,i,s,Q,hit,ht,hle,hQ=>by
  have hlt:i<items.size:=by omega
  show wpAny _ _ (pyNext (.ref it) >>= _) Q E s
  refine wpAny_bind (wpAny_pyNext_list_item hit ht (x:=items[i]) (by simp [hlt]) fun h₁ hit₁ hs₁=>?_)
  have ht1:(Shared.heap {s with heap:=h₁}).IsList t items:=let⟨o,e,r⟩:=ht;⟨o,hs₁.extBut _ _ hne e,r⟩
  refine wpAny_bind (wpAny_holding (cT hne n (i+1) _ _ hit₁ ht1 (by omega) fun h₂ hit₂ hs₂=>wpAny_pure ?_))
  have hd:items.toList.drop i=items[i]::items.toList.drop (i+1):=by simp [List.drop_eq_getElem_cons,hlt]
  have z:=hQ h₂ (by rw[show i+(n+1)=i+1+n by omega];exact hit₂) (hs₁.trans hs₂)
  rw[hd,List.take_succ_cons]at z
  exact z
theorem iO{t:Addr}{items:Array Value}{targets:List (Bool×(Value->Sem Unit))}{Q:Unit->Shared->Prop}(hh:A.handled=none)(ht:s.heap.IsList t items)
  (hn:targets.length=items.size)(hstar:targets.findIdx? (·.1)=none)
  (h:∀h',Heap.ExtBut s.heap.objs.size s.heap h'->wpAny (model prog w) A (assignInOrder (targets.map (·.2)) items.toList) Q E {s with heap:=h'}):
  wpAny (model prog w) A (unpack (.ref t) targets) Q E s:=by
 have hlt:t≠s.heap.objs.size:=by obtain⟨o,ho,_⟩:=ht;exact Nat.ne_of_lt (Heap.lt_size ho)
 unfold unpack
 rw[hn,hstar]
 refine wpAny_bind (wpAny_holding ?_)
 unfold unpackItems
 refine wpAny_bind ?_
 unfold notIterableAtAll
 refine wpAny_bind (wpAny_specialOf ht.typeIs F.slot_list_iter.lookup ?_)
 refine wpAny_pure ?_
 simp only[Bool.false_eq_true,if_false]
 refine wpAny_bind (wpAny_holding (wpAny_pyIter_list ht ?_))
 refine wpAny_bind (wpAny_holding (cT hlt items.size 0 _ _ ⟨_,Heap.get?_push_size _ rfl,rfl,rfl⟩ (ht.push _) (by omega) fun h₁ hit₁ hs₁=>?_))
 have hall:List.take items.size (List.drop 0 items.toList)=items.toList:=by
  rw[List.drop_zero]
  exact List.take_of_length_le (by simp)
 rw[hall]
 rw[if_neg (by simp)]
 have ht₁:h₁.IsList t items:=let⟨o,e,r⟩:=ht.push _;⟨o,hs₁.extBut _ _ hlt e,r⟩
 refine wpAny_bind (wpAny_holding (wpAny_pyNext_list_end hh hit₁ ht₁ (by simp) fun h₂ he₂=>?_))
 simp only[Option.isSome_none,Bool.false_eq_true,if_false]
 exact wpAny_pure (h h₂ fun b o hb e=>he₂ b o hb (hs₁.extBut b o hb (Heap.get?_push_of_some _ e)))
end
section
variable{X:Cx}{pos:Pos}
def ky(K:Frag)(n:Nat)(t:ZG):TG:=fun v σ H Q=>∃a xs,v= .ref a/\Sq K H a xs/\xs.length=n/\t xs σ H Q
theorem nH{es:List Expr}{k:Nat}{t:ZG}{n:Nat}(hc:X.calm=true)(h:j3 X es t)
  (hn:(assignEach es X.env).length=n:=by rfl)(hst:(assignEach es X.env).findIdx? (·.1)=none:=by rfl):PG X (.Tuple es k pos) (ky X.K n t):=by
 intro pins s σ H v u Q I r hw
 obtain⟨a,xs,e1,hq,hl,hw⟩:=hw
 rcases hq with hq|hq
 ·subst e1
  cases r
  obtain⟨its,rv,ht,hz⟩:=I.list hq
  rw[assign_Tuple]
  refine wpAny_bind (wpAny_standAt (iO (I.ok.hd hc) ht.isList (by simp [hn,<- hl,rv.length]) hst fun h' hx=>?_))
  have I1:L2.Inv X pins σ H {s with heap:=h'}:=I.kept (t':=s.toks) fun b o e=>hx b o (Nat.ne_of_lt (Heap.lt_size e)) e
  exact h pins _ σ H xs _ Q I1 (by simpa using rv) hw
 ·exact iS hc h hn hst pins s σ H v u Q I r ⟨a,xs,e1,hq,hl,hw⟩
theorem zI{es:List Expr}{k:Nat}{t:ZG}{n:Nat}(hc:X.calm=true)(h:QGs X es t)
  (hn:(assignEach es X.env).length=n:=by rfl)(hst:(assignEach es X.env).findIdx? (·.1)=none:=by rfl):QG X (.Tuple es k pos) (ky X.K n t):=⟨nH hc h.h hn hst⟩
end
end L3
namespace L3
open PySem PySem.Spec PyProof.Rows L2
open Sem (wp)
namespace RV
end RV
section
variable{prog:Program}{w:World}{A:Around}{E:Value->Shared->Prop}{s:Shared}
end
section
variable{X:Cx}
end
end L3
namespace L3
open PySem PySem.Spec PyProof.Rows L2
def Zo(c d:Int):List Int:=[c%16,c/16%16,c/256,d]
def Zl(c d:Int):List Int:=Zo c d++[(Zo c d).sum%16]
def eV(t ks:List Int)(z:Str):List Int:=zU t ks (ZR (Qp z.cps.toList))
def Zk(t ks:List Int)(z:Str)(c d:Int):List Int:=zU t (eV t ks z) (Zl c d)
def gu(r:List Int):Option (Int×Int):=if r.getD 4 0=(r.getD 0 0+r.getD 1 0+r.getD 2 0+r.getD 3 0)%16 then some (r.getD 0 0+r.getD 1 0*16+r.getD 2 0*256,r.getD 3 0)else none
def QN(t ks:List Int)(z:Str)(ds:List Int):Option (Int×Int):=gu (QD (q9 t) (eV t ks z) ds)
theorem ac(c d:Int):(Zl c d).length=5:=rfl
theorem pv(c d:Int):(Zo c d).sum=c%16+c/16%16+c/256+d:=by simp [Zo];omega
theorem cj{c d:Int}(h0:0<=c)(h1:c<4096)(hd:aR d):q0 (Zl c d):=fun x hx=>by
 simp only[Zl,Zo,List.cons_append,List.nil_append,List.mem_cons,List.not_mem_nil,or_false]at hx
 rcases hx with rfl|rfl|rfl|rfl|rfl
 ·exact Zq _
 ·exact Zq _
 ·exact⟨by omega,by omega⟩
 ·exact hd
 ·exact Zq _
theorem nw{c d:Int}(h0:0<=c)(h1:c<4096):gu (Zl c d)=some (c,d):=by
 have e:(Zl c d)=[c%16,c/16%16,c/256,d,(c%16+c/16%16+c/256+d)%16]:=by unfold Zl;rw[pv];rfl
 unfold gu
 rw[e]
 show(if(c%16+c/16%16+c/256+d)%16=(c%16+c/16%16+c/256+d)%16 then some (c%16+c/16%16*16+c/256*256,d)else none)=_
 rw[if_pos rfl,show c%16+c/16%16*16+c/256*256=c by omega]
theorem sy{r:List Int}(hl:r.length=5):∃a b c d e:Int,r=[a,b,c,d,e]:=by
 match r,hl with
 | [a,b,c,d,e],_=>exact⟨a,b,c,d,e,rfl⟩
theorem aN(t ks:List Int)(z:Str)(c d:Int):(Zk t ks z c d).length=5:=by unfold Zk;rw[ar,ac]
theorem cI{t ks:List Int}(p:t.Perm digs){z:Str}{c d:Int}(h0:0<=c)(h1:c<4096)(hd:aR d):q0 (Zk t ks z c d):=hW p (cj h0 h1 hd)
theorem bg{t ks:List Int}(p:t.Perm digs){z:Str}{c d:Int}(h0:0<=c)(h1:c<4096)(hd:aR d):QN t ks z (Zk t ks z c d)=some (c,d):=by
 unfold QN Zk
 rw[iU p (cj h0 h1 hd) (by rw[ac];decide),nw h0 h1]
def bf(H:Hp)(x:V):Option (Int×Int)->Prop
 |none=>x= .non
 |some (c,d)=>∃p,x= .ref p/\H p=some (.tup [.int c,.int d])
def vC:Sp:=fun vs H Q _=>∃c:Int,vs=[.int c]/\∀p H',Same H H'->H' p=some (.tup [.int (c%16),.int (c/16%16),.int (c/256)])->Q (.ref p) H'
def jV(K:Frag):Sp:=fun vs H Q _=>∃(a b:Addr) (z:Str) (age c d:Int) (t ks:List Int),vs=[.ref a,.ref b,.str z,.int age,.int c,.int d]/\Sq K H a (t.map V.int)/\Sq K H b (ks.map V.int)/\Q0 z/\t.length=16/\0<=c/\c<4096/\aR d/\
 ∀p pc H',Same H H'->H' p=some (.tup [.str z,.int age,.ref pc])->H' pc=some (.tup ((Zk t ks z c d).map V.int))->Q (.ref p) H'
def iR(K:Frag):Sp:=fun vs H Q _=>∃(a b pr pc:Addr) (z:Str) (age:Int) (t ks ds:List Int),vs=[.ref a,.ref b,.ref pr]/\Sq K H a (t.map V.int)/\Sq K H b (ks.map V.int)/\Sq K H pr [.str z,.int age,.ref pc]/\Sq K H pc (ds.map V.int)/\Q0 z/\t.Perm digs/\ds.length=5/\q0 ds/\
 ∀x H',Same H H'->bf H' x (QN t ks z ds)->Q x H'
theorem ni{X:Cx}{pos:Pos}{i j:Nat}{x y:Str}{a b:Expr}{ta:TA}{px py pt:Pos}{kt k2 pt2}(hc:X.calm=true)(hN:X.N.Nodup)(hi:X.N[i]? =some x)(hj:X.N[j]? =some y)(hij:i≠j)
  (hx:X.env.scope.names.lookup x=some .local)(hy:X.env.scope.names.lookup y=some .local)(ha:QA X [a,b] ta)
  (hw:swappedStores [.Tuple [.Name x px,.Name y py] kt pt] (.Tuple [a,b] k2 pt2) X.env=pure (some [x,y]):=by rfl)
  (hs:swapsWithSole [.Tuple [.Name x px,.Name y py] kt pt] (.Tuple [a,b] k2 pt2) pos.line X.env=pure false:=by rfl):
  QS X (.Assign [.Tuple [.Name x px,.Name y py] kt pt] (.Tuple [a,b] k2 pt2) pos) (uK i j ta):=⟨vD hc hN hi hj hij hx hy ha.h hw hs⟩
end L3
namespace L2
open PySem PySem.Spec PyProof.Rows
section
variable{κ:Type} [DecidableEq κ]
def zN(kvs:List (κ×V))(k:κ):Option V:=(kvs.find? fun kv=>decide (kv.1=k)).map (·.2)
def putK(kvs:List (κ×V))(k:κ)(v:V):List (κ×V):=
 if(kvs.any fun kv=>decide (kv.1=k))=true then kvs.map (fun kv=>if kv.1=k then(kv.1,v)else kv)else kvs++[(k,v)]
def ZP(kvs:List (κ×V))(k:κ):List (κ×V):=kvs.filter fun kv=>decide (kv.1≠k)
theorem ZD{p:κ×V}{r:List (κ×V)}{k:κ}(e:p.1=k):zN (p::r) k=some p.2:=by simp [zN,List.find?_cons,e]
theorem Zu{p:κ×V}{r:List (κ×V)}{k:κ}(e:¬p.1=k):zN (p::r) k=zN r k:=by simp [zN,List.find?_cons,e]
theorem iW(k:κ):∀kvs:List (κ×V),(kvs.any fun kv=>decide (kv.1=k))=(zN kvs k).isSome
 | []=>rfl
 |p::r=>by
  rw[List.any_cons]
  by_cases e:p.1=k
  ·simp only[ZD e,decide_eq_true e,Bool.true_or,Option.isSome_some]
  ·rw[Zu e,decide_eq_false e,Bool.false_or];exact iW k r
theorem Z2(kvs:List (κ×V))(k:κ)(v:V):(putK kvs k v).length<=kvs.length+1:=by
 unfold putK
 split
 ·rw[List.length_map];omega
 ·rw[List.length_append,List.length_cons,List.length_nil];omega
theorem RelO.isSome_eq{o:Option V}{u:Option Value}(r:RelO o u):o.isSome=u.isSome:=by
 cases o with
 |none=>cases u with
  |none=>rfl
  |some _=>exact(show False from r).elim
 |some _=>cases u with
  |none=>exact(show False from r).elim
  |some _=>rfl
theorem RelO.getD{o:Option V}{u:Option Value}{d:V}{d':Value}(r:RelO o u)(rd:RelV d d'):RelV (o.getD d) (u.getD d'):=by
 cases o with
 |none=>cases u with
  |none=>exact rd
  |some _=>exact(show False from r).elim
 |some _=>cases u with
  |none=>exact(show False from r).elim
  |some _=>exact r
theorem KV.val{kvs:List (κ×V)}{vs:List (κ×Value)}(r:KV kvs vs)(k:κ):RelO (zN kvs k) (valueAt vs k):=by
 unfold KV at r
 induction r with
 |nil=>exact True.intro
 | @cons p q ps qs h t ih=>
  obtain⟨h1,h2⟩:=h
  by_cases e:p.1=k
  ·have e':q.1=k:=h1.symm.trans e
   have b:valueAt (q::qs) k=some q.2:=by simp [valueAt,List.find?_cons,e']
   rw[ZD e,b];exact h2
  ·have e':¬q.1=k:=fun z=>e (h1.trans z)
   have b:valueAt (q::qs) k=valueAt qs k:=by simp [valueAt,List.find?_cons,e']
   rw[Zu e,b];exact ih
theorem KV.any{kvs:List (κ×V)}{vs:List (κ×Value)}(r:KV kvs vs)(k:κ):(kvs.any fun kv=>decide (kv.1=k))=vs.any fun kv=>decide (kv.1=k):=by
 unfold KV at r
 induction r with
 |nil=>rfl
 |cons h t ih=>rw[List.any_cons,List.any_cons,ih,h.1]
theorem KV.repl{kvs:List (κ×V)}{vs:List (κ×Value)}(r:KV kvs vs)(k:κ){y:V}{u:Value}(ry:RelV y u):
  KV (kvs.map fun kv=>if kv.1=k then(kv.1,y)else kv) (vs.map fun kv=>if kv.1=k then(kv.1,u)else kv):=by
 unfold KV at r⊢
 induction r with
 |nil=>exact .nil
 | @cons p q ps qs h t ih=>
  rw[List.map_cons,List.map_cons]
  refine .cons ?_ ih
  obtain⟨h1,h2⟩:=h
  by_cases e:p.1=k
  ·rw[if_pos e,if_pos (h1.symm.trans e)];exact⟨h1,ry⟩
  ·rw[if_neg e,if_neg (fun z=>e (h1.trans z))];exact⟨h1,h2⟩
theorem KV.put{kvs:List (κ×V)}{vs:List (κ×Value)}(r:KV kvs vs)(k:κ){y:V}{u:Value}(ry:RelV y u):KV (putK kvs k y) (stored vs k u):=by
 unfold putK stored
 rw[r.any k]
 by_cases e:(vs.any fun kv=>decide (kv.1=k))=true
 ·rw[if_pos e,if_pos e];exact r.repl k ry
 ·rw[if_neg e,if_neg e];exact Paired.snoc r ⟨rfl,ry⟩
theorem KV.drop{kvs:List (κ×V)}{vs:List (κ×Value)}(r:KV kvs vs)(k:κ):KV (ZP kvs k) (without vs k):=by
 unfold KV at r⊢
 unfold ZP without
 induction r with
 |nil=>exact .nil
 | @cons p q ps qs h t ih=>
  obtain⟨h1,h2⟩:=h
  rw[List.filter_cons,List.filter_cons]
  by_cases e:p.1=k
  ·have a:¬decide (p.1≠k)=true:=by simp [e]
   have b:¬decide (q.1≠k)=true:=by simp [h1.symm.trans e]
   rw[if_neg a,if_neg b];exact ih
  ·have e':¬q.1=k:=fun z=>e (h1.trans z)
   have a:decide (p.1≠k)=true:=by simp [e]
   have b:decide (q.1≠k)=true:=by simp [e']
   rw[if_pos a,if_pos b];exact .cons ⟨h1,h2⟩ ih
theorem KV.keys{kvs:List (κ×V)}{vs:List (κ×Value)}(r:KV kvs vs):kvs.map (·.1)=vs.map (·.1):=by
 unfold KV at r
 induction r with
 |nil=>rfl
 |cons h t ih=>rw[List.map_cons,List.map_cons,ih,h.1]
theorem KV.length{kvs:List (κ×V)}{vs:List (κ×Value)}(r:KV kvs vs):kvs.length=vs.length:=Paired.length r
theorem nY(kvs:List (κ×V))(k:κ):(ZP kvs k).length<=kvs.length:=List.length_filter_le _ _
end
theorem Zj{P:Program}{w:World}{k:qG}{u:Value}(r:RelV (kV k) u):(qM P w).is k u=true:=by
 cases k with
 |inl i=>obtain⟨t,e⟩:=(show∃t,u=Value.int i t from r);subst e;exact je P w i t
 |inr x=>obtain⟨t,e⟩:=(show∃t,u=Value.str x t from r);subst e;exact i9 P w x t
theorem fq{P:Program}{w:World}:∀{ks:List qG} {us:List Value},Vals (ks.map kV) us->ItemsAre (qM P w) ks us
 | [],_,r=>by rw[List.map_nil]at r;cases r;exact .nil
 |k::ks,_,r=>by
  rw[List.map_cons]at r
  cases r with
  |cons h t=>exact .cons (Zj h) (fq t)
abbrev KT(H:Hp):List (List qG×V)->List (List qG×Addr×Value)->Prop:=Paired fun p q=>p.1=q.1/\H q.2.1=some (.tup (p.1.map kV))/\RelV p.2 q.2.2
theorem KT.val{H:Hp}{kvs:List (List qG×V)}{xs:List (List qG×Addr×Value)}(r:KT H kvs xs)(k:List qG):RelO (zN kvs k) ((atKey xs k).map (·.2)):=by
 induction r with
 |nil=>exact True.intro
 | @cons p q ps qs h t ih=>
  obtain⟨h1,_,h2⟩:=h
  by_cases e:p.1=k
  ·have e':q.1=k:=h1.symm.trans e
   have b:atKey (q::qs) k=some q.2:=by simp [atKey,List.find?_cons,e']
   rw[ZD e,b];exact h2
  ·have e':¬q.1=k:=fun z=>e (h1.trans z)
   have b:atKey (q::qs) k=atKey qs k:=by simp [atKey,List.find?_cons,e']
   rw[Zu e,b];exact ih
theorem KT.repl{H:Hp}{kvs:List (List qG×V)}{xs:List (List qG×Addr×Value)}(r:KT H kvs xs)(k:List qG){y:V}{u:Value}(ry:RelV y u):
  KT H (kvs.map fun kv=>if kv.1=k then(kv.1,y)else kv) (xs.map (putAt k u)):=by
 induction r with
 |nil=>exact .nil
 | @cons p q ps qs h t ih=>
  rw[List.map_cons,List.map_cons]
  refine .cons ?_ ih
  obtain⟨h1,h2,h3⟩:=h
  unfold putAt
  by_cases e:p.1=k
  ·rw[if_pos e,if_pos (h1.symm.trans e)];exact⟨h1,h2,ry⟩
  ·rw[if_neg e,if_neg (fun z=>e (h1.trans z))];exact⟨h1,h2,h3⟩
theorem KT.put{H:Hp}{kvs:List (List qG×V)}{xs:List (List qG×Addr×Value)}(r:KT H kvs xs)(k:List qG){b:Addr}{y:V}{u:Value}(hb:H b=some (.tup (k.map kV)))(ry:RelV y u):
  KT H (putK kvs k y) (storedH xs k b u):=by
 have e:(kvs.any fun kv=>decide (kv.1=k))=(atKey xs k).isSome:=by
  rw[iW,(r.val k).isSome_eq,Option.isSome_map]
 unfold putK storedH
 rw[e]
 by_cases q:(atKey xs k).isSome=true
 ·rw[if_pos q,if_pos q];exact r.repl k ry
 ·rw[if_neg q,if_neg q];exact Paired.snoc r ⟨rfl,hb,ry⟩
theorem KT.keeps{H H':Hp}{kvs:List (List qG×V)}{xs:List (List qG×Addr×Value)}(r:KT H kvs xs)(ht:∀b ys,H b=some (.tup ys)->H' b=some (.tup ys)):KT H' kvs xs:=
 Paired.mapP r fun _ _ z=>⟨z.1,ht _ _ z.2.1,z.2.2⟩
section
variable{P:Program}{w:World}{H:Hp}{h:Heap}{a:Addr}
theorem rG{u:HO}(ok:HOk P w H h)(e:Rd H a u):ObjOk P w H h a u:=e.ok ok
theorem Q7{kvs:List (qG×V)}(ok:HOk P w H h)(e:Rd H a (.dK kvs)):kvs.length<=sizeLine/\(a==sysModules)=false/\∃vs,KV kvs vs/\h.DictOf (qM P w) a vs:=
 show ObjOk P w H h a (.dK kvs)from rG ok e
theorem gr{kvs:List (qG×V)}(ok:HOk P w H h)(e:H a=some (.dK kvs)):kvs.length<=sizeLine/\(a==sysModules)=false/\∃vs,KV kvs vs/\h.DictOf (qM P w) a vs:=Q7 ok (.inl e)
theorem ZE{ks:List qG}(ok:HOk P w H h)(e:H a=some (.tup (ks.map kV))):(tupleKind (qM P w)).is h ks a:=by
 obtain⟨_,its,r,o,h1,h2,n,h3⟩:=(show ObjOk P w H h a (.tup (ks.map kV))from ok a _ e)
 exact⟨o,its.toArray,n,h1,h2,h3,by simpa using fq r⟩
theorem ZK{kvs:List (List qG×V)}(ok:HOk P w H h)(e:Rd H a (.dT kvs)):kvs.length<=sizeLine/\(a==sysModules)=false/\
  ∃xs,KT H kvs xs/\h.DictOfH (tupleKind (qM P w)) a xs:=by
 obtain⟨z,y,xs,r,o,es,ep,h1,h2,h3,h4,h5⟩:=(show ObjOk P w H h a (.dT kvs)from rG ok e)
 refine⟨z,y,xs,r,o,es,ep,h1,h2,h3,h4,fun x hx=>?_,h5⟩
 have all:∀{l:List (List qG×V)} {m:List (List qG×Addr×Value)},KT H l m->∀x∈m,(tupleKind (qM P w)).is h x.1 x.2.1:=by
  intro l m q
  induction q with
  |nil=>intro x hx;exact nomatch hx
  | @cons p q ps qs hq t ih=>
   intro x hx
   rcases List.mem_cons.mp hx with e|hx
   ·subst e
    exact ZE ok (by rw[<- hq.1];exact hq.2.1)
   ·exact ih x hx
 exact all r x hx
theorem vU{kvs:List (List qG×V)}(ok:HOk P w H h)(e:H a=some (.dT kvs)):kvs.length<=sizeLine/\(a==sysModules)=false/\
  ∃xs,KT H kvs xs/\h.DictOfH (tupleKind (qM P w)) a xs:=ZK ok (.inl e)
end
def DGet(H:Hp)(a:Addr)(y:V)(r:Option V):Prop:=
 (∃kvs k,Rd H a (.dK kvs)/\y=kV k/\r=zN kvs k)\/∃kvs k b,Rd H a (.dT kvs)/\y= .ref b/\H b=some (.tup (k.map kV))/\r=zN kvs k
def DPut(H:Hp)(a:Addr)(y v:V)(H':Hp):Prop:=
 (∃kvs k,H a=some (.dK kvs)/\y=kV k/\kvs.length<sizeLine/\H'=upd H a (.dK (putK kvs k v)))\/
 ∃kvs k b,H a=some (.dT kvs)/\y= .ref b/\H b=some (.tup (k.map kV))/\kvs.length<sizeLine/\H'=upd H a (.dT (putK kvs k v))
theorem DGet.k{H:Hp}{a:Addr}{kvs:List (qG×V)}{k:qG}(e:H a=some (.dK kvs)):DGet H a (kV k) (zN kvs k):= .inl ⟨kvs,k,.inl e,rfl,rfl⟩
theorem DPut.k{H:Hp}{a:Addr}{kvs:List (qG×V)}{k:qG}{v:V}(e:H a=some (.dK kvs))(hl:kvs.length<sizeLine):DPut H a (kV k) v (upd H a (.dK (putK kvs k v))):= .inl ⟨kvs,k,e,rfl,hl,rfl⟩
section
variable{X:Cx}{pins:List (Addr×Obj)}{σ:St}{H:Hp}{s:Shared}{a:Addr}{y v:V}{u r:Value}{o:Option V}{A:Around}{E:Value->Shared->Prop}
theorem Inv.big(I:Inv X pins σ H s):sysModules<s.heap.objs.size:=by
 have h:mainGlobals<s.heap.objs.size:=(I.mod.glob.keeps I.bk).lt
 exact Nat.lt_trans (by decide) h
theorem mZ{Q:Value->Shared->Prop}(hu:A.units+1<cLine)(I:Inv X pins σ H s)(g:DGet H a y (some v))(ry:RelV y u)(h:∀w' s',Inv X pins σ H s'->RelV v w'->Q w' s'):
  wpAny (model X.prog X.w) A (getItem (.ref a) u) Q E s:=by
 rcases g with⟨kvs,k,e,ey,l⟩|⟨kvs,k,b,e,ey,eb,l⟩
 ·subst ey
  obtain⟨z,hd,vs,rel,dd⟩:=Q7 I.hok e
  obtain⟨w',hw,rw'⟩:=RelO.some_of (v:=v) (o:=valueAt vs k) (by rw[l];exact rel.val k)
  exact wpAny_getItem_of (Zj ry) dd.mapOf hw (h w' _ (I.tok _) rw')
 ·subst ey
  cases(show u=Value.ref b from ry)
  obtain⟨z,hd,xs,rel,dd⟩:=ZK I.hok e
  obtain⟨w',hw,rw'⟩:=RelO.some_of (v:=v) (o:=(atKey xs k).map (·.2)) (by rw[l];exact rel.val k)
  obtain⟨p,hp,hp2⟩:=Option.map_eq_some_iff.mp hw
  refine wpAny_getItem_heap (tupleKind_room_in1 hu) (ZE I.hok eb) dd hp ?_
  rw[hp2]
  exact h w' _ (I.tok _) rw'
theorem wB{Q:Value->Shared->Prop}(hu:A.units+1<cLine)(I:Inv X pins σ H s)(g:DGet H a y o)(ry:RelV y u)(h:∀s',Inv X pins σ H s'->Q (.bool o.isSome) s'):
  wpAny (model X.prog X.w) A (compareOp .In u (.ref a)) Q E s:=by
 rcases g with⟨kvs,k,e,ey,l⟩|⟨kvs,k,b,e,ey,eb,l⟩
 ·subst ey
  obtain⟨z,hd,vs,rel,dd⟩:=Q7 I.hok e
  refine wpAny_in_of (Zj ry) hd dd.mapOf ?_
  rw[<- (rel.val k).isSome_eq,<- l]
  exact h _ (I.tok _)
 ·subst ey
  cases(show u=Value.ref b from ry)
  obtain⟨z,hd,xs,rel,dd⟩:=ZK I.hok e
  refine wpAny_in_heap (tupleKind_room_in1 hu) (ZE I.hok eb) hd dd ?_
  have q:=(rel.val k).isSome_eq
  rw[Option.isSome_map]at q
  rw[<- q,<- l]
  exact h _ (I.tok _)
theorem sG{Q:Value->Shared->Prop}(hu:A.units+1<cLine)(I:Inv X pins σ H s)(g:DGet H a y o)(ry:RelV y u)(h:∀s',Inv X pins σ H s'->Q (.bool (!o.isSome)) s'):
  wpAny (model X.prog X.w) A (compareOp .NotIn u (.ref a)) Q E s:=by
 rcases g with⟨kvs,k,e,ey,l⟩|⟨kvs,k,b,e,ey,eb,l⟩
 ·subst ey
  obtain⟨z,hd,vs,rel,dd⟩:=Q7 I.hok e
  refine wpAny_notIn_of (Zj ry) hd dd.mapOf ?_
  rw[<- (rel.val k).isSome_eq,<- l]
  exact h _ (I.tok _)
 ·subst ey
  cases(show u=Value.ref b from ry)
  obtain⟨z,hd,xs,rel,dd⟩:=ZK I.hok e
  refine wpAny_notIn_heap (tupleKind_room_in1 hu) (ZE I.hok eb) hd dd ?_
  have q:=(rel.val k).isSome_eq
  rw[Option.isSome_map]at q
  rw[<- q,<- l]
  exact h _ (I.tok _)
theorem bL{h':Heap}{t':Nat}{ob:HO}(I:Inv X pins σ H s)(mu:mS (H a))(hs:Heap.SameBut a s.heap h')(he:∃q,h'.get? a=some q)(new:ObjOk X.prog X.w (upd H a ob) h' a ob):
  Inv X pins σ (upd H a ob) {s with heap:=h',toks:=t'}:=
 I.write (x:=a) (e:=a) mu (.inl rfl) (fun b q hb z=>(hs.2 b hb).trans z) he new
theorem cQ{P:Program}{w:World}{H':Hp}{h':Heap}{kvs:List (qG×V)}{vs:List (qG×Value)}(z:kvs.length<=sizeLine)(hd:(a==sysModules)=false)(rel:KV kvs vs)(dd:h'.DictOf (qM P w) a vs):
  ObjOk P w H' h' a (.dK kvs):=⟨z,hd,vs,rel,dd⟩
theorem mV{H':Hp}{Q:Unit->Shared->Prop}(hu:A.units+1<cLine)(I:Inv X pins σ H s)(g:DPut H a y v H')(ry:RelV y u)(rv:RelV v r)(h:∀s',Inv X pins σ H' s'->Q () s'):
  wpAny (model X.prog X.w) A (setItem (.ref a) u r) Q E s:=by
 rcases g with⟨kvs,k,e,ey,l,eH⟩|⟨kvs,k,b,e,ey,eb,l,eH⟩
 ·subst ey eH
  obtain⟨z,hd,vs,rel,dd⟩:=gr I.hok e
  have hz:vs.length<=sizeLine:=by rw[<- rel.length];exact z
  have hl:(putK kvs k v).length<=sizeLine:=by have:=Z2 kvs k v;omega
  refine wpAny_setItem_pairs (hsz:=hz) (Zj ry) dd fun h' dd' hs=>h _ ?_
  have he:∃q,h'.get? a=some q:=let⟨q,_,_,hq,_⟩:=dd';⟨q,hq⟩
  exact bL I (by rw[e];exact True.intro) hs he (cQ hl hd (rel.put k rv) dd')
 ·subst ey eH
  cases(show u=Value.ref b from ry)
  obtain⟨z,hd,xs,rel,dd⟩:=vU I.hok e
  have hz:xs.length<=sizeLine:=by rw[<- Paired.length rel];exact z
  have hl:(putK kvs k v).length<=sizeLine:=by have:=Z2 kvs k v;omega
  refine wpAny_setItem_heap (hsz:=hz) (tupleKind_room_in1 hu) (ZE I.hok eb) dd fun h' dd' hs=>h _ ?_
  obtain⟨q,es,ep,hq,h2,h3,h4,_,h5⟩:=dd'
  refine bL I (by rw[e];exact True.intro) hs ⟨q,hq⟩ ⟨hl,hd,_,(rel.put k eb rv).keeps fun c ys ec=>?_,q,es,ep,hq,h2,h3,h4,h5⟩
  rw[qi (qO ec e (fun z=>nomatch z))]
  exact ec
end
section
variable{X:Cx}{pins:List (Addr×Obj)}{σ:St}{H:Hp}{s:Shared}{a:Addr}{kvs:List (qG×V)}{k:qG}{u:Value}{A:Around}{E:Value->Shared->Prop}
theorem v7{v:V}{more:List Value}{Q:Value->Shared->Prop}(I:Inv X pins σ H s)(e:H a=some (.dK kvs))(ry:RelV (kV k) u)(l:zN kvs k=some v)(hm:more=[]\/∃x,more=[x])
  (h:∀w' s',Inv X pins σ (upd H a (.dK (ZP kvs k))) s'->RelV v w'->Q w' s'):wpAny (model X.prog X.w) A (call (.builtin "dict.pop") (.ref a::u::more)) Q E s:=by
 obtain⟨z,hd,vs,rel,dd⟩:=gr I.hok e
 obtain⟨w',hw,rw'⟩:=RelO.some_of (v:=v) (o:=valueAt vs k) (by rw[<- l];exact rel.val k)
 have hp:(keyPart u).isSome=true:=by
  cases k with
  |inl i=>obtain⟨t,q⟩:=(show∃t,u=Value.int i t from ry);subst q;rfl
  |inr x=>obtain⟨t,q⟩:=(show∃t,u=Value.str x t from ry);subst q;rfl
 have ha:argsOk "dict.pop" ⟨.ref a::u::more,[]⟩:=by
  rcases hm with q|⟨x,q⟩
  ·subst q;exact PySem.F.args_dict_pop_2 _ _
  ·subst q;exact PySem.F.args_dict_pop_3 _ _ _
 refine call_meetsIn PySem.F.slot_dict_pop dd.typeIs PySem.F.entry_dict_pop ha (meets_dict_pop_there (qM X.prog X.w) a (Zj ry) more hm hp)
  ⟨vs,w',dd,by rw[<- rel.length];exact z,hw,fun h' dd' hs=>h w' _ ?_ rw'⟩
 have he:∃q,h'.get? a=some q:=let⟨q,_,_,hq,_⟩:=dd';⟨q,hq⟩
 exact bL I (by rw[e];exact True.intro) hs he (cQ (Nat.le_trans (nY kvs k) z) hd (rel.drop k) dd')
theorem vN{Q:Value->Shared->Prop}(I:Inv X pins σ H s)(e:Rd H a (.dK kvs))(h:∀t s',Inv X pins σ H s'->Q (.int kvs.length t) s'):wpAny (model X.prog X.w) A (call (.builtin "len") [.ref a]) Q E s:=by
 obtain⟨z,hd,vs,rel,dd⟩:=Q7 I.hok e
 refine call_len_dict hd dd (by rw[<- rel.length];rw[sizeLine_eq]at z;omega) ?_
 rw[<- rel.length]
 exact h _ _ (I.tok _)
end
def oN(i:Expr):Prop:=∀ov iv,subscripted i false ov iv=operate [ov,iv] (getItem ov iv)
theorem rY{prog:Program}{w:World}{A:Around}{E:Value->Shared->Prop}{s:Shared}{env:Env}{value slice:Expr}{pos:Pos}{T id:String}{Q:Value->Shared->Prop}
  (hl:typeLookup (.type T) "__getitem__"=pure (some (.builtin id)))(hs:oN slice)
  (h:wpAny (model prog w) A (eval value env) (fun o s₁=>wpAny (model prog w) A (eval slice env) (fun i s₂=>s₂.TypeIs o T/\wpAny (model prog w) A (getItem o i) Q E s₂) E s₁) E s):
  wpAny (model prog w) A (eval (.Subscript value slice pos) env) Q E s:=by
 refine Subscript_ (wpAny_mono h (fun o s₁ h₁=>wpAny_mono h₁ (fun i s₂ h₂=>?_) fun _ _ x=>x) fun _ _ x=>x)
 obtain⟨hT,h₂⟩:=h₂
 unfold subscriptTail
 refine wpAny_bind ?_
 rw[getitemInPython_of_ne hT.not_modules]
 refine wpAny_bind (wpAny_specialOf hT hl ?_)
 have fin:wpAny (model prog w) A (subscripted slice false o i) (fun r s₃=>wpAny (model prog w) A (letTemporaryGo value o r >>= fun _=>pure r) Q E s₃) E s₂:=by
  rw[hs o i]
  exact wpAny_operating (wpAny_mono h₂ (fun r s₃ h₃=>wpAny_bind (wpAny_letTemporaryGo (wpAny_pure h₃))) fun _ _ x=>x)
 first
  |exact wpAny_pure (wpAny_bind fin)
  |exact wpAny_bind (wpAny_pure (wpAny_bind fin))
  |exact wpAny_bind fin
theorem jb{X:Cx}{pins:List (Addr×Obj)}{σ:St}{H:Hp}{s:Shared}{a:Addr}{y:V}{o:Option V}(I:Inv X pins σ H s)(g:DGet H a y o):s.TypeIs (.ref a) "dict":=by
 rcases g with⟨kvs,k,e,_,_⟩|⟨kvs,k,b,e,_,_,_⟩
 ·obtain⟨_,_,vs,_,dd⟩:=Q7 I.hok e
  exact dd.typeIs
 ·obtain⟨_,_,xs,_,dd⟩:=ZK I.hok e
  exact dd.typeIs
def rh(td ty:TE):TE:=fun σ H Q=>td σ H fun x H1=>ty σ H1 fun y H2=>∃a v,x= .ref a/\DGet H2 a y (some v)/\Q v H2
def vp(ty td:TE):TE:=fun σ H Q=>ty σ H fun y H1=>td σ H1 fun x H2=>∃a o,x= .ref a/\DGet H2 a y o/\Q (.bl o.isSome) H2
def jw(ty td:TE):TE:=fun σ H Q=>ty σ H fun y H1=>td σ H1 fun x H2=>∃a o,x= .ref a/\DGet H2 a y o/\Q (.bl (!o.isSome)) H2
def pU(td ty tv:TE):TS:=fun D σ H=>tv σ H fun v H1=>td σ H1 fun x H2=>ty σ H2 fun y H3=>∃a H4,x= .ref a/\DPut H3 a y v H4/\D.nx σ H4
section
variable{X:Cx}{o i e value:Expr}{pos pos' tpos:Pos}{td ty tv:TE}
theorem sD(hu:X.A.units+1<cLine)(ho:PE X o td)(hi:PE X i ty)(hs:oN i):PE X (.Subscript o i pos) (rh td ty):=by
 intro pins s σ H Q I h
 refine rY PySem.F.slot_dict_getitem.lookup hs (qt (ho pins s σ H _ I h) fun u s1 ⟨x,H1,I1,rx,q1⟩=>qt (hi pins s1 σ H1 _ I1 q1) fun iv s2 ⟨y,H2,I2,ry,a,v,ex,g,q2⟩=>?_)
 subst ex
 obtain rfl:u=Value.ref a:=rx
 exact⟨jb I2 g,mZ hu I2 g ry fun w' s3 I3 rw'=>⟨v,H2,I3,rw',q2⟩⟩
theorem uY(hu:X.A.units+1<cLine)(hi:PE X i ty)(ho:PE X o td):PC X .In i o (vp ty td):=by
 intro pins s σ H Q I h
 refine qt (hi pins s σ H _ I h) fun iv s1 ⟨y,H1,I1,ry,q1⟩=>qt (ho pins s1 σ H1 _ I1 q1) fun u s2 ⟨x,H2,I2,rx,a,ov,ex,g,q2⟩=>?_
 subst ex
 obtain rfl:u=Value.ref a:=rx
 exact wB hu I2 g ry fun s3 I3=>⟨.bl ov.isSome,H2,I3,rfl,q2⟩
theorem mL(hu:X.A.units+1<cLine)(hi:PE X i ty)(ho:PE X o td):PC X .NotIn i o (jw ty td):=by
 intro pins s σ H Q I h
 refine qt (hi pins s σ H _ I h) fun iv s1 ⟨y,H1,I1,ry,q1⟩=>qt (ho pins s1 σ H1 _ I1 q1) fun u s2 ⟨x,H2,I2,rx,a,ov,ex,g,q2⟩=>?_
 subst ex
 obtain rfl:u=Value.ref a:=rx
 exact sG hu I2 g ry fun s3 I3=>⟨.bl (!ov.isSome),H2,I3,rfl,q2⟩
theorem rS(hu:X.A.units+1<cLine)(ho:PE X o td)(hi:PE X i ty)(hv:PE X value tv)(hs:swapsWith value (some (.Subscript o i pos')) pos.line X.env=pure false):
  PS X (.Assign [.Subscript o i pos'] value pos) (pU td ty tv):=by
 intro pins s σ H D I h
 refine wpAny_Assign_Subscript (qt (hv pins s σ H _ I h) fun r s1 ⟨v,H1,I1,rv,q1⟩=>qt (ho pins s1 σ H1 _ I1 q1) fun u s2 ⟨x,H2,I2,rx,q2⟩=>qt (hi pins s2 σ H2 _ I2 q2) fun iv s3 ⟨y,H3,I3,ry,a,H4,ex,g,q3⟩=>?_) hs
 subst ex
 obtain rfl:u=Value.ref a:=rx
 exact mV hu I3 g ry rv fun s4 I4=>⟨σ,H4,I4,q3⟩
end
theorem iE{P:Program}{w:World}{H:Hp}(h:Heap)(hb:sysModules<h.objs.size):ObjOk P w H (h.push {cls:= .type "dict",data:= .dict #[]}) h.objs.size (.dK []):=
 ⟨Nat.zero_le _,beq_eq_false_iff_ne.mpr (Ne.symm (Nat.ne_of_lt hb)),[],.nil,Heap.DictOf.new h⟩
def nB:TE:=fun _ H Q=>∀p,H p=none->Q (.ref p) (upd H p (.dK []))
section
variable{X:Cx}{pos:Pos}
theorem nU:PE X (.Dict [] [] pos) nB:=fun pins s σ H Q I h=>
 wpAny_Dict_empty ⟨.ref s.heap.objs.size,_,I.laid (a:=s.heap.objs.size) (o:= .dK []) (t':=s.toks) (fun _ _ q=>Heap.get?_push_of_some _ q) (Nat.le_refl _) (iE s.heap I.big),rfl,h _ (I.hok.fresh (Nat.le_refl _))⟩
end
def g8:List (TE×TE)->St->Hp->(List (V×V)->Hp->Prop)->Prop
 | [],_,H,Q=>Q [] H
 |(tk,tv)::r,σ,H,Q=>tk σ H fun x H1=>tv σ H1 fun y H2=>g8 r σ H2 fun ps H3=>Q ((x,y)::ps) H3
abbrev VV:List (V×V)->List (Value×Value)->Prop:=Paired fun p q=>RelV p.1 q.1/\RelV p.2 q.2
def lQ(X:Cx)(pos:Pos)(keys:List (Option Expr))(values:List Expr)(trs:List (TE×TE)):Prop:=
 ∀(pins:List (Addr×Obj)) (s:Shared) (σ:St) (H:Hp) (Q:List (V×V)->Hp->Prop),Inv X pins σ H s->g8 trs σ H Q->
  wpAny (model X.prog X.w) X.A (evalPairs (pairTrees keys values X.env pos)) (fun vs s'=>∃ps H',Inv X pins σ H' s'/\VV ps vs/\Q ps H') X.xe s
theorem sF{X:Cx}{pos:Pos}:lQ X pos [] [] []:=fun pins s σ H Q I h=>pairTrees_nil_walk ⟨[],H,I,.nil,h⟩
theorem pJ{X:Cx}{pos:Pos}{k v:Expr}{ks:List (Option Expr)}{vs:List Expr}{tk tv:TE}{trs:List (TE×TE)}(hk:PE X k tk)(hv:PE X v tv)(hr:lQ X pos ks vs trs):
  lQ X pos (some k::ks) (v::vs) ((tk,tv)::trs):=fun pins s σ H Q I h=>
 pairTrees_cons_walk (qt (hk pins s σ H _ I h) fun u s1 ⟨x,H1,I1,rx,q1⟩=>qt (hv pins s1 σ H1 _ I1 q1) fun w2 s2 ⟨y,H2,I2,ry,q2⟩=>
  qt (hr pins s2 σ H2 _ I2 q2) fun ws s3 ⟨ps,H3,I3,rel,q3⟩=>⟨(x,y)::ps,H3,I3,.cons ⟨rx,ry⟩ rel,q3⟩)
def QQ(kvs more:List (qG×V)):List (qG×V):=more.foldl (fun acc kv=>putK acc kv.1 kv.2) kvs
theorem KV.merge:∀{more:List (qG×V)} {rs:List (qG×Value)} {kvs:List (qG×V)} {vs:List (qG×Value)},KV more rs->KV kvs vs->KV (QQ kvs more) (merged vs rs):=by
 intro more rs kvs vs r
 unfold KV at r
 induction r generalizing kvs vs with
 |nil=>intro q;exact q
 | @cons p q ps qs h t ih=>
  intro r0
  have e:KV (putK kvs p.1 p.2) (stored vs q.1 q.2):=by
   have:=r0.put p.1 h.2
   rw[<- h.1];exact this
  exact ih e
theorem aE:∀(more kvs:List (qG×V)),(QQ kvs more).length<=kvs.length+more.length
 | [],kvs=>by show kvs.length<=kvs.length+0;omega
 |p::r,kvs=>by
  have h1:=aE r (putK kvs p.1 p.2)
  have h2:=Z2 kvs p.1 p.2
  show(QQ (putK kvs p.1 p.2) r).length<=_
  rw[List.length_cons];omega
theorem cO{P:Program}{w:World}:∀{kvs:List (qG×V)} {ws:List (Value×Value)},VV (kvs.map fun kv=>(kV kv.1,kv.2)) ws->∃rs,Carries (qM P w) ws rs/\KV kvs rs
 | [],_,r=>by rw[List.map_nil]at r;cases r;exact⟨[],True.intro,.nil⟩
 |p::kvs,_,r=>by
  rw[List.map_cons]at r
  cases r with
  | @cons a b as bs h t=>
   obtain⟨rs,c,q⟩:=cO (P:=P) (w:=w) t
   obtain⟨b1,b2⟩:=b
   exact⟨(p.1,b2)::rs,⟨Zj h.1,rfl,c⟩,.cons ⟨rfl,h.2⟩ q⟩
def rE(trs:List (TE×TE)):TE:=fun σ H Q=>∀p,H p=none->g8 trs σ (upd H p (.dK [])) fun ps H2=>H2 p=some (.dK [])/\∃kvs:List (qG×V),ps=kvs.map (fun kv=>(kV kv.1,kv.2))/\kvs.length<=15/\Q (.ref p) (upd H2 p (.dK (QQ [] kvs)))
theorem sQ{X:Cx}{pos:Pos}{keys:List (Option Expr)}{values:List Expr}{trs:List (TE×TE)}(h:lQ X pos keys values trs)(hall:keys.all (·.isSome)=true)(hl:keys.length=values.length)(h0:keys≠[])
  (h15:keys.length<=15):PE X (.Dict keys values pos) (rE trs):=by
 intro pins s σ H Q I q
 have hn:=I.hok.fresh (Nat.le_refl s.heap.objs.size)
 have I1:=I.laid (a:=s.heap.objs.size) (o:= .dK []) (h':=s.heap.push {cls:= .type "dict",data:= .dict #[]}) (t':=s.toks) (fun _ _ q=>Heap.get?_push_of_some _ q) (Nat.le_refl _) (iE s.heap I.big)
 refine wpAny_Dict_walk (knd:=qM X.prog X.w) hall hl h0 h15 (qt (h pins _ σ _ _ I1 (q _ hn)) fun ws s2 ⟨ps,H2,I2,rel,e,kvs,ep,lk,q2⟩=>?_)
 subst ep
 obtain⟨rs,c,rk⟩:=cO (P:=X.prog) (w:=X.w) rel
 obtain⟨z,hd,vs0,r0,dd⟩:=gr I2.hok e
 cases r0
 refine⟨rs,c,dd,fun h' dd' hs=>⟨.ref s.heap.objs.size,_,?_,rfl,q2⟩⟩
 have hz:(QQ [] kvs).length<=sizeLine:=by
  have h1:=aE kvs []
  rw[List.length_nil]at h1
  rw[sizeLine_eq];omega
 have he:∃q,h'.get? s.heap.objs.size=some q:=let⟨q,_,_,hq,_⟩:=dd';⟨q,hq⟩
 exact bL I2 (by rw[e];exact True.intro) hs he (cQ hz hd (rk.merge .nil) dd')
structure M1(X:Cx)(o:Expr)(m:Str)(apos:Pos)(e:Expr)(cpos:Pos):Prop where
 base:attributeBase o m X.env (eval o X.env)=eval o X.env
 few:((backTo cpos (starEach [e] X.env)).all (fun x=> !x.1)&&(backToKw cpos (keywordEach [] X.env)).all (fun x=>x.1.isSome)
  &&decide (([e]:List Expr).length+([]:List Keyword).length+(if([]:List Keyword).isEmpty then 0 else 1)<30))=true
 line:(apos.endLine==cpos.line)=true
 trees:backTo cpos (starEach [e] X.env)=[(false,eval e X.env)]
structure M2(X:Cx)(o:Expr)(m:Str)(apos:Pos)(e f:Expr)(cpos:Pos):Prop where
 base:attributeBase o m X.env (eval o X.env)=eval o X.env
 few:((backTo cpos (starEach [e,f] X.env)).all (fun x=> !x.1)&&(backToKw cpos (keywordEach [] X.env)).all (fun x=>x.1.isSome)
  &&decide (([e,f]:List Expr).length+([]:List Keyword).length+(if([]:List Keyword).isEmpty then 0 else 1)<30))=true
 line:(apos.endLine==cpos.line)=true
 trees:backTo cpos (starEach [e,f] X.env)=[(false,eval e X.env),(false,eval f X.env)]
def pO(H:Hp)(a:Addr):Prop:=(∃kvs,Rd H a (.dK kvs))\/∃kvs,Rd H a (.dT kvs)
theorem iz{X:Cx}{pins:List (Addr×Obj)}{σ:St}{H:Hp}{s:Shared}{a:Addr}(I:Inv X pins σ H s)(d:pO H a):
  s.TypeIs (.ref a) "dict"/\(∀b,Value.ref a= .ref b->∃ob,s.heap.get? b=some ob/\ob.dict=none)/\(a==sysModules)=false:=by
 rcases d with⟨kvs,e⟩|⟨kvs,e⟩
 ·obtain⟨_,hd,vs,_,dd⟩:=Q7 I.hok e
  refine⟨dd.typeIs,fun b q=>?_,hd⟩
  cases q
  obtain⟨ob,_,_,h1,h2,_⟩:=dd
  exact⟨ob,h1,h2.2.1⟩
 ·obtain⟨_,hd,xs,_,dd⟩:=ZK I.hok e
  refine⟨dd.typeIs,fun b q=>?_,hd⟩
  cases q
  obtain⟨ob,_,_,h1,h2,_⟩:=dd
  exact⟨ob,h1,h2.2.1⟩
section
variable{X:Cx}{pins:List (Addr×Obj)}{σ:St}{H:Hp}{s:Shared}{a:Addr}{y d:V}{u r:Value}{o:Option V}{A:Around}{E:Value->Shared->Prop}
theorem tW{Q:Value->Shared->Prop}(hu:A.units+1<cLine)(I:Inv X pins σ H s)(g:DGet H a y o)(ry:RelV y u)(h:∀w' s',Inv X pins σ H s'->RelV (o.getD .non) w'->Q w' s'):
  wpAny (model X.prog X.w) A (call (.builtin "dict.get") [.ref a,u]) Q E s:=by
 rcases g with⟨kvs,k,e,ey,l⟩|⟨kvs,k,b,e,ey,eb,l⟩
 ·subst ey
  obtain⟨z,hd,vs,rel,dd⟩:=Q7 I.hok e
  refine call_meetsIn PySem.F.slot_dict_get dd.typeIs PySem.F.entry_dict_get (PySem.F.args_dict_get_2 _ _) (meets_dict_get (qM X.prog X.w) a (Zj ry) hd) ⟨_,dd.mapOf,h _ _ (I.tok _) ?_⟩
  rw[l]
  exact(rel.val k).getD rfl
 ·subst ey
  cases(show u=Value.ref b from ry)
  obtain⟨z,hd,xs,rel,dd⟩:=ZK I.hok e
  refine call_meetsIn PySem.F.slot_dict_get dd.typeIs PySem.F.entry_dict_get (PySem.F.args_dict_get_2 _ _) (meetsH_dict_get (tupleKind (qM X.prog X.w)) a b hd) ⟨tupleKind_room_in1 hu,k,xs,ZE I.hok eb,dd,h _ _ (I.tok _) ?_⟩
  rw[l]
  exact(rel.val k).getD rfl
theorem uq{Q:Value->Shared->Prop}(hu:A.units+1<cLine)(I:Inv X pins σ H s)(g:DGet H a y o)(ry:RelV y u)(rd:RelV d r)(h:∀w' s',Inv X pins σ H s'->RelV (o.getD d) w'->Q w' s'):
  wpAny (model X.prog X.w) A (call (.builtin "dict.get") [.ref a,u,r]) Q E s:=by
 rcases g with⟨kvs,k,e,ey,l⟩|⟨kvs,k,b,e,ey,eb,l⟩
 ·subst ey
  obtain⟨z,hd,vs,rel,dd⟩:=Q7 I.hok e
  refine call_meetsIn PySem.F.slot_dict_get dd.typeIs PySem.F.entry_dict_get (PySem.F.args_dict_get_3 _ _ _) (meets_dict_get_default (qM X.prog X.w) a (Zj ry) hd r) ⟨_,dd.mapOf,h _ _ (I.tok _) ?_⟩
  rw[l]
  exact(rel.val k).getD rd
 ·subst ey
  cases(show u=Value.ref b from ry)
  obtain⟨z,hd,xs,rel,dd⟩:=ZK I.hok e
  refine call_meetsIn PySem.F.slot_dict_get dd.typeIs PySem.F.entry_dict_get (PySem.F.args_dict_get_3 _ _ _) (meetsH_dict_get_default (tupleKind (qM X.prog X.w)) a b hd r) ⟨tupleKind_room_in1 hu,k,xs,ZE I.hok eb,dd,h _ _ (I.tok _) ?_⟩
  rw[l]
  exact(rel.val k).getD rd
end
def nh(td ty:TE):TE:=fun σ H Q=>td σ H fun x H1=>∃a,x= .ref a/\pO H1 a/\ty σ H1 fun y H2=>∃o,DGet H2 a y o/\Q (o.getD .non) H2
def mF(td ty tx:TE):TE:=fun σ H Q=>td σ H fun x H1=>∃a,x= .ref a/\pO H1 a/\ty σ H1 fun y H2=>tx σ H2 fun z H3=>∃o,DGet H3 a y o/\Q (o.getD z) H3
def mT(td ty:TE):TE:=fun σ H Q=>td σ H fun x H1=>∃a,x= .ref a/\pO H1 a/\ty σ H1 fun y H2=>∃kvs k v,H2 a=some (.dK kvs)/\y=kV k/\zN kvs k=some v/\Q v (upd H2 a (.dK (ZP kvs k)))
section
variable{X:Cx}{o e f:Expr}{apos cpos:Pos}{td ty tx:TE}
theorem pD(hu:X.A.units+1<cLine)(ho:PE X o td)(he:PE X e ty)(m:M1 X o "get" apos e cpos):PE X (.Call (.Attribute o "get" apos) [e] [] cpos) (nh td ty):=by
 intro pins s σ H Q I h
 refine wpAny_Call_method m.base m.few m.line PySem.F.plainAttrs_dict PySem.F.slot_dict_get PySem.F.type_dict_get (qt (ho pins s σ H _ I h) fun u s1 ⟨x,H1,I1,rx,a,ex,d,q1⟩=>?_)
 subst ex
 obtain rfl:u=Value.ref a:=rx
 obtain⟨t1,t2,_⟩:=iz I1 d
 refine⟨t1,t2,?_⟩
 rw[m.trees]
 refine Calls.callWith_builtin rfl (Calls.evalArgs_plain (Calls.spliced_cons (qt (he pins s1 σ H1 _ I1 q1) fun iv s2 ⟨y,H2,I2,ry,ov,g,q2⟩=>Calls.spliced_nil ?_)))
 exact tW hu I2 g ry fun w' s3 I3 rw'=>⟨_,H2,I3,rw',q2⟩
theorem oB(hu:X.A.units+1<cLine)(ho:PE X o td)(he:PE X e ty)(hf:PE X f tx)(m:M2 X o "get" apos e f cpos):PE X (.Call (.Attribute o "get" apos) [e,f] [] cpos) (mF td ty tx):=by
 intro pins s σ H Q I h
 refine wpAny_Call_method m.base m.few m.line PySem.F.plainAttrs_dict PySem.F.slot_dict_get PySem.F.type_dict_get (qt (ho pins s σ H _ I h) fun u s1 ⟨x,H1,I1,rx,a,ex,d,q1⟩=>?_)
 subst ex
 obtain rfl:u=Value.ref a:=rx
 obtain⟨t1,t2,_⟩:=iz I1 d
 refine⟨t1,t2,?_⟩
 rw[m.trees]
 refine Calls.callWith_builtin rfl (Calls.evalArgs_plain (Calls.spliced_cons (qt (he pins s1 σ H1 _ I1 q1) fun iv s2 ⟨y,H2,I2,ry,q2⟩=>
  Calls.spliced_cons (qt (hf pins s2 σ H2 _ I2 q2) fun fv s3 ⟨z,H3,I3,rz,ov,g,q3⟩=>Calls.spliced_nil ?_))))
 exact uq hu I3 g ry rz fun w' s4 I4 rw'=>⟨_,H3,I4,rw',q3⟩
end
section
variable{X:Cx}
theorem fT:qW X (.builtin "len") (fun xs H Q=>∃a kvs,xs=[V.ref a]/\H a=some (.dK kvs)/\Q (.int kvs.length) H):=by
 intro pins s σ H xs us Q I r h
 obtain⟨a,kvs,rfl,ha,q⟩:=h
 obtain⟨u,rfl,ru⟩:=zF r
 cases ru
 exact vN I (.inl ha) fun t s' I'=>⟨.int kvs.length,H,I',⟨t,rfl⟩,q⟩
end
section
variable{X:Cx}{pins:List (Addr×Obj)}{σ:St}{H:Hp}{s:Shared}{a:Addr}{kvs:List (qG×V)}{A:Around}{E:Value->Shared->Prop}
theorem oI{Q:Value->Shared->Prop}(I:Inv X pins σ H s)(e:Rd H a (.dK kvs))(h:∀p s',H p=none->Inv X pins σ (upd H p (.dK kvs)) s'->Q (.ref p) s'):wpAny (model X.prog X.w) A (call (.type "dict") [.ref a]) Q E s:=by
 obtain⟨z,hd,vs,rel,dd⟩:=Q7 I.hok e
 refine kt_call_dict hd dd (by rw[<- rel.length];exact z) fun h' dd' hs=>?_
 refine h _ _ (I.hok.fresh (Nat.le_refl _)) (I.laid (a:=s.heap.objs.size) (o:= .dK kvs) (t':=s.toks) (fun b q hq=>?_) (Nat.le_refl _) (cQ z (beq_eq_false_iff_ne.mpr (Ne.symm (Nat.ne_of_lt I.big))) rel dd'))
 exact(hs.2 b (Nat.ne_of_lt (Heap.lt_size hq))).trans (Heap.get?_push_of_some _ hq)
end
section
variable{X:Cx}{o e f:Expr}{apos cpos:Pos}{td ty tx:TE}
theorem pL(ho:PE X o td)(he:PE X e ty)(m:M1 X o "pop" apos e cpos):PE X (.Call (.Attribute o "pop" apos) [e] [] cpos) (mT td ty):=by
 intro pins s σ H Q I h
 refine wpAny_Call_method m.base m.few m.line PySem.F.plainAttrs_dict PySem.F.slot_dict_pop PySem.F.type_dict_pop (qt (ho pins s σ H _ I h) fun u s1 ⟨x,H1,I1,rx,a,ex,d,q1⟩=>?_)
 subst ex
 obtain rfl:u=Value.ref a:=rx
 obtain⟨t1,t2,_⟩:=iz I1 d
 refine⟨t1,t2,?_⟩
 rw[m.trees]
 refine Calls.callWith_builtin rfl (Calls.evalArgs_plain (Calls.spliced_cons (qt (he pins s1 σ H1 _ I1 q1) fun iv s2 ⟨y,H2,I2,ry,kvs,k,v,ea,ey,l,q2⟩=>Calls.spliced_nil ?_)))
 subst ey
 exact v7 I2 ea ry l (.inl rfl) fun w' s3 I3 rw'=>⟨v,_,I3,rw',q2⟩
end
end L2
namespace L3
open PySem PySem.Spec PyProof.Rows L2
def ZT(K:Frag)(H:Hp)(a:Addr)(f:Str)(v:V):Prop:=∃C dx fs,H a=some (.ins C dx fs)/\Cls K C/\NoAttr K C f/\fs.lookup f=some v
def cG(K:Frag)(H:Hp)(a:Addr)(f:Str)(v:V)(H':Hp):Prop:=∃C dx fs,H a=some (.ins C dx fs)/\Cls K C/\NoAttr K C f/\fs.length<1000/\H'=upd H a (.ins C dx (zA f v fs))
def wc(C:Addr)(H:Hp)(a:Addr)(m:Str):Prop:=∃dx fs,H a=some (.ins C dx fs)/\fs.lookup m=none
def pQ(K:Frag)(ta:TE)(f:Str):TE:=fun σ H Q=>ta σ H fun x H1=>∃a v,x= .ref a/\ZT K H1 a f v/\Q v H1
def vV(K:Frag)(ta tv:TE)(f:Str):TS:=fun D σ H=>tv σ H fun y H1=>ta σ H1 fun x H2=>∃a H3,x= .ref a/\cG K H2 a f y H3/\D.nx σ H3
def lR(C:Addr)(m:Str)(sp:Sp)(ta:TE)(t:TA):TE:=fun σ H Q=>ta σ H fun x H1=>∃a,x= .ref a/\wc C H1 a m/\t σ H1 fun vs H2=>sp (x::(vs++[])) H2 Q E0
section
variable{X:Cx}{o e value:Expr}{f:Str}{pos pos' tpos:Pos}{ta tv:TE}
theorem qH(he:QE X e ta)(hb:attributeBase e f X.env (eval e X.env)=eval e X.env:=by rfl):QE X (.Attribute e f pos) (pQ X.K ta f):=⟨by
 intro pins s σ H Q I h
 refine sB hb (qt (he.h pins s σ H _ I h) fun u s1 ⟨x,H1,I1,rx,a,v,ex,⟨C,dx,fs,ea,c,n,l⟩,q⟩=>?_)
 subst ex
 obtain rfl:u=Value.ref a:=rx
 exact j7 I1 ea c n l fun u' s2 I2 ru=>⟨v,H1,I2,ru,q⟩⟩
theorem zK(ha:QE X o ta)(hv:QE X value tv)(hs:swapsWith value (some (.Attribute o f pos')) pos.line X.env=pure false:=by rfl):QS X (.Assign [.Attribute o f pos'] value pos) (vV X.K ta tv f):=⟨by
 intro pins s σ H D I h
 refine plainObj_wpAny_Assign_Attribute (qt (hv.h pins s σ H _ I h) fun u s1 ⟨y,H1,I1,ry,q⟩=>qt (ha.h pins s1 σ H1 _ I1 q) fun ov s2 ⟨x,H2,I2,rx,a,H3,ex,⟨C,dx,fs,ea,c,n,l,e3⟩,q2⟩=>?_) hs
 subst ex e3
 obtain rfl:ov=Value.ref a:=rx
 exact km I2 ea c n l ry fun s3 I3=>⟨σ,_,I3,q2⟩⟩
end
structure Mf(P:Program)(w:World)(K:Frag)(mg:Str->Option Value)(base:Heap)(C:Addr)(m:Str)(ps:List Str)(k:Nat)(sp:Sp):Prop where
 ex:∃(f:Addr) (fd:FuncData),FnOk P w K mg base Zz k f fd ps sp/\Meth K C m f/\Binds K fd ps []
structure AtM(K:Frag)(C:Addr)(m qual:Str)(st:Stmt)(ps:List Str):Prop where
 ex:∃(f:Addr) (fd:FuncData),Fun K m qual st f fd/\Meth K C m f/\Binds K fd ps []
structure Mi(P:Program)(w:World)(K:Frag)(mg:Str->Option Value)(base:Heap)(C:Addr)(x:Str)(ps:List Str)(k:Nat)(sp:Sp):Prop where
 ex:∃(f:Addr) (fd:FuncData),FnOk P w K mg base Zz k f fd ps sp/\Mk K C f/\mg x=some (.ref C)/\Binds K fd ps []
section
variable{P:Program}{w:World}{K:Frag}{mg:Str->Option Value}{base:Heap}{C:Addr}
theorem AtM.mq{m qual:Str}{st:Stmt}{ps N:List Str}{k:Nat}{sp:Sp}(a:AtM K C m qual st ps)(S:FnScope N ps (qg st))(len:∀vs H Q E,sp vs H Q E->vs.length=ps.length)
  (hbody:∀(f:Addr) (cdv:Value) (A:Around) (outer:List Env) (s:Shared) (H:Hp) (vs:List V) (Q:VK) (E:XK),Room k (A.deeper (envOfC qual (qg st) s.heap.objs.size f cdv))->sp vs H Q E->
   ∃t,QSs (Z3 Zz P w K mg base N qual (qg st) f cdv A outer s H E).nox (zf st) t/\t {nx:=fun _ H'=>Q .non H',rt:=Q} (Qt N vs) H):Mf P w K mg base C m ps (k+1) sp:=by
 obtain⟨f,fd,F,m,bd⟩:=a.ex
 exact⟨f,fd,F.ok S len (fun cdv A outer s H vs Q E hr h=>let⟨t,q1,q2⟩:=hbody f cdv A outer s H vs Q E hr h;⟨t,q1.h,q2⟩),m,bd⟩
theorem Mf.mi{x:Str}{ps:List Str}{k:Nat}{sp:Sp}(a:Mf P w K mg base C "__init__" ps k sp)(mk:W.makesIn K C=true)(kc:W.keepIn K (.ref C)=true)(hx:mg x=some (.ref C)):Mi P w K mg base C x ps k sp:=
 let⟨f,fd,F,m,bd⟩:=a.ex;⟨f,fd,F,⟨mk,m.at_,m.fn,kc⟩,hx,bd⟩
end
section
variable{X:Cx}{C:Addr}{x m:Str}{ps:List Str}{k:Nat}{sp:Sp}{o e:Expr}{es:List Expr}{p pos apos:Pos}{ta:TE}{t:TA}
theorem zq{pl:Sem Bool}(M:Mf X.prog X.w X.K X.mg X.base C m ps k sp)(c:Cls X.K C)(hr:Room k X.A)(he:QE X o ta)(ha:QA X (e::es) t)
  (hst:starEach (e::es) X.env=(false,eval e X.env)::starEach es X.env:=by rfl)(hpl:(backTo pos (starEach es X.env)).any (·.1)=false:=by rfl)
  (ht:eval (.Call (.Attribute o m apos) (e::es) [] pos) X.env=(do
   let ov <- eval o X.env
   standAt apos.atName
   let(f,first) <- holding [ov] (getMethod ov m pl)
   callWith pos f first (backTo pos (starEach (e::es) X.env)) (backToKw pos (keywordEach [] X.env))):=by rfl):
  QE X (.Call (.Attribute o m apos) (e::es) [] pos) (lR C m sp ta t):=⟨by
 obtain⟨f,fd,F,hm,hb⟩:=M.ex
 intro pins s σ H Q I h
 refine W.methodCall_KW (pl:=pl) (qt (he.h pins s σ H _ I h) fun u s1 ⟨x,H1,I1,rx,a,ex,⟨dx,fs,ea,l⟩,q⟩=>?_) ht
 subst ex
 obtain rfl:u=Value.ref a:=rx
 refine cN I1 ea c hm l ?_
 refine W.callWith_K (first:=[.ref a]) (h₀:=X.base) I.ok.mod.kin hm.kp (qt (ha.h pos pins s1 σ H1 _ I1 q) fun us s2 ⟨vs,H2,I2,r,q2⟩=>⟨I2.kIn,?_⟩) hst hpl
 exact iD (us:= .ref a::us) (vs:= .ref a::vs) F hr hb .nil gt I2 (.cons rfl r) q2⟩
theorem zG{pl:Sem Bool}(M:Mf X.prog X.w X.K X.mg X.base C m ps k sp)(c:Cls X.K C)(hr:Room k X.A)(he:QE X o ta)
  (ht:eval (.Call (.Attribute o m apos) [] [] pos) X.env=(do
   let ov <- eval o X.env
   standAt apos.atName
   let(f,first) <- holding [ov] (getMethod ov m pl)
   callWith pos f first (backTo pos (starEach [] X.env)) (backToKw pos (keywordEach [] X.env))):=by rfl):
  QE X (.Call (.Attribute o m apos) [] [] pos) (lR C m sp ta oA):=⟨by
 obtain⟨f,fd,F,hm,hb⟩:=M.ex
 intro pins s σ H Q I h
 refine W.methodCall_KW (pl:=pl) (qt (he.h pins s σ H _ I h) fun u s1 ⟨x,H1,I1,rx,a,ex,⟨dx,fs,ea,l⟩,q⟩=>?_) ht
 subst ex
 obtain rfl:u=Value.ref a:=rx
 refine cN I1 ea c hm l ?_
 exact W.callWith_K0 (first:=[.ref a]) I1.kIn hm.kp (iD (us:=[.ref a]) (vs:=[.ref a]) F hr hb .nil gt I1 (.cons rfl .nil) q)⟩
theorem jA(M:Mi X.prog X.w X.K X.mg X.base C x ps k sp)(hr:Room (k+1) X.A)(ha:QA X (e::es) t)(hg:Gl X x:=by rfl)(hdb:(x==("__debug__":Str))=false:=by decide)
  (he:starEach (e::es) X.env=(false,eval e X.env)::starEach es X.env:=by rfl)(hpl:(backTo pos (starEach es X.env)).any (·.1)=false:=by rfl):
  QE X (.Call (.Name x p) (e::es) [] pos) (ra C sp [] E0 t):=⟨by
 obtain⟨f,fd,F,mk,hx,hb⟩:=M.ex
 exact tf mk F hr hg hx hb .nil gt ha.h hdb he hpl⟩
end
section
variable{X:Cx}{o e:Expr}{es:List Expr}{to:TE}{t:TA}{name:Str}{apos cpos:Pos}{T id:String}{r:V->List V->Hp->VK->Prop}{K:Frag}
theorem nE(hK:X.K=K)(pa:PlainAttrs T)(slot:Slot T name id)(hty:typeOf (.builtin id)=pure (.type "method_descriptor"))(hm:c6 X id r)(ho:QE X o to)(ha:QA X (e::es) t)
  (hbase:attributeBase o name X.env (eval o X.env)=eval o X.env:=by rfl)
  (hfew:((backTo cpos (starEach (e::es) X.env)).all (fun x=> !x.1)&&(backToKw cpos (keywordEach [] X.env)).all (fun x=>x.1.isSome)
   &&decide ((e::es).length+([]:List Keyword).length+(if([]:List Keyword).isEmpty then 0 else 1)<30))=true:=by rfl)
  (hline:(apos.endLine==cpos.line)=true:=by rfl)(hs:starEach (e::es) X.env=(false,eval e X.env)::starEach es X.env:=by rfl)(hplain:(backTo cpos (starEach es X.env)).any (·.1)=false:=by rfl):
  QE X (.Call (.Attribute o name apos) (e::es) [] cpos) (tS K T r to t):=by
 subst hK
 exact Qq pa slot hty hm ho ha hbase hfew hline hs hplain
theorem ik(pa:PlainAttrs T)(slot:Slot T name id)(hty:typeOf (.builtin id)=pure (.type "method_descriptor"))(hm:c6 X id r)(ho:QE X o to)
  (hbase:attributeBase o name X.env (eval o X.env)=eval o X.env:=by rfl)(hline:(apos.endLine==cpos.line)=true:=by rfl):QE X (.Call (.Attribute o name apos) [] [] cpos) (ve X.K T r to):=⟨vi pa slot hty hm ho.h hbase hline⟩
theorem iy:c6 X "list.pop" l6:=pF
theorem lB:c6 X "list.reverse" gZ:=lD
end
theorem fz{f:Str}{v:V}:∀{fs:List (Str×V)} (i:Nat),fs[i]? =some (f,v)->(fs.map (·.1)).Nodup->fs.lookup f=some v
 | [],i,h,_=>by cases h
 |(g,x)::r,0,h,_=>by
  cases Option.some.inj h
  exact List.lookup_cons_self
 |(g,x)::r,i+1,h,nd=>by
  have h':r[i]? =some (f,v):=h
  have nd':g∉r.map (·.1)/\(r.map (·.1)).Nodup:=List.nodup_cons.mp nd
  have hm:f∈r.map (·.1):=List.mem_map.mpr ⟨(f,v),List.mem_of_getElem? h',rfl⟩
  have ne:f≠g:=fun z=>nd'.1 (z▸hm)
  rw[List.lookup_cons,beq_false_of_ne ne]
  exact fz i h' nd'.2
theorem fO{f:Str}:∀{fs:List (Str×V)},f∉fs.map (·.1)->fs.lookup f=none
 | [],_=>rfl
 |(g,x)::r,h=>by
  have ne:f≠g:=fun z=>h (z▸List.mem_cons_self ..)
  rw[List.lookup_cons,beq_false_of_ne ne]
  exact fO fun z=>h (List.mem_cons_of_mem _ z)
theorem jE{f:Str}{v u:V}:∀{fs:List (Str×V)} (i:Nat),fs[i]? =some (f,u)->(fs.map (·.1)).Nodup->zA f v fs=fs.set i (f,v)
 | [],i,h,_=>by cases h
 |(g,x)::r,0,h,_=>by
  cases Option.some.inj h
  show(if f=f then _ else _)=_
  rw[if_pos rfl];rfl
 |(g,x)::r,i+1,h,nd=>by
  have h':r[i]? =some (f,u):=h
  have nd':g∉r.map (·.1)/\(r.map (·.1)).Nodup:=List.nodup_cons.mp nd
  have hm:f∈r.map (·.1):=List.mem_map.mpr ⟨(f,u),List.mem_of_getElem? h',rfl⟩
  have ne:¬g=f:=fun z=>nd'.1 (z▸hm)
  show(if g=f then _ else(g,x)::zA f v r)=_
  rw[if_neg ne,jE i h' nd'.2];rfl
theorem ii{f:Str}{v:V}:∀{fs:List (Str×V)},f∉fs.map (·.1)->zA f v fs=fs++[(f,v)]
 | [],_=>rfl
 |(g,x)::r,h=>by
  have ne:¬g=f:=fun z=>h (z▸List.mem_cons_self ..)
  show(if g=f then _ else(g,x)::zA f v r)=_
  rw[if_neg ne,ii fun z=>h (List.mem_cons_of_mem _ z)];rfl
def Mv(S:List Addr)(H H':Hp):Prop:=∀c o,c∉S->H c=some o->H' c=some o
theorem Mv.trans{S:List Addr}{H H1 H2:Hp}(a:Mv S H H1)(b:Mv S H1 H2):Mv S H H2:=fun c o n e=>b c o n (a c o n e)
theorem Mv.mono{S S':List Addr}{H H':Hp}(a:Mv S H H')(h:∀c,c∉S'->c∉S):Mv S' H H':=fun c o n e=>a c o (h c n) e
theorem _root_.L2.Same.mv{S:List Addr}{H H':Hp}(a:Same H H'):Mv S H H':=fun c o _ e=>a c o e
theorem Mv.upd1{a:Addr}{H:Hp}{o:HO}:Mv [a] H (upd H a o):=fun c u n e=>by
 rw[qi (fun z=>n (List.mem_singleton.mpr z))];exact e
theorem GrC.mv{b:Addr}{n:Nat}{H H':Hp}(g:GrC b n H H'):Mv [b] H H':=fun c o h e=>g.kp c o (fun z=>h (List.mem_singleton.mpr z)) e
def rF:HO->Prop
 | .tup _=>False
 | .frz _ _=>False
 |_=>True
def NT(S:List Addr)(H:Hp):Prop:=∀c,c∈S->∃o,H c=some o/\rF o
theorem Mv.rd{S:List Addr}{H H':Hp}{a:Addr}{xs:List V}(m:Mv S H H')(n:NT S H)(h:Rd H a (.tup xs)):Rd H' a (.tup xs):=by
 have hn:a∉S:=fun z=>by
  obtain⟨o,e,no⟩:=n a z
  rcases h with h|⟨o',h⟩
  ·rw[e]at h;cases h;exact no
  ·rw[e]at h;cases h;exact no
 rcases h with h|⟨o',h⟩
 ·exact .inl (m _ _ hn h)
 ·exact .inr ⟨o',m _ _ hn h⟩
theorem Mv.sqt{K:Frag}{S:List Addr}{H H':Hp}{a:Addr}{xs:List V}(m:Mv S H H')(n:NT S H)(h:SqT K H a xs):SqT K H' a xs:=by
 rcases h with h|h
 ·exact .inl (m.rd n h)
 ·exact .inr h
structure Ac(K:Frag)(mg:Str->Option Value)(x:Str)(st:Stmt):Prop where
 ex:∃(f:Addr) (fd:FuncData),Fun K x x st f fd/\mg x=some (.ref f)
structure Acm(K:Frag)(C:Addr)(m qual:Str)(st:Stmt):Prop where
 ex:∃(f:Addr) (fd:FuncData),Fun K m qual st f fd/\Meth K C m f
section
variable{K:Frag}{mg:Str->Option Value}{h:Heap}{x m qual:Str}{st:Stmt}{C f:Addr}{oc:Value}{od an:Option Addr}{osl:Array (Option Value)}{kV doc pm cdv ct:Value}{ps:List Str}
theorem pN(X:K.In h)(G:h.Ns mainGlobals mg)(a:W.nsIn K mainGlobals x=some (some (.ref f)))(l:K.lookup f=some ⟨oc,od,.func (W.fnOf x x (zM st) (zf st) (qg st) .none kV doc pm an cdv ct),osl⟩)(c:W.codeIn K cdv x=true)(k:W.keepIn K (.ref f)=true):Ac K mg x st:=⟨f,_,gO l c k,W.mg_of X G a⟩
theorem um(a:W.findIn K (.ref C) m=some (some (.ref f)))(i:W.isFn K (.ref f)=true)(l:K.lookup f=some ⟨oc,od,.func (W.fnOf m qual (zM st) (zf st) (qg st) .none kV doc pm an cdv ct),osl⟩)(c:W.codeIn K cdv qual=true)(k:W.keepIn K (.ref f)=true):Acm K C m qual st:=⟨f,_,gO l c k,a,i,k⟩
theorem zQ{p:List Value->Prop}(h:∀a0,p [a0]):∀us:List Value,us.length=1->p us
 | [a0],_=>h a0
theorem ZM{p:List Value->Prop}(h:∀a0 a1,p [a0,a1]):∀us:List Value,us.length=2->p us
 | [a0,a1],_=>h a0 a1
theorem fJ{p:List Value->Prop}(h:∀a0 a1 a2,p [a0,a1,a2]):∀us:List Value,us.length=3->p us
 | [a0,a1,a2],_=>h a0 a1 a2
theorem uI{p:List Value->Prop}(h:∀a0 a1 a2 a3,p [a0,a1,a2,a3]):∀us:List Value,us.length=4->p us
 | [a0,a1,a2,a3],_=>h a0 a1 a2 a3
theorem rq{p:List Value->Prop}(h:∀a0 a1 a2 a3 a4,p [a0,a1,a2,a3,a4]):∀us:List Value,us.length=5->p us
 | [a0,a1,a2,a3,a4],_=>h a0 a1 a2 a3 a4
theorem wd{p:List Value->Prop}(h:∀a0 a1 a2 a3 a4 a5,p [a0,a1,a2,a3,a4,a5]):∀us:List Value,us.length=6->p us
 | [a0,a1,a2,a3,a4,a5],_=>h a0 a1 a2 a3 a4 a5
theorem Ac.at(a:Ac K mg x st)(b:∀(kV doc pm:Value) (an:Option Addr) (cdv ct:Value) (us:List Value),us.length=ps.length->bindArgs (W.fnOf x x (zM st) (zf st) (qg st) .none kV doc pm an cdv ct) ⟨us,[]⟩=pure (ps.zip us)):At K mg x st ps:=let⟨_,_,F,m⟩:=a.ex;vK F m (F.binds b)
theorem Acm.at(a:Acm K C m qual st)(b:∀(kV doc pm:Value) (an:Option Addr) (cdv ct:Value) (us:List Value),us.length=ps.length->bindArgs (W.fnOf m qual (zM st) (zf st) (qg st) .none kV doc pm an cdv ct) ⟨us,[]⟩=pure (ps.zip us)):AtM K C m qual st ps:=let⟨_,_,F,m⟩:=a.ex;⟨_,_,F,m,F.binds b⟩
end
section
variable{K:Frag}{C:Addr}{H H':Hp}{p ta ka ce dx:Addr}{B:Bt}
end
section
variable(K:Frag)(C:Addr)
end
def i0:Sp:=fun vs H Q _=>∃(b:Addr) (c:Nat),vs=[.ref b]/\BoxC H b c/\c<100000000/\∀p (t:List Int) H',GrC b (c+16) H H'->H p=none->H' p=some (.tup (t.map V.int))->t.Perm digs->Q (.ref p) H'
def eK:Sp:=fun vs H Q _=>∃(b:Addr) (c:Nat),vs=[.ref b]/\BoxC H b c/\c<100000000/\∀p (ks:List Int) H',GrC b (c+9) H H'->H p=none->H' p=some (.tup (ks.map V.int))->q0 ks->1<=ks.length->ks.length<=8->Q (.ref p) H'
theorem GrC.fresh{b c:Addr}{n:Nat}{H H':Hp}(g:GrC b n H H')(hb:BoxC H b n)(h:H' c=Option.none):H c=Option.none:=by
 cases e:H c with
 |none=>rfl
 |some o=>
  by_cases z:c=b
  ·subst z
   obtain⟨_,_,_,e',_⟩:=g.bx
   rw[e']at h;cases h
  ·rw[g.kp c o z e]at h;cases h
theorem nX{K:Frag}{H:Hp}{a:Addr}{xs:List V}{Q:VK}(h:Sq K H a xs)(q:∀l H',Same H H'->SqT K H' l xs->Q (.ref l) H'):(SqL K H a xs/\∀l,H l=none->Q (.ref l) (upd H l (.tup xs)))\/(SqT K H a xs/\Q (.ref a) H):=
 h.elim (fun h=> .inl ⟨h,fun l hl=>q l _ (Same.upd hl) (SqT.of qc)⟩) fun h=> .inr ⟨h,q a H (Same.refl _) h⟩
theorem rZ{K:Frag}{C p dx a:Addr}{H:Hp}{fs:List (Str×V)}{xs:List V}{o:HO}(e:H p=some (.ins C dx fs))(h:SqT K H a xs):SqT K (upd H p o) a xs:=by
 rcases h with(h|⟨u,h⟩)|h
 ·exact .inl (.inl (by rw[qi (qO h e (by intro z;cases z))];exact h))
 ·exact .inl (.inr ⟨u,by rw[qi (qO h e (by intro z;cases z))];exact h⟩)
 ·exact .inr h
theorem aD{X:Cx}{K:Frag}(hK:X.K=K):qW X (.builtin "len") (fun xs H Q=>∃p ys,xs=[.ref p]/\(SqL K H p ys\/SqT K H p ys)/\Q (.int (ys.length:Nat)) H):=by
 subst hK
 exact qF
theorem bA{k n:Nat}(h:k<n):seqIndex? (k:Int) n=some k:=by
 unfold seqIndex?
 simp
 omega
theorem nW{ms zs:List Int}{k:Nat}(h:k<ms.length):(zs++[ms[k]]++ms.eraseIdx k).Perm (zs++ms):=by
 rw[List.append_assoc]
 refine List.Perm.append_left zs ?_
 rw[List.eraseIdx_eq_take_drop_succ]
 have e:ms=ms.take k++ms[k]::ms.drop (k+1):=by rw[<- List.drop_eq_getElem_cons h,List.take_append_drop]
 refine List.Perm.trans (List.perm_middle (a:=ms[k]) (l₁:=ms.take k) (l₂:=ms.drop (k+1))).symm ?_
 rw[<- e]
theorem kx(ms:List Int)(k:Nat):(ms.map V.int).eraseIdx k=(ms.eraseIdx k).map V.int:=by
 rw[List.eraseIdx_eq_take_drop_succ,List.eraseIdx_eq_take_drop_succ,List.map_append,List.map_take,List.map_drop]
theorem b9{X:Cx}:qW X (.type "tuple") (fun xs H Q=>∃p ys,xs=[.ref p]/\Sq X.K H p ys/\∀l H',Same H H'->SqT X.K H' l ys->Q (.ref l) H'):=by
 intro pins s σ H xs us Q I r h
 obtain⟨p,ys,e,hs,q⟩:=h
 exact qP pins s σ H xs us Q I r ⟨p,ys,e,nX hs q⟩
theorem uB{xs ys:List V}(i:Nat){x y:V}(hx:xs[i]? =some x)(hy:ys[i]? =some y)(h:x≠y):HO.lst xs≠HO.lst ys:=fun z=>by
 injection z with z
 rw[z,hy]at hx
 exact h (Option.some.inj hx).symm
theorem tm{α:Type}{os:List α}{f:α->Addr}{ys:List V}(i:Nat){y:V}(hy:ys[i]? =some y)(h:∀a,y≠ .ref a):HO.lst (os.map fun o=>V.ref (f o))≠HO.lst ys:=fun z=>by
 injection z with z
 have e:=congrArg (fun l=>l[i]?) z
 simp only[List.getElem?_map,hy]at e
 cases q:os[i]? with
 |none=>rw[q]at e;cases e
 |some a=>rw[q]at e;exact h _ (Option.some.inj e).symm
section
variable{K:Frag}{C:Addr}{H H':Hp}{b L:Addr}{n n':Nat}{os:List O}
theorem qK{a x:Addr}(h:a≠x):a∉[x]:=fun z=>h (List.mem_singleton.mp z)
theorem bO(hb:BoxC H b n):NT [b] H:=fun c hc=>by
 obtain⟨_,_,_,e,_⟩:=hb
 rw[List.mem_singleton.mp hc]
 exact⟨_,e,trivial⟩
end
theorem vJ(n:Nat)(h:n<=100:=by omega):n<sizeLine:=Nat.lt_of_le_of_lt h (by decide)
theorem NT.one{H:Hp}{a:Addr}{o:HO}(e:H a=some o)(n:rF o):NT [a] H:=fun c hc=>⟨o,by rw[List.mem_singleton.mp hc];exact e,n⟩
end L3
namespace L3
open PySem PySem.Spec PyProof.Rows L2
open Sem (wp)
section
variable{prog:Program}{w:World}{A:Around}{R:Result->Shared->Prop}{s:Shared}
end
variable{X:Cx}
section
variable{js:List Nat}{tc:TT}{te:TE}{σ:L2.St}{H:Hp}{Q:VK}{K:Frag}
end
section
variable{o i e value:Expr}{pos pos' tpos:Pos}{td ty tv:TE}
theorem qy{k:Nat}(hr:Room k X.A)(ho:QE X o td)(hi:QE X i ty)(hs:oN i:=by exact fun _ _=>rfl):QE X (.Subscript o i pos) (rh td ty):=⟨sD (by have:=hr.un;omega) ho.h hi.h hs⟩
theorem zR{k:Nat}(hr:Room k X.A)(ho:QE X o td)(hi:QE X i ty)(hv:QE X value tv)(hs:swapsWith value (some (.Subscript o i pos')) pos.line X.env=pure false:=by rfl):
  QS X (.Assign [.Subscript o i pos'] value pos) (pU td ty tv):=⟨rS (by have:=hr.un;omega) ho.h hi.h hv.h hs⟩
structure QPs(X:Cx)(pos:Pos)(keys:List (Option Expr))(values:List Expr)(trs:List (TE×TE)):Prop where
 h:lQ X pos keys values trs
theorem tF:QPs X pos [] [] []:=⟨sF⟩
theorem Qz{k v:Expr}{ks:List (Option Expr)}{vs:List Expr}{tk tv:TE}{trs:List (TE×TE)}(hk:QE X k tk)(hv:QE X v tv)(hr:QPs X pos ks vs trs):QPs X pos (some k::ks) (v::vs) ((tk,tv)::trs):=⟨pJ hk.h hv.h hr.h⟩
theorem sr{keys:List (Option Expr)}{values:List Expr}{trs:List (TE×TE)}(h:QPs X pos keys values trs)(hall:keys.all (·.isSome)=true:=by rfl)(hl:keys.length=values.length:=by rfl)(h0:keys≠[]:=by(intro z;cases z))
  (h15:keys.length<=15:=by decide):QE X (.Dict keys values pos) (rE trs):=⟨sQ h.h hall hl h0 h15⟩
end
theorem ju{k:qG}{v:V}:∀{kvs:List (qG×V)} (i:Nat),kvs[i]? =some (k,v)->(kvs.map (·.1)).Nodup->zN kvs k=some v
 | [],i,h,_=>by cases h
 |p::r,0,h,_=>by
  cases Option.some.inj h
  exact ZD rfl
 |p::r,i+1,h,nd=>by
  have h':r[i]? =some (k,v):=h
  have nd':p.1∉r.map (·.1)/\(r.map (·.1)).Nodup:=List.nodup_cons.mp nd
  have hm:k∈r.map (·.1):=List.mem_map.mpr ⟨(k,v),List.mem_of_getElem? h',rfl⟩
  have ne:p.1≠k:=fun z=>nd'.1 (z▸hm)
  rw[Zu ne]
  exact ju i h' nd'.2
theorem oP{k:qG}{v u:V}{kvs:List (qG×V)}(i:Nat)(h:kvs[i]? =some (k,u))(nd:(kvs.map (·.1)).Nodup):putK kvs k v=kvs.set i (k,v):=by
 have hil:i<kvs.length:=(List.getElem?_eq_some_iff.mp h).1
 have hik:=(List.getElem?_eq_some_iff.mp h).2
 unfold putK
 rw[if_pos]
 ·refine List.ext_getElem (by simp) fun j h1 h2=>?_
  rw[List.getElem_map,List.getElem_set]
  have hj:j<kvs.length:=by simpa using h1
  by_cases e:i=j
  ·subst e
   rw[if_pos (by rw[hik]),if_pos rfl,hik]
  ·rw[if_neg e,if_neg]
   intro z
   have h3:(kvs.map (·.1))[i]'(by simpa using hil)=(kvs.map (·.1))[j]'(by simpa using hj):=by rw[List.getElem_map,List.getElem_map,hik,z]
   exact e ((List.getElem_inj nd).mp h3)
 ·rw[List.any_eq_true]
  exact⟨kvs[i],List.getElem_mem hil,by rw[hik];exact decide_eq_true rfl⟩
theorem rX{k:qG}{v:V}{kvs:List (qG×V)}(h:k∉kvs.map (·.1)):putK kvs k v=kvs++[(k,v)]:=by
 unfold putK
 rw[if_neg]
 intro z
 obtain⟨p,hp,e⟩:=List.any_eq_true.mp z
 exact h (List.mem_map.mpr ⟨p,hp,of_decide_eq_true e⟩)
end L3
namespace L3
open PySem PySem.Spec PyProof.Rows L2
open PySem.W (kdl_dict kdl_extend)
section
variable{prog:Program}{w:World}{A:Around}{E:Value->Shared->Prop}{s:Shared}
theorem gS{d:Addr}{kvs:List (qG×Value)}{ep:Nat}{Q:List Value->Shared->Prop}(hh:A.handled=none)(hm:s.heap.DictAt (qM prog w) d kvs ep)(lo:(d==sysModules)=false)(hn:kvs.length<=sizeLine)
  (h:∀(vs:List Value) (h':Heap) (tk:Nat),s.heap.objs.size<h'.objs.size->(∀b o,s.heap.get? b=some o->h'.get? b=some o)->vs.length=kvs.length->(∀(j:Nat) (v:Value),vs[j]? =some v->∃k x,kvs[j]? =some (k,x)/\(qM prog w).is k v=true)->Q vs {s with heap:=h',toks:=tk}):
  wpAny (model prog w) A (collect (.ref d)) Q E s:=by
 unfold collect
 refine wpAny_bind (wpAny_runValue (codeAny_builtin entry_proto_collect' ?_))
 show wpAny _ _ (do again (.builtin "list.__iadd__" ⟨[<- newList [],.ref d],[]⟩)) _ _ s
 refine wpAny_bind (wpAny_newList (wpAny_pure ⟨Code.quiet_builtin _ (by decide +kernel),codeAny_builtin entry_list_iadd' ?_⟩))
 rw[Around.under_plainId PySem.F.plain_list_iadd _]
 have hlt:d<s.heap.objs.size:=hm.lt_size
 refine kdl_extend (s:={s with heap:=s.heap.push (seqObj "list" #[] 0)}) (R:=fun r s'=>match r with
   | .ok (.ret v)=>wpAny (model prog w) A (match v with
    | .ref a=>(do
     let o <- load a
     match o.data with
     | .seq xs _=>pure xs.toList
     |_=>unsupported "internal:collect")
    |_=>unsupported "internal:collect") Q E s'
   | .ok _=>False
   | .error e=>E e s') (kdl_dict (knd:=qM prog w) (ep:=ep) (kvs:=kvs) lo) hh (hm.push _) s.heap.objs.size (Nat.ne_of_gt hlt) (Nat.ne_of_gt hlt) _ 0 (Heap.get?_push_size _ rfl) (fun h' tk acc' c' hk hS hI=>?_) hn
 show wpAny (model prog w) A (do
   let o <- load s.heap.objs.size
   match o.data with
   | .seq xs _=>pure xs.toList
   |_=>unsupported "internal:collect") Q E {s with heap:=h',toks:=tk}
 refine wpAny_bind (wpAny_load hS ?_)
 refine wpAny_pure (h acc'.toList h' tk (Heap.lt_size hS) (fun b o e=>hk b o (Nat.ne_of_lt (Heap.lt_size e)) (Heap.get?_push_of_some _ e)) (by rw[Array.length_toList];exact hI.1) fun j v e=>hI.2 j v (by rw[<- Array.getElem?_toList];exact e))
theorem jB:∀{us:List Value} {ss:List Str},us.length=ss.length->(∀(j:Nat) (v:Value),us[j]? =some v->∃x t,ss[j]? =some x/\v= .str x t)->StrsAre us ss
 | [],[],_,_=> .nil
 |u::us,x::ss,hl,h=>by
  obtain⟨y,t,e1,e2⟩:=h 0 u rfl
  cases e1
  subst e2
  exact .cons _ _ (jB (Nat.succ.inj hl) fun j v e=>h (j+1) v e)
 | [],_::_,hl,_=>by cases hl
 |_::_,[],hl,_=>by cases hl
theorem i6{d:Addr}{kvs:List (qG×Value)}{ep:Nat}{ss:List Str}{Q:Value->Shared->Prop}(hh:A.handled=none)(hm:s.heap.DictAt (qM prog w) d kvs ep)(lo:(d==sysModules)=false)(hks:kvs.map (·.1)=ss.map Sum.inr)(h64:ss.length<64)
  (h:∀(h':Heap) (tk:Nat) (l:Addr) (its:List Value) (n:Nat) (ss':List Str),s.heap.objs.size<=l->(∀b o,s.heap.get? b=some o->h'.get? b=some o)->h'.get? l=some (seqObj "list" its.toArray n)->StrsAre its ss'->ss'.Perm ss->sortedS ss'=true->Q (.ref l) {s with heap:=h',toks:=tk}):
  wpAny (model prog w) A (call (.builtin "sorted") [.ref d]) Q E s:=by
 have hlen:kvs.length=ss.length:=by have:=congrArg List.length hks;rwa [List.length_map,List.length_map]at this
 refine Calls.call_function_entry kind_sorted plain_sorted entry_sorted (args_sorted1 _) ?_
 unfold Builtin.«sorted»
 refine wpAny_bind (m:=checkCount "sorted" 1 1 _) (wpAny_pure ?_)
 refine wpAny_bind (gS (ep:=ep) (kvs:=kvs) hh hm lo (by rw[sizeLine_eq];omega) fun us h' tk hlt hk hl hv=>?_)
 have hS:StrsAre us ss:=jB (hl.trans hlen) fun j v e=>by
  obtain⟨k,x,e1,e2⟩:=hv j v e
  have e3:(kvs.map (·.1))[j]? =some k:=by rw[List.getElem?_map,e1];rfl
  rw[hks,List.getElem?_map]at e3
  cases e4:ss[j]? with
  |none=>rw[e4]at e3;cases e3
  |some y=>
   rw[e4]at e3
   have e5:Sum.inr y=k:=Option.some.inj e3
   subst e5
   have e6:Value.isStrOf y v=true:=e2
   cases v<;>simp [Value.isStrOf]at e6
   subst e6
   exact⟨_,_,rfl,rfl⟩
 refine wpAny_bind (wpAny_newList ?_)
 have hoL:(h'.push (seqObj "list" us.toArray 0)).get? h'.objs.size=some (seqObj "list" us.toArray 0):=Heap.get?_push_size _ rfl
 show wpAny _ _ _ _ _ {s with heap:=h'.push (seqObj "list" us.toArray 0),toks:=tk}
 refine wpAny_bind (wpAny_holding (wpAny_call_entry slot_list_sort ⟨_,hoL,rfl⟩ entry_list_sort (list_sort_treeK (κ:=PyProof.Rows.strKind) strKind_oneLt hoL hS.keysOf (fun v₁ v₂ rest e=>keyKind_strs (by rw[<- e];exact hS)) (by rw[hl,hlen];exact h64) fun st' a1 a2=>⟨_,rfl,?_⟩) (args_list_sort _)))
 obtain⟨ss',b1,b2,b3⟩:=sorted_out_str hS a1 a2
 obtain⟨n',hn'⟩:∃n',(sortedHeap (h'.push (seqObj "list" us.toArray 0)) h'.objs.size us ((arrOf st').map (·.2))).get? h'.objs.size=some (seqObj "list" ((arrOf st').map (·.2)) n'):=sortedHeap_at hoL
 refine wpAny_pure ⟨_,rfl,h _ tk h'.objs.size ((arrOf st').map (·.2)).toList n' ss' (Nat.le_of_lt hlt) (fun b o e=>?_) (by rw[hn']) b1 b2 b3⟩
 have e':=hk b o e
 have hb:b<h'.objs.size:=Heap.lt_size e'
 rw[sortedHeap_old (Nat.ne_of_lt hb) (by rw[Heap.size_push];exact Nat.lt_succ_of_lt hb)]
 exact Heap.get?_push_of_some _ e'
end
theorem fP:∀{us:List Value} {ss:List Str},StrsAre us ss->Vals (ss.map V.str) us
 | [],[],.nil=> .nil
 |_,_::_,.cons _ _ t=> .cons ⟨_,rfl⟩ (fP t)
theorem ba{X:Cx}(hc:X.calm=true):qW X (.builtin "sorted") (fun xs H Q=>∃(d:Addr) (kvs:List (qG×V)) (ss:List Str),xs=[.ref d]/\H d=some (.dK kvs)/\kvs.map (·.1)=ss.map Sum.inr/\ss.length<64/\
  ∀l ss',H l=none->ss'.Perm ss->sortedS ss'=true->Q (.ref l) (upd H l (.lst (ss'.map V.str)))):=by
 intro pins s σ H xs us Q I r h
 obtain⟨d,kvs,ss,rfl,hH,hks,h64,q⟩:=h
 obtain⟨u,rfl,ru⟩:=zF r
 cases ru
 obtain⟨z,lo,vs,rel,o,es,ep,d1,d2,d3,d4,d5,d6⟩:=gr I.hok hH
 have hks':vs.map (·.1)=ss.map Sum.inr:=by rw[<- hks,rel.keys]
 refine i6 (I.ok.hd hc) (⟨o,es,d1,d2,d3,d4,d5,d6⟩:s.heap.DictAt (qM X.prog X.w) d vs ep) lo hks' h64 fun h' tk l its n ss' hl hk hL b1 b2 b3=>?_
 refine⟨.ref l,_,I.laid (a:=l) (o:= .lst (ss'.map V.str)) (t':=tk) hk hl ?_,rfl,q l ss' (I.hok.fresh hl) b2 b3⟩
 have vl:=fP b1
 refine⟨?_,its,n,vl,hL⟩
 have:=b2.length_eq
 rw[List.length_map,sizeLine_eq]
 omega
end L3
namespace L3
open PySem PySem.Spec PyProof.Rows L2
section
variable{X:Cx}{o e f:Expr}{apos cpos pos:Pos}{td ty tx:TE}
theorem og{k:Nat}(hr:Room k X.A)(ho:QE X o td)(ha:QE X e ty)(m:M1 X o "get" apos e cpos:=by exact⟨rfl,rfl,rfl,rfl⟩):QE X (.Call (.Attribute o "get" apos) [e] [] cpos) (nh td ty):=⟨pD (by have:=hr.un;omega) ho.h ha.h m⟩
theorem iK{k:Nat}(hr:Room k X.A)(ho:QE X o td)(ha:QE X e ty)(hf:QE X f tx)(m:M2 X o "get" apos e f cpos:=by exact⟨rfl,rfl,rfl,rfl⟩):QE X (.Call (.Attribute o "get" apos) [e,f] [] cpos) (mF td ty tx):=⟨oB (by have:=hr.un;omega) ho.h ha.h hf.h m⟩
theorem iC:QE X (.Dict [] [] pos) nB:=⟨nU⟩
theorem nr{k:Nat}(hr:Room k X.A)(hi:QE X e ty)(ho:QE X o td)(h1:behindInMarks CmpOp.In o=false:=by rfl):QT X (.Compare e [.In] [o] pos) (bF (vp ty td)):=⟨lH (uY (by have:=hr.un;omega) hi.h ho.h) (h1:=h1)⟩
theorem bz{k:Nat}(hr:Room k X.A)(hi:QE X e ty)(ho:QE X o td)(h1:behindInMarks CmpOp.NotIn o=false:=by rfl):QT X (.Compare e [.NotIn] [o] pos) (bF (jw ty td)):=⟨lH (mL (by have:=hr.un;omega) hi.h ho.h) (h1:=h1)⟩
end
structure Kb where
 age:Int
 last:Int
 wt:Option (Int×Int)
abbrev Kw:=List (Str×Kb)
def Wt(H:Hp)(v:V):Option (Int×Int)->Prop
 |none=>v= .non
 |some (x,c)=>∃w,v= .ref w/\H w=some (.tup [.int x,.int c])
def BuAt(H:Hp)(a:Addr)(e:Kb):Prop:=∃v,H a=some (.tup [.int e.age,.int e.last,v])/\Wt H v e.wt
def zO(kn:Kw)(f:Str->Addr):List (qG×V):=kn.map fun e=>(Sum.inr e.1,V.ref (f e.1))
def KnAt(H:Hp)(d:Addr)(kn:Kw):Prop:=∃f:Kw×(Str->Addr),H d=some (.dK (zO f.1 f.2))/\(∀e∈kn,BuAt H (f.2 e.1) e.2)/\f.1.Perm kn/\(kn.map (·.1)).Nodup
def qU(kn:Kw)(nm:Str)(e:Kb):Kw:=if nm∈kn.map (·.1)then kn.map (fun p=>if p.1=nm then(nm,e)else p)else kn++[(nm,e)]
theorem Mv.tup{S:List Addr}{H H':Hp}{a:Addr}{xs:List V}(m:Mv S H H')(n:NT S H)(h:H a=some (.tup xs)):H' a=some (.tup xs):=m _ _ (fun z=>by
 obtain⟨o,e,no⟩:=n a z
 rw[e]at h;cases h;exact no) h
theorem Wt.mv{S:List Addr}{H H':Hp}{v:V}{o:Option (Int×Int)}(m:Mv S H H')(n:NT S H)(h:Wt H v o):Wt H' v o:=by
 cases o with
 |none=>exact h
 |some p=>obtain⟨w,e,r⟩:=h;exact⟨w,e,m.tup n r⟩
theorem BuAt.mv{S:List Addr}{H H':Hp}{a:Addr}{e:Kb}(m:Mv S H H')(n:NT S H)(h:BuAt H a e):BuAt H' a e:=let⟨v,r,w⟩:=h;⟨v,m.tup n r,w.mv m n⟩
theorem BuAt.same{H H':Hp}{a:Addr}{e:Kb}(s:Same H H')(h:BuAt H a e):BuAt H' a e:=h.mv (S:=[]) s.mv (fun c h=>nomatch h)
theorem KnAt.mv{S:List Addr}{H H':Hp}{d:Addr}{kn:Kw}(m:Mv S H H')(n:NT S H)(hd:d∉S)(h:KnAt H d kn):KnAt H' d kn:=let⟨f,r,w,p⟩:=h;⟨f,m _ _ hd r,fun e he=>(w e he).mv m n,p⟩
theorem bI(f:Str->Addr)(nm:Str):∀kn:Kw,zN (zO kn f) (Sum.inr nm:qG)=(kn.lookup nm).map fun _=>V.ref (f nm)
 | []=>rfl
 |(m,e)::r=>by
  show zN ((Sum.inr m,V.ref (f m))::zO r f) (Sum.inr nm)=_
  by_cases q:m=nm
  ·subst q
   rw[ZD rfl,List.lookup_cons_self];rfl
  ·rw[Zu (by intro z;injection z with z;exact q z),List.lookup_cons,beq_false_of_ne (fun z=>q z.symm)]
   exact bI f nm r
theorem Qa{nm:Str}{e:Kb}:∀{kn:Kw},kn.lookup nm=some e->(nm,e)∈kn
 |(m,x)::r,h=>by
  rw[List.lookup_cons]at h
  by_cases q:nm=m
  ·subst q
   rw[beq_self_eq_true]at h
   cases h
   exact List.mem_cons_self ..
  ·rw[beq_false_of_ne q]at h
   exact List.mem_cons_of_mem _ (Qa h)
theorem lookup_mem_iff{nm:Str}:∀{kn:Kw},(kn.lookup nm).isSome=true↔nm∈kn.map (·.1)
 | []=>by simp
 |(m,x)::r=>by
  rw[List.lookup_cons,List.map_cons,List.mem_cons]
  by_cases q:nm=m
  ·subst q;simp
  ·rw[beq_false_of_ne q]
   simp only[q,false_or]
   exact lookup_mem_iff
theorem aP(kn:Kw)(nm:Str)(e:Kb):(qU kn nm e).map (·.1)=if nm∈kn.map (·.1)then kn.map (·.1)else kn.map (·.1)++[nm]:=by
 unfold qU
 split
 ·rw[List.map_map]
  refine List.map_congr_left fun p hp=>?_
  simp only[Function.comp]
  by_cases y:p.1=nm
  ·rw[if_pos y,y]
  ·rw[if_neg y]
 ·rw[List.map_append];rfl
theorem oM(kn:Kw)(nm:Str)(e:Kb):(qU kn nm e).length<=kn.length+1:=by
 have:=congrArg List.length (aP kn nm e)
 rw[List.length_map]at this
 rw[this]
 split
 ·rw[List.length_map];omega
 ·rw[List.length_append,List.length_map];exact Nat.le_refl _
theorem j2{kn:Kw}(nd:(kn.map (·.1)).Nodup)(nm:Str)(e:Kb):((qU kn nm e).map (·.1)).Nodup:=by
 rw[aP]
 split
 ·exact nd
 ·rename_i z
  exact List.nodup_append.mpr ⟨nd,by simp,fun a ha b hb=>by rw[List.mem_singleton.mp hb];exact fun w=>z (w▸ha)⟩
theorem ZW{nm:Str}{e:Kb}:∀{kn:Kw},(kn.map (·.1)).Nodup->kn.lookup nm=some e->∀p∈kn,p.1=nm->p=(nm,e)
 | [],_,h,_,hp,_=>by cases hp
 |(m,x)::r,nd,h,p,hp,hn=>by
  have nd':m∉r.map (·.1)/\(r.map (·.1)).Nodup:=List.nodup_cons.mp nd
  rw[List.lookup_cons]at h
  by_cases q:nm=m
  ·subst q
   rw[beq_self_eq_true]at h
   cases h
   rcases List.mem_cons.mp hp with rfl|hp
   ·rfl
   ·exact absurd (List.mem_map.mpr ⟨p,hp,hn⟩) nd'.1
  ·rw[beq_false_of_ne q]at h
   rcases List.mem_cons.mp hp with rfl|hp
   ·exact absurd hn.symm q
   ·exact ZW nd'.2 h p hp hn
theorem ZS{k0 kn:Kw}(pm:k0.Perm kn)(nd:(kn.map (·.1)).Nodup)(nm:Str):k0.lookup nm=kn.lookup nm:=by
 cases e:k0.lookup nm with
 |none=>
  cases e':kn.lookup nm with
  |none=>rfl
  |some x=>
   have:(k0.lookup nm).isSome=true:=lookup_mem_iff.mpr ((pm.map (·.1)).mem_iff.mpr (lookup_mem_iff.mp (by rw[e'];rfl)))
   rw[e]at this;cases this
 |some x=>
  obtain⟨y,hy⟩:∃y,kn.lookup nm=some y:=Option.isSome_iff_exists.mp (lookup_mem_iff.mpr (List.mem_map.mpr ⟨_,pm.mem_iff.mp (Qa e),rfl⟩))
  rw[hy]
  have:=ZW nd hy _ (pm.mem_iff.mp (Qa e)) rfl
  cases this
  rfl
theorem KnAt.get{H:Hp}{d:Addr}{kn:Kw}(h:KnAt H d kn)(nm:Str):(kn.lookup nm=none/\DGet H d (.str nm) none)\/∃e a,kn.lookup nm=some e/\DGet H d (.str nm) (some (.ref a))/\BuAt H a e:=by
 obtain⟨⟨k0,f⟩,hd,hb,pm,nd⟩:=h
 have g:=DGet.k (k:=Sum.inr nm) hd
 rw[bI,ZS pm nd]at g
 cases q:kn.lookup nm with
 |none=>rw[q]at g;exact .inl ⟨rfl,g⟩
 |some e=>rw[q]at g;exact .inr ⟨e,f nm,rfl,g,hb _ (Qa q)⟩
theorem fi{k0 kn:Kw}(pm:k0.Perm kn)(nm:Str)(e:Kb):(qU k0 nm e).Perm (qU kn nm e):=by
 unfold qU
 by_cases z:nm∈kn.map (·.1)
 ·rw[if_pos ((pm.map (·.1)).mem_iff.mpr z),if_pos z];exact pm.map _
 ·rw[if_neg (fun w=>z ((pm.map (·.1)).mem_iff.mp w)),if_neg z];exact pm.append_right _
theorem KnAt.put{H:Hp}{d a:Addr}{kn:Kw}{e:Kb}(h:KnAt H d kn)(nm:Str)(hl:kn.length<=100)(hb:BuAt H a e):∃H',DPut H d (.str nm) (.ref a) H'/\Mv [d] H H'/\KnAt H' d (qU kn nm e):=by
 obtain⟨⟨k0,f⟩,hd,hk0,pm,nd⟩:=h
 have hlen:(zO k0 f).length=kn.length:=(List.length_map _).trans pm.length_eq
 have hk:∀e∈k0,BuAt H (f e.1) e.2:=fun e he=>hk0 e (pm.mem_iff.mp he)
 refine⟨_,DPut.k (k:=Sum.inr nm) hd (by rw[hlen];exact vJ _),Mv.upd1,(qU k0 nm e,fun n=>if n=nm then a else f n),?_,?_,fi pm nm e,j2 nd nm e⟩
 ·rw[qc]
  congr 2
  unfold putK qU zO
  have ea:((k0.map fun e=>((Sum.inr e.1:qG),V.ref (f e.1))).any fun kv=>decide (kv.1=(Sum.inr nm:qG)))=true↔nm∈k0.map (·.1):=by
   rw[List.any_eq_true]
   constructor
   ·rintro⟨p,hp,z⟩
    obtain⟨q,hq,rfl⟩:=List.mem_map.mp hp
    have z':(Sum.inr q.1:qG)=Sum.inr nm:=of_decide_eq_true z
    injection z' with z'
    exact List.mem_map.mpr ⟨q,hq,z'⟩
   ·intro z
    obtain⟨q,hq,e⟩:=List.mem_map.mp z
    exact⟨_,List.mem_map.mpr ⟨q,hq,rfl⟩,decide_eq_true (by rw[e])⟩
  by_cases z:nm∈k0.map (·.1)
  ·rw[if_pos (ea.mpr z),if_pos z,List.map_map,List.map_map]
   refine List.map_congr_left fun p hp=>?_
   simp only[Function.comp]
   by_cases y:p.1=nm
   ·rw[if_pos (by rw[y]),if_pos y]
    simp [y]
   ·rw[if_neg (by intro w;injection w with w;exact y w),if_neg y]
    simp [y]
  ·rw[if_neg (fun w=>z (ea.mp w)),if_neg z,List.map_append]
   congr 1
   ·refine List.map_congr_left fun p hp=>?_
    have y:¬p.1=nm:=fun w=>z (List.mem_map.mpr ⟨p,hp,w⟩)
    simp [y]
   ·simp
 ·have nt:NT [d] H:=NT.one hd trivial
  intro p hp
  have hp:=(fi pm nm e).mem_iff.mpr hp
  have hb':=hb.mv (Mv.upd1 (o:= .dK (putK (zO k0 f) (Sum.inr nm) (.ref a)))) nt
  unfold qU at hp
  split at hp
  ·obtain⟨q,hq,rfl⟩:=List.mem_map.mp hp
   by_cases y:q.1=nm
   ·rw[if_pos y];simp only[if_true];exact hb'
   ·rw[if_neg y]
    show BuAt _ (if q.1=nm then a else f q.1) q.2
    rw[if_neg y]
    exact(hk q hq).mv Mv.upd1 nt
  ·rename_i z
   rcases List.mem_append.mp hp with hq|hq
   ·have y:¬p.1=nm:=fun w=>z (List.mem_map.mpr ⟨p,hq,w⟩)
    show BuAt _ (if p.1=nm then a else f p.1) p.2
    rw[if_neg y]
    exact(hk p hq).mv Mv.upd1 nt
   ·rw[List.mem_singleton.mp hq];simp only[if_true];exact hb'
def KsAt(K:Frag)(H:Hp)(hk:Addr)(kss:List (List Int)):Prop:=∃as:List Addr,H hk=some (.lst (as.map V.ref))/\as.length=kss.length/\∀(i:Nat) (a:Addr) (ks:List Int),as[i]? =some a->kss[i]? =some ks->SqT K H a (ks.map V.int)
theorem KsAt.mv{K:Frag}{S:List Addr}{H H':Hp}{hk:Addr}{kss:List (List Int)}(m:Mv S H H')(n:NT S H)(hd:hk∉S)(h:KsAt K H hk kss):KsAt K H' hk kss:=let⟨as,e,l,r⟩:=h;⟨as,m _ _ hd e,l,fun i a ks e1 e2=>m.sqt n (r i a ks e1 e2)⟩
structure Dr where
 t:List Int
 kss:List (List Int)
 near:Int
 far:Int
 most:Int
 least:Int
 kn:Kw
def dF(D:Dr)(ta hk bd lg:Addr):List (Str×V):=
 [("table",.ref ta),("house_keys",.ref hk),("near",.int D.near),("far",.int D.far),("most",.int D.most),("least_age",.int D.least),("buttons",.ref bd),("log",.ref lg)]
def dN:List Str:=["table","house_keys","near","far","most","least_age","buttons","log"]
theorem vG:dN.Nodup:=by decide +kernel
theorem gy(D:Dr)(ta hk bd lg:Addr):((dF D ta hk bd lg).map (·.1)).Nodup:=vG
structure DCx(K:Frag)(C:Addr):Prop where
 cl:Cls K C
 n_table:NoAttr K C "table"
 n_house_keys:NoAttr K C "house_keys"
 n_near:NoAttr K C "near"
 n_far:NoAttr K C "far"
 n_most:NoAttr K C "most"
 n_least_age:NoAttr K C "least_age"
 n_buttons:NoAttr K C "buttons"
 n_log:NoAttr K C "log"
structure DoorAt(K:Frag)(C:Addr)(H:Hp)(p ta hk bd lg:Addr)(n:Nat)(D:Dr):Prop where
 ob:∃dx,H p=some (.ins C dx (dF D ta hk bd lg))
 tb:SqT K H ta (D.t.map V.int)
 ks:KsAt K H hk D.kss
 kb:KnAt H bd D.kn
 lo:∃rs:List Addr,H lg=some (.lst (rs.map V.ref))/\rs.length<=n
 ne:lg≠hk
section
variable{K:Frag}{C:Addr}{H H':Hp}{p ta hk bd lg dx:Addr}{n:Nat}{D:Dr}
theorem DoorAt.has(b:DoorAt K C H p ta hk bd lg n D)(U:DCx K C)(i:Nat){f:Str}{v:V}(h:(dF D ta hk bd lg)[i]? =some (f,v))(na:NoAttr K C f):ZT K H p f v:=by
 obtain⟨dx,e⟩:=b.ob
 exact⟨C,dx,_,e,U.cl,na,fz i h (gy ..)⟩
theorem DoorAt.h_table(b:DoorAt K C H p ta hk bd lg n D)(U:DCx K C):ZT K H p "table" (.ref ta):=b.has U 0 rfl U.n_table
theorem DoorAt.h_house_keys(b:DoorAt K C H p ta hk bd lg n D)(U:DCx K C):ZT K H p "house_keys" (.ref hk):=b.has U 1 rfl U.n_house_keys
theorem DoorAt.h_near(b:DoorAt K C H p ta hk bd lg n D)(U:DCx K C):ZT K H p "near" (.int D.near):=b.has U 2 rfl U.n_near
theorem DoorAt.h_far(b:DoorAt K C H p ta hk bd lg n D)(U:DCx K C):ZT K H p "far" (.int D.far):=b.has U 3 rfl U.n_far
theorem DoorAt.h_most(b:DoorAt K C H p ta hk bd lg n D)(U:DCx K C):ZT K H p "most" (.int D.most):=b.has U 4 rfl U.n_most
theorem DoorAt.h_least_age(b:DoorAt K C H p ta hk bd lg n D)(U:DCx K C):ZT K H p "least_age" (.int D.least):=b.has U 5 rfl U.n_least_age
theorem DoorAt.h_buttons(b:DoorAt K C H p ta hk bd lg n D)(U:DCx K C):ZT K H p "buttons" (.ref bd):=b.has U 6 rfl U.n_buttons
theorem DoorAt.h_log(b:DoorAt K C H p ta hk bd lg n D)(U:DCx K C):ZT K H p "log" (.ref lg):=b.has U 7 rfl U.n_log
theorem DoorAt.no(b:DoorAt K C H p ta hk bd lg n D){m:Str}(h:m∉dN:=by decide +kernel):wc C H p m:=by
 obtain⟨dx,e⟩:=b.ob
 exact⟨dx,_,e,fO h⟩
theorem DoorAt.mv{S:List Addr}(b:DoorAt K C H p ta hk bd lg n D)(m:Mv S H H')(nt:NT S H)(hp:p∉S)(hh:hk∉S)(hb:bd∉S)(hl:lg∉S):DoorAt K C H' p ta hk bd lg n D:=by
 obtain⟨dx,e⟩:=b.ob
 obtain⟨rs,el,l⟩:=b.lo
 exact⟨⟨dx,m _ _ hp e⟩,m.sqt nt b.tb,b.ks.mv m nt hh,b.kb.mv m nt hb,⟨rs,m _ _ hl el,l⟩,b.ne⟩
theorem DoorAt.same(b:DoorAt K C H p ta hk bd lg n D)(s:Same H H'):DoorAt K C H' p ta hk bd lg n D:=b.mv (S:=[]) s.mv (fun c h=>nomatch h) (fun h=>nomatch h) (fun h=>nomatch h) (fun h=>nomatch h) (fun h=>nomatch h)
end
def wx:R2:=fun x y H Q=>∃(o:Option (Int×Int)) (b:Addr) (a c:Int),Wt H x o/\y= .ref b/\Rd H b (.tup [.int a,.int c])/\Q (.bl (decide (o=some (a,c)))) H
theorem nF{X:Cx}{k:Nat}(hr:Room k X.A):q8 X (compareOp .Eq) wx:=by
 intro pins s σ H x y v u Q I rx ry h
 obtain⟨o,b,a,c,hw,rfl,hb,q⟩:=h
 cases ry
 obtain⟨its2,r2,p2,_⟩:=I.tuple (.inl hb)
 have hu:X.A.units<cLine:=by have:=hr.un;omega
 cases o with
 |none=>
  have hw':x= .non:=hw
  subst hw'
  cases rx
  rw[decide_eq_false (by intro z;cases z)]at q
  exact SeqAt.RcAt.none_tuple p2 hu _ _ _ _ ⟨.bl false,H,I,rfl,q⟩
 |some pr=>
  obtain⟨x1,x2⟩:=pr
  obtain⟨w,rfl,hw'⟩:=hw
  cases rx
  obtain⟨its,r1,p1,_⟩:=I.tuple (.inl (.inl hw'))
  have l1:=r1.length
  have l2:=r2.length
  have e1:=SeqAt.RcAt.tuples (A:=X.A) (e:=fun j=>[x1,x2].getD j 0==[a,c].getD j 0) (show s.heap.IsTuple w its.toArray from p1) (show s.heap.IsTuple b its2.toArray from p2) hu (fun j h1 h2=>by
   have h1':j<its.length:=by simpa using h1
   have h2':j<its2.length:=by simpa using h2
   obtain⟨t,e⟩:=jW (ns:=[x1,x2]) r1 j h1' (by rw[<- l1]at h1';exact h1')
   obtain⟨t',e'⟩:=jW (ns:=[a,c]) r2 j h2' (by rw[<- l2]at h2';exact h2')
   simp only[List.getElem_toArray,e,e',List.getD_eq_getElem?_getD,List.getElem?_eq_getElem (show j<[x1,x2].length by rw[<- l1]at h1';exact h1'),List.getElem?_eq_getElem (show j<[a,c].length by rw[<- l2]at h2';exact h2'),Option.getD_some]
   exact SeqAt.EqAt.int_int _ _ _ _)
  have z1:its.toArray.size=2:=by rw[List.size_toArray,<- l1];rfl
  have z2:its2.toArray.size=2:=by rw[List.size_toArray,<- l2];rfl
  refine e1 _ _ _ _ ⟨.bl _,H,I,?_,q⟩
  show Value.bool _=Value.bool _
  congr 1
  rw[z1,z2,show min 2 2=([x1,x2]:List Int).length from rfl,pE [x1,x2] [a,c] rfl]
  simp
def li(c l n f:Int):Str:=if c<=l then "old" else if c<=l+n then "near" else if c<=l+f then "far" else "beyond"
def jK:Sp:=fun vs H Q _=>∃c l n f:Int,vs=[.int c,.int l,.int n,.int f]/\Q (.str (li c l n f)) H
def qZ(near far:Int)(e:Kb)(age c:Int):Str×Kb:=
 if c<=e.last then("old",e)else if c<=e.last+near then("near",⟨age,c,none⟩)
 else if c<=e.last+far then(if e.wt=some (age,c-1)then("near",⟨age,c,none⟩)else("far",⟨e.age,e.last,some (age,c)⟩))else("beyond",e)
def jx:Sp:=fun vs H Q _=>∃(a:Addr) (e:Kb) (age c near far:Int),vs=[.ref a,.int age,.int c,.int near,.int far]/\BuAt H a e/\
 ∀q a' H',Same H H'->H' q=some (.tup [.str (qZ near far e age c).1,.ref a'])->BuAt H' a' (qZ near far e age c).2->Q (.ref q) H'
def zP(D:Dr)(age:Int):Bool:=decide (D.least<=age)&&decide (age<D.kss.length)
def zv(D:Dr)(e:Kb)(age:Int):Bool:=zP D age&&decide (e.age<=age)
def qN(D:Dr)(nm:Str)(age:Int)(r:Option (Int×Int)):List V×Kw:=
 match D.kn.lookup nm with
 |none=>([.str "held",.str "unknown"],D.kn)
 |some e=>if zv D e age=true then(match r with
   |none=>([.str "held",.str "false"],D.kn)
   |some (c,d)=>if(qZ D.near D.far e age c).1="near" then([.str "open",.str nm,.int d],qU D.kn nm (qZ D.near D.far e age c).2)else([.str "held",.str (qZ D.near D.far e age c).1],qU D.kn nm (qZ D.near D.far e age c).2))
  else([.str "held",.str "age"],D.kn)
structure DrOk(D:Dr):Prop where
 tp:D.t.Perm digs
 l0:0<=D.least
 kl:D.kss.length<=8
 nl:D.kn.length<=60
 nd:(D.kn.map (·.1)).Nodup
section
variable(K:Frag)(C:Addr)
def j4:Sp:=fun vs H Q _=>∃(p ta hk bd lg:Addr) (n:Nat) (D:Dr),vs=[.ref p]/\DoorAt K C H p ta hk bd lg n D/\Q (.bl (decide (D.most<=(D.kn.length:Int)))) H
def cE:Sp:=fun vs H Q _=>∃(p ta hk bd lg:Addr) (n:Nat) (D:Dr) (age:Int),vs=[.ref p,.int age]/\DoorAt K C H p ta hk bd lg n D/\Q (.bl (zP D age)) H
def et:Sp:=fun vs H Q _=>∃(p ta hk bd lg a:Addr) (n:Nat) (D:Dr) (e:Kb) (age:Int),vs=[.ref p,.ref a,.int age]/\DoorAt K C H p ta hk bd lg n D/\BuAt H a e/\Q (.bl (zv D e age)) H
def pR:Sp:=fun vs H Q _=>∃(p ta hk bd lg:Addr) (n:Nat) (D:Dr) (nm:Str),vs=[.ref p,.str nm]/\DoorAt K C H p ta hk bd lg n D/\
 (D.kn.lookup nm=none->Q .non H)/\(∀e a,D.kn.lookup nm=some e->BuAt H a e->Q (.ref a) H)
def jL:Sp:=fun vs H Q _=>∃(p ta hk bd lg a:Addr) (n:Nat) (D:Dr) (e:Kb) (age c:Int),vs=[.ref p,.ref a,.int age,.int c]/\DoorAt K C H p ta hk bd lg n D/\BuAt H a e/\zv D e age=true/\
 ∀q a' H',Same H H'->H' q=some (.tup [.str (qZ D.near D.far e age c).1,.ref a'])->BuAt H' a' (qZ D.near D.far e age c).2->Q (.ref q) H'
def PrAt(H:Hp)(pr:Addr)(nm:Str)(age:Int)(ds:List Int):Prop:=∃pc,H pr=some (.tup [.str nm,.int age,.ref pc])/\H pc=some (.tup (ds.map V.int))
def Ql(D:Dr)(age:Int):List Int:=D.kss.getD age.toNat []
def fQ:Sp:=fun vs H Q _=>∃(p ta hk bd lg pr:Addr) (n:Nat) (D:Dr) (nm:Str) (age:Int) (ds:List Int),vs=[.ref p,.ref pr]/\DoorAt K C H p ta hk bd lg n D/\DrOk D/\PrAt H pr nm age ds/\Q0 nm/\ds.length=5/\q0 ds/\
 ∀q H',Mv [bd] H H'->H' q=some (.tup (qN D nm age (QN D.t (Ql D age) nm ds)).1)->DoorAt K C H' p ta hk bd lg n {D with kn:=(qN D nm age (QN D.t (Ql D age) nm ds)).2}->Q (.ref q) H'
end
theorem PrAt.mv{S:List Addr}{H H':Hp}{pr:Addr}{nm:Str}{age:Int}{ds:List Int}(m:Mv S H H')(n:NT S H)(h:PrAt H pr nm age ds):PrAt H' pr nm age ds:=let⟨pc,e1,e2⟩:=h;⟨pc,m.tup n e1,m.tup n e2⟩
theorem PrAt.same{H H':Hp}{pr:Addr}{nm:Str}{age:Int}{ds:List Int}(s:Same H H')(h:PrAt H pr nm age ds):PrAt H' pr nm age ds:=let⟨pc,e1,e2⟩:=h;⟨pc,s _ _ e1,s _ _ e2⟩
theorem fA{X:Cx}:q8 X (compareOp .LtE) (fun x y H Q=>∃i j,x= .str i/\y= .str j/\Q (.bl (!decide (j.cps.toList<i.cps.toList))) H):=by
 intro pins s σ H x y v u Q I rx ry h
 obtain⟨i,j,rfl,rfl,q⟩:=h
 obtain⟨t,rfl⟩:=rx
 obtain⟨t',rfl⟩:=ry
 exact PySem.P.le_str (qJ I q rfl)
theorem oh{js:List Nat}{te:TE}{σ:L2.St}{H:Hp}{Q:VK}{x:Str}(hn:x.cps.size<=sizeLine)(Pv:Nat->List V->Hp->Prop)(h0:Pv 0 [] H)
  (hs:∀i ys H c,x.cps[i]? =some c->ys.length=i->Pv i ys H->te (some (.str ⟨#[c]⟩)::Q6 js σ) H fun v H3=>Pv (i+1) (ys++[v]) H3)
  (hd:∀ys H,ys.length=x.cps.size->Pv x.cps.size ys H->∀p,H p=none->Q (.ref p) (upd H p (.lst ys))):c8 (rA x) js te σ H Q:=
 ap hn (fun i v=>∃c,x.cps[i]? =some c/\v= .str ⟨#[c]⟩) Pv h0 (fun i ys H hi p=>hi) (fun ys H p=>Nat.le_refl _) (fun i ys H v H' _ p y=>y) (fun i ys H v hi hl p hx=>by
  obtain⟨c,hc,rfl⟩:=hx
  exact hs i ys H c hc hl p) hd
theorem ow{ds:List Int}(h:q0 ds):(ds.map V.int).all aq=true:=by
 rw[List.all_eq_true]
 intro x hx
 obtain⟨i,hi,rfl⟩:=List.mem_map.mp hx
 have:=h i hi
 show(decide (0<=i)&&decide (i<16))=true
 rw[decide_eq_true this.1,decide_eq_true this.2];rfl
theorem Ze{c:Bool}{a b:Prop}(h:c=true)(x:a):if c=true then a else b:=by rw[if_pos h];exact x
theorem Zf{c:Bool}{a b:Prop}(h:c=false)(x:b):if c=true then a else b:=by rw[if_neg (by rw[h];intro z;cases z)];exact x
theorem zW{K:Frag}{C p dx:Addr}{H:Hp}{fs:List (Str×V)}{f:Str}{v:V}(c:Cls K C)(e:H p=some (.ins C dx fs))(n:NoAttr K C f)(i:Nat)(hns:fs.map (·.1)=dN.take i:=by rfl)(hn:f∉dN.take i:=by decide +kernel):
  cG K H p f v (upd H p (.ins C dx (fs++[(f,v)]))):=⟨C,dx,fs,e,c,n,by
  have h1:fs.length=(dN.take i).length:=by rw[<- hns,List.length_map]
  have h2:(dN.take i).length<=8:=by rw[List.length_take];exact Nat.min_le_right _ _
  omega,by rw[ii (by rw[hns];exact hn)]⟩
theorem KsAt.same{K:Frag}{H H':Hp}{b:Addr}{kss:List (List Int)}(s:Same H H')(h:KsAt K H b kss):KsAt K H' b kss:=h.mv (S:=[]) s.mv (fun c h=>nomatch h) (fun h=>nomatch h)
theorem Mv.nfree{S:List Addr}{H H':Hp}{x:Addr}(m:Mv S H H')(hn:x∉S)(h:H' x=none):H x=none:=by
 cases e:H x with
 |none=>rfl
 |some o=>rw[m x o hn e]at h;cases h
theorem KsAt.at{K:Frag}{H:Hp}{hk:Addr}{D:Dr}{age:Int}(h:KsAt K H hk D.kss)(h0:0<=age)(h1:age<D.kss.length):∃(xs:List V) (ak:Addr),H hk=some (.lst xs)/\QX xs age=some (.ref ak)/\SqT K H ak ((Ql D age).map V.int):=by
 obtain⟨as,e,l,r⟩:=h
 obtain⟨i,rfl⟩:∃i:Nat,age=(i:Int):=⟨age.toNat,by omega⟩
 have hi:i<D.kss.length:=by omega
 have hi':i<as.length:=by omega
 refine⟨_,as[i],e,QH (by rw[List.getElem?_map,List.getElem?_eq_getElem hi'];rfl),?_⟩
 have:=r i as[i] D.kss[i] (List.getElem?_eq_getElem hi') (List.getElem?_eq_getElem hi)
 unfold Ql
 rw[Int.toNat_natCast,List.getD_eq_getElem?_getD,List.getElem?_eq_getElem hi]
 exact this
theorem f7{D:Dr}{e:Kb}{age:Int}(h:zv D e age=true)(h0:0<=D.least):0<=age/\age<D.kss.length:=by
 unfold zv zP at h
 rw[Bool.and_eq_true,Bool.and_eq_true]at h
 have h1:=of_decide_eq_true h.1.1
 have h2:=of_decide_eq_true h.1.2
 omega
theorem DoorAt.putK{K:Frag}{C:Addr}{H H':Hp}{p ta hk bd lg:Addr}{n:Nat}{D:Dr}{kn':Kw}(b:DoorAt K C H p ta hk bd lg n D)(m:Mv [bd] H H')(kb:KnAt H' bd kn'):DoorAt K C H' p ta hk bd lg n {D with kn:=kn'}:=by
 obtain⟨dx,e⟩:=b.ob
 obtain⟨f,hd,_⟩:=b.kb
 obtain⟨rs,el,l⟩:=b.lo
 obtain⟨as,eh,_⟩:=id b.ks
 have nt:NT [bd] H:=NT.one hd trivial
 exact⟨⟨dx,m _ _ (qK (qO e hd (by intro z;cases z))) e⟩,m.sqt nt b.tb,b.ks.mv m nt (qK (qO eh hd (by intro z;cases z))),kb,⟨rs,m _ _ (qK (qO el hd (by intro z;cases z))) el,l⟩,b.ne⟩
theorem DoorAt.putL{K:Frag}{C:Addr}{H:Hp}{p ta hk bd lg r:Addr}{n:Nat}{D:Dr}{rs:List Addr}(b:DoorAt K C H p ta hk bd lg n D)(el:H lg=some (.lst (rs.map V.ref)))(hl:rs.length<=n):DoorAt K C (upd H lg (.lst (rs.map V.ref++[.ref r]))) p ta hk bd lg (n+1) D:=by
 obtain⟨dx,e⟩:=b.ob
 obtain⟨f,hd,_⟩:=id b.kb
 have nt:NT [lg] H:=NT.one el trivial
 have m:Mv [lg] H (upd H lg (.lst (rs.map V.ref++[.ref r]))):=Mv.upd1
 exact⟨⟨dx,m _ _ (qK (qO e el (by intro z;cases z))) e⟩,m.sqt nt b.tb,b.ks.mv m nt (qK b.ne.symm),b.kb.mv m nt (qK (qO hd el (by intro z;cases z))),⟨rs++[r],by rw[qc,List.map_append];rfl,by rw[List.length_append];exact Nat.succ_le_succ hl⟩,b.ne⟩
section
variable(K:Frag)(C:Addr)
end
theorem Eqd.pair{H:Hp}{a b:Addr}{z:Str}{i:Int}(h1:H a=some (.tup [.str z,.int i]))(h2:H b=some (.tup [.str z,.int i])):Eqd H 1 (.ref a) (.ref b):=
 .tup (n:=0) (.inl h1) (.inl h2) rfl fun j x y ex ey=>by
  match j,ex,ey with
  |0,ex,ey=>cases ex;cases ey;exact .str _ _
  |1,ex,ey=>cases ex;cases ey;exact .int _ _
  |j+2,ex,ey=>cases ex
abbrev pW(a b:Str):Prop:=a.cps.toList<=b.cps.toList
theorem uj{a b:Str}(h:ltCps b.cps.toList a.cps.toList=false):pW a b:=by
 rw[ltCps_eq]at h
 exact List.not_lt.mp (of_decide_eq_false h)
theorem ft:∀{l:List Str} {p:Str},risingS p l=true->(p::l).Pairwise pW
 | [],p,_=>by simp
 |x::r,p,h=>by
  have h':(!ltCps x.cps.toList p.cps.toList&&risingS x r)=true:=h
  rw[Bool.and_eq_true,Bool.not_eq_true']at h'
  have ih:=ft h'.2
  have hpx:=uj h'.1
  refine List.pairwise_cons.mpr ⟨fun y hy=>?_,ih⟩
  rcases List.mem_cons.mp hy with rfl|hy
  ·exact hpx
  ·exact List.le_trans hpx ((List.pairwise_cons.mp ih).1 y hy)
theorem cZ{l:List Str}(h:sortedS l=true):l.Pairwise pW:=by
 cases l with
 |nil=>exact .nil
 |cons x r=>exact ft h
theorem bY{l a b:List Str}(pa:a.Perm l)(sa:sortedS a=true)(pb:b.Perm l)(sb:sortedS b=true):a=b:=by
 refine List.Perm.eq_of_pairwise (le:=pW) (fun x y _ _ h1 h2=>?_) (cZ sa) (cZ sb) (pa.trans pb.symm)
 have e:x.cps.toList=y.cps.toList:=List.le_antisymm h1 h2
 cases x with
 |mk u=>cases y with
  |mk v=>
   have:u=v:=Array.toList_inj.mp e
   rw[this]
def ShAt(H:Hp)(q:Addr)(ss:List Str)(kn:Kw):Prop:=∃as:List Addr,H q=some (.tup (as.map V.ref))/\as.length=ss.length/\∀(i:Nat) (a:Addr) (nm:Str) (e:Kb),as[i]? =some a->ss[i]? =some nm->kn.lookup nm=some e->∃v,H a=some (.tup [.str nm,.int e.age,.int e.last,v])/\Wt H v e.wt
def cv(K:Frag)(C:Addr):Sp:=fun vs H Q _=>∃(p ta hk bd lg:Addr) (n:Nat) (D:Dr),vs=[.ref p]/\DoorAt K C H p ta hk bd lg n D/\DrOk D/\
 ∀q ss H',Same H H'->ss.Perm (D.kn.map (·.1))->sortedS ss=true->ShAt H' q ss D.kn->Q (.ref q) H'
theorem tG{X:Cx}{K:Frag}{e:Expr}{f:Str}{pos:Pos}{ta:TE}(hK:X.K=K)(he:QE X e ta)(hb:attributeBase e f X.env (eval e X.env)=eval e X.env:=by rfl):QE X (.Attribute e f pos) (pQ K ta f):=by
 subst hK
 exact qH he hb
theorem jQ(kn:Kw)(f:Str->Addr):(zO kn f).map (·.1)=(kn.map (·.1)).map Sum.inr:=by
 unfold zO
 rw[List.map_map,List.map_map];rfl
theorem Qr{kn:Kw}{nm:Str}(h:nm∈kn.map (·.1)):∃e,kn.lookup nm=some e:=Option.isSome_iff_exists.mp (lookup_mem_iff.mpr h)
def ze(D:Dr)(mt mk kd:Addr):List (qG×V):=[(.inr "table",.ref mt),(.inr "keys",.ref mk),(.inr "near",.int D.near),(.inr "far",.int D.far),(.inr "most",.int D.most),(.inr "closed",.int D.least),(.inr "known",.ref kd)]
def lmK:List qG:=[.inr "table",.inr "keys",.inr "near",.inr "far",.inr "most",.inr "closed",.inr "known"]
theorem vE:lmK.Nodup:=by decide +kernel
theorem iP(D:Dr)(mt mk kd:Addr):((ze D mt mk kd).map (·.1)).Nodup:=vE
structure LmAt(K:Frag)(H:Hp)(m mt mk kd:Addr)(D:Dr):Prop where
 di:H m=some (.dK (ze D mt mk kd))
 tb:SqT K H mt (D.t.map V.int)
 ks:KsAt K H mk D.kss
 kb:KnAt H kd D.kn
 ne:m≠kd
section
variable{K:Frag}{H H':Hp}{m mt mk kd:Addr}{D:Dr}
theorem LmAt.get(a:LmAt K H m mt mk kd D)(i:Nat){k:qG}{v:V}(h:(ze D mt mk kd)[i]? =some (k,v)):DGet H m (kV k) (some v):=by
 have:=DGet.k (k:=k) a.di
 rw[ju i h (iP ..)]at this
 exact this
theorem LmAt.g_table(a:LmAt K H m mt mk kd D):DGet H m (.str "table") (some (.ref mt)):=a.get (k:= .inr "table") 0 rfl
theorem LmAt.g_keys(a:LmAt K H m mt mk kd D):DGet H m (.str "keys") (some (.ref mk)):=a.get (k:= .inr "keys") 1 rfl
theorem LmAt.g_near(a:LmAt K H m mt mk kd D):DGet H m (.str "near") (some (.int D.near)):=a.get (k:= .inr "near") 2 rfl
theorem LmAt.g_far(a:LmAt K H m mt mk kd D):DGet H m (.str "far") (some (.int D.far)):=a.get (k:= .inr "far") 3 rfl
theorem LmAt.g_most(a:LmAt K H m mt mk kd D):DGet H m (.str "most") (some (.int D.most)):=a.get (k:= .inr "most") 4 rfl
theorem LmAt.g_closed(a:LmAt K H m mt mk kd D):DGet H m (.str "closed") (some (.int D.least)):=a.get (k:= .inr "closed") 5 rfl
theorem LmAt.g_known(a:LmAt K H m mt mk kd D):DGet H m (.str "known") (some (.ref kd)):=a.get (k:= .inr "known") 6 rfl
theorem LmAt.mv{S:List Addr}(a:LmAt K H m mt mk kd D)(v:Mv S H H')(n:NT S H)(h1:m∉S)(h2:mk∉S)(h3:kd∉S):LmAt K H' m mt mk kd D:=⟨v _ _ h1 a.di,v.sqt n a.tb,a.ks.mv v n h2,a.kb.mv v n h3,a.ne⟩
theorem LmAt.same(a:LmAt K H m mt mk kd D)(s:Same H H'):LmAt K H' m mt mk kd D:=a.mv (S:=[]) s.mv (fun c h=>nomatch h) (fun h=>nomatch h) (fun h=>nomatch h) (fun h=>nomatch h)
theorem LmAt.putK{kn':Kw}(a:LmAt K H m mt mk kd D)(v:Mv [kd] H H')(kb:KnAt H' kd kn'):LmAt K H' m mt mk kd {D with kn:=kn'}:=by
 obtain⟨f,hd,_⟩:=a.kb
 obtain⟨as,eh,_⟩:=id a.ks
 have nt:NT [kd] H:=NT.one hd trivial
 exact⟨v _ _ (qK a.ne) a.di,v.sqt nt a.tb,a.ks.mv v nt (qK (qO eh hd (by intro z;cases z))),kb,a.ne⟩
end
theorem gI:∀(more kvs:List (qG×V)),((kvs++more).map (·.1)).Nodup->QQ kvs more=kvs++more
 | [],kvs,_=>by simp [QQ]
 |p::r,kvs,nd=>by
  have hn:p.1∉kvs.map (·.1):=fun z=>by
   rw[List.map_append,List.map_cons]at nd
   exact(List.nodup_append.mp nd).2.2 _ z _ (List.mem_cons_self ..) rfl
  show QQ (putK kvs p.1 p.2) r=_
  rw[rX hn,gI r (kvs++[(p.1,p.2)]) (by rw[List.append_assoc];exact nd),List.append_assoc]
  rfl
theorem ph(D:Dr)(mt mk kd:Addr):QQ [] (ze D mt mk kd)=ze D mt mk kd:=by
 have:=gI (ze D mt mk kd) [] (iP D mt mk kd)
 rwa [List.nil_append]at this
def lawNames:List Str:=["a","ab","b","ba","abcdefgh","abcdefgi","gate","car","aa","z","zz","carx"]
def jo:Sp:=fun vs H Q _=>∃(b:Addr) (many c:Nat),vs=[.ref b,.int (many:Int)]/\BoxC H b c/\c<100000000/\many<=12/\∀l (ns:List Str) H',GrC b (c+many) H H'->H l=none->H' l=some (.lst (ns.map V.str))->ns.length=many->ns.Nodup->(∀z∈ns,Q0 z)->Q (.ref l) H'
def ib:Sp:=fun vs H Q _=>∃(b:Addr) (c:Nat),vs=[.ref b]/\BoxC H b c/\c<100000000/\∀q (near far:Int) H',GrC b (c+2) H H'->H' q=some (.tup [.int near,.int far])->1<=near->near<=far->far<=200->Q (.ref q) H'
def kh(D:Dr):Prop:=D.t.Perm digs/\D.least=0/\1<=D.kss.length/\D.kss.length<=8/\1<=D.near/\D.near<=D.far/\D.far<=2000/\1<=D.most/\D.most<=12/\D.kn=[]
def cu(K:Frag):Sp:=fun vs H Q _=>∃(m mt mk kd:Addr) (D:Dr) (nm:Str) (age c d:Int),vs=[.ref m,.str nm,.int age,.int c,.int d]/\LmAt K H m mt mk kd D/\D.t.length=16/\Q0 nm/\0<=age/\age<D.kss.length/\0<=c/\c<4096/\aR d/\
 ∀pr H',Same H H'->PrAt H' pr nm age (Zk D.t (Ql D age) nm c d)->Q (.ref pr) H'
theorem lh(ms:List Str)(k:Nat):(ms.map V.str).eraseIdx k=(ms.eraseIdx k).map V.str:=by
 rw[List.eraseIdx_eq_take_drop_succ,List.eraseIdx_eq_take_drop_succ,List.map_append,List.map_take,List.map_drop]
theorem nK{ms zs:List Str}{k:Nat}(h:k<ms.length):(zs++[ms[k]]++ms.eraseIdx k).Perm (zs++ms):=by
 rw[List.append_assoc]
 refine List.Perm.append_left zs ?_
 rw[List.eraseIdx_eq_take_drop_succ]
 have e:ms=ms.take k++ms[k]::ms.drop (k+1):=by rw[<- List.drop_eq_getElem_cons h,List.take_append_drop]
 refine List.Perm.trans (List.perm_middle (a:=ms[k]) (l₁:=ms.take k) (l₂:=ms.drop (k+1))).symm ?_
 rw[<- e]
structure Ad where
 p:Addr
 ta:Addr
 hk:Addr
 bd:Addr
 lg:Addr
 m:Addr
 mt:Addr
 ml:Addr
 kd:Addr
structure Bo(K:Frag)(C:Addr)(H:Hp)(a:Ad)(n:Nat)(D:Dr):Prop where
 dr:DoorAt K C H a.p a.ta a.hk a.bd a.lg n D
 lm:LmAt K H a.m a.mt a.ml a.kd D
 n1:a.bd≠a.m
 n2:a.bd≠a.kd
 n3:a.lg≠a.ml
 ok:DrOk D
section
variable{K:Frag}{C:Addr}{H H':Hp}{a:Ad}{n:Nat}{D:Dr}
theorem Bo.mv{S:List Addr}(b:Bo K C H a n D)(v:Mv S H H')(nt:NT S H)(h1:a.p∉S)(h2:a.hk∉S)(h3:a.bd∉S)(h4:a.lg∉S)(h5:a.m∉S)(h6:a.ml∉S)(h7:a.kd∉S):Bo K C H' a n D:=
 ⟨b.dr.mv v nt h1 h2 h3 h4,b.lm.mv v nt h5 h6 h7,b.n1,b.n2,b.n3,b.ok⟩
theorem Bo.same(b:Bo K C H a n D)(s:Same H H'):Bo K C H' a n D:=b.mv (S:=[]) s.mv (fun c h=>nomatch h) (fun h=>nomatch h) (fun h=>nomatch h) (fun h=>nomatch h) (fun h=>nomatch h) (fun h=>nomatch h) (fun h=>nomatch h) (fun h=>nomatch h)
theorem i7{as:List Addr}{ys:List V}{y:V}(i:Nat)(hy:ys[i]? =some y)(h:∀a,y≠ .ref a):HO.lst (as.map V.ref)≠HO.lst ys:=tm (f:=id) i hy h
end
section
variable{K:Frag}{C:Addr}{H H':Hp}{a:Ad}{n:Nat}{D:Dr}{kl:Kw}
end
structure KbOk(D:Dr)(e:Kb):Prop where
 a0:0<=e.age
 a1:e.age<D.kss.length
 l0:0<=e.last
 l1:e.last<4096
 w:∀x c,e.wt=some (x,c)->0<=c/\c<4096
theorem iw{kn:Kw}{nm:Str}{x:Kb}{e:Str×Kb}(h:e∈qU kn nm x):e∈kn\/e=(nm,x):=by
 unfold qU at h
 split at h
 ·obtain⟨p,hp,rfl⟩:=List.mem_map.mp h
  by_cases y:p.1=nm
  ·rw[if_pos y];exact .inr rfl
  ·rw[if_neg y];exact .inl hp
 ·rcases List.mem_append.mp h with h|h
  ·exact .inl h
  ·exact .inr (List.mem_singleton.mp h)
section
variable{K:Frag}{C:Addr}{H0 H H':Hp}{b nl:Addr}{ns:List Str}{a:Ad}{D:Dr}{nb nb' i:Nat}{kn:Kw}
theorem jg(hn:1<=ns.length)(x y z:Int):HO.lst (ns.map V.str)≠lu x y z:=by
 cases ns with
 |nil=>cases hn
 |cons u r=>exact uB 0 (x:= .str u) (y:= .int x) rfl rfl (by intro z;cases z)
end
def wa(i j k:Nat)(ta:TA):TS:=fun D σ H=>ta σ H fun vs H1=>∃v w u,vs=[v,w,u]/\D.nx (((σ.set k (some u)).set j (some w)).set i (some v)) H1
theorem rO{X:Cx}{pos:Pos}{i j k:Nat}{x y z:Str}{a b c:Expr}{ta:TA}{px py pz pt:Pos}{kt k2 pt2}(hc:X.calm=true)(hN:X.N.Nodup)(hi:X.N[i]? =some x)(hj:X.N[j]? =some y)(hk:X.N[k]? =some z)
  (hx:X.env.scope.names.lookup x=some .local)(hy:X.env.scope.names.lookup y=some .local)(hz:X.env.scope.names.lookup z=some .local)(ha:QA X [a,b,c] ta)
  (hw:swappedStores [.Tuple [.Name x px,.Name y py,.Name z pz] kt pt] (.Tuple [a,b,c] k2 pt2) X.env=pure (some [x,y,z]):=by rfl)
  (hs:swapsWithSole [.Tuple [.Name x px,.Name y py,.Name z pz] kt pt] (.Tuple [a,b,c] k2 pt2) pos.line X.env=pure false:=by rfl):
  QS X (.Assign [.Tuple [.Name x px,.Name y py,.Name z pz] kt pt] (.Tuple [a,b,c] k2 pt2) pos) (wa i j k ta):=⟨by
 intro pins s σ H D I h
 rw[exec_Assign_arm]
 refine wpAny_bind (wpAny_standAt ?_)
 rw[hs]
 refine wpAny_bind (wpAny_pure ?_)
 rw[if_neg (by decide)]
 refine wpAny_bind (Tuple_ (qt (ha.h _ pins s σ H _ I h) fun us s1 ⟨vs,H1,I1,r1,q1⟩=>?_))
 obtain⟨v,w,u,e1,q1⟩:=q1
 subst e1
 obtain⟨u1,u2,u3,rfl,rv,rw',ru⟩:∃u1 u2 u3,us=[u1,u2,u3]/\RelV v u1/\RelV w u2/\RelV u u3:=by
  cases r1 with
  |cons p q=>
   cases q with
   |cons p' q'=>
    cases q' with
    |cons p'' q''=>
     cases q''
     exact⟨_,_,_,rfl,p,p',p''⟩
 refine wpAny_newObj_type ?_ (by show 3<=sizeLine;decide)
 have I2:L2.Inv X pins σ H1 {s1 with heap:=s1.heap.push {cls:= .type "tuple",data:= .seq [u1,u2,u3].toArray}}:=I1.kept (t':=s1.toks) fun b o e=>Heap.get?_push_of_some _ e
 rw[hw]
 refine wpAny_bind (wpAny_pure ?_)
 show wpAny (model X.prog X.w) X.A (do rule "assign.swapped-stores";let items <- unpackItems (.ref s1.heap.objs.size) 3 none;assignInOrder [fun v=>bindName X.env z v,fun v=>bindName X.env y v,fun v=>bindName X.env x v] items.reverse;pure Flow.next) _ _ _
 refine wpAny_bind (wpAny_rule (wpAny_bind (unpackItems_tuple (items:= #[u1,u2,u3]) (I.ok.hd hc) (IsTup.new s1.heap _) fun h' hx'=>?_)))
 have I3:=I2.kept (h':=h') (t':=s1.toks) fun b o e=>hx' b o (Nat.ne_of_lt (Heap.lt_size e)) e
 show wpAny _ _ (assignInOrder [fun v=>bindName X.env z v,fun v=>bindName X.env y v,fun v=>bindName X.env x v] [u3,u2,u1] >>= fun _=>pure Flow.next) _ _ _
 refine wpAny_bind (assignInOrder_cons (wpAny_bindName (Qv I3 hN hk (.inl hz) ru (fun s2 I4=>?_) (.inr hz))))
 refine assignInOrder_cons (wpAny_bindName (Qv I4 hN hj (.inl hy) rw' (fun s3 I5=>?_) (.inr hy)))
 refine assignInOrder_cons (wpAny_bindName (Qv I5 hN hi (.inl hx) rv (fun s4 I6=>assignInOrder_nil (wpAny_pure ?_)) (.inr hx)))
 exact⟨_,H1,I6,q1⟩⟩
theorem il{kn:Kw}{nm:Str}{e:Kb}:∀{l:Kw},(∀p∈l,p.1=nm->p=(nm,e))->l.map (fun p=>if p.1=nm then(nm,e)else p)=l
 | [],_=>rfl
 |p::r,h=>by
  rw[List.map_cons,il (kn:=kn) fun q hq=>h q (List.mem_cons_of_mem _ hq)]
  by_cases y:p.1=nm
  ·rw[if_pos y,h p (List.mem_cons_self ..) y]
  ·rw[if_neg y]
theorem mU{kn:Kw}{nm:Str}{e:Kb}(nd:(kn.map (·.1)).Nodup)(h:kn.lookup nm=some e):qU kn nm e=kn:=by
 unfold qU
 rw[if_pos (lookup_mem_iff.mp (by rw[h];rfl))]
 exact il (kn:=kn) (ZW nd h)
def rb(K:Frag):Sp:=fun vs H Q _=>∃(m mt mk kd:Addr) (D:Dr) (nm:Str) (age c d:Int),vs=[.ref m,.str nm,.int age,.int c,.int d]/\LmAt K H m mt mk kd D/\DrOk D/\
 ∀q H',Mv [kd] H H'->H' q=some (.tup (qN D nm age (some (c,d))).1)->LmAt K H' m mt mk kd {D with kn:=(qN D nm age (some (c,d))).2}->Q (.ref q) H'
def gK(K:Frag):Sp:=fun vs H Q _=>∃(b m mt mk kd:Addr) (D:Dr) (nm:Str) (n:Nat),vs=[.ref b,.ref m,.str nm]/\BoxC H b n/\n<1000000/\LmAt K H m mt mk kd D/\∀c H',GrC b (n+2) H H'->0<=c->c<4096->Q (.int c) H'
def mw(K:Frag):Sp:=fun vs H Q _=>∃(b m mt mk kd:Addr) (D:Dr) (nm:Str) (n:Nat),vs=[.ref b,.ref m,.str nm]/\BoxC H b n/\n<1000000/\LmAt K H m mt mk kd D/\(∀e∈D.kn,KbOk D e.2)/\1<=D.kss.length/\D.kss.length<=8/\∀(age:Int) H',GrC b (n+2) H H'->0<=age->age<(D.kss.length:Int)->Q (.int age) H'
def jC(K:Frag)(C:Addr):Sp:=fun vs H Q _=>∃(a:Ad) (n:Nat) (D:Dr),vs=[.ref a.p,.ref a.m]/\Bo K C H a n D/\∀H',Same H H'->Q (.bl true) H'
theorem jG{zs:List Int}{r:Int}{z:Int}(h:QX zs r=some z):QX (zs.map V.int) r=some (.int z):=by
 unfold QX at h⊢
 rw[List.length_map]
 cases e:Z4 zs.length r with
 |none=>rw[e]at h;cases h
 |some j=>
  rw[e]at h
  have h':zs[j]? =some z:=h
  show(zs.map V.int)[j]? =_
  rw[List.getElem?_map,h'];rfl
theorem Wt.eqd{H:Hp}{v1 v2:V}{o:Option (Int×Int)}(h1:Wt H v1 o)(h2:Wt H v2 o):Eqd H 1 v1 v2:=by
 cases o with
 |none=>
  have e1:v1= .non:=h1
  have e2:v2= .non:=h2
  subst e1 e2
  exact .non _
 |some p=>
  obtain⟨x,c⟩:=p
  obtain⟨w1,rfl,e1⟩:=h1
  obtain⟨w2,rfl,e2⟩:=h2
  exact .tup (n:=0) (.inl e1) (.inl e2) rfl fun j a b ea eb=>by
   match j,ea,eb with
   |0,ea,eb=>cases ea;cases eb;exact .int _ _
   |1,ea,eb=>cases ea;cases eb;exact .int _ _
   |j+2,ea,eb=>cases ea
theorem Eqd.four{H:Hp}{a b:Addr}{z:Str}{i l:Int}{v1 v2:V}(h1:H a=some (.tup [.str z,.int i,.int l,v1]))(h2:H b=some (.tup [.str z,.int i,.int l,v2]))(h:Eqd H 1 v1 v2):Eqd H 2 (.ref a) (.ref b):=
 .tup (n:=1) (.inl h1) (.inl h2) rfl fun j x y ex ey=>by
  match j,ex,ey with
  |0,ex,ey=>cases ex;cases ey;exact .str _ _
  |1,ex,ey=>cases ex;cases ey;exact .int _ _
  |2,ex,ey=>cases ex;cases ey;exact .int _ _
  |3,ex,ey=>cases ex;cases ey;exact h
  |j+4,ex,ey=>cases ex
theorem kQ{kn:Kw}{nm:Str}{e x:Kb}(h:kn.lookup nm=some e):(qU kn nm x).map (·.1)=kn.map (·.1):=by
 rw[aP,if_pos (lookup_mem_iff.mp (by rw[h];rfl))]
theorem oR{D:Dr}{e:Kb}{age c:Int}(he:KbOk D e)(a0:0<=age)(a1:age<D.kss.length)(c0:0<=c)(c1:c<4096):KbOk D (qZ D.near D.far e age c).2:=by
 unfold qZ
 split
 ·exact he
 ·split
  ·exact⟨a0,a1,c0,c1,fun x y z=>by(cases z)⟩
  ·split
   ·split
    ·exact⟨a0,a1,c0,c1,fun x y z=>by(cases z)⟩
    ·exact⟨he.a0,he.a1,he.l0,he.l1,fun x y z=>by cases z;exact⟨c0,c1⟩⟩
   ·exact he
theorem ou{D:Dr}{nm:Str}{age c d:Int}(ok:DrOk D)(kb:∀e∈D.kn,KbOk D e.2)(a0:0<=age)(a1:age<D.kss.length)(c0:0<=c)(c1:c<4096):
  DrOk {D with kn:=(qN D nm age (some (c,d))).2}/\(∀e∈(qN D nm age (some (c,d))).2,KbOk D e.2)/\(qN D nm age (some (c,d))).2.length=D.kn.length:=by
 have stay:DrOk {D with kn:=D.kn}/\(∀e∈D.kn,KbOk D e.2)/\D.kn.length=D.kn.length:=⟨ok,kb,rfl⟩
 unfold qN
 cases e1:D.kn.lookup nm with
 |none=>exact stay
 |some e=>
  have hk:=kQ (x:=(qZ D.near D.far e age c).2) e1
  have hl:(qU D.kn nm (qZ D.near D.far e age c).2).length=D.kn.length:=by
   have:=congrArg List.length hk
   rwa [List.length_map,List.length_map]at this
  have go:DrOk {D with kn:=qU D.kn nm (qZ D.near D.far e age c).2}/\(∀x∈qU D.kn nm (qZ D.near D.far e age c).2,KbOk D x.2)/\(qU D.kn nm (qZ D.near D.far e age c).2).length=D.kn.length:=
   ⟨⟨ok.tp,ok.l0,ok.kl,by show(qU D.kn nm _).length<=60;rw[hl];exact ok.nl,by show((qU D.kn nm _).map (·.1)).Nodup;rw[hk];exact ok.nd⟩,fun x hx=>by
    rcases iw hx with hx|hx
    ·exact kb x hx
    ·rw[hx];exact oR (kb _ (Qa e1)) a0 a1 c0 c1,hl⟩
  simp only
  split
  ·split
   ·exact go
   ·exact go
  ·exact stay
def kD(v:V):Prop:=(∃z,v= .str z)\/∃i,v= .int i
theorem lC(D:Dr)(nm:Str)(age:Int)(r:Option (Int×Int)):(∀v∈(qN D nm age r).1,kD v)/\(qN D nm age r).1.length<=3:=by
 have two:∀x y:Str,(∀v∈[V.str x,.str y],kD v)/\[V.str x,.str y].length<=3:=fun x y=>⟨fun v hv=>by
  simp only[List.mem_cons,List.not_mem_nil,or_false]at hv
  rcases hv with rfl|rfl
  ·exact .inl ⟨_,rfl⟩
  ·exact .inl ⟨_,rfl⟩,by show 2<=3;decide⟩
 unfold qN
 split
 ·exact two _ _
 ·split
  ·split
   ·exact two _ _
   ·split
    ·refine⟨fun v hv=>?_,by show 3<=3;decide⟩
     simp only[List.mem_cons,List.not_mem_nil,or_false]at hv
     rcases hv with rfl|rfl|rfl
     ·exact .inl ⟨_,rfl⟩
     ·exact .inl ⟨_,rfl⟩
     ·exact .inr ⟨_,rfl⟩
    ·exact two _ _
  ·exact two _ _
theorem Eqv.scal{H:Hp}{n:Nat}{a b:Addr}{xs:List V}(h1:Rd H a (.tup xs))(h2:Rd H b (.tup xs))(hz:xs.length<=sizeLine)(hs:∀v∈xs,kD v):Eqv H (n+1) (.ref a) (.ref b):=
 .tup h1 h2 rfl hz fun i x y ex ey=>by
  rw[ex]at ey
  cases ey
  rcases hs x (List.mem_of_getElem? ex)with⟨z,rfl⟩|⟨i,rfl⟩
  ·exact .str _ _
  ·exact .int _ _
section
variable{K:Frag}{H H':Hp}{m mt mk kd:Addr}{D:Dr}
theorem LmAt.p_put(l:LmAt K H m mt mk kd D)(i:Nat){k:qG}{u:V}(v:V)(h:(ze D mt mk kd)[i]? =some (k,u)):DPut H m (kV k) v (upd H m (.dK ((ze D mt mk kd).set i (k,v)))):=by
 have:=DPut.k (k:=k) (v:=v) l.di (Nat.lt_of_le_of_lt (show 7<=100 by decide) (by decide))
 rw[oP i h (iP ..)]at this
 exact this
theorem LmAt.to(l:LmAt K H m mt mk kd D){D':Dr}(ht:D'.t=D.t)(hk:D'.kss=D.kss)(hn:D'.kn=D.kn):LmAt K (upd H m (.dK (ze D' mt mk kd))) m mt mk kd D':=by
 obtain⟨f,ek,hb⟩:=id l.kb
 obtain⟨as,eh,_⟩:=id l.ks
 have nt:NT [m] H:=NT.one l.di trivial
 have v:Mv [m] H (upd H m (.dK (ze D' mt mk kd))):=Mv.upd1
 exact⟨qc,by rw[ht];exact v.sqt nt l.tb,by rw[hk];exact l.ks.mv v nt (qK (qO eh l.di (by intro z;cases z))),by rw[hn];exact l.kb.mv v nt (qK l.ne.symm),l.ne⟩
end
section
variable{js:List Nat}{tc:TT}{te:TE}{σ:L2.St}{H:Hp}{Q:VK}{K:Frag}
end
theorem aa{X:Cx}:qW X (.type "dict") (fun xs H Q=>∃(d:Addr) (kvs:List (qG×V)),xs=[.ref d]/\H d=some (.dK kvs)/\∀p,H p=none->Q (.ref p) (upd H p (.dK kvs))):=by
 intro pins s σ H xs us Q I r h
 obtain⟨d,kvs,rfl,hd,q⟩:=h
 obtain⟨u,rfl,ru⟩:=zF r
 cases ru
 exact oI I (.inl hd) fun p s' hp I'=>⟨.ref p,_,I',rfl,q p hp⟩
theorem DoorAt.setF{K:Frag}{C:Addr}{H:Hp}{p dx:Addr}{fs:List (Str×V)}{f:Str}{u v:V}(i:Nat)(c:Cls K C)(na:NoAttr K C f)(e:H p=some (.ins C dx fs))(hf:fs[i]? =some (f,u))(nd:(fs.map (·.1)).Nodup)(hl:fs.length<1000):
  cG K H p f v (upd H p (.ins C dx (fs.set i (f,v)))):=⟨C,dx,fs,e,c,na,hl,by rw[jE i hf nd]⟩
theorem _root_.L2.Same.put{H H1:Hp}{x:Addr}{o:HO}(s:Same H H1)(h:H x=none):Same H (upd H1 x o):=fun c u e=>by
 rw[qi (qo e h)];exact s c u e
section
variable{K:Frag}{C:Addr}{H:Hp}{p ta hk bd lg dx:Addr}{D:Dr}
theorem fc(U:DCx K C)(e:H p=some (.ins C dx (dF D ta hk bd lg)))(z:Int):cG K H p "least_age" (.int z) (upd H p (.ins C dx (dF {D with least:=z} ta hk bd lg))):=DoorAt.setF 5 U.cl U.n_least_age e rfl (gy ..) (by show 8<1000;decide)
theorem jd(U:DCx K C)(e:H p=some (.ins C dx (dF D ta hk bd lg)))(x:Addr):cG K H p "buttons" (.ref x) (upd H p (.ins C dx (dF D ta hk x lg))):=DoorAt.setF 6 U.cl U.n_buttons e rfl (gy ..) (by show 8<1000;decide)
theorem rQ(U:DCx K C)(e:H p=some (.ins C dx (dF D ta hk bd lg)))(x:Addr):cG K H p "log" (.ref x) (upd H p (.ins C dx (dF D ta hk bd x))):=DoorAt.setF 7 U.cl U.n_log e rfl (gy ..) (by show 8<1000;decide)
end
section
variable{K:Frag}{C:Addr}{H H':Hp}{a:Ad}{n:Nat}{D:Dr}{kl:Kw}
end
section
variable{K:Frag}{C:Addr}{H0 H H':Hp}{b nl nd:Addr}{nms:List Str}{a:Ad}{nb n L:Nat}{D:Dr}{kl:Kw}{g:Str->Option (Int×Int)}
end
section
variable{X:Cx}{o e:Expr}{apos cpos pos:Pos}{td ty:TE}
theorem gX(ho:QE X o td)(he:QE X e ty)(m:M1 X o "pop" apos e cpos:=by exact⟨rfl,rfl,rfl,rfl⟩):QE X (.Call (.Attribute o "pop" apos) [e] [] cpos) (mT td ty):=⟨pL ho.h he.h m⟩
end
theorem KnAt.drop{H:Hp}{d:Addr}{kn:Kw}(h:KnAt H d kn)(nm:Str):∃kvs,H d=some (.dK kvs)/\KnAt (upd H d (.dK (ZP kvs (Sum.inr nm:qG)))) d (kn.filter fun p=>decide (p.1≠nm)):=by
 obtain⟨⟨k0,f⟩,hd,hk,pm,nd⟩:=h
 have nt:NT [d] H:=NT.one hd trivial
 refine⟨_,hd,(k0.filter fun p=>decide (p.1≠nm),f),?_,fun e he=>?_,pm.filter _,?_⟩
 ·rw[qc]
  congr 2
  unfold ZP zO
  rw[List.filter_map]
  congr 1
  refine List.filter_congr fun p _=>?_
  simp only[Function.comp]
  rw[decide_eq_decide]
  exact⟨fun z w=>z (by rw[w]),fun z w=>z (by injection w)⟩
 ·exact(hk e (List.mem_filter.mp he).1).mv Mv.upd1 nt
 ·exact(List.filter_sublist.map _).nodup nd
theorem ShAt.same{H H':Hp}{q:Addr}{ss:List Str}{kn:Kw}(h:ShAt H q ss kn)(s:Same H H'):ShAt H' q ss kn:=let⟨as,e,l,r⟩:=h;⟨as,s _ _ e,l,fun i a nm x e1 e2 e3=>let⟨v,a1,a2⟩:=r i a nm x e1 e2 e3;⟨v,s _ _ a1,a2.mv (S:=[]) s.mv (fun c h=>nomatch h)⟩⟩
section
variable{K:Frag}{C:Addr}{H H':Hp}{b lf gn lr pl:Addr}{a:Ad}{nb n:Nat}{D:Dr}{kn kl kn1:Kw}{ps:List Pp}{left gone:List Str}
end
section
variable{K:Frag}{C:Addr}{H0 H H':Hp}{nl lr pl b:Addr}{nms:List Str}{a:Ad}{n nb nb':Nat}{D:Dr}{kn kn1:Kw}{ps:List Pp}
end
theorem ie{K:Frag}{H:Hp}{hk t:Addr}{as:List Addr}{kss:List (List Int)}{ks:List Int}(e:H hk=some (.lst (as.map V.ref)))(l:as.length=kss.length)(r:∀(i:Nat) (a:Addr) (ks:List Int),as[i]? =some a->kss[i]? =some ks->SqT K H a (ks.map V.int))(ht:SqT K H t (ks.map V.int)):KsAt K (upd H hk (.lst (as.map V.ref++[.ref t]))) hk (kss++[ks]):=by
 have nt:NT [hk] H:=NT.one e trivial
 refine⟨as++[t],by rw[qc,List.map_append];rfl,by rw[List.length_append,List.length_append,l];rfl,fun i a q e1 e2=>?_⟩
 rw[List.getElem?_append]at e1 e2
 rw[l]at e1
 by_cases hi:i<kss.length
 ·rw[if_pos hi]at e1 e2
  exact Mv.upd1.sqt nt (r i a q e1 e2)
 ·rw[if_neg hi]at e1 e2
  cases hz:i-kss.length with
  |zero=>
   rw[hz]at e1 e2
   cases e1
   cases e2
   exact Mv.upd1.sqt nt ht
  |succ k=>rw[hz]at e1;cases e1
theorem DoorAt.putH{K:Frag}{C:Addr}{H H':Hp}{p ta hk bd lg:Addr}{n:Nat}{D:Dr}{kss':List (List Int)}(b:DoorAt K C H p ta hk bd lg n D)(m:Mv [hk] H H')(ks:KsAt K H' hk kss'):DoorAt K C H' p ta hk bd lg n {D with kss:=kss'}:=by
 obtain⟨dx,e⟩:=b.ob
 obtain⟨f,hd,_⟩:=id b.kb
 obtain⟨rs,el,l⟩:=b.lo
 obtain⟨as,eh,_⟩:=id b.ks
 have nt:NT [hk] H:=NT.one eh trivial
 exact⟨⟨dx,m _ _ (qK (qO e eh (by intro z;cases z))) e⟩,m.sqt nt b.tb,ks,b.kb.mv m nt (qK (qO hd eh (by intro z;cases z))),⟨rs,m _ _ (qK b.ne) el,l⟩,b.ne⟩
theorem LmAt.putH{K:Frag}{H H':Hp}{m mt mk kd:Addr}{D:Dr}{kss':List (List Int)}(a:LmAt K H m mt mk kd D)(v:Mv [mk] H H')(ks:KsAt K H' mk kss'):LmAt K H' m mt mk kd {D with kss:=kss'}:=by
 obtain⟨f,hd,_⟩:=id a.kb
 obtain⟨as,eh,_⟩:=id a.ks
 have nt:NT [mk] H:=NT.one eh trivial
 exact⟨v _ _ (qK (qO a.di eh (by intro z;cases z))) a.di,v.sqt nt a.tb,ks,a.kb.mv v nt (qK (qO hd eh (by intro z;cases z))),a.ne⟩
theorem DoorAt.putLeast{K:Frag}{C:Addr}{H:Hp}{p ta hk bd lg:Addr}{n:Nat}{D:Dr}(b:DoorAt K C H p ta hk bd lg n D)(U:DCx K C)(z:Int):∃dx,cG K H p "least_age" (.int z) (upd H p (.ins C dx (dF {D with least:=z} ta hk bd lg)))/\Mv [p] H (upd H p (.ins C dx (dF {D with least:=z} ta hk bd lg)))/\DoorAt K C (upd H p (.ins C dx (dF {D with least:=z} ta hk bd lg))) p ta hk bd lg n {D with least:=z}:=by
 obtain⟨dx,e⟩:=b.ob
 obtain⟨f,hd,_⟩:=id b.kb
 obtain⟨rs,el,l⟩:=b.lo
 obtain⟨as,eh,_⟩:=id b.ks
 have nt:NT [p] H:=NT.one e trivial
 have m:Mv [p] H (upd H p (.ins C dx (dF {D with least:=z} ta hk bd lg))):=Mv.upd1
 exact⟨dx,fc U e z,m,⟨dx,qc⟩,m.sqt nt b.tb,b.ks.mv m nt (qK (qO eh e (by intro z;cases z))),b.kb.mv m nt (qK (qO hd e (by intro z;cases z))),⟨rs,m _ _ (qK (qO el e (by intro z;cases z))) el,l⟩,b.ne⟩
theorem LmAt.p_closed{K:Frag}{H:Hp}{m mt mk kd:Addr}{D:Dr}(l:LmAt K H m mt mk kd D)(z:Int):DPut H m (.str "closed") (.int z) (upd H m (.dK (ze {D with least:=z} mt mk kd))):=l.p_put (k:= .inr "closed") 5 (.int z) rfl
section
variable{K:Frag}{C:Addr}{H H':Hp}{a:Ad}{n:Nat}{D:Dr}{bx nl:Addr}{nb:Nat}{nms:List Str}
theorem BoxC.moved{S:List Addr}(hb:BoxC H bx nb)(m:Mv S H H')(h:bx∉S):BoxC H' bx nb:=let⟨x1,x2,x3,e,r⟩:=hb;⟨x1,x2,x3,m _ _ h e,r⟩
end
section
variable{K:Frag}{C:Addr}{H0 H H':Hp}{b nl:Addr}{nms:List Str}{a:Ad}{nb nb' n n':Nat}{D D':Dr}
end
end L3
namespace PySem
open Sem (wp)
end PySem
namespace PyProof.Rows
open PySem PySem.Spec
section
variable{prog:Program}{w:World}{A:Around}{R:Result->Shared->Prop}{I:Addr}{fp wr:List Addr}{G:Array GenState->Array GenState->Prop}{n:Nat}{P:Nat->Value->Prop}{St:Nat->Shared->Prop}
end
end PyProof.Rows
namespace PySem
open PyProof.Rows
section
variable{prog:Program}{w:World}{K:Type} [DecidableEq K]{knd:PySem.KeyKind prog w K}{A:Around}{E:Value->Shared->Prop}{s:Shared}
end
end PySem
namespace L3
open PySem PySem.Spec PyProof.Rows L2
section
variable{js:List Nat}{te:TE}{σ:L2.St}{H:Hp}{Q:VK}
end
section
variable{K:Frag}{C:Addr}{H0 H H':Hp}{a:Ad}{n n':Nat}{D D':Dr}{kl:Kw}{hd kp b:Addr}{as:List Addr}{ps:List Pp}{nb nb':Nat}
end
section
variable{K:Frag}{C:Addr}{H0 H H':Hp}{a:Ad}{n n':Nat}{D D':Dr}{kl:Kw}{hd kp b nl:Addr}{as:List Addr}{ps:List Pp}{nb nb':Nat}{nn:List Str}
end
end L3
namespace L3
open PySem PySem.Spec PySem.Calls PySem.W PyProof.Rows Builtin Builtin.ObjectAttr Builtin.Getset_descriptor
section
variable{prog:Program}{w:World}{A:Around}{E:Value->Shared->Prop}{K:Frag}{h:Heap}{g:Array GenState}{d:Drawn}{t:Nat}{os:OsState}{a C:Addr}{o:Obj}
end
end L3
namespace L3
open PySem PySem.Spec PyProof.Rows L2
end L3
namespace L3
open PySem PySem.Spec PyProof.Rows L2 SeqAt
end L3
namespace L3
open PySem PySem.Spec PyProof.Rows L2
section
variable(K:Frag)(C:Addr)(x:Xa)
end
inductive Eqk (K:Frag) (H:Hp):Nat->V->V->Prop where
 |int (n:Nat) (i:Int):Eqk K H n (.int i) (.int i)
 |str (n:Nat) (x:Str):Eqk K H n (.str x) (.str x)
 |non (n:Nat):Eqk K H n .non .non
 | tup {n:Nat} {a b:Addr} {xs ys:List V} (h1:SqT K H a xs) (h2:SqT K H b ys) (hl:xs.length=ys.length)
   (hi:∀(i:Nat) (x y:V),xs[i]? =some x->ys[i]? =some y->Eqk K H n x y):Eqk K H (n+1) (.ref a) (.ref b)
section
open SeqAt
variable{X:Cx}{pins:List (Addr×Obj)}{σ:L2.St}{H:Hp}{s:Shared}
theorem vt(I:L2.Inv X pins σ H s){n:Nat}{x y:V}(h:Eqk X.K H n x y):∀{v u:Value} {A:Around},RelV x v->RelV y u->A.units+n<cLine->EqAt A s v u true:=by
 induction h with
 |int n i=>rintro v u A ⟨t,rfl⟩ ⟨t',rfl⟩ _;have:=EqAt.int_int (A:=A) (s:=s) i t i t';rwa [beq_self_eq_true]at this
 |str n z=>rintro v u A ⟨t,rfl⟩ ⟨t',rfl⟩ _;have:=EqAt.str_str (A:=A) (s:=s) z t z t';rwa [beq_self_eq_true]at this
 |non n=>
  intro v u A r1 r2 _
  cases(show v=Value.none from r1)
  cases(show u=Value.none from r2)
  exact EqAt.same _
 | @tup n a b xs ys h1 h2 hl _ ih=>
  intro v u A r1 r2 hu
  cases(show v=Value.ref a from r1)
  cases(show u=Value.ref b from r2)
  by_cases hab:a=b
  ·rw[hab];exact EqAt.same _
  ·obtain⟨its,q1,p1,_⟩:=I.tuple h1
   obtain⟨its2,q2,p2,_⟩:=I.tuple h2
   have l1:=q1.length
   have l2:=q2.length
   have e:=RcAt.tuples (A:=A) (e:=fun _=>true) (show s.heap.IsTuple a its.toArray from p1) (show s.heap.IsTuple b its2.toArray from p2) (by omega) (fun j z1 z2=>by
    obtain⟨x,ex,rx⟩:=zu q1 (j:=j) (by simpa using z1)
    obtain⟨y,ey,ry⟩:=zu q2 (j:=j) (by simpa using z2)
    exact ih j x y ex ey rx ry (by rw[Around.in1_units];omega))
   rw[Z7,show(its.toArray.size==its2.toArray.size)=true by simp;omega]at e
   exact EqAt.of_refs hab e
theorem uh(I:L2.Inv X pins σ H s){n:Nat}{x y:V}{v u:Value}{A:Around}(h:Eqk X.K H n x y)(r1:RelV x v)(r2:RelV y u)(hu:A.units+n<cLine):RcAt A s v u true/\RcNeAt A s v u false:=by
 cases h with
 |int n i=>
  obtain⟨t,rfl⟩:=r1
  obtain⟨t',rfl⟩:=r2
  have e1:=RcAt.int_int (A:=A) (s:=s) i t i t'
  have e2:=RcNeAt.int_int (A:=A) (s:=s) i t i t'
  rw[beq_self_eq_true]at e1 e2
  exact⟨e1,e2⟩
 |str n z=>
  obtain⟨t,rfl⟩:=r1
  obtain⟨t',rfl⟩:=r2
  have e1:=RcAt.str_str (A:=A) (s:=s) z t z t'
  have e2:=RcNeAt.str_str (A:=A) (s:=s) z t z t'
  rw[beq_self_eq_true]at e1 e2
  exact⟨e1,e2⟩
 |non n=>
  cases(show v=Value.none from r1)
  cases(show u=Value.none from r2)
  exact⟨RcAt.none_none,RcNeAt.none_none⟩
 | @tup n a b xs ys h1 h2 hl ih=>
  cases(show v=Value.ref a from r1)
  cases(show u=Value.ref b from r2)
  obtain⟨its,q1,p1,_⟩:=I.tuple h1
  obtain⟨its2,q2,p2,_⟩:=I.tuple h2
  have l1:=q1.length
  have l2:=q2.length
  have he:∀j (z1:j<its.toArray.size) (z2:j<its2.toArray.size),EqAt A.in1 s its.toArray[j] its2.toArray[j] ((fun _=>true) j):=fun j z1 z2=>by
   obtain⟨x,ex,rx⟩:=zu q1 (j:=j) (by simpa using z1)
   obtain⟨y,ey,ry⟩:=zu q2 (j:=j) (by simpa using z2)
   exact vt I (ih j x y ex ey) rx ry (by rw[Around.in1_units];omega)
  have e1:=RcAt.tuples (A:=A) (e:=fun _=>true) (show s.heap.IsTuple a its.toArray from p1) (show s.heap.IsTuple b its2.toArray from p2) (by omega) he
  have e2:=RcNeAt.tuples (A:=A) (e:=fun _=>true) (show s.heap.IsTuple a its.toArray from p1) (show s.heap.IsTuple b its2.toArray from p2) (by omega) he
  rw[Z7,show(its.toArray.size==its2.toArray.size)=true by simp;omega]at e1 e2
  exact⟨e1,e2⟩
def wq(K:Frag)(b:Bool):R2:=fun x y H Q=>∃n,n<=32/\Eqk K H n x y/\Q (.bl b) H
theorem bv{k:Nat}(hr:Room k X.A):q8 X (compareOp .NotEq) (wq X.K false):=by
 intro pins s σ H x y v u Q I rx ry h
 obtain⟨n,hn,e,q⟩:=h
 exact(uh I e rx ry (by have:=hr.un;omega)).2 _ _ _ _ ⟨.bl _,H,I,rfl,q⟩
end
section
variable(K:Frag)(C:Addr)(x:Xa)
def jX:Sp:=fun vs H Q _=>∃(p ta hk bd lg:Addr) (n:Nat) (D:Dr),vs=[.ref p]/\DoorAt K C H p ta hk bd lg n D/\
 ∀t (as:List Addr) H',Same H H'->SqT K H' t (as.map V.ref)->as.length=D.kss.length->(∀(i:Nat) (a:Addr) (ks:List Int),as[i]? =some a->D.kss[i]? =some ks->SqT K H' a (ks.map V.int))->Q (.ref t) H'
def fo:Sp:=fun vs H Q _=>∃(p ta hk bd lg:Addr) (n:Nat) (D:Dr),vs=[.ref p]/\DoorAt K C H p ta hk bd lg n D/\Q (.int D.least) H
def fZ:Sp:=fun vs H Q _=>∃(p ta hk bd lg:Addr) (n:Nat) (D:Dr),vs=[.ref p]/\DoorAt K C H p ta hk bd lg n D/\∀t H',Same H H'->H' t=some (.tup [.int D.near,.int D.far,.int D.most])->Q (.ref t) H'
def io:Sp:=fun vs H Q _=>∃(p ta hk bd lg:Addr) (n:Nat) (D:Dr),vs=[.ref p]/\DoorAt K C H p ta hk bd lg n D/\Q (.ref ta) H
end
section
variable{H H':Hp}{d lc:Addr}{B:Bt}
end
section
variable{E:Hp->O2->Prop}{K:Frag}{C:Addr}{H H':Hp}{b L:Addr}{n n':Nat}{os:List O2}
end
end L3
namespace L3
open PySem PySem.Spec PyProof.Rows L2
open Sem (wp)
section
variable{X:Cx}{pins:List (Addr×Obj)}{σ:L2.St}{H:Hp}{s:Shared}
end
end L3
namespace L3
open PySem PySem.Spec PyProof.Rows L2
section
variable(K:Frag)(C:Addr)(x:Xa)
end
section
variable{K:Frag}{C:Addr}{H H':Hp}{o:O3}{B:Bt}{bx:Addr}{n:Nat}
end
section
variable(K:Frag)(C:Addr)
end
section
variable{K:Frag}{CB CD:Addr}{H0 H H':Hp}{A:Sl->Addr}{I:Im}{S:St4}
end
section
variable{K:Frag}{CB CD:Addr}{H0 H H':Hp}{A:Sl->Addr}{I:Im}{S:St4}{cad:Addr}{cqs:List Cq}
end
section
variable{I:Im}{S:St4}
end
section
variable{M:Model}{A:Around}{E:Value->Shared->Prop}{s:Shared}{base:Heap}{env:Env}{outer:List Env}{L e:Addr}{cls fl:Value}{dd:Option Addr}
end
end L3
namespace L3
open PySem PySem.Spec PySem.Calls PySem.W PyProof.Rows Builtin Builtin.ObjectAttr
section
variable{prog:Program}{w:World}{A:Around}{E:Value->Shared->Prop}{K:Frag}{h:Heap}{g:Array GenState}{d:Drawn}{t:Nat}{os:OsState}
variable{nm q:Str}{C N:Addr}{bs bm bmB:List Value}{hdct:Bool}{sn:List Str}{sub:List Value}{ab:Bool}{col:Option Bool}{dd:Option Addr}{k0 k1 k2 k3 k5:Option Value}{B newId initId:String}{e:Addr}
end
section
variable{prog:Program}{w:World}{A:Around}{E:Value->Shared->Prop}{K:Frag}{h:Heap}{g:Array GenState}{d:Drawn}{t:Nat}{os:OsState}
variable{nm q:Str}{C N:Addr}{bs bm bmB:List Value}{hdct:Bool}{sn:List Str}{sub:List Value}{ab:Bool}{col:Option Bool}{dd:Option Addr}{k0 k1 k2 k3 k5:Option Value}{B newId initId:String}{e:Addr}
end
section
variable{prog:Program}{w:World}{A:Around}{E:Value->Shared->Prop}{h:Heap}{g:Array GenState}{d:Drawn}{t:Nat}{os:OsState}
variable{nm q:Str}{C N:Addr}{bs bm bmB:List Value}{hdct:Bool}{sn:List Str}{sub:List Value}{ab:Bool}{col:Option Bool}{dd:Option Addr}{k0 k1 k2 k3 k5:Option Value}{B newId initId:String}{e:Addr}
end
end L3
namespace L3
open PySem PySem.Spec PyProof.Rows L2
end L3
namespace L3
open PySem PySem.Spec PySem.Calls PyProof.Rows L2
end L3
namespace L3
open PySem PySem.Spec PyProof.Rows L2
structure Ps where
 nm:Str
 age:Int
 ds:List Int
def PsAt(H:Hp)(p:Addr)(P:Ps):Prop:=PrAt H p P.nm P.age P.ds
structure PsOk(P:Ps):Prop where
 nm:Q0 P.nm
 l:P.ds.length=5
 dg:q0 P.ds
def c9(D:Dr)(P:Ps):Option (Int×Int):=if zP D P.age=true then QN D.t (Ql D P.age) P.nm P.ds else none
def lN(D:Dr)(P R:Ps):Str×Int×Kw:=match c9 D P with
 |none=>("press",0,D.kn)
 |some (c,_)=>match c9 D R with
  |none=>("press",1,D.kn)
  |some (c',_)=>if R.nm=P.nm/\R.age=P.age/\c'=c+1 then(match D.kn.lookup P.nm with
    |some _=>("known",0,D.kn)
    |none=>if(D.kn.length:Int)<D.most then("",0,qU D.kn P.nm ⟨P.age,c',none⟩)else("full",0,D.kn))
   else("press",1,D.kn)
section
variable(K:Frag)(C:Addr)(x:Xa)
end
section
variable{D:Dr}{P R:Ps}{c c' d d':Int}
end
section
variable{K:Frag}{C:Addr}{H Hd Hc:Hp}{a:Ad}{n n':Nat}{D:Dr}{kn':Kw}{P R:Ps}
end
section
variable{X:Cx}
end
def gL(c:Nat):Bool:=decide (97<=c)&&decide (c<=122)
def uW(z:Str):Bool:=z.cps.toList.all gL
def pT(z:Str):Bool:=decide (1<=z.length)&&decide (z.length<=8)&&uW z
theorem nmB_iff{z:Str}:pT z=true↔Q0 z:=by
 unfold pT uW Q0
 rw[Bool.and_eq_true,Bool.and_eq_true,decide_eq_true_iff,decide_eq_true_iff,List.all_eq_true]
 have zl:z.length=z.cps.toList.length:=rfl
 rw[zl]
 constructor
 ·rintro⟨⟨h1,h2⟩,h3⟩
  refine⟨fun c hc=>?_,h1,h2⟩
  have:=h3 c hc
  unfold gL at this
  rw[Bool.and_eq_true,decide_eq_true_iff,decide_eq_true_iff]at this
  exact this
 ·rintro⟨h3,h1,h2⟩
  refine⟨⟨h1,h2⟩,fun c hc=>?_⟩
  unfold gL
  rw[decide_eq_true (h3 c hc).1,decide_eq_true (h3 c hc).2];rfl
theorem dh{a b:Nat}:([a]:List Nat)<[b]↔a<b:=by
 rw[List.cons_lt_cons_iff]
 constructor
 ·rintro(h|⟨_,h⟩)
  ·exact h
  ·exact absurd h (List.not_lt_nil _)
 ·exact .inl
theorem ko(c:Nat):(!decide ((⟨#[c]⟩:Str).cps.toList<("a":Str).cps.toList))=decide (97<=c)/\(!decide (("z":Str).cps.toList<(⟨#[c]⟩:Str).cps.toList))=decide (c<=122):=by
 have e1:("a":Str).cps.toList=[97]:=by decide +kernel
 have e2:("z":Str).cps.toList=[122]:=by decide +kernel
 rw[e1,e2]
 show(!decide ([c]<[97]))=_/\(!decide ([122]<[c]))=_
 constructor
 ·by_cases h:97<=c
  ·rw[decide_eq_true h,decide_eq_false (by rw[dh];omega)];rfl
  ·rw[decide_eq_false h,decide_eq_true (by rw[dh];omega)];rfl
 ·by_cases h:c<=122
  ·rw[decide_eq_true h,decide_eq_false (by rw[dh];omega)];rfl
  ·rw[decide_eq_false h,decide_eq_true (by rw[dh];omega)];rfl
theorem gR{H:Hp}{x:V}{t:String}(h:kd H x=some t):Ty2 H x t:=by
 cases x with
 |non=>cases h;exact .non
 |bl b=>cases h;exact .bl b
 |int i=>cases h;exact .int i
 |str x=>cases h;exact .str x
 |byt b=>cases h
 |flt b=>cases h
 |ty b=>cases h
 |ref a=>
  rcases cP h with⟨xs,e,rfl⟩|⟨xs,e,rfl⟩
  ·exact .lst e
  ·exact .tup (.inl e)
def wf(H:Hp)(x:V)(b:Bool):Prop:=(∃z,x= .str z/\z.cps.all (· <128)=true/\z.length<=100/\b=pT z)\/(∃t,kd H x=some t/\zj t "str"=false/\b=false)
def CdK(H:Hp)(x:V)(b:Bool):Prop:=(∃(p:Addr) (ds:List V),x= .ref p/\H p=some (.tup ds)/\ds.length<=100/\(∀v∈ds,∃t,kd H v=some t)/\b=(decide (ds.length=5)&&ds.all aq))\/(∃t,kd H x=some t/\zj t "tuple"=false/\b=false)
inductive TgB (H:Hp) (x:V):Bool->Prop where
 |kd {t:String} (h:kd H x=some t) (n:zj t "tuple"=false):TgB H x false
 |len {a:Addr} {xs:List V} (e:x= .ref a) (h:H a=some (.tup xs)) (l:xs.length<=100) (n:xs.length≠3):TgB H x false
 |tup {a:Addr} {n y c:V} {bn bc:Bool} {ty:String} (e:x= .ref a) (h:H a=some (.tup [n,y,c])) (hn:wf H n bn) (hy:L3.kd H y=some ty) (hc:CdK H c bc):TgB H x (bn&&ci y&&bc)
theorem CdK.same{H H':Hp}{x:V}{b:Bool}(s:Same H H')(h:CdK H x b):CdK H' x b:=h.elim (fun⟨p,ds,e,h1,h2,h3,h4⟩=> .inl ⟨p,ds,e,s _ _ h1,h2,(fun v hv=>let⟨t,ht⟩:=h3 v hv;⟨t,bG s ht⟩),h4⟩) (fun⟨t,h1,h2⟩=> .inr ⟨t,bG s h1,h2⟩)
def Tg(H:Hp)(x:V)(o:Option Ps):Prop:=match o with
 |none=>TgB H x false
 |some P=>∃pr,x= .ref pr/\PsAt H pr P/\PsOk P
theorem Tg.b{H:Hp}{x:V}{o:Option Ps}(h:Tg H x o):TgB H x o.isSome:=by
 cases o with
 |none=>exact h
 |some P=>
  obtain⟨pr,e,⟨pc,h1,h2⟩,ok⟩:=h
  have t:=TgB.tup (bn:=true) (bc:=true) e h1 (.inl ⟨P.nm,rfl,gG ok.nm,by have:=ok.nm.2.2;show P.nm.cps.toList.length<=100;omega,(nmB_iff.mpr ok.nm).symm⟩) (ty:="int") rfl (.inl ⟨pc,_,rfl,h2,by rw[List.length_map,ok.l];decide,(fun v hv=>by obtain⟨i,_,rfl⟩:=List.mem_map.mp hv;exact⟨_,rfl⟩),by rw[List.length_map,ok.l,ow ok.dg];rfl⟩)
  exact t
def fX:Sp:=fun vs H Q _=>∃x b,vs=[x]/\wf H x b/\∀H',Same H H'->Q (.bl b) H'
def fR:Sp:=fun vs H Q _=>∃x b,vs=[x]/\CdK H x b/\∀H',Same H H'->Q (.bl b) H'
def ag:Sp:=fun vs H Q _=>∃x b,vs=[x]/\TgB H x b/\∀H',Same H H'->Q (.bl b) H'
section
variable(K:Frag)(C:Addr)
def fw:Sp:=fun vs H Q _=>∃(p ta hk bd lg:Addr) (n:Nat) (D:Dr) (x:V) (o:Option Ps),vs=[.ref p,x]/\DoorAt K C H p ta hk bd lg n D/\DrOk D/\Tg H x o/\∀y H',Same H H'->bf H' y (o.bind (c9 D))->Q y H'
end
section
variable(K:Frag)(C:Addr)(x:Xa)
end
section
variable{H H':Hp}{b:Addr}{n n':Nat}
end
section
variable{H:Hp}{a p:Addr}{z:Str}{i:Int}
end
section
variable{S:List Addr}{H H':Hp}
end
inductive Rw where
 |learn (P R:Ps)
 |forget (nm:Str)
 |turn (ks:List Int)
 |close (age:Int)
 |hear (P:Ps) (ans:List V)
def jt:V->Prop
 | .int _=>True
 | .str _=>True
 |_=>False
def RwAt(H:Hp)(a:Addr):Rw->Prop
 | .learn P R=>∃p1 p2,Rd H a (.tup [.str "learn",.ref p1,.ref p2])/\PsAt H p1 P/\PsAt H p2 R/\PsOk P/\PsOk R
 | .forget nm=>Rd H a (.tup [.str "forget",.str nm])
 | .turn ks=>∃k,Rd H a (.tup [.str "turn",.ref k])/\Rd H k (.tup (ks.map V.int))/\ks.length<=8
 | .close age=>Rd H a (.tup [.str "close",.int age])
 | .hear P ans=>∃p q,Rd H a (.tup [.str "hear",.ref p,.ref q])/\PsAt H p P/\PsOk P/\H q=some (.tup ans)/\ans.length<=3/\∀v∈ans,jt v
def RowsAt(H:Hp)(rs:List Addr)(L:List Rw):Prop:=rs.length=L.length/\∀(i:Nat) (a:Addr) (r:Rw),rs[i]? =some a->L[i]? =some r->RwAt H a r
def LogAt(H:Hp)(lg:Addr)(L:List Rw):Prop:=∃rs:List Addr,H lg=some (.lst (rs.map V.ref))/\RowsAt H rs L
def LogT(H:Hp)(t:Addr)(L:List Rw):Prop:=∃rs:List Addr,Rd H t (.tup (rs.map V.ref))/\RowsAt H rs L
section
variable{S:List Addr}{H H':Hp}{a lg t:Addr}{r:Rw}{rs:List Addr}{L:List Rw}
theorem RwAt.mv(m:Mv S H H')(n:NT S H)(h:RwAt H a r):RwAt H' a r:=by
 cases r with
 |learn P R=>obtain⟨p1,p2,h1,h2,h3,h4⟩:=h;exact⟨p1,p2,m.rd n h1,PrAt.mv m n h2,PrAt.mv m n h3,h4⟩
 |forget nm=>exact m.rd n h
 |turn ks=>obtain⟨k,h1,h2,h3⟩:=h;exact⟨k,m.rd n h1,m.rd n h2,h3⟩
 |close age=>exact m.rd n h
 |hear P ans=>obtain⟨p,q,h1,h2,h3,h4,h5⟩:=h;exact⟨p,q,m.rd n h1,PrAt.mv m n h2,h3,m.tup n h4,h5⟩
theorem RowsAt.mv(m:Mv S H H')(n:NT S H)(h:RowsAt H rs L):RowsAt H' rs L:=⟨h.1,fun i a r e1 e2=>(h.2 i a r e1 e2).mv m n⟩
theorem LogAt.mv(m:Mv S H H')(n:NT S H)(hl:lg∉S)(h:LogAt H lg L):LogAt H' lg L:=let⟨rs,e,r⟩:=h;⟨rs,m _ _ hl e,r.mv m n⟩
theorem LogT.mv(m:Mv S H H')(n:NT S H)(h:LogT H t L):LogT H' t L:=let⟨rs,e,r⟩:=h;⟨rs,m.rd n e,r.mv m n⟩
theorem gC:NT [] H:=fun c h=>nomatch h
theorem RowsAt.same(s:Same H H')(h:RowsAt H rs L):RowsAt H' rs L:=h.mv (S:=[]) s.mv gC
theorem LogAt.same(s:Same H H')(h:LogAt H lg L):LogAt H' lg L:=h.mv (S:=[]) s.mv gC (fun z=>nomatch z)
theorem LogT.same(s:Same H H')(h:LogT H t L):LogT H' t L:=h.mv (S:=[]) s.mv gC
theorem RowsAt.add(h:RowsAt H rs L)(hr:RwAt H a r):RowsAt H (rs++[a]) (L++[r]):=by
 refine⟨by simp [h.1],fun i b q e1 e2=>?_⟩
 by_cases hi:i<rs.length
 ·rw[List.getElem?_append_left hi]at e1
  rw[List.getElem?_append_left (by rw[<- h.1];exact hi)]at e2
  exact h.2 i b q e1 e2
 ·rw[List.getElem?_append_right (by omega)]at e1
  rw[List.getElem?_append_right (by rw[<- h.1];omega),<- h.1]at e2
  cases e:i-rs.length with
  |zero=>rw[e]at e1 e2;cases e1;cases e2;exact hr
  |succ k=>rw[e]at e1;cases e1
theorem nN{n:Nat}{v:V}(h:jt v):Eqv H n v v:=by
 cases v with
 |int i=>exact .int _ _
 |str i=>exact .str _ _
 |_=>exact h.elim
theorem PsAt.eqv{p q:Addr}{P:Ps}(h1:PsAt H p P)(h2:PsAt H q P)(o:PsOk P):Eqv H 2 (.ref p) (.ref q):=by
 obtain⟨c1,a1,b1⟩:=h1
 obtain⟨c2,a2,b2⟩:=h2
 refine .tup (.inl a1) (.inl a2) rfl (by show 3<=sizeLine;decide) fun i x y ex ey=>?_
 match i,ex,ey with
 |0,ex,ey=>cases ex;cases ey;exact .str _ _
 |1,ex,ey=>cases ex;cases ey;exact .int _ _
 |2,ex,ey=>cases ex;cases ey;exact .ints (.inl b1) (.inl b2) (by rw[o.l];decide)
 |i+3,ex,ey=>cases ex
theorem RwAt.eqv{b:Addr}(h1:RwAt H a r)(h2:RwAt H b r):Eqv H 3 (.ref a) (.ref b):=by
 cases r with
 |learn P R=>
  obtain⟨p1,p2,e1,e2,e3,o1,o2⟩:=h1
  obtain⟨q1,q2,f1,f2,f3,_⟩:=h2
  refine .tup e1 f1 rfl (by show 3<=sizeLine;decide) fun i x y ex ey=>?_
  match i,ex,ey with
  |0,ex,ey=>cases ex;cases ey;exact .str _ _
  |1,ex,ey=>cases ex;cases ey;exact PsAt.eqv e2 f2 o1
  |2,ex,ey=>cases ex;cases ey;exact PsAt.eqv e3 f3 o2
  |i+3,ex,ey=>cases ex
 |forget nm=>
  refine .tup (n:=2) h1 h2 rfl (by show 2<=sizeLine;decide) fun i x y ex ey=>?_
  match i,ex,ey with
  |0,ex,ey=>cases ex;cases ey;exact .str _ _
  |1,ex,ey=>cases ex;cases ey;exact .str _ _
  |i+2,ex,ey=>cases ex
 |turn ks=>
  obtain⟨k1,e1,e2,e3⟩:=h1
  obtain⟨k2,f1,f2,_⟩:=h2
  refine .tup (n:=2) e1 f1 rfl (by show 2<=sizeLine;decide) fun i x y ex ey=>?_
  match i,ex,ey with
  |0,ex,ey=>cases ex;cases ey;exact .str _ _
  |1,ex,ey=>cases ex;cases ey;exact .ints e2 f2 (by rw[sizeLine_eq];omega)
  |i+2,ex,ey=>cases ex
 |close age=>
  refine .tup (n:=2) h1 h2 rfl (by show 2<=sizeLine;decide) fun i x y ex ey=>?_
  match i,ex,ey with
  |0,ex,ey=>cases ex;cases ey;exact .str _ _
  |1,ex,ey=>cases ex;cases ey;exact .int _ _
  |i+2,ex,ey=>cases ex
 |hear P ans=>
  obtain⟨p1,p2,e1,e2,o1,e3,e4,e5⟩:=h1
  obtain⟨q1,q2,f1,f2,_,f3,_⟩:=h2
  refine .tup e1 f1 rfl (by show 3<=sizeLine;decide) fun i x y ex ey=>?_
  match i,ex,ey with
  |0,ex,ey=>cases ex;cases ey;exact .str _ _
  |1,ex,ey=>cases ex;cases ey;exact PsAt.eqv e2 f2 o1
  |2,ex,ey=>
   cases ex;cases ey
   refine .tup (n:=1) (.inl e3) (.inl f3) rfl (by rw[sizeLine_eq];omega) fun i x y ex ey=>?_
   rw[ex]at ey;cases ey
   exact nN (e5 _ (List.mem_of_getElem? ex))
  |i+3,ex,ey=>cases ex
theorem LogT.eqv{t':Addr}(h1:LogT H t L)(h2:LogT H t' L)(hl:L.length<=2000):Eqv H 4 (.ref t) (.ref t'):=by
 obtain⟨rs,e1,l1,r1⟩:=h1
 obtain⟨qs,e2,l2,r2⟩:=h2
 refine .tup e1 e2 (by simp [l1,l2]) (by rw[List.length_map,l1,sizeLine_eq];omega) fun i x y ex ey=>?_
 rw[List.getElem?_map]at ex ey
 cases q1:rs[i]? with
 |none=>rw[q1]at ex;cases ex
 |some a=>
  cases q2:qs[i]? with
  |none=>rw[q2]at ey;cases ey
  |some b=>
   rw[q1]at ex;rw[q2]at ey;cases ex;cases ey
   have hi:i<L.length:=by rw[<- l1];exact(List.getElem?_eq_some_iff.mp q1).1
   exact(r1 i a _ q1 (List.getElem?_eq_getElem hi)).eqv (r2 i b _ q2 (List.getElem?_eq_getElem hi))
end
theorem _root_.L2.SqT.up{K:Frag}{H:Hp}{a:Addr}{xs:List V}(h:SqT [] H a xs):SqT K H a xs:=h.elim .inl fun⟨_,_,_,z,_⟩=>nomatch z
theorem _root_.L2.SqT.rd{H:Hp}{a:Addr}{xs:List V}(h:SqT [] H a xs):Rd H a (.tup xs):=h.elim id fun⟨_,_,_,z,_⟩=>nomatch z
theorem KsAt.up{K:Frag}{H:Hp}{a:Addr}{kss:List (List Int)}(h:KsAt [] H a kss):KsAt K H a kss:=let⟨as,e,l,r⟩:=h;⟨as,e,l,fun i a ks e1 e2=>(r i a ks e1 e2).up⟩
structure Da where
 p:Addr
 ta:Addr
 hk:Addr
 bd:Addr
 lg:Addr
structure DlAt(K:Frag)(C:Addr)(H:Hp)(a:Da)(D:Dr)(L:List Rw):Prop where
 dr:DoorAt K C H a.p a.ta a.hk a.bd a.lg L.length D
 lo:LogAt H a.lg L
 kr:KsAt [] H a.hk D.kss
section
variable{K:Frag}{C:Addr}{S:List Addr}{H H':Hp}{a:Da}{D:Dr}{L:List Rw}{r:Addr}{rw:Rw}{rs:List Addr}
theorem DlAt.mv(b:DlAt K C H a D L)(m:Mv S H H')(nt:NT S H)(hp:a.p∉S)(hh:a.hk∉S)(hb:a.bd∉S)(hl:a.lg∉S):DlAt K C H' a D L:=⟨b.dr.mv m nt hp hh hb hl,b.lo.mv m nt hl,KsAt.mv m nt hh b.kr⟩
theorem DlAt.same(b:DlAt K C H a D L)(s:Same H H'):DlAt K C H' a D L:=⟨b.dr.same s,b.lo.same s,KsAt.same s b.kr⟩
theorem DlAt.push(b:DoorAt K C H a.p a.ta a.hk a.bd a.lg L.length D)(el:H a.lg=some (.lst (rs.map V.ref)))(ro:RowsAt H rs L)(kr:KsAt [] H a.hk D.kss)(hr:RwAt H r rw):DlAt K C (upd H a.lg (.lst (rs.map V.ref++[.ref r]))) a D (L++[rw]):=by
 have nt:NT [a.lg] H:=NT.one el trivial
 have e:=b.putL (r:=r) el (Nat.le_of_eq ro.1)
 rw[show L.length+1=(L++[rw]).length by simp]at e
 exact⟨e,⟨rs++[r],by rw[qc,List.map_append];rfl,(ro.add hr).mv Mv.upd1 nt⟩,KsAt.mv Mv.upd1 nt (qK b.ne.symm) kr⟩
theorem ki{p ta hk bd lg:Addr}{n:Nat}{f0:List (qG×V)}(e:H bd=some (.dK f0))(b:DoorAt K C H p ta hk bd lg n D):hk≠bd:=by
 obtain⟨as,eh,_⟩:=b.ks
 exact qO eh e (by intro z;cases z)
theorem uv{p ta hk bd lg dx:Addr}{n:Nat}{f0:List (Str×V)}(e:H p=some (.ins C dx f0))(b:DoorAt K C H p ta hk bd lg n D):hk≠p:=by
 obtain⟨as,eh,_⟩:=b.ks
 exact qO eh e (by intro z;cases z)
theorem DoorAt.dl{p ta hk bd lg:Addr}(b:DoorAt K C H p ta hk bd lg 0 D)(kr:KsAt [] H hk D.kss):DlAt K C H ⟨p,ta,hk,bd,lg⟩ D []:=by
 obtain⟨rs,e,l⟩:=id b.lo
 obtain rfl:rs=[]:=List.length_eq_zero_iff.mp (Nat.le_zero.mp l)
 exact⟨b,⟨[],e,rfl,fun i a r h=>by cases h⟩,kr⟩
end
inductive Dd where
 |learn (o1 o2:Option Ps)
 |forget (nm:Str)
 |turn (ks:List Int)
 |close (age:Int)
 |hear (o:Option Ps)
def Zn(D:Dr)(P:Ps):List V×Kw:=qN D P.nm P.age (QN D.t (Ql D P.age) P.nm P.ds)
def uQ(D:Dr):Dd->Option (Dr×Rw)
 | .learn (some P) (some R)=>if(lN D P R).1="" then some ({D with kn:=(lN D P R).2.2},.learn P R)else none
 | .learn _ _=>none
 | .forget nm=>if D.kn.lookup nm=none then none else some ({D with kn:=D.kn.filter fun p=>decide (p.1≠nm)},.forget nm)
 | .turn ks=>if D.kss.length<8 then some ({D with kss:=D.kss++[ks]},.turn ks)else none
 | .close age=>some ({D with least:=if age>D.least then age else D.least},.close age)
 | .hear (some P)=>some ({D with kn:=(Zn D P).2},.hear P (Zn D P).1)
 | .hear none=>none
section
variable(K:Frag)(C:Addr)(x:Xa)
def jv:Sp:=fun vs H Q _=>∃(a:Da) (D:Dr) (L:List Rw) (x:V) (o:Option Ps),vs=[.ref a.p,x]/\DlAt K C H a D L/\L.length<=1000/\DrOk D/\Tg H x o/\
 (o=none->∀q H',Same H H'->H' q=some (.tup [.str "held",.str "bad"])->Q (.ref q) H')/\
 ∀P,o=some P->∀pr q H',x= .ref pr->Mv [a.bd,a.lg] H H'->PsAt H' pr P->H' q=some (.tup (Zn D P).1)->DlAt K C H' a {D with kn:=(Zn D P).2} (L++[.hear P (Zn D P).1])->Q (.ref q) H'
def LtN(H:Hp)(k:Addr)(ks:List Int):Prop:=H k=some (.lst (ks.map V.int))\/Rd H k (.tup (ks.map V.int))
def ir:Sp:=fun vs H Q _=>∃(a:Da) (D:Dr) (L:List Rw) (age:Int),vs=[.ref a.p,.int age]/\DlAt K C H a D L/\L.length<=1000/\
 ∀D' r,uQ D (.close age)=some (D',r)->∀H',Mv [a.p,a.lg] H H'->DlAt K C H' a D' (L++[r])->Q .non H'
def mx:Sp:=fun vs H Q _=>∃(a:Da) (D:Dr) (L:List Rw),vs=[.ref a.p]/\DlAt K C H a D L/\∀t H',Same H H'->LogT H' t L->Q (.ref t) H'
def jU:Sp:=fun vs H Q _=>∃(a:Da) (D:Dr) (L:List Rw),vs=[.ref a.p]/\DlAt K C H a D L/\D.kss.length<=8/\
 ∀a' H',Same H H'->H a'.p=none->H a'.hk=none->H a'.bd=none->H a'.lg=none->DlAt K C H' a' D L->Q (.ref a'.p) H'
end
theorem bX{X:Cx}:qW X (.type "tuple") (fun xs H Q=>∃kt ks,xs=[.ref kt]/\LtN H kt ks/\∀t H2,Same H H2->Rd H2 t (.tup (ks.map V.int))->Q (.ref t) H2):=by
 intro pins s σ H xs us Q I r h
 obtain⟨kt,ks,e,h,q⟩:=h
 refine qP pins s σ H xs us Q I r ⟨kt,ks.map V.int,e,?_⟩
 rcases h with h|h
 ·exact .inl ⟨SqL.of h,fun t ht=>q t _ (Same.upd ht) (.inl qc)⟩
 ·exact .inr ⟨.inl h,q kt _ (Same.refl _) h⟩
section
variable{D:Dr}{P R:Ps}{o1 o2:Option Ps}
theorem fx(D:Dr)(nm:Str)(age:Int)(r:Option (Int×Int)):(qN D nm age r).1.length<=3/\∀v∈(qN D nm age r).1,jt v:=by
 have two:∀a b:Str,([V.str a,.str b]:List V).length<=3/\∀v∈([V.str a,.str b]:List V),jt v:=fun a b=>⟨by show 2<=3;decide,fun v hv=>by simp at hv;rcases hv with rfl|rfl<;>trivial⟩
 have three:∀(a b:Str) (i:Int),([V.str a,.str b,.int i]:List V).length<=3/\∀v∈([V.str a,.str b,.int i]:List V),jt v:=fun a b i=>⟨by show 3<=3;decide,fun v hv=>by simp at hv;rcases hv with rfl|rfl|rfl<;>trivial⟩
 unfold qN
 split
 ·exact two _ _
 ·split
  ·split
   ·exact two _ _
   ·split
    ·exact three _ _ _
    ·exact two _ _
  ·exact two _ _
theorem nL(D:Dr)(P:Ps):(Zn D P).1.length<=3:=(fx ..).1
theorem oC(D:Dr)(P:Ps):∀v∈(Zn D P).1,jt v:=(fx ..).2
end
section
open SeqAt
variable{X:Cx}
theorem iL:c6 X "list.clear" nv:=pC
end
section
variable{K:Frag}{C:Addr}{S:List Addr}{H H':Hp}{v:Wa}{W:Wo}
end
section
variable{K:Frag}{C:Addr}{H H':Hp}{b:Addr}{v:Wa}{W:Wo}{a:Da}{D D':Dr}{L:List Rw}
def dS(a:Da):List Addr:=[a.p,a.hk,a.bd,a.lg]
theorem DlAt.nt(d:DlAt K C H a D L):NT (dS a) H:=fun c hc=>by
 obtain⟨dx,ep⟩:=id d.dr.ob
 obtain⟨f0,hd,_⟩:=id d.dr.kb
 obtain⟨as,eh,_⟩:=id d.dr.ks
 obtain⟨rs,el,_⟩:=id d.lo
 simp only[dS,List.mem_cons,List.not_mem_nil,or_false]at hc
 rcases hc with rfl|rfl|rfl|rfl
 ·exact⟨_,ep,trivial⟩
 ·exact⟨_,eh,trivial⟩
 ·exact⟨_,hd,trivial⟩
 ·exact⟨_,el,trivial⟩
theorem DlAt.out{x:Addr}{xs:List V}(d:DlAt K C H a D L)(hx:H x=some (.lst xs))(n1:x≠a.hk)(n2:x≠a.lg):x∉dS a:=fun hc=>by
 obtain⟨dx,ep⟩:=id d.dr.ob
 obtain⟨f0,hd,_⟩:=id d.dr.kb
 simp only[dS,List.mem_cons,List.not_mem_nil,or_false]at hc
 rcases hc with z|z|z|z
 ·rw[z,ep]at hx;cases hx
 ·exact n1 z
 ·rw[z,hd]at hx;cases hx
 ·exact n2 z
theorem DlAt.outD{x:Addr}{xs:List (qG×V)}(d:DlAt K C H a D L)(hx:H x=some (.dK xs))(n1:x≠a.bd):x∉dS a:=fun hc=>by
 obtain⟨dx,ep⟩:=id d.dr.ob
 obtain⟨as,eh,_⟩:=id d.dr.ks
 obtain⟨rs,el,_⟩:=id d.lo
 simp only[dS,List.mem_cons,List.not_mem_nil,or_false]at hc
 rcases hc with z|z|z|z
 ·rw[z,ep]at hx;cases hx
 ·rw[z,eh]at hx;cases hx
 ·exact n1 z
 ·rw[z,el]at hx;cases hx
end
section
variable(K:Frag)(C:Addr)
end
theorem pG{i:Nat}{v:V}{σ:L2.St}{H:Hp}{t u:TS}{D:Ends}{rt:VK}{bk ct:L2.St->Hp->Prop}(G:L2.St->Hp->Prop)(h:∀D':Ends,D'.rt=D.rt->(∀σ' H',G σ' H'->D'.nx σ' H')->t D' (σ.set i (some v)) H)(hG:∀σ' H',G σ' H'->u D σ' H'):Qc i v σ H (Ends.nx {nx:=cz t u D,rt:=rt,bk:=bk,ct:=ct}):=h {D with nx:=u D} rfl hG
section
variable{σ:L2.St}{H:Hp}{tc:TT}{t u r:TS}{D:Ends}{rt:VK}{bk ct:L2.St->Hp->Prop}
theorem mO(G:Bool->Hp->Prop)(h:∀Q':Bool->Hp->Prop,(∀b H',G b H'->Q' b H')->tc σ H Q')(h1:∀H',G true H'->t {D with nx:=r D} σ H')(h2:∀H',G false H'->u {D with nx:=r D} σ H'):cz (eC tc t u) r D σ H:=h _ fun b H' g=>by
 cases b with
 |true=>exact(if_pos rfl).mpr (h1 H' g)
 |false=>exact(if_neg (by intro z;cases z)).mpr (h2 H' g)
theorem eB(G:Bool->Hp->Prop)(h:∀Q':Bool->Hp->Prop,(∀b H',G b H'->Q' b H')->tc σ H Q')(h1:∀H',G true H'->t {D with nx:=r D} σ H')(h2:∀H',G false H'->u {D with nx:=r D} σ H'):kE {nx:=cz (eC tc t u) r D,rt:=rt,bk:=bk,ct:=ct} σ H:=mO G h h1 h2
theorem jn{i:Nat}{v:V}(G:Bool->Hp->Prop)(h:∀Q':Bool->Hp->Prop,(∀b H',G b H'->Q' b H')->tc (σ.set i (some v)) H Q')(h1:∀H',G true H'->t {D with nx:=r D} (σ.set i (some v)) H')(h2:∀H',G false H'->u {D with nx:=r D} (σ.set i (some v)) H'):Qc i v σ H (Ends.nx {nx:=cz (eC tc t u) r D,rt:=rt,bk:=bk,ct:=ct}):=mO G h h1 h2
end
section
variable{K:Frag}{C:Addr}{H0 H H':Hp}{b:Addr}{v:Wa}{W:Wo}{a:Da}{D D':Dr}{L R:List Rw}{rl q:Addr}{r:Rw}{rs:List Addr}
end
section
variable{K:Frag}{H H':Hp}{a g:Addr}{r:Rw}{L:List Rw}{rs:List Addr}{xs:List V}
end
section
variable(K:Frag)(C:Addr)
end
section
variable{K:Frag}{S:List Addr}{H H':Hp}{a t x:Addr}{r:Rw}{L M:List Rw}{rs:List Addr}
end
section
variable(K:Frag)(C:Addr)
end
theorem gh{X:Cx}{K:Frag}(h:X.K=K):qW X (.type "list") (fun xs H Q=>∃p ys,xs=[.ref p]/\(SqL K H p ys\/SqT K H p ys)/\∀l,H l=none->Q (.ref l) (upd H l (.lst ys))):=by subst h;exact zw
section
variable{K:Frag}{H H':Hp}{a b:Addr}{r:Rw}{L:List Rw}
end
section
variable(K:Frag)(C:Addr)
end
section
variable{K:Frag}{H:Hp}
theorem Eqv.eqk{n:Nat}{x y:V}(h:Eqv H n x y):Eqk K H n x y:=by
 induction h with
 |int n i=>exact .int n i
 |str n z=>exact .str n z
 |non n=>exact .non n
 |tup h1 h2 hl _ _ ih=>exact .tup (.inl h1) (.inl h2) hl ih
theorem Zw{a b:Addr}{ns:List Int}{n:Nat}(h1:SqT K H a (ns.map V.int))(h2:SqT K H b (ns.map V.int)):Eqk K H (n+1) (.ref a) (.ref b):=by
 refine .tup h1 h2 rfl fun i x y e1 e2=>?_
 rw[e1]at e2;cases e2
 rw[List.getElem?_map]at e1
 cases h:ns[i]? with
 |none=>rw[h]at e1;cases e1
 |some v=>rw[h]at e1;cases e1;exact .int _ _
theorem gM{a b:Addr}{as bs:List Addr}{kss:List (List Int)}(h1:SqT K H a (as.map V.ref))(l1:as.length=kss.length)(k1:∀(i:Nat) (a:Addr) (ks:List Int),as[i]? =some a->kss[i]? =some ks->SqT K H a (ks.map V.int))(h2:SqT K H b (bs.map V.ref))(l2:bs.length=kss.length)(k2:∀(i:Nat) (a:Addr) (ks:List Int),bs[i]? =some a->kss[i]? =some ks->SqT K H a (ks.map V.int)):Eqk K H 2 (.ref a) (.ref b):=by
 refine .tup h1 h2 (by simp [l1,l2]) fun i x y e1 e2=>?_
 rw[List.getElem?_map]at e1 e2
 cases q1:as[i]? with
 |none=>rw[q1]at e1;cases e1
 |some a=>
  cases q2:bs[i]? with
  |none=>rw[q2]at e2;cases e2
  |some b=>
   rw[q1]at e1;rw[q2]at e2;cases e1;cases e2
   have hi:i<kss.length:=by rw[<- l1];exact(List.getElem?_eq_some_iff.mp q1).1
   exact Zw (k1 i a _ q1 (List.getElem?_eq_getElem hi)) (k2 i b _ q2 (List.getElem?_eq_getElem hi))
theorem nM{p q:Addr}{ss:List Str}{k1 k2:Kw}(h1:ShAt H p ss k1)(h2:ShAt H q ss k2)(hs:∀nm∈ss,nm∈k1.map (·.1))(he:∀nm,k2.lookup nm=k1.lookup nm):Eqk K H 3 (.ref p) (.ref q):=by
 obtain⟨as,e1,l1,r1⟩:=h1
 obtain⟨bs,e2,l2,r2⟩:=h2
 refine .tup (SqT.of e1) (SqT.of e2) (by simp [l1,l2]) fun i x y ex ey=>?_
 rw[List.getElem?_map]at ex ey
 cases q1:as[i]? with
 |none=>rw[q1]at ex;cases ex
 |some a=>
  cases q2:bs[i]? with
  |none=>rw[q2]at ey;cases ey
  |some b=>
   rw[q1]at ex;rw[q2]at ey;cases ex;cases ey
   have hi:i<ss.length:=by rw[<- l1];exact(List.getElem?_eq_some_iff.mp q1).1
   have hn:=List.getElem?_eq_getElem hi
   obtain⟨e,hee⟩:=Qr (hs _ (List.getElem_mem hi))
   obtain⟨v1,t1,w1⟩:=r1 i a _ e q1 hn hee
   obtain⟨v2,t2,w2⟩:=r2 i b _ e q2 hn (by rw[he];exact hee)
   refine .tup (SqT.of t1) (SqT.of t2) rfl fun j x y ex ey=>?_
   match j,ex,ey with
   |0,ex,ey=>cases ex;cases ey;exact .str _ _
   |1,ex,ey=>cases ex;cases ey;exact .int _ _
   |2,ex,ey=>cases ex;cases ey;exact .int _ _
   |3,ex,ey=>
    cases ex;cases ey
    cases hw:e.wt with
    |none=>
     rw[hw]at w1 w2
     have w1:v1= .non:=w1
     have w2:v2= .non:=w2
     rw[w1,w2];exact .non _
    |some xc=>
     rw[hw]at w1 w2
     obtain⟨z1,rfl,u1⟩:=w1
     obtain⟨z2,rfl,u2⟩:=w2
     exact Zw (ns:=[xc.1,xc.2]) (SqT.of u1) (SqT.of u2)
   |j+4,ex,ey=>cases ex
theorem Eqk.up{n:Nat}{x y:V}(h:Eqk K H n x y):Eqk K H (n+1) x y:=by
 induction h with
 |int n i=>exact .int _ i
 |str n z=>exact .str _ z
 |non n=>exact .non _
 |tup h1 h2 hl _ ih=>exact .tup h1 h2 hl ih
end
section
variable(K:Frag)(C:Addr)
end
section
variable{D:Dr}{M:Kw}(pm:M.Perm D.kn)(nd:(D.kn.map (·.1)).Nodup)
include pm nd
end
theorem nT(a:Da):a.p∈dS a:=by simp [dS]
theorem cW(a:Da):a.hk∈dS a:=by simp [dS]
theorem bH(a:Da):a.bd∈dS a:=by simp [dS]
theorem ZL(a:Da):a.lg∈dS a:=by simp [dS]
section
variable{K:Frag}{C:Addr}{H0 H H':Hp}{b:Addr}{v:Wa}{W:Wo}{a a2:Da}{D D' E:Dr}{L L' M:List Rw}
end
section
variable{K:Frag}{H H':Hp}{a g t:Addr}{r:Rw}{L:List Rw}{xs:List V}
end
def KsLt(H:Hp)(b:Addr)(kss:List (List Int)):Prop:=∃as:List Addr,H b=some (.lst (as.map V.ref))/\as.length=kss.length/\∀(i:Nat) (a:Addr) (ks:List Int),as[i]? =some a->kss[i]? =some ks->LtN H a ks
theorem LtN.same{H H':Hp}{a:Addr}{ks:List Int}(s:Same H H')(h:LtN H a ks):LtN H' a ks:=h.elim (fun z=> .inl (s _ _ z)) fun z=> .inr (Rd.same s z)
theorem KsLt.same{H H':Hp}{b:Addr}{kss:List (List Int)}(h:KsLt H b kss)(s:Same H H'):KsLt H' b kss:=let⟨as,e,l,r⟩:=h;⟨as,s _ _ e,l,fun i a ks e1 e2=>(r i a ks e1 e2).same s⟩
theorem KsLt.upd{C p dx:Addr}{H:Hp}{b:Addr}{kss:List (List Int)}{fs:List (Str×V)}{o:HO}(h:KsLt H b kss)(e:H p=some (.ins C dx fs)):KsLt (upd H p o) b kss:=by
 obtain⟨as,eb,l,r⟩:=h
 refine⟨as,by rw[qi (qO eb e (by intro z;cases z))];exact eb,l,fun i a ks e1 e2=>(r i a ks e1 e2).elim (fun z=> .inl (by rw[qi (qO z e (by intro z;cases z))];exact z)) fun z=> .inr ?_⟩
 exact(Mv.upd1 (a:=p) (H:=H) (o:=o)).rd (NT.one e trivial) z
theorem KsAt.lt{H:Hp}{b:Addr}{kss:List (List Int)}(h:KsAt [] H b kss):KsLt H b kss:=let⟨as,e,l,r⟩:=h;⟨as,e,l,fun i a ks e1 e2=> .inr (r i a ks e1 e2).rd⟩
def cm(K:Frag)(C:Addr):Sp:=fun vs H Q _=>∃(p a b dx:Addr) (near far most:Int) (t:List Int) (kss:List (List Int)),vs=[.ref p,.ref a,.ref b,.int near,.int far,.int most]/\H p=some (.ins C dx [])/\Sq K H a (t.map V.int)/\KsLt H b kss/\kss.length<=8/\
 ∀ta hk bd lg H',H hk=none->H bd=none->H lg=none->Mv [p] H H'->DoorAt K C H' p ta hk bd lg 0 ⟨t,kss,near,far,most,0,[]⟩->KsAt [] H' hk kss->Q .non H'
section
variable(K:Frag)(C:Addr)
end
section
variable{H H':Hp}{S:List Addr}{a m n:Addr}{r:Rw}{L:List Rw}
end
section
variable{S:List Addr}{H H':Hp}{m kd:Addr}{D:Dr}
end
section
variable{K:Frag}{C:Addr}{S:List Addr}{H H':Hp}{x:Em}{D D' E E':Dr}{L L':List Rw}{z:Addr}
end
section
variable{K:Frag}{C:Addr}{H0 H H':Hp}{b:Addr}{c c':Nat}{pl:Addr}{xs:List En}{i:Nat}{x:En}{D':Dr}{L':List Rw}
end
section
variable(K:Frag)(C:Addr)
def fg:Sp:=fun vs H Q _=>∃(a:Da) (D:Dr) (L:List Rw) (p1 p2:Addr) (P R:Ps) (c d d':Int),vs=[.ref a.p,.ref p1,.ref p2]/\DlAt K C H a D L/\L.length<=1000/\DrOk D/\PsAt H p1 P/\PsAt H p2 R/\PsOk P/\PsOk R/\c9 D P=some (c,d)/\c9 D R=some (c+1,d')/\R.nm=P.nm/\R.age=P.age/\D.kn.lookup R.nm=none/\(D.kn.length:Int)<D.most/\
 ∀H',Mv [a.bd,a.lg] H H'->DlAt K C H' a {D with kn:=qU D.kn R.nm ⟨R.age,c+1,none⟩} (L++[.learn P R])->Q .non H'
end
section
variable{S:List Addr}{H H':Hp}{t x:Addr}{zs:List (Int×Int)}{z:Int×Int}
end
section
variable(K:Frag)(C:Addr)
end
section
variable{K:Frag}{S:List Addr}{H H':Hp}{cd tb kt:Addr}{t:List Int}{kss:List (List Int)}
end
section
variable{t:List Int}{kss:List (List Int)}{base:Int}{D:Dr}{nm:Str}{age c:Int}
end
section
variable(K:Frag)(C:Addr)
end
section
variable{X:Cx}
end
section
variable(K:Frag)(C:Addr)
end
section
variable{K:Frag}{C:Addr}{H0 H H':Hp}{b:Addr}{c:Nat}{pl:Addr}{xs:List En}{S:List Addr}{z:Addr}
end
section
variable{t:List Int}{kss:List (List Int)}{base:Int}{D:Dr}{nm:Str}{age:Int}
end
section
variable(K:Frag)(C:Addr)
end
section
variable(K:Frag)(C:Addr)
def c7:Sp:=fun vs H Q _=>∃(a:Da) (D:Dr) (L:List Rw) (nm:Str),vs=[.ref a.p,.str nm]/\DlAt K C H a D L/\L.length<=1000/\D.kn.lookup nm≠none/\∀D' r,uQ D (.forget nm)=some (D',r)->∀H',Mv [a.bd,a.lg] H H'->DlAt K C H' a D' (L++[r])->Q .non H'
def iM:Sp:=fun vs H Q _=>∃(a:Da) (D:Dr) (L:List Rw) (k:Addr) (ks:List Int),vs=[.ref a.p,.ref k]/\DlAt K C H a D L/\L.length<=1000/\D.kss.length<8/\LtN H k ks/\ks.length<=8/\∀D' r,uQ D (.turn ks)=some (D',r)->∀H',Mv [a.hk,a.lg] H H'->DlAt K C H' a D' (L++[r])->Q .non H'
end
structure Fm where
 e:Addr
 a:Da
 m:Addr
 mt:Addr
 ml:Addr
 kd:Addr
def fS(x:Fm):List Addr:=dS x.a++[x.m,x.ml,x.kd]
structure Enf(K:Frag)(C:Addr)(H:Hp)(x:Fm)(D:Dr)(L:List Rw)(E:Dr):Prop where
 tu:H x.e=some (.lst [.ref x.a.p,.ref x.m])
 dl:DlAt K C H x.a D L
 lm:LmAt K H x.m x.mt x.ml x.kd E
 n1:x.m≠x.a.bd
 n2:x.kd≠x.a.bd
 n3:x.ml≠x.a.hk
 n4:x.ml≠x.a.lg
 ne:x.e∉fS x
section
variable{K:Frag}{C:Addr}{S:List Addr}{H H':Hp}{x:Fm}{D D' E E':Dr}{L L':List Rw}{z:Addr}
theorem uE(h:z∈fS x):z∈dS x.a\/z=x.m\/z=x.ml\/z=x.kd:=by
 rcases List.mem_append.mp h with h|h
 ·exact .inl h
 ·simp only[List.mem_cons,List.not_mem_nil,or_false]at h;exact .inr h
theorem cF(h:z∈dS x.a):z∈fS x:=List.mem_append.mpr (.inl h)
theorem wy:x.m∈fS x:=List.mem_append.mpr (.inr (by simp))
theorem uu:x.ml∈fS x:=List.mem_append.mpr (.inr (by simp))
theorem wu:x.kd∈fS x:=List.mem_append.mpr (.inr (by simp))
theorem Enf.nt(b:Enf K C H x D L E):NT (fS x) H:=fun z hz=>by
 rcases uE hz with h|rfl|rfl|rfl
 ·exact b.dl.nt z h
 ·exact⟨_,b.lm.di,trivial⟩
 ·obtain⟨as,e,_⟩:=b.lm.ks;exact⟨_,e,trivial⟩
 ·obtain⟨f,e,_⟩:=b.lm.kb;exact⟨_,e,trivial⟩
theorem Enf.some(b:Enf K C H x D L E)(h:z∈fS x):H z≠none:=fun w=>by
 obtain⟨o,e,_⟩:=b.nt z h
 rw[w]at e;cases e
theorem Enf.mv(b:Enf K C H x D L E)(m:Mv S H H')(nt:NT S H)(h:∀z∈fS x,z∉S)(he:x.e∉S):Enf K C H' x D L E:=⟨m _ _ he b.tu,b.dl.mv m nt (h _ (cF (nT _))) (h _ (cF (cW _))) (h _ (cF (bH _))) (h _ (cF (ZL _))),b.lm.mv m nt (h _ wy) (h _ uu) (h _ wu),b.n1,b.n2,b.n3,b.n4,b.ne⟩
theorem Enf.same(b:Enf K C H x D L E)(s:Same H H'):Enf K C H' x D L E:=b.mv (S:=[]) s.mv gC (fun z _ h=>nomatch h) (fun h=>nomatch h)
theorem Enf.m_out(b:Enf K C H x D L E):x.m∉dS x.a:=b.dl.outD b.lm.di b.n1
theorem Enf.n_out(b:Enf K C H x D L E):x.kd∉dS x.a:=let⟨f,e,_⟩:=b.lm.kb;b.dl.outD e b.n2
theorem Enf.k_out(b:Enf K C H x D L E):x.ml∉dS x.a:=let⟨as,e,_⟩:=b.lm.ks;b.dl.out e b.n3 b.n4
theorem Enf.e_out(b:Enf K C H x D L E):x.e∉dS x.a:=fun z=>b.ne (cF z)
theorem Enf.door(b:Enf K C H x D L E)(m:Mv (dS x.a) H H')(d:DlAt K C H' x.a D' L'):Enf K C H' x D' L' E:=⟨m _ _ b.e_out b.tu,d,b.lm.mv m b.dl.nt b.m_out b.k_out b.n_out,b.n1,b.n2,b.n3,b.n4,b.ne⟩
theorem Enf.law(b:Enf K C H x D L E)(m:Mv [x.m,x.ml,x.kd] H H')(lm:LmAt K H' x.m x.mt x.ml x.kd E'):Enf K C H' x D L E':=by
 have nt:NT [x.m,x.ml,x.kd] H:=fun z hz=>b.nt z (List.mem_append.mpr (.inr hz))
 have o:∀z∈dS x.a,z∉[x.m,x.ml,x.kd]:=fun z hz w=>by
  simp only[List.mem_cons,List.not_mem_nil,or_false]at w
  rcases w with rfl|rfl|rfl
  ·exact b.m_out hz
  ·exact b.k_out hz
  ·exact b.n_out hz
 exact⟨m _ _ (fun z=>b.ne (List.mem_append.mpr (.inr z))) b.tu,b.dl.mv m nt (o _ (nT _)) (o _ (cW _)) (o _ (bH _)) (o _ (ZL _)),lm,b.n1,b.n2,b.n3,b.n4,b.ne⟩
theorem jI(m:Mv (dS x.a) H H'):Mv (fS x) H H':=m.mono fun c h z=>h (cF z)
theorem jM(m:Mv [x.m,x.ml,x.kd] H H'):Mv (fS x) H H':=m.mono fun c h z=>h (List.mem_append.mpr (.inr z))
def Fm.ad(x:Fm):Ad:=⟨x.a.p,x.a.ta,x.a.hk,x.a.bd,x.a.lg,x.m,x.mt,x.ml,x.kd⟩
theorem Enf.bo(b:Enf K C H x D L D)(ok:DrOk D):Bo K C H x.ad L.length D:=⟨b.dl.dr,b.lm,b.n1.symm,b.n2.symm,b.n4.symm,ok⟩
end
abbrev Ef:=Fm×Dr×List Rw
structure Qw(K:Frag)(C:Addr)(H0 H:Hp)(wl:Addr)(xs:List Ef):Prop where
 s:Same H0 H
 en:∀(i:Nat) (x:Ef),xs[i]? =some x->Enf K C H x.1 x.2.1 x.2.2 x.2.1
 dj:∀(i j:Nat) (x y:Ef),i≠j->xs[i]? =some x->xs[j]? =some y->∀z∈fS x.1,z∉fS y.1
 de:∀(i j:Nat) (x y:Ef),xs[i]? =some x->xs[j]? =some y->x.1.e∉fS y.1
 fr:∀(i:Nat) (x:Ef),xs[i]? =some x->(∀z∈fS x.1,H0 z=none)/\x.1.e≠wl
 pe:H wl=some (.lst (xs.map fun x=> .ref x.1.e))
 np:∀(i:Nat) (x:Ef),xs[i]? =some x->wl∉fS x.1
 fp:H0 wl=none
section
variable{K:Frag}{C:Addr}{H0 H H':Hp}{wl:Addr}{xs:List Ef}{i:Nat}{x:Ef}{D':Dr}{L':List Rw}{S:List Addr}
theorem Qw.out(p:Qw K C H0 H wl xs)(m:Mv S H H')(nt:NT S H)(hw:wl∉S)(he:∀(i:Nat) (x:Ef),xs[i]? =some x->(∀z∈fS x.1,z∉S)/\x.1.e∉S)(h0:∀z∈S,H0 z=none):Qw K C H0 H' wl xs:=
 ⟨fun c o e=>m c o (fun z=>by rw[h0 c z]at e;cases e) (p.s c o e),fun i x hi=>(p.en i x hi).mv m nt (he i x hi).1 (he i x hi).2,p.dj,p.de,p.fr,m _ _ hw p.pe,p.np,p.fp⟩
theorem Qw.same(p:Qw K C H0 H wl xs)(s:Same H H'):Qw K C H0 H' wl xs:=p.out (S:=[]) s.mv gC (fun h=>nomatch h) (fun i x hi=>⟨(fun z _ h=>nomatch h),(fun h=>nomatch h)⟩) (fun z h=>nomatch h)
theorem Qw.free(p:Qw K C H0 H wl xs){z:Addr}(h:H z=none):z≠wl/\H0 z=none/\∀(i:Nat) (x:Ef),xs[i]? =some x->z∉fS x.1/\z≠x.1.e:=by
 refine⟨(fun w=>by rw[w,p.pe]at h;cases h),?_,fun i x hi=>⟨fun w=>(p.en i x hi).some w h,(fun w=>by have:=(p.en i x hi).tu;rw[<- w,h]at this;cases this)⟩⟩
 cases q:H0 z with
 |none=>rfl
 |some o=>rw[p.s z o q]at h;cases h
theorem Qw.box{b:Addr}{n:Nat}(p:Qw K C H0 H wl xs)(bx:BoxC H b n){n':Nat}(g:GrC b n' H H')(hb:b≠wl/\H0 b=none/\∀(i:Nat) (x:Ef),xs[i]? =some x->b∉fS x.1/\b≠x.1.e):Qw K C H0 H' wl xs:=
 p.out (S:=[b]) (fun c o h e=>g.kp c o (fun z=>h (List.mem_singleton.mpr z)) e) (bO bx) (qK hb.1.symm) (fun i x hi=>⟨fun z hz w=>(hb.2.2 i x hi).1 (List.mem_singleton.mp w▸hz),qK (hb.2.2 i x hi).2.symm⟩) (fun z hz=>by rw[List.mem_singleton.mp hz];exact hb.2.1)
theorem Qw.stepS(p:Qw K C H0 H wl xs)(hi:xs[i]? =some x)(m:Mv S H H')(nt:NT S H)(hw:wl∉S)(ho:∀(j:Nat) (y:Ef),j≠i->xs[j]? =some y->(∀z∈fS y.1,z∉S)/\y.1.e∉S)(h0:∀z∈S,H0 z=none)(e:Enf K C H' x.1 D' L' D'):Qw K C H0 H' wl (xs.set i (x.1,D',L')):=by
 have hl:i<xs.length:=(List.getElem?_eq_some_iff.mp hi).1
 have key:∀{j:Nat} {y:Ef},(xs.set i (x.1,D',L'))[j]? =some y->(j=i/\y=(x.1,D',L'))\/(j≠i/\xs[j]? =some y):=fun{j y} h=>by
  rw[List.getElem?_set]at h
  split at h
  ·rename_i z
   subst z
   injection h with h
   exact .inl ⟨rfl,h.symm⟩
  ·rename_i z
   exact .inr ⟨fun w=>z w.symm,h⟩
 have same:∀{j:Nat} {y:Ef},(xs.set i (x.1,D',L'))[j]? =some y->∃y',xs[j]? =some y'/\y'.1=y.1:=fun h=>by
  rcases key h with⟨rfl,rfl⟩|⟨_,h⟩
  ·exact⟨x,hi,rfl⟩
  ·exact⟨_,h,rfl⟩
 refine⟨fun c o e=>m c o (fun z=>?_) (p.s c o e),fun j y hj=>?_,fun j k y z hjk hj hk=>?_,fun j k y z hj hk=>?_,fun j y hj=>?_,?_,fun j y hj=>?_,p.fp⟩
 ·rw[h0 c z]at e;cases e
 ·rcases key hj with⟨rfl,rfl⟩|⟨n,hj⟩
  ·exact e
  ·exact(p.en j y hj).mv m nt (ho j y n hj).1 (ho j y n hj).2
 ·obtain⟨y',hy,ey⟩:=same hj
  obtain⟨z',hz,ez⟩:=same hk
  rw[<- ey,<- ez]
  exact p.dj j k y' z' hjk hy hz
 ·obtain⟨y',hy,ey⟩:=same hj
  obtain⟨z',hz,ez⟩:=same hk
  rw[<- ey,<- ez]
  exact p.de j k y' z' hy hz
 ·obtain⟨y',hy,ey⟩:=same hj
  rw[<- ey];exact p.fr j y' hy
 ·have:(xs.set i (x.1,D',L')).map (fun x=>V.ref x.1.e)=xs.map fun x=>V.ref x.1.e:=by
   refine List.ext_getElem? fun j=>?_
   rw[List.getElem?_map,List.getElem?_map,List.getElem?_set]
   split
   ·rename_i z
    subst z
    rw[hi];rfl
   ·rfl
  rw[this]
  exact m _ _ hw p.pe
 ·obtain⟨y',hy,ey⟩:=same hj
  rw[<- ey];exact p.np j y' hy
theorem Qw.step(p:Qw K C H0 H wl xs)(hi:xs[i]? =some x)(m:Mv (fS x.1) H H')(e:Enf K C H' x.1 D' L' D'):Qw K C H0 H' wl (xs.set i (x.1,D',L')):=p.stepS hi m (p.en i x hi).nt (p.np i x hi) (fun j y n hj=>⟨p.dj j i y x n hj hi,p.de j i y x hj hi⟩) (p.fr i x hi).1 e
theorem Qw.stepB{b:Addr}{n:Nat}(p:Qw K C H0 H wl xs)(hi:xs[i]? =some x)(bx:BoxC H b n)(hb:b≠wl/\H0 b=none/\∀(i:Nat) (x:Ef),xs[i]? =some x->b∉fS x.1/\b≠x.1.e)(m:Mv (b::fS x.1) H H')(e:Enf K C H' x.1 D' L' D'):Qw K C H0 H' wl (xs.set i (x.1,D',L')):=by
 refine p.stepS hi m (fun z hz=>?_) (fun z=>?_) (fun j y n hj=>⟨fun z hz w=>?_,fun w=>?_⟩) (fun z hz=>?_) e
 ·rcases List.mem_cons.mp hz with rfl|hz
  ·exact bO bx _ (List.mem_singleton.mpr rfl)
  ·exact(p.en i x hi).nt z hz
 ·rcases List.mem_cons.mp z with z|z
  ·exact hb.1 z.symm
  ·exact p.np i x hi z
 ·rcases List.mem_cons.mp w with rfl|w
  ·exact(hb.2.2 j y hj).1 hz
  ·exact p.dj j i y x n hj hi z hz w
 ·rcases List.mem_cons.mp w with w|w
  ·exact(hb.2.2 j y hj).2 w.symm
  ·exact p.de j i y x hj hi w
 ·rcases List.mem_cons.mp hz with rfl|hz
  ·exact hb.2.1
  ·exact(p.fr i x hi).1 z hz
theorem Qw.at(p:Qw K C H0 H wl xs)(hi:xs[i]? =some x):QX (xs.map fun x=>V.ref x.1.e) (i:Int)=some (.ref x.1.e):=QH (by rw[List.getElem?_map,hi];rfl)
theorem Qw.add{Ha:Hp}{y:Fm}{D:Dr}{L:List Rw}(p:Qw K C H0 H wl xs)(s:Same H Ha)(e:Enf K C Ha y D L D)(f:∀z∈fS y,H z=none)(fe:H y.e=none):Qw K C H0 (upd Ha wl (.lst ((xs.map fun x=>V.ref x.1.e)++[.ref y.e]))) wl (xs++[(y,D,L)]):=by
 have pa:=p.same s
 have m:Mv [wl] Ha (upd Ha wl (.lst ((xs.map fun x=>V.ref x.1.e)++[.ref y.e]))):=Mv.upd1
 have nt:NT [wl] Ha:=NT.one pa.pe trivial
 have npy:wl∉fS y:=fun z=>by have:=p.pe;rw[f wl z]at this;cases this
 have nwe:y.e≠wl:=(p.free fe).1
 have key:∀{j:Nat} {w:Ef},(xs++[(y,D,L)])[j]? =some w->xs[j]? =some w\/(j=xs.length/\w=(y,D,L)):=fun{j w} h=>by
  by_cases hj:j<xs.length
  ·rw[List.getElem?_append_left hj]at h;exact .inl h
  ·rw[List.getElem?_append_right (by omega)]at h
   cases q:j-xs.length with
   |zero=>rw[q]at h;cases h;exact .inr ⟨by omega,rfl⟩
   |succ k=>rw[q]at h;cases h
 refine⟨fun c o e1=>?_,fun j w hj=>?_,fun j k w u hjk hj hk=>?_,fun j k w u hj hk=>?_,fun j w hj=>?_,?_,fun j w hj=>?_,p.fp⟩
 ·rw[qi (fun z=>by rw[z,p.fp]at e1;cases e1)]
  exact s _ _ (p.s c o e1)
 ·rcases key hj with hj|⟨_,rfl⟩
  ·exact(pa.en j w hj).mv m nt (fun z hz u=>p.np j w hj (List.mem_singleton.mp u▸hz)) (qK (p.fr j w hj).2)
  ·exact e.mv m nt (fun z hz u=>npy (List.mem_singleton.mp u▸hz)) (qK nwe)
 ·rcases key hj with hj'|⟨ej,rfl⟩
  ·rcases key hk with hk'|⟨_,rfl⟩
   ·exact p.dj j k w u hjk hj' hk'
   ·exact fun z hz v=>(p.en j w hj').some hz (f z v)
  ·rcases key hk with hk'|⟨ek,rfl⟩
   ·exact fun z hz v=>(p.en k u hk').some v (f z hz)
   ·omega
 ·rcases key hj with hj'|⟨_,rfl⟩
  ·rcases key hk with hk'|⟨_,rfl⟩
   ·exact p.de j k w u hj' hk'
   ·exact fun v=>by have:=(p.en j w hj').tu;rw[f _ v]at this;cases this
  ·rcases key hk with hk'|⟨_,rfl⟩
   ·exact fun v=>(p.en k u hk').some v fe
   ·exact e.ne
 ·rcases key hj with hj'|⟨_,rfl⟩
  ·exact p.fr j w hj'
  ·exact⟨fun z hz=>(p.free (f z hz)).2.1,nwe⟩
 ·rw[qc,List.map_append];rfl
 ·rcases key hj with hj'|⟨_,rfl⟩
  ·exact p.np j w hj'
  ·exact npy
end
structure D20(D:Dr):Prop where
 ok:DrOk D
 k1:1<=D.kss.length
 kb:∀e∈D.kn,KbOk D e.2
 m1:1<=D.most
 m2:D.most<=12
section
variable{D:Dr}{nm:Str}{age c d:Int}
theorem D20.new(h:kh D):D20 D:=by
 obtain⟨tp,l0,k1,k8,n0,n1,n2,m1,m2,kn0⟩:=h
 exact⟨⟨tp,by omega,k8,by rw[kn0];show 0<=60;decide,by rw[kn0];exact List.nodup_nil⟩,k1,fun e he=>(by rw[kn0]at he;cases he),m1,m2⟩
theorem D20.learn(h:D20 D)(a0:0<=age)(a1:age<D.kss.length)(c0:0<=c)(c1:c<4096)(hl:(D.kn.length:Int)<D.most):D20 {D with kn:=qU D.kn nm ⟨age,c,none⟩}:=by
 have:=oM D.kn nm ⟨age,c,none⟩
 have:=h.m2
 refine⟨⟨h.ok.tp,h.ok.l0,h.ok.kl,by show(qU D.kn nm _).length<=60;omega,j2 h.ok.nd nm _⟩,h.k1,fun e he=>?_,h.m1,h.m2⟩
 rcases iw he with he|he
 ·have z:=h.kb e he
  exact⟨z.a0,z.a1,z.l0,z.l1,z.w⟩
 ·rw[he];exact⟨a0,a1,c0,c1,fun x y z=>by cases z⟩
theorem D20.hear(h:D20 D)(a0:0<=age)(a1:age<D.kss.length)(c0:0<=c)(c1:c<4096):D20 {D with kn:=(qN D nm age (some (c,d))).2}:=by
 obtain⟨o,k,l⟩:=ou (nm:=nm) (d:=d) h.ok h.kb a0 a1 c0 c1
 exact⟨o,h.k1,fun e he=>let z:=k e he;⟨z.a0,z.a1,z.l0,z.l1,z.w⟩,h.m1,h.m2⟩
theorem D20.forget(h:D20 D):D20 {D with kn:=D.kn.filter fun p=>decide (p.1≠nm)}:=by
 have l:=List.length_filter_le (fun p:Str×Kb=>decide (p.1≠nm)) D.kn
 have:=h.ok.nl
 exact⟨⟨h.ok.tp,h.ok.l0,h.ok.kl,by show(D.kn.filter _).length<=60;omega,h.ok.nd.sublist ((List.filter_sublist ..).map _)⟩,h.k1,fun e he=>let z:=h.kb e (List.mem_filter.mp he).1;⟨z.a0,z.a1,z.l0,z.l1,z.w⟩,h.m1,h.m2⟩
theorem D20.turn{ks:List Int}(h:D20 D)(hk:D.kss.length<8):D20 {D with kss:=D.kss++[ks]}:=by
 have e:(D.kss++[ks]).length=D.kss.length+1:=by simp
 exact⟨⟨h.ok.tp,h.ok.l0,by show(D.kss++[ks]).length<=8;omega,h.ok.nl,h.ok.nd⟩,by show 1<=(D.kss++[ks]).length;omega,fun x he=>let z:=h.kb x he;⟨z.a0,by show x.2.age<((D.kss++[ks]).length:Int);have:=z.a1;omega,z.l0,z.l1,z.w⟩,h.m1,h.m2⟩
theorem D20.close{l:Int}(h:D20 D)(hl:0<=l):D20 {D with least:=l}:=⟨⟨h.ok.tp,hl,h.ok.kl,h.ok.nl,h.ok.nd⟩,h.k1,fun e he=>let z:=h.kb e he;⟨z.a0,z.a1,z.l0,z.l1,z.w⟩,h.m1,h.m2⟩
end
def SeenAt(K:Frag)(H:Hp)(q:Addr)(D:Dr)(L:List Rw):Prop:=∃(k ks bd tb lg:Addr) (ss:List Str) (as:List Addr),H q=some (.tup [.ref k,.ref ks,.int D.least,.ref bd,.ref tb,.ref lg])/\ss.Perm (D.kn.map (·.1))/\sortedS ss=true/\ShAt H k ss D.kn/\
 SqT K H ks (as.map V.ref)/\as.length=D.kss.length/\(∀(i:Nat) (a:Addr) (ks:List Int),as[i]? =some a->D.kss[i]? =some ks->SqT K H a (ks.map V.int))/\H bd=some (.tup [.int D.near,.int D.far,.int D.most])/\SqT K H tb (D.t.map V.int)/\LogT H lg L
section
variable{K:Frag}{S:List Addr}{H H':Hp}{q p:Addr}{D:Dr}{L:List Rw}
theorem ShAt.mvN{ss:List Str}{kn:Kw}(h:ShAt H q ss kn)(m:Mv S H H')(nt:NT S H):ShAt H' q ss kn:=by
 obtain⟨as,e,l,r⟩:=h
 refine⟨as,m.tup nt e,l,fun i a nm x e1 e2 e3=>?_⟩
 obtain⟨v,e4,w⟩:=r i a nm x e1 e2 e3
 exact⟨v,m.tup nt e4,w.mv m nt⟩
theorem SeenAt.mv(h:SeenAt K H q D L)(m:Mv S H H')(nt:NT S H):SeenAt K H' q D L:=by
 obtain⟨k,ks,bd,tb,lg,ss,as,e,pm,so,sh,e1,l1,r1,e2,e3,lt⟩:=h
 exact⟨k,ks,bd,tb,lg,ss,as,m.tup nt e,pm,so,sh.mvN m nt,m.sqt nt e1,l1,fun i a x h1 h2=>m.sqt nt (r1 i a x h1 h2),m.tup nt e2,m.sqt nt e3,lt.mv m nt⟩
theorem SeenAt.same(h:SeenAt K H q D L)(s:Same H H'):SeenAt K H' q D L:=h.mv (S:=[]) s.mv gC
theorem SeenAt.eqk(h1:SeenAt K H q D L)(h2:SeenAt K H p D L)(ok:DrOk D)(hl:L.length<=2000):Eqk K H 6 (.ref q) (.ref p):=by
 obtain⟨k,ks,bd,tb,lg,ss,as,e,pm,so,sh,e1,l1,r1,e2,e3,lt⟩:=h1
 obtain⟨k',ks',bd',tb',lg',ss',as',e',pm',so',sh',e1',l1',r1',e2',e3',lt'⟩:=h2
 obtain rfl:ss=ss':=bY pm so pm' so'
 refine .tup (SqT.of e) (SqT.of e') rfl fun i x y ex ey=>?_
 match i,ex,ey with
 |0,ex,ey=>cases ex;cases ey;exact(nM sh sh' (fun nm h=>pm.mem_iff.mp h) (fun nm=>rfl)).up.up
 |1,ex,ey=>cases ex;cases ey;exact(gM e1 l1 r1 e1' l1' r1').up.up.up
 |2,ex,ey=>cases ex;cases ey;exact .int _ _
 |3,ex,ey=>cases ex;cases ey;exact Zw (ns:=[D.near,D.far,D.most]) (SqT.of e2) (SqT.of e2')
 |4,ex,ey=>cases ex;cases ey;exact Zw e3 e3'
 |5,ex,ey=>cases ex;cases ey;exact(lt.eqv lt' hl).eqk.up
 |j+6,ex,ey=>cases ex
end
section
variable(K:Frag)(C:Addr)
def lO:Sp:=fun vs H Q _=>∃(a:Da) (D:Dr) (L:List Rw),vs=[.ref a.p]/\DlAt K C H a D L/\DrOk D/\∀q H',Same H H'->SeenAt K H' q D L->Q (.ref q) H'
def iJ:Sp:=fun vs H Q _=>∃(b:Addr) (c:Nat),vs=[.ref b,.bl false]/\BoxC H b c/\c<10000000/\∀m mt mk kd D H',GrC b (c+200) H H'->H m=none->H mk=none->H kd=none->LmAt K H' m mt mk kd D->kh D->(∀ks∈D.kss,ks.length<=8)->Q (.ref m) H'
def jq:Sp:=fun vs H Q _=>∃(m mt ml kd:Addr) (D:Dr),vs=[.ref m]/\LmAt K H m mt ml kd D/\D.kss.length<=8/\∀m' ml' kd' H',Same H H'->H m'=none->H ml'=none->H kd'=none->LmAt K H' m' mt ml' kd' D->Q (.ref m') H'
def bq:Sp:=fun vs H Q _=>∃(m mt ml kd:Addr) (D:Dr),vs=[.ref m]/\LmAt K H m mt ml kd D/\kh D/\(∀ks∈D.kss,ks.length<=8)/\∀a H',Same H H'->H a.p=none->H a.hk=none->H a.bd=none->H a.lg=none->DlAt K C H' a D []->Q (.ref a.p) H'
def am:Sp:=fun vs H Q _=>∃(x:Fm) (D:Dr) (L:List Rw) (nm:Str) (age c:Int),vs=[.ref x.a.p,.ref x.m,.str nm,.int age,.int c]/\Enf K C H x D L D/\L.length<=1000/\D20 D/\D.least=0/\Q0 nm/\0<=age/\age<D.kss.length/\0<=c/\c+1<4096/\D.kn.lookup nm=none/\(D.kn.length:Int)<D.most/\
 ∀r H',Mv (fS x) H H'->Enf K C H' x {D with kn:=qU D.kn nm ⟨age,c+1,none⟩} (L++[r]) {D with kn:=qU D.kn nm ⟨age,c+1,none⟩}->Q .non H'
def gz:Sp:=fun vs H Q _=>∃(b nl:Addr) (x:Fm) (D:Dr) (L:List Rw) (n:Nat) (ns:List Str),vs=[.ref b,.ref x.a.p,.ref x.m,.ref nl]/\BoxC H b n/\n<100000/\b∉fS x/\b≠x.e/\H nl=some (.lst (ns.map V.str))/\nl≠b/\nl∉fS x/\1<=ns.length/\ns.length<=12/\(∀z∈ns,Q0 z)/\Enf K C H x D L D/\L.length<=900/\D20 D/\
 ∀D' L' H',Mv (b::fS x) H H'->BoxC H' b (n+30)->Enf K C H' x D' L' D'->D20 D'->L'.length<=L.length+1->Q (.bl true) H'
end
structure Dn(K:Frag)(C:Addr)(H H':Hp)(b:Addr)(n:Nat)(x:Fm)(D:Dr)(L:List Rw)(E:Dr):Prop where
 bx:BoxC H' b n
 en:Enf K C H' x D L E
 mv:Mv (b::fS x) H H'
 nb:b∉fS x
 ne:b≠x.e
section
variable{K:Frag}{C:Addr}{H H' G:Hp}{b:Addr}{n n':Nat}{x:Fm}{D D' E E':Dr}{L L':List Rw}
theorem Dn.same(d:Dn K C H H' b n x D L E)(s:Same H' G):Dn K C H G b n x D L E:=⟨(s.grc d.bx).bx,d.en.same s,d.mv.trans s.mv,d.nb,d.ne⟩
theorem Dn.grc(d:Dn K C H H' b n x D L E)(g:GrC b n' H' G):Dn K C H G b n' x D L E:=⟨g.bx,d.en.mv g.mv (bO d.bx) (fun z hz w=>d.nb (List.mem_singleton.mp w▸hz)) (qK d.ne.symm),d.mv.trans (g.mv.mono (fun c h z=>h (by rw[List.mem_singleton.mp z];exact List.mem_cons_self ..))),d.nb,d.ne⟩
theorem Dn.up(d:Dn K C H H' b n x D L E)(m:Mv (fS x) H' G)(e:Enf K C G x D' L' E'):Dn K C H G b n x D' L' E':=⟨d.bx.moved m d.nb,e,d.mv.trans (m.mono (fun c h z=>h (List.mem_cons_of_mem _ z))),d.nb,d.ne⟩
theorem Dn.door(d:Dn K C H H' b n x D L E)(m:Mv (dS x.a) H' G)(e:DlAt K C G x.a D' L'):Dn K C H G b n x D' L' E:=d.up (jI m) (d.en.door m e)
theorem Dn.law(d:Dn K C H H' b n x D L E)(m:Mv [x.m,x.ml,x.kd] H' G)(e:LmAt K G x.m x.mt x.ml x.kd E'):Dn K C H G b n x D L E':=d.up (jM m) (d.en.law m e)
theorem Dn.free(d:Dn K C H H' b n x D L E){z:Addr}(h:H' z=none):H z=none/\z∉fS x/\z≠x.e/\z≠b:=by
 refine⟨?_,fun w=>d.en.some w h,(fun w=>by have:=d.en.tu;rw[<- w,h]at this;cases this),(fun w=>by obtain⟨_,_,_,e,_⟩:=d.bx;rw[<- w,h]at e;cases e)⟩
 cases q:H z with
 |none=>rfl
 |some o=>
  have h1:z∉b::fS x:=fun w=>by
   rcases List.mem_cons.mp w with w|w
   ·obtain⟨_,_,_,e,_⟩:=d.bx
    rw[<- w,h]at e;cases e
   ·exact d.en.some w h
  rw[d.mv z o h1 q]at h;cases h
theorem Dn.aside(d:Dn K C H H' b n x D L E){z:Addr}{o:HO}{ys:List V}(f:H z=none/\z∉fS x/\z≠x.e/\z≠b)(e:H' z=some (.lst ys)):Dn K C H (upd H' z o) b n x D L E:=
 ⟨d.bx.moved Mv.upd1 (qK f.2.2.2.symm),d.en.mv Mv.upd1 (NT.one e trivial) (fun y hy w=>f.2.1 (List.mem_singleton.mp w▸hy)) (qK f.2.2.1.symm),fun c p h hc=>by rw[qi (qo hc f.1)];exact d.mv c p h hc,d.nb,d.ne⟩
theorem pZ(m:Mv [x.a.bd,x.a.lg] H G):Mv (dS x.a) H G:=m.mono fun c h z=>h (by simp only[List.mem_cons,List.not_mem_nil,or_false]at z;rcases z with rfl|rfl;exact bH _;exact ZL _)
theorem vQ(m:Mv [x.a.hk,x.a.lg] H G):Mv (dS x.a) H G:=m.mono fun c h z=>h (by simp only[List.mem_cons,List.not_mem_nil,or_false]at z;rcases z with rfl|rfl;exact cW _;exact ZL _)
theorem vO(m:Mv [x.a.p,x.a.lg] H G):Mv (dS x.a) H G:=m.mono fun c h z=>h (by simp only[List.mem_cons,List.not_mem_nil,or_false]at z;rcases z with rfl|rfl;exact nT _;exact ZL _)
theorem rH(m:Mv [x.kd] H G):Mv [x.m,x.ml,x.kd] H G:=m.mono fun c h z=>h (by rw[List.mem_singleton.mp z];simp)
theorem v8(m:Mv [x.ml] H G):Mv [x.m,x.ml,x.kd] H G:=m.mono fun c h z=>h (by rw[List.mem_singleton.mp z];simp)
theorem vT(m:Mv [x.m] H G):Mv [x.m,x.ml,x.kd] H G:=m.mono fun c h z=>h (by rw[List.mem_singleton.mp z];simp)
end
theorem sq{X:Cx}{K:Frag}(hK:X.K=K){pos:Pos}{es:List Expr}{k:Nat}{t:ZG}(n:Nat)(hc:X.calm=true)(h:QGs X es t)(hn:(assignEach es X.env).length=n:=by rfl)(hst:(assignEach es X.env).findIdx? (·.1)=none:=by rfl):QG X (.Tuple es k pos) (ky K n t):=by
 subst hK
 exact⟨nH (hc:=hc) (h:=h.h) (hn:=hn) (hst:=hst)⟩
theorem kL{K:Frag}{js:List Nat}{te:TE}{σ:L2.St}{H:Hp}{Q:VK}{a:Addr}{xs:List V}(hn:xs.length<=sizeLine)(Pv:Nat->List V->Hp->Prop)(h0:Pv 0 [] H)(hl:∀i ys H,Pv i ys H->SqL K H a xs)
  (hs:∀i ys H x,xs[i]? =some x->ys.length=i->Pv i ys H->∃p x1 x2,x= .ref p/\Sq K H p [x1,x2]/\te (some x1::some x2::Q6 js σ) H fun v H3=>Pv (i+1) (ys++[v]) H3)
  (hd:∀ys H,ys.length=xs.length->Pv xs.length ys H->∀p,H p=none->Q (.ref p) (upd H p (.lst ys))):
  gs 2 js (ky K 2 (bK (Qc 0) (bK (Qc 1) kT))) te σ Q (cM K a) H:=by
 refine⟨fun i m zs τ H=>m=xs.length-i/\i<=xs.length/\zs.length=i/\Pv i zs H/\∃o o',τ=o::o'::Q6 js σ,⟨xs.length,by simp,Nat.zero_le _,rfl,h0,none,none,rfl⟩,?_⟩
 rintro i m zs τ H ⟨rfl,hi,hzl,p,o,o',rfl⟩
 by_cases hlt:i<xs.length
 ·refine .inr ⟨⟨xs,xs[i],hl _ _ _ p,by simp [hlt]⟩,by omega,fun x H' y=>?_⟩
  obtain⟨e,hx⟩:H'=H/\xs[i]? =some x:=⟨y.1,y.2 xs (hl _ _ _ p)⟩
  subst e
  obtain⟨pp,x1,x2,rfl,hp,ht⟩:=hs i zs _ x hx hzl p
  refine⟨pp,_,rfl,hp,rfl,_,_,rfl,_,_,rfl,rfl,?_⟩
  exact⟨fun v H3=>Pv (i+1) (zs++[v]) H3,fun v H3 p3=>⟨xs.length-(i+1),by omega,rfl,hlt,by simp [hzl],p3,_,_,rfl⟩,ht⟩
 ·have e:i=xs.length:=by omega
  subst e
  exact .inl ⟨⟨xs,hl _ _ _ p,Nat.le_refl _⟩,hd zs H hzl p⟩
section
variable{K:Frag}{C:Addr}{H0 H H':Hp}{z:Addr}{D E:Dr}{L:List Rw}{a:Da}{m mt ml kd e:Addr}
theorem LmAt.there(l:LmAt K H m mt ml kd D)(h:z∈[m,ml,kd]):H z≠none:=fun w=>by
 simp only[List.mem_cons,List.not_mem_nil,or_false]at h
 rcases h with rfl|rfl|rfl
 ·rw[l.di]at w;cases w
 ·obtain⟨as,e,_⟩:=l.ks;rw[e]at w;cases w
 ·obtain⟨f,e,_⟩:=l.kb;rw[e]at w;cases w
theorem DlAt.there(d:DlAt K C H a D L)(h:z∈dS a):H z≠none:=fun w=>by
 obtain⟨o,e,_⟩:=d.nt z h
 rw[w]at e;cases e
theorem zg(s:Same H H')(h:H z≠none):H' z≠none:=fun w=>h (za w s)
theorem apart{S T:List Addr}(h:∀z∈S,H z≠none)(g:∀z∈T,H z=none):∀z∈S,z∉T:=fun z hz w=>h z hz (g z w)
theorem gW(tu:H e=some (.lst [.ref a.p,.ref m]))(dl:DlAt K C H a D L)(lm:LmAt K H m mt ml kd E)(h:∀z∈[m,ml,kd],z∉dS a)(he:∀z∈dS a++[m,ml,kd],z≠e):Enf K C H ⟨e,a,m,mt,ml,kd⟩ D L E:=by
 refine⟨tu,dl,lm,fun z=>h m (by simp) ?_,fun z=>h kd (by simp) ?_,fun z=>h ml (by simp) ?_,fun z=>h ml (by simp) ?_,fun z=>he e z rfl⟩
 ·have z:m=a.bd:=z
  rw[z];exact bH _
 ·have z:kd=a.bd:=z
  rw[z];exact bH _
 ·have z:ml=a.hk:=z
  rw[z];exact cW _
 ·have z:ml=a.lg:=z
  rw[z];exact ZL _
end
def Out(H0:Hp)(wl:Addr)(ys:List Ef)(z:Addr):Prop:=z≠wl/\H0 z=none/\∀(i:Nat) (x:Ef),ys[i]? =some x->z∉fS x.1/\z≠x.1.e
structure Wl(K:Frag)(C:Addr)(H0 H:Hp)(wl nl:Addr)(ns:List Str)(ys:List Ef)(n:Nat):Prop where
 qw:Qw K C H0 H wl ys
 hn:H nl=some (.lst (ns.map V.str))
 n1:1<=ns.length
 no:Out H0 wl ys nl
 ok:∀(j:Nat) (y:Ef),ys[j]? =some y->D20 y.2.1/\y.2.2.length<=n
section
variable{K:Frag}{C:Addr}{H0 H H':Hp}{wl nl b:Addr}{ns:List Str}{ys:List Ef}{n n' i c c':Nat}{x:Ef}{D':Dr}{L':List Rw}
theorem Z5{j:Nat}{y:Ef}(hi:ys[i]? =some x)(h:(ys.set i (x.1,D',L'))[j]? =some y):(∃y',ys[j]? =some y'/\y'.1=y.1)/\((j=i/\y=(x.1,D',L'))\/(j≠i/\ys[j]? =some y)):=by
 rw[List.getElem?_set]at h
 split at h
 ·rename_i z
  subst z
  split at h
  ·injection h with h
   exact⟨⟨x,hi,by rw[<- h]⟩,.inl ⟨rfl,h.symm⟩⟩
  ·cases h
 ·rename_i z
  exact⟨⟨y,h,rfl⟩,.inr ⟨fun w=>z w.symm,h⟩⟩
theorem Out.set{z:Addr}(o:Out H0 wl ys z)(hi:ys[i]? =some x):Out H0 wl (ys.set i (x.1,D',L')) z:=⟨o.1,o.2.1,fun j y hj=>by
 obtain⟨y',h1,h2⟩:=(Z5 hi hj).1
 rw[<- h2];exact o.2.2 j y' h1⟩
theorem Out.add{z:Addr}{y:Fm}{D:Dr}{L:List Rw}(o:Out H0 wl ys z)(hz:H z≠none)(f:∀u∈fS y,H u=none)(fe:H y.e=none):Out H0 wl (ys++[(y,D,L)]) z:=⟨o.1,o.2.1,fun j w hj=>by
 by_cases hl:j<ys.length
 ·rw[List.getElem?_append_left hl]at hj;exact o.2.2 j w hj
 ·rw[List.getElem?_append_right (by omega)]at hj
  cases q:j-ys.length with
  |zero=>rw[q]at hj;cases hj;exact⟨fun u=>hz (f z u),fun u=>hz (u▸fe)⟩
  |succ k=>rw[q]at hj;cases hj⟩
theorem Wl.same(w:Wl K C H0 H wl nl ns ys n)(s:Same H H'):Wl K C H0 H' wl nl ns ys n:=⟨w.qw.same s,s _ _ w.hn,w.n1,w.no,w.ok⟩
theorem Wl.mono(w:Wl K C H0 H wl nl ns ys n)(h:n<=n'):Wl K C H0 H wl nl ns ys n':=⟨w.qw,w.hn,w.n1,w.no,fun j y hj=>⟨(w.ok j y hj).1,Nat.le_trans (w.ok j y hj).2 h⟩⟩
theorem Wl.nb(w:Wl K C H0 H wl nl ns ys n)(bx:BoxC H b c):nl≠b:=by
 obtain⟨_,_,_,e,_⟩:=bx
 exact qO w.hn e (jg w.n1 _ _ _)
theorem Wl.box(w:Wl K C H0 H wl nl ns ys n)(bx:BoxC H b c)(g:GrC b c' H H')(hb:Out H0 wl ys b):Wl K C H0 H' wl nl ns ys n:=⟨w.qw.box bx g hb,g.kp _ _ (w.nb bx) w.hn,w.n1,w.no,w.ok⟩
theorem Wl.step(w:Wl K C H0 H wl nl ns ys n)(hi:ys[i]? =some x)(bx:BoxC H b c)(hb:Out H0 wl ys b)(m:Mv (b::fS x.1) H H')(e:Enf K C H' x.1 D' L' D')(d:D20 D')(hl:L'.length<=n')(hn:n<=n'):Wl K C H0 H' wl nl ns (ys.set i (x.1,D',L')) n':=by
 refine⟨w.qw.stepB hi bx hb m e,m _ _ (fun z=>?_) w.hn,w.n1,w.no.set hi,fun j y hj=>?_⟩
 ·rcases List.mem_cons.mp z with z|z
  ·exact w.nb bx z
  ·exact(w.no.2.2 i x hi).1 z
 ·rcases(Z5 hi hj).2 with⟨_,rfl⟩|⟨_,h⟩
  ·exact⟨d,hl⟩
  ·exact⟨(w.ok j y h).1,Nat.le_trans (w.ok j y h).2 hn⟩
theorem Wl.step0(w:Wl K C H0 H wl nl ns ys n)(hi:ys[i]? =some x)(m:Mv (fS x.1) H H')(e:Enf K C H' x.1 D' L' D')(d:D20 D')(hl:L'.length<=n')(hn:n<=n'):Wl K C H0 H' wl nl ns (ys.set i (x.1,D',L')) n':=by
 refine⟨w.qw.step hi m e,m _ _ (w.no.2.2 i x hi).1 w.hn,w.n1,w.no.set hi,fun j y hj=>?_⟩
 rcases(Z5 hi hj).2 with⟨_,rfl⟩|⟨_,h⟩
 ·exact⟨d,hl⟩
 ·exact⟨(w.ok j y h).1,Nat.le_trans (w.ok j y h).2 hn⟩
theorem Wl.add{Ha:Hp}{y:Fm}{D:Dr}{L:List Rw}(w:Wl K C H0 H wl nl ns ys n)(s:Same H Ha)(e:Enf K C Ha y D L D)(f:∀z∈fS y,H z=none)(fe:H y.e=none)(d:D20 D)(hl:L.length<=n):Wl K C H0 (upd Ha wl (.lst ((ys.map fun x=>V.ref x.1.e)++[.ref y.e]))) wl nl ns (ys++[(y,D,L)]) n:=by
 refine⟨w.qw.add s e f fe,?_,w.n1,w.no.add (H:=H) (fun z=>by rw[w.hn]at z;cases z) f fe,fun j u hj=>?_⟩
 ·rw[qi w.no.1];exact s _ _ w.hn
 ·by_cases h:j<ys.length
  ·rw[List.getElem?_append_left h]at hj;exact w.ok j u hj
  ·rw[List.getElem?_append_right (by omega)]at hj
   cases q:j-ys.length with
   |zero=>rw[q]at hj;cases hj;exact⟨d,hl⟩
   |succ k=>rw[q]at hj;cases hj
theorem Qw.two{x y:Fm}{D1 D2:Dr}(s:Same H0 H)(e1:Enf K C H x D1 [] D1)(e2:Enf K C H y D2 [] D2)(dj:∀z∈fS x,z∉fS y)(ox:x.e∉fS y)(oy:y.e∉fS x)(f1:∀z∈fS x,H0 z=none)(f2:∀z∈fS y,H0 z=none)(p1:x.e≠wl)(p2:y.e≠wl)(pe:H wl=some (.lst [.ref x.e,.ref y.e]))(q1:wl∉fS x)(q2:wl∉fS y)(fp:H0 wl=none):Qw K C H0 H wl [(x,D1,[]),(y,D2,[])]:=by
 refine⟨s,fun i z hz=>?_,fun i j z u hij hz hu=>?_,fun i j z u hz hu=>?_,fun i z hz=>?_,pe,fun i z hz=>?_,fp⟩
 ·match i,hz with
  |0,hz=>cases hz;exact e1
  |1,hz=>cases hz;exact e2
  |i+2,hz=>cases hz
 ·match i,j,hz,hu with
  |0,0,hz,hu=>exact absurd rfl hij
  |0,1,hz,hu=>cases hz;cases hu;exact dj
  |1,0,hz,hu=>cases hz;cases hu;exact fun z hz w=>dj z w hz
  |1,1,hz,hu=>exact absurd rfl hij
  |i+2,_,hz,hu=>cases hz
  |_,j+2,hz,hu=>cases hu
 ·match i,j,hz,hu with
  |0,0,hz,hu=>cases hz;cases hu;exact e1.ne
  |0,1,hz,hu=>cases hz;cases hu;exact ox
  |1,0,hz,hu=>cases hz;cases hu;exact oy
  |1,1,hz,hu=>cases hz;cases hu;exact e2.ne
  |i+2,_,hz,hu=>cases hz
  |_,j+2,hz,hu=>cases hu
 ·match i,hz with
  |0,hz=>cases hz;exact⟨f1,p1⟩
  |1,hz=>cases hz;exact⟨f2,p2⟩
  |i+2,hz=>cases hz
 ·match i,hz with
  |0,hz=>cases hz;exact q1
  |1,hz=>cases hz;exact q2
  |i+2,hz=>cases hz
end
theorem uM{σ:L2.St}{H:Hp}{tc:TT}{t u:TS}{D:Ends}(G:Bool->Hp->Prop)(h:∀Q':Bool->Hp->Prop,(∀b H',G b H'->Q' b H')->tc σ H Q')(h1:∀H',G true H'->t D σ H')(h2:∀H',G false H'->u D σ H'):eC tc t u D σ H:=h _ fun b H' g=>by
 cases b with
 |true=>exact(if_pos rfl).mpr (h1 H' g)
 |false=>exact(if_neg (by intro z;cases z)).mpr (h2 H' g)
theorem cD{b:Addr}{n:Nat}{H H1 H2:Hp}(hb:H b=none)(s:Same H H1)(g:GrC b n H1 H2):Same H H2:=fun x o e=>g.kp x o (qo e hb) (s x o e)
theorem eQ{H:Hp}{a:Da}(f1:H a.p=none)(f2:H a.hk=none)(f3:H a.bd=none)(f4:H a.lg=none):∀z∈dS a,H z=none:=fun z hz=>by
 simp only[dS,List.mem_cons,List.not_mem_nil,or_false]at hz
 rcases hz with rfl|rfl|rfl|rfl<;>assumption
theorem ei{H:Hp}{m ml kd:Addr}(f1:H m=none)(f2:H ml=none)(f3:H kd=none):∀z∈[m,ml,kd],H z=none:=fun z hz=>by
 simp only[List.mem_cons,List.not_mem_nil,or_false]at hz
 rcases hz with rfl|rfl|rfl<;>assumption
theorem uf{σ:L2.St}{H:Hp}{t u:TT}{Q:Bool->Hp->Prop}(G:Hp->Prop)(h:∀Q':Bool->Hp->Prop,(∀H',G H'->Q' false H')->t σ H Q')(h2:∀H',G H'->u σ H' Q):uG t u σ H Q:=h _ fun H' g=>qS (h2 H' g)
end L3
namespace Lw
open PySem L2 L3
def qR(i:Nat):Stmt:=PySem.Challenge.pw_rollcode_k20_doors_apart.main.body.getD i (.Pass ⟨0,0,0,0⟩)
abbrev ZX:Stmt:=qR 9
abbrev aB:Stmt:=qR 10
abbrev Zt:Stmt:=qR 11
abbrev Zr:Stmt:=qR 12
abbrev eW:Stmt:=qR 13
abbrev br:Stmt:=qR 14
abbrev be:Stmt:=qR 20
abbrev aL:Stmt:=qR 21
abbrev Z9:Stmt:=qR 22
abbrev QP:Stmt:=qR 23
abbrev cn:Stmt:=qR 24
abbrev Q3:Stmt:=qR 25
abbrev az:Stmt:=qR 26
abbrev Zx:Stmt:=qR 27
abbrev aT:Stmt:=qR 29
abbrev bp:Stmt:=qR 30
abbrev Zc:Stmt:=qT (qR 32) 0
abbrev QY:Stmt:=qT (qR 32) 2
abbrev Qu:Stmt:=qT (qR 32) 8
abbrev QB:Stmt:=qT (qR 32) 11
abbrev Qi:Stmt:=qT (qR 32) 10
abbrev Qe:Stmt:=qT (qR 32) 9
abbrev Qx:Stmt:=qT (qR 32) 7
abbrev ZV:Stmt:=qT (qR 32) 6
abbrev Qh:Stmt:=qT (qR 32) 12
abbrev ZA:Stmt:=qT (qR 32) 1
abbrev Zg:Stmt:=qT (qR 32) 3
abbrev QL:Stmt:=qT (qR 32) 4
abbrev zY:Stmt:=qT (qR 32) 5
abbrev Qy:Stmt:=qT (qR 32) 13
abbrev QU:Stmt:=qT (qR 32) 14
abbrev Qj:Stmt:=qT (qR 32) 15
abbrev zT:Stmt:=qT (qR 32) 16
abbrev Qf:Stmt:=qT (qR 32) 17
abbrev QZ:Stmt:=qT (qR 32) 18
abbrev QC:Stmt:=qT (qR 32) 19
abbrev a8:Stmt:=qR 34
abbrev av:Stmt:=qR 35
abbrev ZQ:Stmt:=qR 36
abbrev aK:Stmt:=qR 37
abbrev Z0:Stmt:=qR 38
abbrev ZH:Stmt:=qR 39
abbrev aA:Stmt:=qR 40
abbrev ZY:Stmt:=qR 42
abbrev ZF:Stmt:=qR 43
abbrev aQ:Stmt:=qR 45
abbrev ZU:Stmt:=qR 46
abbrev aS:Stmt:=qR 47
abbrev ZZ:Stmt:=qR 48
abbrev ay:Stmt:=qR 49
abbrev ao:Stmt:=qR 50
abbrev aV:Stmt:=qR 51
abbrev Qk:Stmt:=qR 52
abbrev aj:Stmt:=qR 53
abbrev Zi:Stmt:=qR 54
theorem qQ{N P:List Str}{c:Scope}(h1:c.kind= .function:=by rfl)(h2:c.isCoroutine=false:=by rfl)(h3:c.isGenerator=false:=by rfl)(h4:N.Nodup:=by decide +kernel)(h5:N.take P.length=P:=by rfl)(h6:∀x∈P,c.names.lookup x=some .local\/c.names.lookup x=some .cell:=by decide +kernel)(h7:∀y∈c.names,y.2≠ .free:=by decide +kernel):FnScope N P c:=⟨h1,h2,h3,h4,h5,h6,h7⟩
theorem gU:FnScope (["thing"]:List Str) (["thing"]:List Str) (qg ZX):=qQ
theorem i5:FnScope (["thing"]:List Str) (["thing"]:List Str) (qg aB):=qQ
theorem gl:FnScope (["things"]:List Str) (["things"]:List Str) (qg Zt):=qQ
theorem sc_back_table:FnScope (["table","back","place","digit"]:List Str) (["table"]:List Str) (qg Zr):=qQ
theorem sc_coded:FnScope (["table","key","digits","row","shift","place","ahead"]:List Str) (["table","key","digits"]:List Str) (qg eW):=qQ
theorem sc_decoded:FnScope (["table","key","digits","back","row","shift","place","ahead"]:List Str) (["table","key","digits"]:List Str) (qg br):=qQ
theorem ll:FnScope (["thing"]:List Str) (["thing"]:List Str) (qg be):=qQ
theorem kJ:FnScope (["thing"]:List Str) (["thing"]:List Str) (qg aL):=qQ
theorem sc_is_press:FnScope (["thing","name","age","code"]:List Str) (["thing"]:List Str) (qg Z9):=qQ
theorem sc_letter_digits:FnScope (["name","digits","letter","place"]:List Str) (["name"]:List Str) (qg QP):=qQ
theorem sc_key_of:FnScope (["table","key","name","sums","place","digit"]:List Str) (["table","key","name"]:List Str) (qg cn):=qQ
theorem cS:FnScope (["count"]:List Str) (["count"]:List Str) (qg Q3):=qQ
theorem sc_press_of:FnScope (["table","key","name","age","count","deed","four","five"]:List Str) (["table","key","name","age","count","deed"]:List Str) (qg az):=qQ
theorem sc_read_press:FnScope (["table","key","press","name","age","code","low","middle","high","deed","check"]:List Str) (["table","key","press"]:List Str) (qg Zx):=qQ
theorem kO:FnScope (["count","last","near","far"]:List Str) (["count","last","near","far"]:List Str) (qg aT):=qQ
theorem sc_step_by:FnScope (["button","age","count","near","far","own_age","last","waiting","word"]:List Str) (["button","age","count","near","far"]:List Str) (qg bp):=qQ
theorem eR:FnScope (["self","table","keys","near","far","most"]:List Str) (["self","table","keys","near","far","most"]:List Str) (qg Zc):=qQ
theorem dv:FnScope (["self"]:List Str) (["self"]:List Str) (qg QY):=qQ
theorem bP:FnScope (["self","name"]:List Str) (["self","name"]:List Str) (qg Qu):=qQ
theorem bT:FnScope (["self","age"]:List Str) (["self","age"]:List Str) (qg QB):=qQ
theorem bt:FnScope (["self","button","age"]:List Str) (["self","button","age"]:List Str) (qg Qi):=qQ
theorem a9:FnScope (["self","button","age","count"]:List Str) (["self","button","age","count"]:List Str) (qg Qe):=qQ
theorem sc_Door_answer_to:FnScope (["self","press","name","age","code","button","pair","count","deed","word","behind"]:List Str) (["self","press"]:List Str) (qg Qx):=qQ
theorem sc_Door_hear:FnScope (["self","thing","answer"]:List Str) (["self","thing"]:List Str) (qg ZV):=qQ
theorem a7:FnScope (["self","thing"]:List Str) (["self","thing"]:List Str) (qg Qh):=qQ
theorem sc_Door_learn:FnScope (["self","one","other","first","second","name","age","code"]:List Str) (["self","one","other"]:List Str) (qg ZA):=qQ
theorem eA:FnScope (["self","name"]:List Str) (["self","name"]:List Str) (qg Zg):=qQ
theorem sc_Door_turn_key:FnScope (["self","key","turned"]:List Str) (["self","key"]:List Str) (qg QL):=qQ
theorem aI:FnScope (["self","age"]:List Str) (["self","age"]:List Str) (qg zY):=qQ
theorem bU:FnScope (["self"]:List Str) (["self"]:List Str) (qg Qy):=qQ
theorem cA:FnScope (["self"]:List Str) (["self"]:List Str) (qg QU):=qQ
theorem aU:FnScope (["self"]:List Str) (["self"]:List Str) (qg Qj):=qQ
theorem aG:FnScope (["self"]:List Str) (["self"]:List Str) (qg zT):=qQ
theorem aW:FnScope (["self"]:List Str) (["self"]:List Str) (qg Qf):=qQ
theorem cL:FnScope (["self"]:List Str) (["self"]:List Str) (qg QZ):=qQ
theorem sc_Door_twin_door:FnScope (["self","twin"]:List Str) (["self"]:List Str) (qg QC):=qQ
theorem sc_law_box:FnScope (["_law_script","_law_k","_law_cell","_law_folded","_law_one"]:List Str) (["_law_script","_law_k"]:List Str) (qg a8):=qQ
theorem sc_law_take:FnScope (["_law_box_here","_law_many","_law_digit","_law_c","_law_m"]:List Str) (["_law_box_here","_law_many"]:List Str) (qg av):=qQ
theorem sc_law_table:FnScope (["_law_box_here","_law_left"]:List Str) (["_law_box_here"]:List Str) (qg ZQ):=qQ
theorem kH:FnScope (["_law_box_here"]:List Str) (["_law_box_here"]:List Str) (qg aK):=qQ
theorem sc_law_names:FnScope (["_law_box_here","_law_many","_law_some"]:List Str) (["_law_box_here","_law_many"]:List Str) (qg Z0):=qQ
theorem sc_law_bounds:FnScope (["_law_box_here","_law_near"]:List Str) (["_law_box_here"]:List Str) (qg ZH):=qQ
theorem sc_law_made:FnScope (["_law_box_here","_law_wide","_law_near","_law_far","_law_many","_law_keys"]:List Str) (["_law_box_here","_law_wide"]:List Str) (qg aA):=qQ
theorem iF:FnScope (["_law_m","_law_name","_law_age_here","_law_count_here","_law_deed"]:List Str) (["_law_m","_law_name","_law_age_here","_law_count_here","_law_deed"]:List Str) (qg ZY):=qQ
theorem gp:FnScope (["_law_door_here","_law_m","_law_name","_law_age_here","_law_count_here"]:List Str) (["_law_door_here","_law_m","_law_name","_law_age_here","_law_count_here"]:List Str) (qg ZF):=qQ
theorem sc_law_due:FnScope (["_law_m","_law_name","_law_age_here","_law_count_here","_law_deed","_law_own_here","_law_last","_law_waits"]:List Str) (["_law_m","_law_name","_law_age_here","_law_count_here","_law_deed"]:List Str) (qg aQ):=qQ
theorem sc_law_count:FnScope (["_law_box_here","_law_m","_law_name","_law_own_here","_law_last","_law_waits","_law_some","_law_count_here"]:List Str) (["_law_box_here","_law_m","_law_name"]:List Str) (qg ZU):=qQ
theorem sc_law_age:FnScope (["_law_box_here","_law_m","_law_name","_law_own_here"]:List Str) (["_law_box_here","_law_m","_law_name"]:List Str) (qg aS):=qQ
theorem hV:FnScope (["_law_door_here","_law_m"]:List Str) (["_law_door_here","_law_m"]:List Str) (qg ZZ):=qQ
theorem cf:FnScope (["_law_found","_law_due_here"]:List Str) (["_law_found","_law_due_here"]:List Str) (qg ay):=qQ
theorem sc_law_seen:FnScope (["_law_door_here","_law_found"]:List Str) (["_law_door_here"]:List Str) (qg ao):=qQ
theorem sc_law_own:FnScope (["_law_m","_law_made_here"]:List Str) (["_law_m"]:List Str) (qg aV):=qQ
theorem sc_law_listed_door:FnScope (["_law_m","_law_table_here","_law_keys","_law_door_here","_law_key_here"]:List Str) (["_law_m"]:List Str) (qg Qk):=qQ
theorem sc_law_done:FnScope (["_law_box_here","_law_door_here","_law_m","_law_names_here","_law_name","_law_way","_law_key_here","_law_told","_law_age_here","_law_count_here","_law_deed"]:List Str) (["_law_box_here","_law_door_here","_law_m","_law_names_here"]:List Str) (qg aj):=qQ
theorem sc_law:FnScope (["_law_script","_law_first","_law_second","_law_names_here","_law_worlds","_law_door_here","_law_m","_law_k","_law_box_here","_law_turn","_law_at","_law_ahead","_law_j","_law_seen_here"]:List Str) (["_law_script"]:List Str) (qg Zi):=qQ
structure Txt(K:Frag)(mg:Str->Option Value)(tk:Nat->Tok):Prop where
 g_DIGITS:mg "DIGITS"=some (.int 16 (tk 0))
 g_KEY_PLACES:mg "KEY_PLACES"=some (.int 4 (tk 1))
 g_LONGEST_NAME:mg "LONGEST_NAME"=some (.int 8 (tk 2))
 g_CODE_DIGITS:mg "CODE_DIGITS"=some (.int 5 (tk 3))
 g_AGES:mg "AGES"=some (.int 8 (tk 4))
 b_isinstance:mg "isinstance"=none
 b_bool:mg "bool"=none
 b_int:mg "int"=none
 b_tuple:mg "tuple"=none
 b_all:mg "all"=none
 b_len:mg "len"=none
 b_abs:mg "abs"=none
 b_list:mg "list"=none
 b_enumerate:mg "enumerate"=none
 b_range:mg "range"=none
 b_max:mg "max"=none
 b_min:mg "min"=none
 b_str:mg "str"=none
 b_zip:mg "zip"=none
 b_ord:mg "ord"=none
 b_sum:mg "sum"=none
 b_reversed:mg "reversed"=none
 b_sorted:mg "sorted"=none
 b_dict:mg "dict"=none
section
variable{P:Program}{w:World}{K:Frag}{mg:Str->Option Value}{base:Heap}{tk:Nat->Tok}
theorem ij(a:At K mg "is_number" ZX ["thing"])(T:Txt K mg tk):Df P w K mg base "is_number" ["thing"] 1 cH:=by
 refine a.dq gU (fun vs H Q E h=>?_) (fun f cdv A outer s H vs Q E hr h=>?_)
 ·obtain⟨x,t,rfl,_⟩:=h
  rfl
 ·obtain⟨x,t,rfl,hk,q⟩:=h
  obtain⟨ty,ht⟩:=vZ (K:=K) hk
  refine⟨_,(qf (qj (Qm (qp gY (by rfl) T.b_isinstance PyProof.Rows.boot_isinstance (qb (qv 0) (qb (zp (v:= .ty "int") rfl T.b_int PyProof.Rows.boot_int rfl) qa))) (Zs (g9 (qp gY (by rfl) T.b_isinstance PyProof.Rows.boot_isinstance (qb (qv 0) (qb (zp (v:= .ty "bool") rfl T.b_bool PyProof.Rows.boot_bool rfl) qa)))))))),?_⟩
  rw[sw hk]at q
  refine⟨_,rfl,x,"int",t,rfl,ty,ht,by simp,_,rfl,?_⟩
  cases hi:zj t "int" with
  |false=>
   refine qS ?_
   rw[hi,Bool.false_and]at q
   exact q
  |true=>
   refine zc ?_
   rw[hi,Bool.true_and]at q
   exact⟨_,rfl,x,"bool",t,rfl,ty,ht,by simp,_,rfl,q⟩
theorem jf(a:At K mg "is_digit" aB ["thing"])(T:Txt K mg tk)(dM:Df P w K mg base "is_number" ["thing"] 1 cH):Df P w K mg base "is_digit" ["thing"] 2 jZ:=by
 refine a.dq i5 (fun vs H Q E h=>?_) (fun f cdv A outer s H vs Q E hr h=>?_)
 ·obtain⟨x,t,rfl,_⟩:=h
  rfl
 ·obtain⟨x,t,rfl,hk,q⟩:=h
  refine⟨_,(qf (qj (Qm (qm dM hr.mo (qb (qv 0) qa)) (Zs (cq Qo ZJ qe (qv 0) (qX (v:= .int 16) rfl T.g_DIGITS ⟨_,rfl⟩)))))),?_⟩
  refine⟨_,rfl,x,t,rfl,hk,_,rfl,?_⟩
  cases hn:ci x with
  |false=>
   refine qS ?_
   rw[md hn]at q
   exact q
  |true=>
   refine zc ?_
   obtain⟨i,rfl⟩:=pK hn
   refine⟨_,rfl,_,_,rfl,rfl,_,rfl,?_⟩
   have q':Q (.bl (decide (0<=i)&&decide (i<16))) H:=q
   refine qL (fun h0=>?_) (fun h0=>?_)
   ·refine⟨_,_,rfl,rfl,?_⟩
    rw[h0,Bool.true_and]at q'
    exact q'
   ·rw[Bool.eq_false_iff.mpr h0,Bool.false_and]at q'
    exact q'
theorem ge(a:At K mg "are_digits" Zt ["things"])(T:Txt K mg tk)(xY:Df P w K mg base "is_digit" ["thing"] 2 jZ):Df P w K mg base "are_digits" ["things"] 3 iT:=by
 refine a.dq gl (fun vs H Q E h=>?_) (fun f cdv A outer s H vs Q E hr h=>?_)
 ·obtain⟨x,t,rfl,_⟩:=h
  rfl
 ·obtain⟨p,xs,rfl,hp,hz,hk,q⟩:=h
  refine⟨_,(qf (qj (qp (bB rfl) (by rfl) T.b_all PyProof.Rows.boot_all (qb (zD (own:=["thing"]) (fr:=[]) (js:=[]) rfl (tT (qv 0)) rfl (fun _ _ h=>nomatch h) rfl (cB rfl (by decide +kernel) (by decide +kernel) (by decide +kernel)) (fun _ _ _ _=>ql (i:=0) (show List.Nodup (["thing"]:List Str)from by decide +kernel) rfl (Or.inl rfl) (.inr rfl)) (fun _ _ _ _=>(qm xY hr.mo (qb (qv 0) qa)))) qa)))),?_⟩
  refine⟨_,rfl,p,rfl,⟨xs,SqT.of hp⟩,pj (xs:=xs) hz (fun i ys H2=>ys=(xs.take i).map (fun x=>V.bl (aq x))/\Same H H2) ⟨by simp,Same.refl H⟩ (fun i ys H2 ⟨_,s2⟩=>SqT.of (s2 _ _ hp)) ?_ ?_⟩
  ·rintro i ys H2 x hx _ ⟨rfl,s2⟩
   obtain⟨t,ht⟩:=hk x (List.mem_of_getElem? hx)
   refine⟨_,rfl,x,t,rfl,bG s2 ht,?_,s2⟩
   rw[List.take_add_one,hx]
   simp
  ·rintro ys H2 _ ⟨rfl,s2⟩ l hl
   rw[List.take_length]
   refine⟨l,xs.map aq,rfl,SqL.of (by rw[List.map_map];exact qc),?_⟩
   rw[List.all_map]
   exact q _ (s2.trans (Same.upd hl))
theorem kj(a:At K mg "is_name" be ["thing"])(T:Txt K mg tk):Df P w K mg base "is_name" ["thing"] 1 fX:=by
 refine a.dq ll (fun vs H Q E h=>?_) (fun f cdv A outer s H vs Q E hr h=>?_)
 ·obtain⟨_,_,rfl,_⟩:=h
  rfl
 ·obtain⟨x,b,rfl,hx,q⟩:=h
  refine⟨_,(qd (qI (QW.pt (zE (zB (zn (qp zb (by rfl) T.b_isinstance PyProof.Rows.boot_isinstance (qb (qv 0) (qb (zp (v:= .ty "str") rfl T.b_str PyProof.Rows.boot_str rfl) qa))))) (zJ (zB (ig Qo Qo qe (qp iq (by rfl) T.b_len PySem.boot_len (qb (qv 0) qa)) (qX (v:= .int 8) rfl T.g_LONGEST_NAME ⟨_,rfl⟩)))))) (qf (qj Qs)) qx)
   (qf (qj (qp (bB rfl) (by rfl) T.b_all PyProof.Rows.boot_all (qb (zD (own:=["letter"]) (fr:=[]) (js:=[]) rfl (mD (qv 0)) rfl (fun _ _ h=>nomatch h) rfl (cB rfl (by decide +kernel) (by decide +kernel) (by decide +kernel)) (fun _ _ _ _=>ql (i:=0) (show List.Nodup (["letter"]:List Str)from by decide +kernel) rfl (Or.inl rfl) (.inr rfl)) (fun _ _ _ _=>(cq fA fA qh (qv 0) qh))) qa))))),?_⟩
  rcases hx with⟨z,rfl,hz,hl,rfl⟩|⟨t,hk,hs,rfl⟩
  case inr=>
   refine⟨_,rfl,x,"str",t,rfl,gR hk,by simp,_,rfl,?_⟩
   rw[hs]
   exact zc (q _ (Same.refl _))
  have zl:z.length=z.cps.toList.length:=rfl
  refine⟨_,rfl,_,"str","str",rfl,.str z,by simp,_,rfl,?_⟩
  refine qS ?_
  refine⟨_,rfl,z,rfl,by rw[sizeLine_eq];omega,_,_,rfl,rfl,_,rfl,?_⟩
  unfold pT at q
  by_cases h1:1<=z.length
  case neg=>
   refine Zf (decide_eq_false (by omega)) ⟨_,rfl,zc ?_⟩
   rw[decide_eq_false h1,Bool.false_and,Bool.false_and]at q
   exact q _ (Same.refl _)
  refine Ze (decide_eq_true (by omega)) ?_
  refine⟨_,_,rfl,rfl,_,rfl,?_⟩
  rw[decide_eq_true h1,Bool.true_and]at q
  by_cases h8:z.length<=8
  case neg=>
   refine Ze (by rw[decide_eq_false (by omega:¬((z.length:Nat):Int)<=8)];rfl) ?_
   rw[decide_eq_false h8,Bool.false_and]at q
   exact q _ (Same.refl _)
  refine Zf (by rw[decide_eq_true (by omega:((z.length:Nat):Int)<=8)];rfl) ?_
  rw[decide_eq_true h8,Bool.true_and]at q
  refine⟨_,rfl,z,rfl,hz,oh (by show z.cps.toList.length<=_;rw[sizeLine_eq];omega) (fun i ys H2=>H2=H/\ys=((z.cps.toList.take i).map gL).map V.bl) ⟨rfl,rfl⟩ ?_ ?_⟩
  ·rintro i ys H2 c hc _ ⟨rfl,rfl⟩
   have hc':=jy hc
   obtain⟨l1,l2⟩:=ko c
   refine⟨_,rfl,_,_,rfl,rfl,_,rfl,?_⟩
   rw[List.take_add_one,hc',List.map_append,List.map_append]
   by_cases h97:97<=c
   ·refine Ze (by rw[l1,decide_eq_true h97]) ⟨_,_,rfl,rfl,rfl,?_⟩
    rw[l2]
    show _=_++[V.bl (decide (97<=c)&&decide (c<=122))]
    rw[decide_eq_true h97,Bool.true_and]
   ·refine Zf (by rw[l1,decide_eq_false h97]) ⟨rfl,?_⟩
    show _=_++[V.bl (decide (97<=c)&&decide (c<=122))]
    rw[decide_eq_false h97,Bool.false_and]
  ·rintro ys H2 hl ⟨rfl,rfl⟩ l hl'
   refine⟨l,z.cps.toList.map gL,rfl,SqL.of (by rw[show z.cps.size=z.cps.toList.length from rfl,List.take_length];exact qc),?_⟩
   rw[List.all_map]
   exact q _ (Same.upd hl')
theorem j8(a:At K mg "is_code" aL ["thing"])(T:Txt K mg tk)(xP:Df P w K mg base "are_digits" ["things"] 3 iT):Df P w K mg base "is_code" ["thing"] 4 fR:=by
 refine a.dq kJ (fun vs H Q E h=>?_) (fun f cdv A outer s H vs Q E hr h=>?_)
 ·obtain⟨_,_,rfl,_⟩:=h
  rfl
 ·obtain⟨x,b,rfl,hx,q⟩:=h
  refine⟨_,(qd (qI (zB (zn (qp zb (by rfl) T.b_isinstance PyProof.Rows.boot_isinstance (qb (qv 0) (qb (zp (v:= .ty "tuple") rfl T.b_tuple PyProof.Rows.boot_tuple rfl) qa))))) (qf (qj Qs)) qx)
   (qf (qj (Qm (zx zy (qp qF (by rfl) T.b_len PySem.boot_len (qb (qv 0) qa)) (qX (v:= .int 5) rfl T.g_CODE_DIGITS ⟨_,rfl⟩) (qr _)) (Zs (qm xP hr.mo (qb (qv 0) qa))))))),?_⟩
  rcases hx with⟨pc,ds,rfl,hp,hl,hk,rfl⟩|⟨t,hk,hs,rfl⟩
  case inr=>
   refine⟨_,rfl,x,"tuple",t,rfl,gR hk,by simp,_,rfl,?_⟩
   rw[hs]
   exact zc (q _ (Same.refl _))
  refine⟨_,rfl,_,"tuple","tuple",rfl,.tup (.inl hp),by simp,_,rfl,?_⟩
  refine qS ?_
  refine⟨_,rfl,pc,_,rfl,.inr (SqT.of hp),rfl,_,rfl,?_⟩
  by_cases h5:ds.length=5
  ·refine Ze (decide_eq_true (by rw[h5];rfl)) ?_
   refine⟨_,rfl,pc,_,rfl,hp,by rw[sizeLine_eq];omega,hk,fun H' s'=>?_⟩
   rw[decide_eq_true h5,Bool.true_and]at q
   exact q _ s'
  ·rw[decide_eq_false h5,Bool.false_and]at q
   refine Zf (decide_eq_false (by intro z;injection z with z;omega)) ?_
   exact q _ (Same.refl _)
theorem i8(a:At K mg "is_press" Z9 ["thing"])(T:Txt K mg tk)(yD:Df P w K mg base "is_name" ["thing"] 1 fX)(dM:Df P w K mg base "is_number" ["thing"] 1 cH)(yB:Df P w K mg base "is_code" ["thing"] 4 fR):Df P w K mg base "is_press" ["thing"] 5 ag:=by
 refine a.dq sc_is_press (fun vs H Q E h=>?_) (fun f cdv A outer s H vs Q E hr h=>?_)
 ·obtain⟨_,_,rfl,_⟩:=h
  rfl
 ·obtain⟨x,b,rfl,hx,q⟩:=h
  refine⟨_,(qd (qI (QW.pt (zE (zB (zn (qp zb (by rfl) T.b_isinstance PyProof.Rows.boot_isinstance (qb (qv 0) (qb (zp (v:= .ty "tuple") rfl T.b_tuple PyProof.Rows.boot_tuple rfl) qa))))) (zJ (qu bM (qp qF (by rfl) T.b_len PySem.boot_len (qb (qv 0) qa)) qe (qr _))))) (qf (qj Qs)) qx)
   (qd (zr (qv 0) (zI rfl (qq (ql (i:=1) sc_is_press.nd rfl (Or.inl rfl)) (qq (ql (i:=2) sc_is_press.nd rfl (Or.inl rfl)) (qq (ql (i:=3) sc_is_press.nd rfl (Or.inl rfl)) qY)))))
   (qf (qj (Qm (qm yD hr.mo (qb (qv 1) qa)) (Qm (qm dM hr.mo (qb (qv 2) qa)) (Zs (qm yB hr.mo (qb (qv 3) qa))))))))),?_⟩
  cases hx with
  | @kd t hk hs=>
   refine⟨_,rfl,x,"tuple",t,rfl,gR hk,by simp,_,rfl,?_⟩
   rw[hs]
   exact zc (q _ (Same.refl _))
  | @len a xs e h l n=>
   subst e
   refine⟨_,rfl,_,"tuple","tuple",rfl,.tup (.inl h),by simp,_,rfl,?_⟩
   refine qS ?_
   refine⟨_,rfl,a,_,rfl,.inr (SqT.of h),rfl,_,rfl,?_⟩
   refine Ze (by rw[decide_eq_false (by intro z;injection z with z;omega)];rfl) ?_
   exact q _ (Same.refl _)
  | @tup a n y c bn bc ty e h hn hy hc=>
   subst e
   refine⟨_,rfl,_,"tuple","tuple",rfl,.tup (.inl h),by simp,_,rfl,?_⟩
   refine qS ?_
   refine⟨_,rfl,a,_,rfl,.inr (SqT.of h),rfl,_,rfl,?_⟩
   refine cK rfl ?_
   refine⟨_,rfl,a,_,rfl,.tup h,rfl,_,_,rfl,_,_,rfl,_,_,rfl,rfl,?_⟩
   refine⟨_,rfl,n,bn,rfl,hn,fun H1 s1=>⟨_,rfl,?_⟩⟩
   cases bn with
   |false=>exact qS (q _ s1)
   |true=>
    refine zc ?_
    refine⟨_,rfl,y,ty,rfl,bG s1 hy,_,rfl,?_⟩
    cases hnum:ci y with
    |false=>
     rw[hnum]at q
     exact qS (q _ s1)
    |true=>
     rw[hnum]at q
     refine zc ?_
     exact⟨_,rfl,c,bc,rfl,hc.same s1,fun H2 s2=>q _ (s1.trans s2)⟩
theorem kz(a:At K mg "word_of" aT ["count","last","near","far"])(T:Txt K mg tk):Df P w K mg base "word_of" ["count","last","near","far"] 1 jK:=by
 refine a.dq kO (fun vs H Q E h=>?_) (fun f cdv A outer s H vs Q E hr h=>?_)
 ·obtain⟨c,l,n,f,rfl,_⟩:=h
  rfl
 ·obtain⟨c,l,n,f,rfl,q⟩:=h
  unfold li at q
  refine⟨_,(qd (qI (qu Qo (qv 0) (qv 1) (qr _)) (qf (qj qh)) qx)
   (qd (qI (qu Qo (qv 0) (qk qE (qv 1) (qv 2)) (qr _)) (qf (qj qh)) qx)
   (qd (qI (qu Qo (qv 0) (qk qE (qv 1) (qv 3)) (qr _)) (qf (qj qh)) qx)
   (qf (qj qh))))),?_⟩
  refine⟨_,rfl,_,rfl,_,_,rfl,rfl,_,rfl,?_⟩
  refine qL (fun z=>?_) (fun z=>?_)
  ·rw[if_pos (of_decide_eq_true z)]at q;exact q
  ·rw[if_neg (fun y=>z (decide_eq_true y))]at q
   refine⟨_,rfl,_,rfl,_,rfl,_,_,rfl,rfl,_,_,rfl,rfl,_,rfl,?_⟩
   refine qL (fun z=>?_) (fun z=>?_)
   ·rw[if_pos (of_decide_eq_true z)]at q;exact q
   ·rw[if_neg (fun y=>z (decide_eq_true y))]at q
    refine⟨_,rfl,_,rfl,_,rfl,_,_,rfl,rfl,_,_,rfl,rfl,_,rfl,?_⟩
    refine qL (fun z=>?_) (fun z=>?_)
    ·rw[if_pos (of_decide_eq_true z)]at q;exact q
    ·rw[if_neg (fun y=>z (decide_eq_true y))]at q;exact q
theorem lj(a:At K mg "step_by" bp ["button","age","count","near","far"])(T:Txt K mg tk)(x9:Df P w K mg base "word_of" ["count","last","near","far"] 1 jK):Df P w K mg base "step_by" ["button","age","count","near","far"] 2 jx:=by
 refine a.dq sc_step_by (fun vs H Q E h=>?_) (fun f cdv A outer s H vs Q E hr h=>?_)
 ·obtain⟨_,_,_,_,_,_,rfl,_⟩:=h
  rfl
 ·obtain⟨a,e,age,c,near,far,rfl,⟨v,hb,hw⟩,q⟩:=h
  refine⟨_,(qd (zr (qv 0) (zI rfl (qq (ql (i:=5) sc_step_by.nd rfl (Or.inl rfl)) (qq (ql (i:=6) sc_step_by.nd rfl (Or.inl rfl)) (qq (ql (i:=7) sc_step_by.nd rfl (Or.inl rfl)) qY)))))
   (qd (qz (i:=8) sc_step_by.nd rfl (Or.inl rfl) (qm x9 hr.mo (qb (qv 2) (qb (qv 6) (qb (qv 3) (qb (qv 4) qa))))))
   (qd (qI (QW.pt (Qn (qu zy (qv 8) qh (qr _)) (QK (qu (nF hr) (qv 7) (qA (qb (qv 1) (qb (qk Q8 (qv 2) qe) qa))) (qr _))))) (qf (qz (i:=8) sc_step_by.nd rfl (Or.inl rfl) qh)) qx)
   (qd (qI (qu zy (qv 8) qh (qr _)) (qf (qj (qA (qb (qv 8) (qb (qA (qb (qv 1) (qb (qv 2) (qb zd qa)))) qa))))) qx)
   (qd (qI (qu zy (qv 8) qh (qr _)) (qf (qj (qA (qb (qv 8) (qb (qA (qb (qv 5) (qb (qv 6) (qb (qA (qb (qv 1) (qb (qv 2) qa))) qa)))) qa))))) qx)
   (qf (qj (qA (qb (qv 8) (qb (qv 0) qa)))))))))),?_⟩
  refine⟨_,rfl,a,_,rfl,.tup hb,rfl,_,_,rfl,_,_,rfl,_,_,rfl,rfl,?_⟩
  refine⟨_,rfl,_,rfl,_,rfl,_,rfl,c,e.last,near,far,rfl,?_⟩
  unfold qZ at q
  unfold li
  by_cases h1:c<=e.last
  ·rw[if_pos h1]
   rw[if_pos h1]at q
   refine⟨_,rfl,rfl,_,rfl,?_⟩
   refine qL (fun y=>absurd (of_decide_eq_true y) (by decide +kernel)) (fun _=>?_)
   refine⟨_,rfl,rfl,_,rfl,?_⟩
   refine qL (fun y=>absurd (of_decide_eq_true y) (by decide +kernel)) (fun _=>?_)
   refine⟨_,rfl,rfl,_,rfl,?_⟩
   refine qL (fun y=>absurd (of_decide_eq_true y) (by decide +kernel)) (fun _=>?_)
   refine⟨_,rfl,_,rfl,by show 2<=sizeLine;decide,fun q1 hq1=>?_⟩
   exact q q1 a _ (Same.upd hq1) qc (BuAt.same (Same.upd hq1) ⟨v,hb,hw⟩)
  ·rw[if_neg h1]
   rw[if_neg h1]at q
   by_cases h2:c<=e.last+near
   ·rw[if_pos h2]
    rw[if_pos h2]at q
    refine⟨_,rfl,rfl,_,rfl,?_⟩
    refine qL (fun y=>absurd (of_decide_eq_true y) (by decide +kernel)) (fun _=>?_)
    refine⟨_,rfl,rfl,_,rfl,?_⟩
    refine qL (fun _=>?_) (fun y=>absurd (decide_eq_true rfl) y)
    refine⟨_,rfl,_,rfl,_,rfl,by show 3<=sizeLine;decide,fun t ht=>⟨by show 2<=sizeLine;decide,fun q1 hq1=>?_⟩⟩
    have u1:=Same.upd (o:= .tup [.int age,.int c,.non]) ht
    have u2:=Same.upd (o:= .tup [.str "near",.ref t]) hq1
    exact q q1 t _ (u1.trans u2) qc ⟨.non,u2 _ _ qc,rfl⟩
   ·rw[if_neg h2]
    rw[if_neg h2]at q
    by_cases h3:c<=e.last+far
    ·rw[if_pos h3]
     rw[if_pos h3]at q
     refine⟨_,rfl,rfl,_,rfl,?_⟩
     refine qL (fun _=>?_) (fun y=>absurd (decide_eq_true rfl) y)
     refine⟨_,rfl,_,rfl,_,rfl,_,_,rfl,rfl,by show 2<=sizeLine;decide,fun t0 ht0=>?_⟩
     have u0:=Same.upd (o:= .tup [.int age,.int (c-1)]) ht0
     have hw0:=hw.mv (S:=[]) u0.mv (fun c h=>nomatch h)
     refine⟨e.wt,t0,age,c-1,hw0,rfl,.inl qc,_,rfl,?_⟩
     by_cases h4:e.wt=some (age,c-1)
     ·rw[if_pos h4]at q
      refine Ze (decide_eq_true h4) ?_
      refine⟨_,rfl,rfl,_,rfl,?_⟩
      refine qL (fun _=>?_) (fun y=>absurd (decide_eq_true rfl) y)
      refine⟨_,rfl,_,rfl,_,rfl,by show 3<=sizeLine;decide,fun t ht=>⟨by show 2<=sizeLine;decide,fun q1 hq1=>?_⟩⟩
      have u1:=Same.upd (o:= .tup [.int age,.int c,.non]) ht
      have u2:=Same.upd (o:= .tup [.str "near",.ref t]) hq1
      exact q q1 t _ ((u0.trans u1).trans u2) qc ⟨.non,u2 _ _ qc,rfl⟩
     ·rw[if_neg h4]at q
      refine Zf (decide_eq_false h4) ?_
      refine⟨_,rfl,rfl,_,rfl,?_⟩
      refine qL (fun y=>absurd (of_decide_eq_true y) (by decide +kernel)) (fun _=>?_)
      refine⟨_,rfl,rfl,_,rfl,?_⟩
      refine qL (fun _=>?_) (fun y=>absurd (decide_eq_true rfl) y)
      refine⟨_,rfl,_,rfl,_,rfl,_,rfl,_,rfl,by show 2<=sizeLine;decide,fun t1 ht1=>⟨by show 3<=sizeLine;decide,fun t ht=>⟨by show 2<=sizeLine;decide,fun q1 hq1=>?_⟩⟩⟩
      have u1:=Same.upd (o:= .tup [.int age,.int c]) ht1
      have u2:=Same.upd (o:= .tup [.int e.age,.int e.last,.ref t1]) ht
      have u3:=Same.upd (o:= .tup [.str "far",.ref t]) hq1
      exact q q1 t _ (((u0.trans u1).trans u2).trans u3) qc ⟨.ref t1,u3 _ _ qc,t1,rfl,u3 _ _ (u2 _ _ qc)⟩
    ·rw[if_neg h3]
     rw[if_neg h3]at q
     refine⟨_,rfl,rfl,_,rfl,?_⟩
     refine qL (fun y=>absurd (of_decide_eq_true y) (by decide +kernel)) (fun _=>?_)
     refine⟨_,rfl,rfl,_,rfl,?_⟩
     refine qL (fun y=>absurd (of_decide_eq_true y) (by decide +kernel)) (fun _=>?_)
     refine⟨_,rfl,rfl,_,rfl,?_⟩
     refine qL (fun y=>absurd (of_decide_eq_true y) (by decide +kernel)) (fun _=>?_)
     refine⟨_,rfl,_,rfl,by show 2<=sizeLine;decide,fun q1 hq1=>?_⟩
     exact q q1 a _ (Same.upd hq1) qc (BuAt.same (Same.upd hq1) ⟨v,hb,hw⟩)
end
section
variable{P:Program}{w:World}{K:Frag}{mg:Str->Option Value}{base:Heap}{tk:Nat->Tok}{C:Addr}
theorem eG(a:AtM K C "__init__" "Door.__init__" Zc ["self","table","keys","near","far","most"])(T:Txt K mg tk)(U:DCx K C):Mf P w K mg base C "__init__" ["self","table","keys","near","far","most"] 1 (cm K C):=by
 refine a.mq eR (fun vs H Q E h=>?_) (fun f cdv A outer s H vs Q E hr h=>?_)
 ·obtain⟨_,_,_,_,_,_,_,_,_,rfl,_⟩:=h
  rfl
 ·obtain⟨p,a,b,dx,near,far,most,t,kss,rfl,hp,ha,hb,hl,q⟩:=h
  refine⟨_,(qd (zK (qv 0) (qC b9 (by rfl) T.b_tuple PyProof.Rows.boot_tuple (qb (qv 1) qa)))
   (qd (zK (qv 0) (zD (own:=["key"]) (fr:=[]) (js:=[]) rfl (zZ (qv 2)) rfl (fun _ _ h=>nomatch h) rfl (cB rfl (by decide +kernel) (by decide +kernel) (by decide +kernel)) (fun _ _ _ _=>ql (i:=0) (show List.Nodup (["key"]:List Str)from by decide +kernel) rfl (Or.inl rfl) (.inr rfl)) (fun _ _ _ _=>(qC bX (by rfl) T.b_tuple PyProof.Rows.boot_tuple (qb (qv 0) qa)))))
   (qd (zK (qv 0) (qv 3))
   (qd (zK (qv 0) (qv 4))
   (qd (zK (qv 0) (qv 5))
   (qd (zK (qv 0) qe)
   (qd (zK (qv 0) iC)
   (qf (zK (qv 0) (zk qa)))))))))),?_⟩
  refine⟨_,rfl,a,_,rfl,ha,fun ta H2 s2 ht=>⟨_,rfl,p,_,rfl,zW U.cl (s2 _ _ hp) U.n_table 0,?_⟩⟩
  have e2:=s2 _ _ hp
  have hb2:=(hb.same s2).upd (o:= .ins C dx [("table",.ref ta)]) e2
  obtain⟨as,eb,la,hks⟩:=hb2
  have ht2:=rZ (o:= .ins C dx [("table",.ref ta)]) e2 ht
  refine⟨_,rfl,b,rfl,⟨_,SqL.of eb⟩,Q9 (K:=K) (xs:=as.map V.ref) (by rw[List.length_map,la,sizeLine_eq];omega) (fun i ys H3=>Same (upd H2 p (.ins C dx [("table",.ref ta)])) H3/\∃bs:List Addr,ys=bs.map V.ref/\bs.length=i/\∀(j:Nat) (x:Addr) (ks:List Int),bs[j]? =some x->kss[j]? =some ks->SqT [] H3 x (ks.map V.int)) ⟨Same.refl _,[],rfl,rfl,fun j x ks e=>by(cases e)⟩ (fun i ys H3 ⟨s3,_⟩=>s3.seq (SqL.of eb)) ?_ ?_⟩
  ·rintro i ys H3 x hx hyl ⟨s3,bs,rfl,hbl,hbs⟩
   rw[List.getElem?_map]at hx
   cases ea:as[i]? with
   |none=>rw[ea]at hx;cases hx
   |some x0=>
    rw[ea]at hx
    obtain rfl:V.ref x0=x:=Option.some.inj hx
    have hi:i<kss.length:=by rw[<- la];exact(List.getElem?_eq_some_iff.mp ea).1
    have hk0:=hks i x0 kss[i] ea (List.getElem?_eq_getElem hi)
    refine⟨_,rfl,x0,_,rfl,LtN.same s3 hk0,fun l H4 s4 hl4=>⟨s3.trans s4,bs++[l],by simp,by simp [hbl],fun j y ks e1 e2'=>?_⟩⟩
    rw[List.getElem?_append]at e1
    split at e1
    ·exact Same.sqt s4 (hbs j y ks e1 e2')
    ·have hj:j-bs.length=0:=by
      cases hj:j-bs.length with
      |zero=>rfl
      |succ k=>rw[hj]at e1;cases e1
     rw[hj]at e1
     cases e1
     have:j=i:=by omega
     subst this
     rw[List.getElem?_eq_getElem hi]at e2'
     cases e2'
     exact .inl hl4
  ·rintro ys H3 hyl ⟨s3,bs,rfl,hbl,hbs⟩ hk hhk
   have u3:=Same.upd (o:= .lst (bs.map V.ref)) hhk
   have e3:=u3 _ _ (s3 _ _ qc)
   refine⟨_,rfl,p,_,rfl,zW U.cl e3 U.n_house_keys 1,?_⟩
   refine⟨_,rfl,_,rfl,p,_,rfl,zW U.cl qc U.n_near 2,?_⟩
   refine⟨_,rfl,_,rfl,p,_,rfl,zW U.cl qc U.n_far 3,?_⟩
   refine⟨_,rfl,_,rfl,p,_,rfl,zW U.cl qc U.n_most 4,?_⟩
   refine⟨_,rfl,p,_,rfl,zW U.cl qc U.n_least_age 5,?_⟩
   refine fun bd hbd=>⟨_,rfl,p,_,rfl,zW U.cl (by rw[qi (qo qc hbd)];exact qc) U.n_buttons 6,?_⟩
   have nbd:=qo qc hbd
   refine⟨by show 0<=sizeLine;decide,fun lg hlg=>⟨_,rfl,p,_,rfl,zW U.cl (by rw[qi (qo qc hlg)];exact qc) U.n_log 7,?_⟩⟩
   have nlg:=qo qc hlg
   have m3:Mv [p] H H3:=((s2.mv (S:=[p])).trans Mv.upd1).trans s3.mv
   have nhk:hk≠p:=(qo (s3 _ _ qc) hhk).symm
   have m4:Mv [p] H (upd H3 hk (.lst (bs.map V.ref))):=m3.trans u3.mv
   have M:∀o1 o2 o3 o4 o5,Mv [p] (upd H3 hk (.lst (bs.map V.ref))) (upd (upd (upd (upd (upd (upd H3 hk (.lst (bs.map V.ref))) p o1) p o2) p o3) p o4) p o5):=fun o1 o2 o3 o4 o5=>(((Mv.upd1.trans Mv.upd1).trans Mv.upd1).trans Mv.upd1).trans Mv.upd1
   have M6:Mv [p] (upd H3 hk (.lst (bs.map V.ref))) _:=(((M _ _ _ _ _).trans (Same.upd hbd).mv).trans Mv.upd1).trans (Same.upd (o:= .lst []) hlg).mv
   have M7:=M6.trans (Mv.upd1 (o:= .ins C dx (dF ⟨t,kss,near,far,most,0,[]⟩ ta hk bd lg)))
   have nt:NT [p] (upd H3 hk (.lst (bs.map V.ref))):=NT.one e3 trivial
   have hbdlg:bd≠lg:=qo (by rw[qi nbd.symm];exact qc) hlg
   have KR:=KsAt.mv M7 nt (qK nhk) (show KsAt [] _ hk kss from⟨bs,qc,by rw[hbl,List.length_map,la],fun j x ks e1 e2'=>Same.sqt u3 (hbs j x ks e1 e2')⟩)
   refine q ta hk bd lg _ (m3.nfree (qK nhk) hhk) ((m4.trans (M _ _ _ _ _)).nfree (qK nbd.symm) hbd) ((m4.trans ((((M _ _ _ _ _).trans (Same.upd hbd).mv).trans Mv.upd1))).nfree (qK nlg.symm) hlg) (m4.trans M7) ⟨⟨dx,qc⟩,?_,KsAt.up KR,?_,?_,?_⟩ KR
   ·exact M7.sqt nt (Same.sqt u3 (Same.sqt s3 ht2))
   ·exact⟨([],fun _=>0),by rw[qi nbd.symm,qi hbdlg,qi nbd.symm];exact qc,fun e he=>by(cases he),.refl _,List.nodup_nil⟩
   ·exact⟨[],by rw[qi nlg.symm];exact qc,Nat.le_refl _⟩
   ·refine(qo (o:= .lst (bs.map V.ref)) ?_ hlg).symm
    rw[qi nhk]
    rw[qi (qo (o:= .lst (bs.map V.ref)) (by rw[qi nhk,qi nhk,qi nhk,qi nhk,qi nhk];exact qc) hbd)]
    rw[qi nhk,qi nhk,qi nhk,qi nhk,qi nhk]
    exact qc
theorem cY(a:AtM K C "is_full" "Door.is_full" QY ["self"])(T:Txt K mg tk)(U:DCx K C):Mf P w K mg base C "is_full" ["self"] 1 (j4 K C):=by
 refine a.mq dv (fun vs H Q E h=>?_) (fun f cdv A outer s H vs Q E hr h=>?_)
 ·obtain⟨_,_,_,_,_,_,_,rfl,_⟩:=h
  rfl
 ·obtain⟨p,ta,hk,bd,lg,n,D,rfl,b,q⟩:=h
  obtain⟨fn,hd,_,hpm,_⟩:=b.kb
  refine⟨_,(qf (qj (zx gw (qp fT (by rfl) T.b_len PySem.boot_len (qb (qH (qv 0)) qa)) (qH (qv 0)) (qr _)))),?_⟩
  refine⟨_,rfl,p,_,rfl,b.h_buttons U,bd,_,rfl,hd,_,rfl,p,_,rfl,b.h_most U,_,_,rfl,rfl,?_⟩
  rw[show(zO fn.1 fn.2).length=D.kn.length from(List.length_map _).trans hpm.length_eq]
  exact q
theorem bW(a:AtM K C "button_of" "Door.button_of" Qu ["self","name"])(T:Txt K mg tk)(U:DCx K C):Mf P w K mg base C "button_of" ["self","name"] 1 (pR K C):=by
 refine a.mq bP (fun vs H Q E h=>?_) (fun f cdv A outer s H vs Q E hr h=>?_)
 ·obtain⟨_,_,_,_,_,_,_,_,rfl,_⟩:=h
  rfl
 ·obtain⟨p,ta,hk,bd,lg,n,D,nm,rfl,b,q1,q2⟩:=h
  refine⟨_,(qf (qj (og hr (qH (qv 0)) (qv 1)))),?_⟩
  obtain⟨fn,hd,_⟩:=id b.kb
  refine⟨_,rfl,p,_,rfl,b.h_buttons U,bd,rfl,.inl ⟨_,.inl hd⟩,_,rfl,?_⟩
  rcases b.kb.get nm with⟨e1,g⟩|⟨e,x,e1,g,hx⟩
  ·exact⟨_,g,q1 e1⟩
  ·exact⟨_,g,q2 e x e1 hx⟩
theorem bV(a:AtM K C "takes_age" "Door.takes_age" QB ["self","age"])(T:Txt K mg tk)(U:DCx K C):Mf P w K mg base C "takes_age" ["self","age"] 1 (cE K C):=by
 refine a.mq bT (fun vs H Q E h=>?_) (fun f cdv A outer s H vs Q E hr h=>?_)
 ·obtain⟨_,_,_,_,_,_,_,_,rfl,_⟩:=h
  rfl
 ·obtain⟨p,ta,hk,bd,lg,n,D,age,rfl,b,q⟩:=h
  obtain⟨as,eh,la,_⟩:=b.ks
  refine⟨_,(qf (qj (cq Qo ZJ (qH (qv 0)) (qv 1) (qp qF (by rfl) T.b_len PySem.boot_len (qb (qH (qv 0)) qa))))),?_⟩
  unfold zP at q
  refine⟨_,rfl,p,_,rfl,b.h_least_age U,_,rfl,_,_,rfl,rfl,_,rfl,?_⟩
  refine qL (fun z=>?_) (fun z=>?_)
  ·rw[z,Bool.true_and]at q
   refine⟨_,rfl,p,_,rfl,b.h_house_keys U,hk,_,rfl,.inl (SqL.of eh),_,_,rfl,rfl,?_⟩
   rw[List.length_map,la]
   exact q
  ·rw[Bool.eq_false_iff.mpr z,Bool.false_and]at q
   exact q
theorem aZ(a:AtM K C "takes_from" "Door.takes_from" Qi ["self","button","age"])(T:Txt K mg tk)(U:DCx K C)(dC:Mf P w K mg base C "takes_age" ["self","age"] 1 (cE K C)):Mf P w K mg base C "takes_from" ["self","button","age"] 2 (et K C):=by
 refine a.mq bt (fun vs H Q E h=>?_) (fun f cdv A outer s H vs Q E hr h=>?_)
 ·obtain⟨_,_,_,_,_,_,_,_,_,_,rfl,_⟩:=h
  rfl
 ·obtain⟨p,ta,hk,bd,lg,x,n,D,e,age,rfl,b,⟨v,hx,hw⟩,q⟩:=h
  refine⟨_,(qf (qj (Qm (zq dC U.cl hr.mo (qv 0) (qb (qv 2) qa)) (Zs (zx gw (qv 2) (qB zo (qv 1) qe (fun _ _=>rfl)) (qr _)))))),?_⟩
  unfold zv at q
  refine⟨_,rfl,p,rfl,b.no,_,rfl,p,ta,hk,bd,lg,n,D,age,rfl,b,_,rfl,?_⟩
  refine qL (fun z=>?_) (fun z=>?_)
  ·rw[z,Bool.true_and]at q
   exact⟨_,rfl,_,rfl,x,_,_,_,rfl,rfl,SqT.of hx,rfl,_,_,rfl,rfl,q⟩
  ·rw[Bool.eq_false_iff.mpr z,Bool.false_and]at q
   exact q
theorem aX(a:AtM K C "plain_step" "Door.plain_step" Qe ["self","button","age","count"])(T:Txt K mg tk)(U:DCx K C)(dB:Mf P w K mg base C "takes_from" ["self","button","age"] 2 (et K C))(yC:Df P w K mg base "step_by" ["button","age","count","near","far"] 2 jx):Mf P w K mg base C "plain_step" ["self","button","age","count"] 3 (jL K C):=by
 refine a.mq a9 (fun vs H Q E h=>?_) (fun f cdv A outer s H vs Q E hr h=>?_)
 ·obtain⟨_,_,_,_,_,_,_,_,_,_,_,rfl,_⟩:=h
  rfl
 ·obtain⟨p,ta,hk,bd,lg,x,n,D,e,age,c,rfl,b,hx,ht,q⟩:=h
  refine⟨_,(qd (qI (zB (zn (zq dB U.cl hr.mo (qv 0) (qb (qv 1) (qb (qv 2) qa))))) (qf (qj (qA (qb qh (qb (qv 1) qa))))) qx)
   (qf (qj (qm yC hr.mo (qb (qv 1) (qb (qv 2) (qb (qv 3) (qb (qH (qv 0)) (qb (qH (qv 0)) qa))))))))),?_⟩
  refine⟨_,rfl,p,rfl,b.no,_,rfl,_,rfl,p,ta,hk,bd,lg,x,n,D,e,age,rfl,b,hx,_,rfl,?_⟩
  rw[ht]
  refine qS ?_
  exact⟨_,rfl,_,rfl,_,rfl,_,rfl,p,_,rfl,b.h_near U,_,rfl,p,_,rfl,b.h_far U,x,e,age,c,D.near,D.far,rfl,hx,q⟩
theorem bS(a:AtM K C "answer_to" "Door.answer_to" Qx ["self","press"])(T:Txt K mg tk)(U:DCx K C)(dZ:Mf P w K mg base C "button_of" ["self","name"] 1 (pR K C))(dB:Mf P w K mg base C "takes_from" ["self","button","age"] 2 (et K C))(dR:Mf P w K mg base C "plain_step" ["self","button","age","count"] 3 (jL K C))
  (dJ:Df P w K mg base "read_press" ["table","key","press"] 3 (iR K)):Mf P w K mg base C "answer_to" ["self","press"] 4 (fQ K C):=by
 refine a.mq sc_Door_answer_to (fun vs H Q E h=>?_) (fun f cdv A outer s H vs Q E hr h=>?_)
 ·obtain⟨_,_,_,_,_,_,_,_,_,_,_,rfl,_⟩:=h
  rfl
 ·obtain⟨p,ta,hk,bd,lg,pr,n,D,nm,age,ds,rfl,b,ok,⟨pc,hp,hpc⟩,hn,l5,hdd,q⟩:=h
  refine⟨_,(qd (zr (qv 1) (zI rfl (qq (ql (i:=2) sc_Door_answer_to.nd rfl (Or.inl rfl)) (qq (ql (i:=3) sc_Door_answer_to.nd rfl (Or.inl rfl)) (qq (ql (i:=4) sc_Door_answer_to.nd rfl (Or.inl rfl)) qY)))))
   (qd (qz (i:=5) sc_Door_answer_to.nd rfl (Or.inl rfl) (zq dZ U.cl hr.mo (qv 0) (qb (qv 2) qa)))
   (qd (qI (qu QR (qv 5) zd (qr _)) (qf (qj (qA (qb qh (qb qh qa))))) qx)
   (qd (qI (zB (zn (zq dB U.cl hr.mo (qv 0) (qb (qv 5) (qb (qv 3) qa))))) (qf (qj (qA (qb qh (qb qh qa))))) qx)
   (qd (qz (i:=6) sc_Door_answer_to.nd rfl (Or.inl rfl) (qm dJ hr.mo (qb (qH (qv 0)) (qb (qB qD (qH (qv 0)) (qv 3) (fun _ _=>rfl)) (qb (qv 1) qa)))))
   (qd (qI (qu QR (qv 6) zd (qr _)) (qf (qj (qA (qb qh (qb qh qa))))) qx)
   (qd (zr (qv 6) (zI rfl (qq (ql (i:=7) sc_Door_answer_to.nd rfl (Or.inl rfl)) (qq (ql (i:=8) sc_Door_answer_to.nd rfl (Or.inl rfl)) qY))))
   (qd (zr (zq dR U.cl hr.mo (qv 0) (qb (qv 5) (qb (qv 3) (qb (qv 7) qa)))) (zI rfl (qq (ql (i:=9) sc_Door_answer_to.nd rfl (Or.inl rfl)) (qq (ql (i:=10) sc_Door_answer_to.nd rfl (Or.inl rfl)) qY))))
   (qd (zR hr (qH (qv 0)) (qv 2) (qv 10))
   (qd (qI (qu zy (qv 9) qh (qr _)) (qf (qj (qA (qb qh (qb (qv 2) (qb (qv 8) qa)))))) qx)
   (qf (qj (qA (qb qh (qb (qv 9) qa))))))))))))))),?_⟩
  refine⟨_,rfl,pr,_,rfl,.tup hp,rfl,_,_,rfl,_,_,rfl,_,_,rfl,rfl,?_⟩
  refine⟨_,rfl,p,rfl,b.no,_,rfl,p,ta,hk,bd,lg,n,D,nm,rfl,b,fun e1=>?_,fun e x e1 hx=>?_⟩
  ·have eJ:qN D nm age (QN D.t (Ql D age) nm ds)=([.str "held",.str "unknown"],D.kn):=by unfold qN;rw[e1]
   rw[eJ]at q
   refine⟨_,rfl,rfl,_,rfl,?_⟩
   refine qL (fun _=>?_) (fun y=>absurd (decide_eq_true rfl) y)
   refine⟨by show 2<=sizeLine;decide,fun q1 hq1=>?_⟩
   exact q q1 _ (Same.upd hq1).mv qc (b.same (Same.upd hq1))
  ·refine⟨_,rfl,rfl,_,rfl,?_⟩
   refine qL (fun y=>nomatch (of_decide_eq_true y)) (fun _=>?_)
   refine⟨_,rfl,p,rfl,b.no,_,rfl,_,rfl,p,ta,hk,bd,lg,x,n,D,e,age,rfl,b,hx,_,rfl,?_⟩
   cases ht:zv D e age with
   |false=>
    have eJ:qN D nm age (QN D.t (Ql D age) nm ds)=([.str "held",.str "age"],D.kn):=by unfold qN;rw[e1];simp only;rw[ht];rfl
    rw[eJ]at q
    refine zc ?_
    refine⟨by show 2<=sizeLine;decide,fun q1 hq1=>?_⟩
    exact q q1 _ (Same.upd hq1).mv qc (b.same (Same.upd hq1))
   |true=>
    refine qS ?_
    obtain⟨a0,a1⟩:=f7 ht ok.l0
    obtain⟨xs,ak,eh,hat,hak⟩:=b.ks.at a0 a1
    refine⟨_,rfl,p,_,rfl,b.h_table U,_,rfl,p,_,rfl,b.h_house_keys U,_,rfl,hk,_,_,_,rfl,rfl,SqL.of eh,hat,_,rfl,ta,ak,pr,pc,nm,age,D.t,Ql D age,ds,rfl,.inr b.tb,.inr hak,.tup hp,.tup hpc,hn,ok.tp,l5,hdd,fun y H1 s1 told=>?_⟩
    have b1:=b.same s1
    have hx1:=hx.same s1
    have told':bf H1 y (QN D.t (Ql D age) nm ds):=told
    cases er:QN D.t (Ql D age) nm ds with
    |none=>
     rw[er]at told' q
     have ey:y= .non:=told'
     subst ey
     have eJ:qN D nm age none=([.str "held",.str "false"],D.kn):=by unfold qN;rw[e1];simp only;rw[ht];rfl
     rw[eJ]at q
     refine⟨_,rfl,rfl,_,rfl,?_⟩
     refine qL (fun _=>?_) (fun y=>absurd (decide_eq_true rfl) y)
     refine⟨by show 2<=sizeLine;decide,fun q1 hq1=>?_⟩
     exact q q1 _ (s1.trans (Same.upd hq1)).mv qc (b1.same (Same.upd hq1))
    |some cd=>
     obtain⟨c,d⟩:=cd
     rw[er]at told' q
     obtain⟨pp,ey,hpp⟩:=told'
     subst ey
     refine⟨_,rfl,rfl,_,rfl,?_⟩
     refine qL (fun y=>nomatch (of_decide_eq_true y)) (fun _=>?_)
     refine⟨_,rfl,pp,_,rfl,.tup hpp,rfl,_,_,rfl,_,_,rfl,rfl,?_⟩
     refine⟨_,rfl,p,rfl,b1.no,_,rfl,_,rfl,_,rfl,p,ta,hk,bd,lg,x,n,D,e,age,c,rfl,b1,hx1,ht,fun q1 a' H2 s2 hq1 hb'=>⟨q1,_,rfl,.tup hq1,rfl,_,_,rfl,_,_,rfl,rfl,?_⟩⟩
     have b2:=b1.same s2
     obtain⟨H3,dp,m3,kb3⟩:=b2.kb.put nm (by have:=ok.nl;omega) hb'
     refine⟨_,rfl,_,rfl,p,_,rfl,b2.h_buttons U,_,rfl,bd,H3,rfl,dp,?_⟩
     have b3:=b2.putK m3 kb3
     have mm:Mv [bd] H H3:=(s1.trans s2).mv.trans m3
     refine⟨_,rfl,rfl,_,rfl,?_⟩
     by_cases hw:(qZ D.near D.far e age c).1="near"
     ·have eJ:qN D nm age (some (c,d))=([.str "open",.str nm,.int d],qU D.kn nm (qZ D.near D.far e age c).2):=by unfold qN;rw[e1];simp only;rw[if_pos ht,if_pos hw]
      rw[eJ]at q
      refine qL (fun _=>?_) (fun y=>absurd (decide_eq_true (by rw[hw])) y)
      refine⟨_,rfl,_,rfl,by show 3<=sizeLine;decide,fun q2 hq2=>?_⟩
      exact q q2 _ (mm.trans (Same.upd hq2).mv) qc (b3.same (Same.upd hq2))
     ·have eJ:qN D nm age (some (c,d))=([.str "held",.str (qZ D.near D.far e age c).1],qU D.kn nm (qZ D.near D.far e age c).2):=by unfold qN;rw[e1];simp only;rw[if_pos ht,if_neg hw]
      rw[eJ]at q
      refine qL (fun y=>absurd (of_decide_eq_true y) (by intro z;injection z with z;exact hw z)) (fun _=>?_)
      refine⟨_,rfl,by show 2<=sizeLine;decide,fun q2 hq2=>?_⟩
      exact q q2 _ (mm.trans (Same.upd hq2).mv) qc (b3.same (Same.upd hq2))
theorem bu(a:AtM K C "read_right" "Door.read_right" Qh ["self","thing"])(T:Txt K mg tk)(U:DCx K C)(dQ:Df P w K mg base "is_press" ["thing"] 5 ag)(dC:Mf P w K mg base C "takes_age" ["self","age"] 1 (cE K C))(dJ:Df P w K mg base "read_press" ["table","key","press"] 3 (iR K)):Mf P w K mg base C "read_right" ["self","thing"] 6 (fw K C):=by
 refine a.mq a7 (fun vs H Q E h=>?_) (fun f cdv A outer s H vs Q E hr h=>?_)
 ·obtain⟨_,_,_,_,_,_,_,_,_,rfl,_⟩:=h
  rfl
 ·obtain⟨p,ta,hk,bd,lg,n,D,x,o,rfl,b,ok,tg,q⟩:=h
  refine⟨_,(qd (qI (QW.pt (zE (zB (zn (qm dQ hr.mo (qb (qv 1) qa)))) (zJ (zB (zn (zq dC U.cl hr.mo (qv 0) (qb (qB zo (qv 1) qe (fun _ _=>rfl)) qa))))))) (qf (qj zd)) qx)
   (qf (qj (qm dJ hr.mo (qb (qH (qv 0)) (qb (qB qD (qH (qv 0)) (qB zo (qv 1) qe (fun _ _=>rfl)) (fun _ _=>rfl)) (qb (qv 1) qa))))))),?_⟩
  refine⟨_,rfl,x,_,rfl,tg.b,fun H1 s1=>⟨_,rfl,?_⟩⟩
  cases o with
  |none=>exact zc (zc (q .non _ s1 rfl))
  |some PP=>
  obtain⟨pr,rfl,hp,hn,l5,hdd⟩:=tg
  have q:∀y H',Same H H'->bf H' y (c9 D PP)->Q y H':=q
  obtain⟨nm,age,ds⟩:=PP
  simp only at hn l5 hdd
  refine qS ?_
  have b1:=b.same s1
  obtain⟨pc,hp1,hpc1⟩:=PrAt.same s1 hp
  refine⟨_,rfl,p,rfl,b1.no,_,rfl,pr,_,_,_,rfl,rfl,SqT.of hp1,rfl,p,ta,hk,bd,lg,n,D,age,rfl,b1,_,rfl,?_⟩
  unfold c9 at q
  cases ht:zP D age with
  |false=>
   rw[if_neg (by rw[ht];intro z;cases z)]at q
   exact zc (q _ _ s1 rfl)
  |true=>
  rw[if_pos ht]at q
  refine qS ?_
  have ht':zv D ⟨age,0,none⟩ age=true:=by unfold zv;rw[ht,decide_eq_true (Int.le_refl _)];rfl
  obtain⟨a0,a1⟩:=f7 ht' ok.l0
  obtain⟨xs,ak,eh,hat,hak⟩:=b1.ks.at a0 a1
  exact⟨_,rfl,p,_,rfl,b1.h_table U,_,rfl,p,_,rfl,b1.h_house_keys U,_,rfl,pr,_,_,_,rfl,rfl,SqT.of hp1,rfl,hk,_,_,_,rfl,rfl,SqL.of eh,hat,_,rfl,ta,ak,pr,pc,nm,age,D.t,Ql D age,ds,rfl,.inr b1.tb,.inr hak,.tup hp1,.tup hpc1,hn,ok.tp,l5,hdd,fun y H2 s2 told=>q y H2 (s1.trans s2) told⟩
theorem bQ(a:AtM K C "known_now" "Door.known_now" Qy ["self"])(T:Txt K mg tk)(U:DCx K C):Mf P w K mg base C "known_now" ["self"] 1 (cv K C):=by
 refine a.mq bU (fun vs H Q E h=>?_) (fun f cdv A outer s H vs Q E hr h=>?_)
 ·obtain⟨_,_,_,_,_,_,_,rfl,_⟩:=h
  rfl
 ·obtain⟨p,ta,hk,bd,lg,n,D,rfl,b,ok,q⟩:=h
  obtain⟨fn,hd,hbu,hpm,_⟩:=id b.kb
  refine⟨_,(qf (qj (qC qP (by rfl) T.b_tuple PyProof.Rows.boot_tuple (qb (zD (own:=["name"]) (fr:=["self"]) (js:=[0]) rfl (zZ (qp (ba rfl) (by rfl) T.b_sorted PyProof.Rows.boot_sorted (qb (qH (qv 0)) qa))) rfl (j6 rfl) rfl (kM rfl (by decide +kernel) (by decide +kernel) (by decide +kernel) rfl rfl rfl) (fun _ _ _ _=>ql (i:=0) (show List.Nodup (["name","self"]:List Str)from by decide +kernel) rfl (Or.inl rfl) (.inr rfl)) (fun _ _ _ _=>(qk Z6 (qA (qb (qv 0) qa)) (qy hr (tG (K:=K) rfl (qv 1)) (qv 0))))) qa)))),?_⟩
  refine⟨_,rfl,p,_,rfl,b.h_buttons U,bd,_,fn.1.map (·.1),rfl,hd,jQ _ _,by rw[List.length_map,hpm.length_eq];have:=ok.nl;omega,fun l ss hl pm0 so=>⟨l,rfl,⟨_,SqL.of qc⟩,?_⟩⟩
  have pm:=pm0.trans (hpm.map (·.1))
  have u1:=Same.upd (o:= .lst (ss.map V.str)) hl
  have ls:ss.length<=60:=by rw[pm.length_eq,List.length_map];exact ok.nl
  refine Q9 (K:=K) (xs:=ss.map V.str) (by rw[List.length_map,sizeLine_eq];omega) (fun i ys H3=>Same (upd H l (.lst (ss.map V.str))) H3/\∃as:List Addr,ys=as.map V.ref/\as.length=i/\∀(j:Nat) (x:Addr) (nm:Str) (e:Kb),as[j]? =some x->ss[j]? =some nm->D.kn.lookup nm=some e->∃v,H3 x=some (.tup [.str nm,.int e.age,.int e.last,v])/\Wt H3 v e.wt) ⟨Same.refl _,[],rfl,rfl,fun j x nm e h=>by(cases h)⟩ (fun i ys H3 ⟨s3,_⟩=>s3.seq (SqL.of qc)) ?_ ?_
  ·rintro i ys H3 x hx hyl ⟨s3,as,rfl,hal,has⟩
   rw[List.getElem?_map]at hx
   cases es:ss[i]? with
   |none=>rw[es]at hx;cases hx
   |some nm=>
    rw[es]at hx
    obtain rfl:V.str nm=x:=Option.some.inj hx
    have hmem:nm∈D.kn.map (·.1):=pm.mem_iff.mp (List.mem_of_getElem? es)
    obtain⟨e,he⟩:=Qr hmem
    have b3:=b.same (u1.trans s3)
    obtain⟨e',x0,he',g,v0,hx0,hw0⟩:=(b3.kb.get nm).resolve_left (fun z=>by rw[he]at z;cases z.1)
    rw[he]at he'
    cases he'
    refine⟨_,rfl,by show 1<=sizeLine;decide,fun t ht=>?_⟩
    have u4:=Same.upd (o:= .tup [.str nm]) ht
    have b4:=b3.same u4
    obtain⟨e',x0,he',g,v0,hx0,hw0⟩:=(b4.kb.get nm).resolve_left (fun z=>by rw[he]at z;cases z.1)
    rw[he]at he'
    cases he'
    refine⟨_,rfl,p,_,rfl,b4.h_buttons U,_,rfl,bd,_,rfl,g,t,x0,_,_,rfl,rfl,qc,hx0,by show 4<=sizeLine;decide,fun q1 H5 s5 hq1=>?_⟩
    refine⟨(s3.trans u4).trans s5,as++[q1],by simp,by simp [hal],fun j y m2 e2 h1 h2 h3=>?_⟩
    rw[List.getElem?_append]at h1
    split at h1
    ·obtain⟨v,a1,a2⟩:=has j y m2 e2 h1 h2 h3
     exact⟨v,s5 _ _ (u4 _ _ a1),a2.mv (S:=[]) (u4.trans s5).mv (fun c h=>nomatch h)⟩
    ·have hj:j-as.length=0:=by
      cases hj:j-as.length with
      |zero=>rfl
      |succ k=>rw[hj]at h1;cases h1
     rw[hj]at h1
     cases h1
     obtain rfl:j=i:=by omega
     rw[es]at h2
     cases h2
     rw[he]at h3
     cases h3
     exact⟨v0,hq1,hw0.mv (S:=[]) s5.mv (fun c h=>nomatch h)⟩
  ·rintro ys H3 hyl ⟨s3,as,rfl,hal,has⟩ l2 hl2
   have u4:=Same.upd (o:= .lst (as.map V.ref)) hl2
   refine⟨l2,_,rfl,.inl ⟨SqL.of qc,fun q1 hq1=>?_⟩⟩
   have u5:=Same.upd (o:= .tup (as.map V.ref)) hq1
   have S:=u4.trans u5
   refine q q1 ss _ ((u1.trans s3).trans S) pm so ⟨as,qc,by rw[hal,List.length_map],fun j x nm e h1 h2 h3=>?_⟩
   obtain⟨v,a1,a2⟩:=has j x nm e h1 h2 h3
   exact⟨v,S _ _ a1,a2.mv (S:=[]) S.mv (fun c h=>nomatch h)⟩
end
section
variable{P:Program}{w:World}{K:Frag}{mg:Str->Option Value}{base:Heap}{tk:Nat->Tok}{C:Addr}
theorem hR(a:AtM K C "hear" "Door.hear" ZV ["self","thing"])(T:Txt K mg tk)(U:DCx K C)(dQ:Df P w K mg base "is_press" ["thing"] 5 ag)(dX:Mf P w K mg base C "answer_to" ["self","press"] 4 (fQ K C)):Mf P w K mg base C "hear" ["self","thing"] 6 (jv K C):=by
 refine a.mq sc_Door_hear (fun vs H Q E h=>?_) (fun f cdv A outer s H vs Q E hr h=>?_)
 ·obtain⟨_,_,_,_,_,rfl,_⟩:=h
  rfl
 ·obtain⟨⟨p,ta,hk,bd,lg⟩,D,L,x,o,rfl,⟨b,⟨rs,el,ro⟩,kr⟩,n1,ok,tg,qn,qs⟩:=h
  simp only at b el kr qs
  refine⟨_,(qd (qI (zB (zn (qm dQ hr.mo (qb (qv 1) qa)))) (qf (qj (qA (qb qh (qb qh qa))))) qx)
   (qd (qz (i:=2) sc_Door_hear.nd rfl (Or.inl rfl) (zq dX U.cl hr.mo (qv 0) (qb (qv 1) qa)))
   (qd (qV (Qq PySem.F.plainAttrs_list PySem.F.slot_list_append PySem.F.type_list_append zm (qH (qv 0)) (qb (qA (qb qh (qb (qv 1) (qb (qv 2) qa)))) qa)))
   (qf (qj (qv 2)))))),?_⟩
  refine⟨_,rfl,x,_,rfl,tg.b,fun H1 s1=>⟨_,rfl,?_⟩⟩
  cases o with
  |none=>exact zc ⟨by show 2<=sizeLine;decide,fun q hq=>qn rfl q _ (s1.trans (Same.upd hq)) qc⟩
  |some PP=>
  obtain⟨pr,rfl,hp,okP⟩:=tg
  have q:=qs PP rfl
  refine qS ?_
  have b1:=b.same s1
  obtain⟨f0,hd,_⟩:=id b1.kb
  have ntb:NT [bd] H1:=NT.one hd trivial
  refine⟨_,rfl,p,rfl,b1.no,_,rfl,p,ta,hk,bd,lg,pr,L.length,D,PP.nm,PP.age,PP.ds,rfl,b1,ok,PrAt.same s1 hp,okP.nm,okP.l,okP.dg,fun q1 H2 m2 hq1 b2=>?_⟩
  have el2:=m2 _ _ (qK (qO (s1 _ _ el) hd (by intro z;cases z))) (s1 _ _ el)
  have ro2:=(ro.same s1).mv m2 ntb
  refine⟨_,rfl,p,_,rfl,b2.h_log U,.inl ⟨rfl,_,SqL.of el2⟩,_,rfl,_,rfl,by show 3<=sizeLine;decide,fun r hr'=>?_⟩
  have u3:=Same.upd (o:= .tup [.str "hear",.ref pr,.ref q1]) hr'
  have b3:=b2.same u3
  have pr3:=PrAt.same u3 (PrAt.mv m2 ntb (PrAt.same s1 hp))
  have ntl:NT [lg] _:=NT.one (u3 _ _ el2) trivial
  refine⟨lg,_,_,rfl,rfl,u3 _ _ el2,by rw[List.length_map,ro.1,sizeLine_eq];omega,⟨_,rfl,?_⟩⟩
  exact q pr q1 _ rfl (((s1.mv.trans (m2.mono (fun c h z=>h (by rw[List.mem_singleton.mp z];exact List.mem_cons_self ..)))).trans u3.mv).trans (Mv.upd1.mono (fun c h z=>h (by rw[List.mem_singleton.mp z];exact List.mem_cons_of_mem _ (List.mem_cons_self ..))))) (PrAt.mv Mv.upd1 ntl pr3) (Mv.upd1.tup ntl (u3 _ _ hq1)) (DlAt.push (a:=⟨p,ta,hk,bd,lg⟩) b3 (u3 _ _ el2) (ro2.same u3) ((KsAt.mv m2 ntb (qK (ki hd b1)) (KsAt.same s1 kr)).same u3) ⟨pr,q1,.inl qc,pr3,okP,u3 _ _ hq1,nL D PP,oC D PP⟩)
theorem aJ(a:AtM K C "close_below" "Door.close_below" zY ["self","age"])(T:Txt K mg tk)(U:DCx K C):Mf P w K mg base C "close_below" ["self","age"] 1 (ir K C):=by
 refine a.mq aI (fun vs H Q E h=>?_) (fun f cdv A outer s H vs Q E hr h=>?_)
 ·obtain⟨_,_,_,_,rfl,_⟩:=h
  rfl
 ·obtain⟨⟨p,ta,hk,bd,lg⟩,D,L,age,rfl,⟨b,⟨rs,el,ro⟩,kr⟩,n1,q⟩:=h
  simp only at b el kr q
  refine⟨_,(qd (zK (qv 0) (qp (ZN rfl) (by rfl) T.b_max PyProof.Rows.boot_max (qb (qH (qv 0)) (qb (qv 1) qa))))
   (qf (qV (Qq PySem.F.plainAttrs_list PySem.F.slot_list_append PySem.F.type_list_append zm (qH (qv 0)) (qb (qA (qb qh (qb (qv 1) qa))) qa))))),?_⟩
  have q:=q _ _ rfl
  obtain⟨z,hz⟩:∃z:Int,z=if age>D.least then age else D.least:=⟨_,rfl⟩
  rw[<- hz]at q
  obtain⟨dx0,ep⟩:=id b.ob
  obtain⟨dx,pf,m,b3⟩:=b.putLeast U z
  have el3:=m _ _ (qK (qO el ep (by intro z;cases z))) el
  have ro3:=ro.mv m (NT.one ep trivial)
  refine⟨_,rfl,p,_,rfl,b.h_least_age U,_,rfl,_,_,rfl,_,rfl,p,_,rfl,by rw[<- hz];exact pf,?_⟩
  refine⟨_,rfl,p,_,rfl,b3.h_log U,.inl ⟨rfl,_,SqL.of el3⟩,_,rfl,by show 2<=sizeLine;decide,fun r hr'=>?_⟩
  have u7:=Same.upd (o:= .tup [.str "close",.int age]) hr'
  have b7:=b3.same u7
  refine⟨lg,_,_,rfl,rfl,u7 _ _ el3,by rw[List.length_map,ro.1,sizeLine_eq];omega,?_⟩
  exact q _ (((m.mono (fun c h z=>h (by rw[List.mem_singleton.mp z];exact List.mem_cons_self ..))).trans u7.mv).trans (Mv.upd1.mono (fun c h z=>h (by rw[List.mem_singleton.mp z];exact List.mem_cons_of_mem _ (List.mem_cons_self ..))))) (DlAt.push (a:=⟨p,ta,hk,bd,lg⟩) b7 (u7 _ _ el3) (ro3.same u7) ((KsAt.mv m (NT.one ep trivial) (qK (uv ep b)) kr).same u7) (show RwAt _ r (.close age)from .inl qc))
theorem cX(a:AtM K C "log_now" "Door.log_now" QZ ["self"])(T:Txt K mg tk)(U:DCx K C):Mf P w K mg base C "log_now" ["self"] 1 (mx K C):=by
 refine a.mq cL (fun vs H Q E h=>?_) (fun f cdv A outer s H vs Q E hr h=>?_)
 ·obtain⟨_,_,_,rfl,_⟩:=h
  rfl
 ·obtain⟨⟨p,ta,hk,bd,lg⟩,D,L,rfl,⟨b,⟨rs,el,ro⟩,kr⟩,q⟩:=h
  simp only at b el kr
  refine⟨_,(qf (qj (qC qP (by rfl) T.b_tuple PyProof.Rows.boot_tuple (qb (qH (qv 0)) qa)))),?_⟩
  exact⟨_,rfl,p,_,rfl,b.h_log U,lg,_,rfl,.inl ⟨SqL.of el,fun t ht=>q t _ (Same.upd ht) ⟨rs,.inl qc,ro.same (Same.upd ht)⟩⟩⟩
theorem cg(a:AtM K C "keys_now" "Door.keys_now" QU ["self"])(T:Txt K mg tk)(U:DCx K C):Mf P w K mg base C "keys_now" ["self"] 1 (jX K C):=by
 refine a.mq cA (fun vs H Q E h=>?_) (fun f cdv A outer s H vs Q E hr h=>?_)
 ·obtain⟨_,_,_,_,_,_,_,rfl,_⟩:=h
  rfl
 ·obtain⟨p,ta,hk,bd,lg,n,D,rfl,b,q⟩:=h
  refine⟨_,(qf (qj (qC b9 (by rfl) T.b_tuple PyProof.Rows.boot_tuple (qb (qH (qv 0)) qa)))),?_⟩
  obtain⟨as,eh,la,hks⟩:=id b.ks
  refine⟨_,rfl,p,_,rfl,b.h_house_keys U,hk,_,rfl,.inl (SqL.of eh),fun t H2 s2 ht=>?_⟩
  exact q t as H2 s2 ht la fun i a ks e1 e2=>Same.sqt s2 (hks i a ks e1 e2)
theorem gg(a:AtM K C "learn" "Door.learn" ZA ["self","one","other"])(T:Txt K mg tk)(U:DCx K C)(dG:Mf P w K mg base C "read_right" ["self","thing"] 6 (fw K C))(xG:Mf P w K mg base C "is_full" ["self"] 1 (j4 K C)):Mf P w K mg base C "learn" ["self","one","other"] 7 (fg K C):=by
 refine a.mq sc_Door_learn (fun vs H Q E h=>?_) (fun f cdv A outer s H vs Q E hr h=>?_)
 ·obtain⟨_,_,_,_,_,_,_,_,_,_,rfl,_⟩:=h
  rfl
 ·obtain⟨⟨p,ta,hk,bd,lg⟩,D,L,p1,p2,⟨nm,age,ds1⟩,⟨nm2,age2,ds2⟩,c,d1,d2,rfl,⟨b,⟨rs,el,ro⟩,kr⟩,n1,ok,hp1,hp2,ok1,ok2,r1,r2,en,ea,hno,hmo,q⟩:=h
  simp only at b el kr q en ea hno
  subst en;subst ea
  refine⟨_,(qd (qz (i:=3) sc_Door_learn.nd rfl (Or.inl rfl) (zq dG U.cl hr.mo (qv 0) (qb (qv 1) qa)))
   (qd (qI (qu QR (qv 3) zd (qr _)) zS qx)
   (qd (qz (i:=4) sc_Door_learn.nd rfl (Or.inl rfl) (zq dG U.cl hr.mo (qv 0) (qb (qv 2) qa)))
   (qd (qI (QW.pt (zE (qu QR (qv 4) zd (qr _)) (zE (qu (vx hr) (cJ jD (qv 2) eT (eZ qe)) (cJ jD (qv 1) eT (eZ qe)) (qr _)) (zJ (qu bM (qB zo (qv 4) qe (fun _ _=>rfl)) (qk qE (qB zo (qv 3) qe (fun _ _=>rfl)) qe) (qr _)))))) zS qx)
   (qd (zr (qv 1) (zI rfl (qq (ql (i:=5) sc_Door_learn.nd rfl (Or.inl rfl)) (qq (ql (i:=6) sc_Door_learn.nd rfl (Or.inl rfl)) (qq (ql (i:=7) sc_Door_learn.nd rfl (Or.inl rfl)) qY)))))
   (qd (qI (nr hr (qv 5) (qH (qv 0))) zS qx)
   (qd (qI (zn (zG xG U.cl hr.mo (qv 0))) zS qx)
   (qd (zR hr (qH (qv 0)) (qv 5) (qA (qb (qv 6) (qb (qB zo (qv 4) qe (fun _ _=>rfl)) (qb zd qa)))))
   (qf (qV (Qq PySem.F.plainAttrs_list PySem.F.slot_list_append PySem.F.type_list_append zm (qH (qv 0)) (qb (qA (qb qh (qb (qv 1) (qb (qv 2) qa)))) qa)))))))))))),?_⟩
  refine⟨_,rfl,p,rfl,b.no,_,rfl,p,ta,hk,bd,lg,L.length,D,.ref p1,some _,rfl,b,ok,⟨p1,rfl,hp1,ok1⟩,fun y1 H1 s1 t1=>?_⟩
  have t1:bf H1 y1 (c9 D _):=t1
  rw[r1]at t1
  obtain⟨f1,rfl,hf1⟩:=t1
  refine⟨_,rfl,rfl,_,rfl,qL (fun y=>nomatch (of_decide_eq_true y)) (fun _=>?_)⟩
  have b1:=b.same s1
  refine⟨_,rfl,p,rfl,b1.no,_,rfl,p,ta,hk,bd,lg,L.length,D,.ref p2,some _,rfl,b1,ok,⟨p2,rfl,PrAt.same s1 hp2,ok2⟩,fun y2 H2 s2 t2=>?_⟩
  have t2:bf H2 y2 (c9 D _):=t2
  rw[r2]at t2
  obtain⟨f2,rfl,hf2⟩:=t2
  have b2:=b1.same s2
  have hp1':=PrAt.same (s1.trans s2) hp1
  have hp2':=PrAt.same (s1.trans s2) hp2
  obtain⟨c1,e1,_⟩:=id hp1'
  obtain⟨c2,e2,_⟩:=id hp2'
  simp only at e1 e2
  refine⟨_,rfl,rfl,_,rfl,?_⟩
  refine qL (fun y=>nomatch (of_decide_eq_true y)) (fun _=>?_)
  refine⟨_,rfl,_,rfl,p2,_,rfl,e2,fun t3 H3 s3 h3 _=>⟨_,rfl,_,rfl,p1,_,rfl,s3 _ _ e1,fun t4 H4 s4 h4 _=>?_⟩⟩
  have h3':H4 t3=some (.tup [.str nm2,.int age2]):=s4 _ _ h3
  have h4':H4 t4=some (.tup [.str nm2,.int age2]):=h4
  have S4:=(s3.trans s4)
  have SS:=(s1.trans s2).trans S4
  refine⟨1,by decide,Eqd.pair h3' h4',_,rfl,qS ?_⟩
  refine⟨_,rfl,f2,_,_,_,rfl,rfl,SqT.of (S4 _ _ hf2),rfl,_,rfl,f1,_,_,_,rfl,rfl,SqT.of (S4 _ _ (s2 _ _ hf1)),rfl,_,_,rfl,rfl,rfl,_,rfl,?_⟩
  refine cK rfl ?_
  have b4:=b2.same S4
  refine⟨_,rfl,p1,_,rfl,.tup (S4 _ _ e1),rfl,_,_,rfl,_,_,rfl,_,_,rfl,rfl,?_⟩
  have g4:DGet H4 bd (.str nm2) none:=by
   rcases b4.kb.get nm2 with⟨_,g⟩|⟨e,x,e5,_⟩
   ·exact g
   ·rw[hno]at e5;cases e5
  refine⟨_,rfl,_,rfl,p,_,rfl,b4.h_buttons U,bd,_,rfl,g4,_,rfl,?_⟩
  refine qS ?_
  refine⟨_,rfl,p,rfl,b4.no,p,ta,hk,bd,lg,L.length,D,rfl,b4,_,rfl,?_⟩
  refine qL (fun y=>absurd (of_decide_eq_true y) (by omega)) (fun _=>?_)
  refine⟨_,rfl,_,rfl,f2,_,_,_,rfl,rfl,SqT.of (S4 _ _ hf2),rfl,by show 3<=sizeLine;decide,fun t5 ht5=>?_⟩
  have u5:=Same.upd (o:= .tup [.int age2,.int (c+1),.non]) ht5
  have b5:=b4.same u5
  obtain⟨f0,hd,_⟩:=id b5.kb
  have SQ:=SS.trans u5
  obtain⟨H6,dp,m6,kb6⟩:=b5.kb.put nm2 (a:=t5) (e:=⟨age2,c+1,none⟩) (by have:=ok.nl;omega) ⟨.non,qc,rfl⟩
  refine⟨_,rfl,p,_,rfl,b5.h_buttons U,_,rfl,bd,H6,rfl,dp,?_⟩
  have b6:=b5.putK m6 kb6
  have el6:=m6 _ _ (qK (qO (SQ _ _ el) hd (by intro z;cases z))) (SQ _ _ el)
  have nt5:NT [bd] _:=NT.one hd trivial
  have ro6:=(ro.same SQ).mv m6 nt5
  refine⟨_,rfl,p,_,rfl,b6.h_log U,.inl ⟨rfl,_,SqL.of el6⟩,_,rfl,_,rfl,by show 3<=sizeLine;decide,fun r hr'=>?_⟩
  have u7:=Same.upd (o:= .tup [.str "learn",.ref p1,.ref p2]) hr'
  have b7:=b6.same u7
  refine⟨lg,_,_,rfl,rfl,u7 _ _ el6,by rw[List.length_map,ro.1,sizeLine_eq];omega,?_⟩
  exact q _ (((SQ.mv.trans (m6.mono (fun c h z=>h (by rw[List.mem_singleton.mp z];exact List.mem_cons_self ..)))).trans u7.mv).trans (Mv.upd1.mono (fun c h z=>h (by rw[List.mem_singleton.mp z];exact List.mem_cons_of_mem _ (List.mem_cons_self ..))))) (DlAt.push (a:=⟨p,ta,hk,bd,lg⟩) b7 (u7 _ _ el6) (ro6.same u7) ((KsAt.mv m6 nt5 (qK (ki hd b5)) (KsAt.same SQ kr)).same u7) ⟨p1,p2,.inl qc,PrAt.same u7 (PrAt.mv m6 nt5 (PrAt.same SQ hp1)),PrAt.same u7 (PrAt.mv m6 nt5 (PrAt.same SQ hp2)),ok1,ok2⟩)
theorem eO(a:AtM K C "forget" "Door.forget" Zg ["self","name"])(T:Txt K mg tk)(U:DCx K C):Mf P w K mg base C "forget" ["self","name"] 1 (c7 K C):=by
 refine a.mq eA (fun vs H Q E h=>?_) (fun f cdv A outer s H vs Q E hr h=>?_)
 ·obtain⟨_,_,_,_,rfl,_⟩:=h
  rfl
 ·obtain⟨⟨p,ta,hk,bd,lg⟩,D,L,nm,rfl,⟨b,⟨rs,el,ro⟩,kr⟩,n1,hin,q⟩:=h
  simp only at b el kr q
  refine⟨_,(qd (qI (bz hr (qv 1) (qH (qv 0))) zS qx)
   (qd (qV (gX (qH (qv 0)) (qv 1)))
   (qf (qV (Qq PySem.F.plainAttrs_list PySem.F.slot_list_append PySem.F.type_list_append zm (qH (qv 0)) (qb (qA (qb qh (qb (qv 1) qa))) qa)))))),?_⟩
  obtain⟨e,xx,he,g,hx⟩:=(b.kb.get nm).resolve_left (fun z=>hin z.1)
  have q:=q _ _ (if_neg (by rw[he];intro z;cases z))
  refine⟨_,rfl,_,rfl,p,_,rfl,b.h_buttons U,bd,_,rfl,g,_,rfl,qS ?_⟩
  obtain⟨f0,hd,hbu,hpm,nd⟩:=id b.kb
  obtain⟨kvs,hd',kn'⟩:=b.kb.drop nm
  have ekv:kvs=zO f0.1 f0.2:=by rw[hd]at hd';injection hd' with z;injection z with z;exact z.symm
  have hv:zN kvs (Sum.inr nm:qG)=some (.ref (f0.2 nm)):=by rw[ekv,bI,ZS hpm nd,he];rfl
  refine⟨_,rfl,p,_,rfl,b.h_buttons U,bd,rfl,.inl ⟨_,.inl hd⟩,_,rfl,kvs,.inr nm,_,hd',rfl,hv,?_⟩
  have b6:=b.putK Mv.upd1 kn'
  have m6:Mv [bd] H (upd H bd (.dK (ZP kvs (Sum.inr nm)))):=Mv.upd1
  have el6:=m6 _ _ (qK (qO el hd (by intro z;cases z))) el
  have ro6:=ro.mv m6 (NT.one hd trivial)
  refine⟨_,rfl,p,_,rfl,b6.h_log U,.inl ⟨rfl,_,SqL.of el6⟩,_,rfl,by show 2<=sizeLine;decide,fun r hr'=>?_⟩
  have u7:=Same.upd (o:= .tup [.str "forget",.str nm]) hr'
  have b7:=b6.same u7
  refine⟨lg,_,_,rfl,rfl,u7 _ _ el6,by rw[List.length_map,ro.1,sizeLine_eq];omega,?_⟩
  exact q _ (((Mv.upd1.mono (fun c h z=>h (by rw[List.mem_singleton.mp z];exact List.mem_cons_self ..))).trans u7.mv).trans (Mv.upd1.mono (fun c h z=>h (by rw[List.mem_singleton.mp z];exact List.mem_cons_of_mem _ (List.mem_cons_self ..))))) (DlAt.push (a:=⟨p,ta,hk,bd,lg⟩) b7 (u7 _ _ el6) (ro6.same u7) ((KsAt.mv m6 (NT.one hd trivial) (qK (ki hd b)) kr).same u7) (show RwAt _ r (.forget nm)from .inl qc))
theorem cC(a:AtM K C "turn_key" "Door.turn_key" QL ["self","key"])(T:Txt K mg tk)(U:DCx K C):Mf P w K mg base C "turn_key" ["self","key"] 1 (iM K C):=by
 refine a.mq sc_Door_turn_key (fun vs H Q E h=>?_) (fun f cdv A outer s H vs Q E hr h=>?_)
 ·obtain⟨_,_,_,_,_,rfl,_⟩:=h
  rfl
 ·obtain⟨⟨p,ta,hk,bd,lg⟩,D,L,kt,ks,rfl,⟨b,⟨rs,el,ro⟩,kr⟩,n1,k7,hkt,hkl,q⟩:=h
  simp only at b el kr q
  refine⟨_,(qd (qI (qu gw (qp qF (by rfl) T.b_len PySem.boot_len (qb (qH (qv 0)) qa)) (qX (v:= .int 8) rfl T.g_AGES ⟨_,rfl⟩) (qr _)) zS qx)
   (qd (qz (i:=2) sc_Door_turn_key.nd rfl (Or.inl rfl) (qC bX (by rfl) T.b_tuple PyProof.Rows.boot_tuple (qb (qv 1) qa)))
   (qd (qV (Qq PySem.F.plainAttrs_list PySem.F.slot_list_append PySem.F.type_list_append zm (qH (qv 0)) (qb (qv 2) qa)))
   (qf (qV (Qq PySem.F.plainAttrs_list PySem.F.slot_list_append PySem.F.type_list_append zm (qH (qv 0)) (qb (qA (qb qh (qb (qv 2) qa))) qa))))))),?_⟩
  obtain⟨as,eh,la,hks⟩:=id b.ks
  refine⟨_,rfl,p,_,rfl,b.h_house_keys U,hk,_,rfl,.inl (SqL.of eh),_,_,rfl,rfl,_,rfl,?_⟩
  rw[List.length_map,la]
  have q:=q _ _ (if_pos k7)
  refine Zf (decide_eq_false (by omega)) ?_
  refine⟨_,rfl,kt,ks,rfl,hkt,fun t H2 s2 ht=>?_⟩
  have b2:=b.same s2
  obtain⟨as,eh,la,hks⟩:=id b2.ks
  have nhl:lg≠hk:=b.ne
  refine⟨_,rfl,p,_,rfl,b2.h_house_keys U,.inl ⟨rfl,_,SqL.of eh⟩,_,rfl,hk,_,_,rfl,rfl,eh,by rw[List.length_map,la,sizeLine_eq];omega,?_⟩
  have b3:=b2.putH Mv.upd1 (ie eh la hks (.inl ht))
  obtain⟨as',eh',la',hks'⟩:=KsAt.same s2 kr
  obtain rfl:as=as':=by rw[eh]at eh';injection eh' with z;injection z with z;exact(List.map_inj_right (fun _ _ h=>by injection h)).mp z
  have kr3:=ie eh' la' hks' (.inl ht)
  have m3:Mv [hk] H2 (upd H2 hk (.lst (as.map V.ref++[.ref t]))):=Mv.upd1
  have el3:=m3 _ _ (qK nhl) (s2 _ _ el)
  have ro3:=(ro.same s2).mv m3 (NT.one eh trivial)
  have ht3:=m3.rd (NT.one eh trivial) ht
  refine⟨_,rfl,p,_,rfl,b3.h_log U,.inl ⟨rfl,_,SqL.of el3⟩,_,rfl,by show 2<=sizeLine;decide,fun r hr'=>?_⟩
  have u7:=Same.upd (o:= .tup [.str "turn",.ref t]) hr'
  have b7:=b3.same u7
  refine⟨lg,_,_,rfl,rfl,u7 _ _ el3,by rw[List.length_map,ro.1,sizeLine_eq];omega,?_⟩
  exact q _ (((s2.mv.trans (Mv.upd1.mono (fun c h z=>h (by rw[List.mem_singleton.mp z];exact List.mem_cons_self ..)))).trans u7.mv).trans (Mv.upd1.mono (fun c h z=>h (by rw[List.mem_singleton.mp z];exact List.mem_cons_of_mem _ (List.mem_cons_self ..))))) (DlAt.push (a:=⟨p,ta,hk,bd,lg⟩) b7 (u7 _ _ el3) (ro3.same u7) (kr3.same u7) ⟨t,.inl qc,u7.mv.rd (S:=[]) gC ht3,hkl⟩)
theorem bR(a:AtM K C "twin_door" "Door.twin_door" QC ["self"])(T:Txt K mg tk)(U:DCx K C)(xW:Mi P w K mg base C "Door" ["self","table","keys","near","far","most"] 1 (cm K C)):Mf P w K mg base C "twin_door" ["self"] 3 (jU K C):=by
 refine a.mq sc_Door_twin_door (fun vs H Q E h=>?_) (fun f cdv A outer s H vs Q E hr h=>?_)
 ·obtain⟨_,_,_,rfl,_⟩:=h
  rfl
 ·obtain⟨⟨p,ta,hk,bd,lg⟩,D,L,rfl,⟨b,⟨rs,el,ro⟩,kr⟩,k8,q⟩:=h
  simp only at b el kr q
  refine⟨_,(qd (qz (i:=1) sc_Door_twin_door.nd rfl (Or.inl rfl) (jA xW hr.mo (qb (qH (qv 0)) (qb (qH (qv 0)) (qb (qH (qv 0)) (qb (qH (qv 0)) (qb (qH (qv 0)) qa)))))))
   (qd (zK (qv 1) (qH (qv 0)))
   (qd (zK (qv 1) (qC aa (by rfl) T.b_dict PyProof.Rows.boot_dict (qb (qH (qv 0)) qa)))
   (qd (zK (qv 1) (qC zw (by rfl) T.b_list PyProof.Rows.boot_list (qb (qH (qv 0)) qa)))
   (qf (qj (qv 1))))))),?_⟩
  refine⟨_,rfl,p,_,rfl,b.h_table U,_,rfl,p,_,rfl,b.h_house_keys U,_,rfl,p,_,rfl,b.h_near U,_,rfl,p,_,rfl,b.h_far U,_,rfl,p,_,rfl,b.h_most U,fun x dx nx ndx nex=>?_⟩
  have sJ:Same H (upd (upd H dx (.own x)) x (.ins C dx [])):=(Same.upd ndx).trans (Same.upd (by rw[qi nex.symm];exact nx))
  refine⟨x,ta,hk,dx,D.near,D.far,D.most,D.t,D.kss,rfl,qc,.inr (Same.sqt sJ b.tb),(KsAt.same sJ kr).lt,k8,fun ta' hk' bd0 lg0 H1 h1 h2 h3 mv dr krn=>⟨rfl,?_⟩⟩
  have S1:Same H H1:=fun c o e=>mv c o (qK (qo e nx)) (sJ c o e)
  obtain⟨dx',e1⟩:=id dr.ob
  obtain⟨as,eh1,_⟩:=id dr.ks
  have nhx:hk'≠x:=qO eh1 e1 (by intro z;cases z)
  obtain⟨f0,hd,hbu,hpm,nd⟩:=id b.kb
  have b1:=b.same S1
  refine⟨_,rfl,p,_,rfl,b1.h_least_age U,_,rfl,x,_,rfl,fc U e1 D.least,?_⟩
  have S2:=S1.put (o:= .ins C dx' (dF ⟨D.t,D.kss,D.near,D.far,D.most,D.least,[]⟩ ta' hk' bd0 lg0)) nx
  have b2:=b.same S2
  refine⟨_,rfl,p,_,rfl,b2.h_buttons U,bd,_,rfl,S2 _ _ hd,fun bd' hbd'=>?_⟩
  have nbx:bd'≠x:=(qo qc hbd').symm
  have fbd:H bd'=none:=za hbd' S2
  have S3:=S2.put (o:= .dK (zO f0.1 f0.2)) fbd
  refine⟨_,rfl,x,_,rfl,jd U (by rw[qi nbx.symm];exact qc) bd',?_⟩
  have S4:=S3.put (o:= .ins C dx' (dF ⟨D.t,D.kss,D.near,D.far,D.most,D.least,[]⟩ ta' hk' bd' lg0)) nx
  have b4:=b.same S4
  refine⟨_,rfl,p,_,rfl,b4.h_log U,lg,_,rfl,.inl (SqL.of (S4 _ _ el)),fun lg' hlg'=>?_⟩
  have nlx:lg'≠x:=(qo qc hlg').symm
  have flg:H lg'=none:=za hlg' S4
  have S5:=S4.put (o:= .lst (rs.map V.ref)) flg
  refine⟨_,rfl,x,_,rfl,rQ U (by rw[qi nlx.symm];exact qc) lg',?_⟩
  have S6:=S5.put (o:= .ins C dx' (dF ⟨D.t,D.kss,D.near,D.far,D.most,D.least,[]⟩ ta' hk' bd' lg')) nx
  have e4b:_=some (HO.dK (zO f0.1 f0.2)):=(qi (o:= .ins C dx' (dF ⟨D.t,D.kss,D.near,D.far,D.most,D.least,[]⟩ ta' hk' bd' lg0)) nbx).trans (qc (H:=upd H1 x (.ins C dx' (dF ⟨D.t,D.kss,D.near,D.far,D.most,D.least,[]⟩ ta' hk' bd0 lg0))) (a:=bd') (o:= .dK (zO f0.1 f0.2)))
  have nlb:lg'≠bd':=(qo e4b hlg').symm
  have nhb:hk'≠bd':=qo (by rw[qi nhx];exact eh1) hbd'
  have nhl:hk'≠lg':=qo (by rw[qi nhx,qi nhb,qi nhx];exact eh1) hlg'
  have M:Mv [x] H1 _:=(((Mv.upd1 (a:=x) (H:=H1) (o:= .ins C dx' (dF ⟨D.t,D.kss,D.near,D.far,D.most,D.least,[]⟩ ta' hk' bd0 lg0))).trans (Same.upd (o:= .dK (zO f0.1 f0.2)) hbd').mv).trans (Mv.upd1 (o:= .ins C dx' (dF ⟨D.t,D.kss,D.near,D.far,D.most,D.least,[]⟩ ta' hk' bd' lg0)))).trans (Same.upd (o:= .lst (rs.map V.ref)) hlg').mv
  have M6:=M.trans (Mv.upd1 (o:= .ins C dx' (dF ⟨D.t,D.kss,D.near,D.far,D.most,D.least,[]⟩ ta' hk' bd' lg')))
  have nt:NT [x] H1:=NT.one e1 trivial
  have eL6:∀(G:Hp) (o:HO),upd (upd G lg' (.lst (rs.map V.ref))) x o lg'=some (HO.lst (rs.map V.ref)):=fun G o=>by rw[qi nlx];exact qc
  refine⟨_,rfl,q ⟨x,ta',hk',bd',lg'⟩ _ S6 nx (za h1 sJ) fbd flg ⟨⟨⟨dx',qc⟩,M6.sqt nt dr.tb,dr.ks.mv M6 nt (qK nhx),⟨f0,?_,fun e he=>(hbu e he).same S6,hpm,nd⟩,⟨rs,eL6 _ _,Nat.le_of_eq ro.1⟩,nhl.symm⟩,⟨rs,eL6 _ _,ro.same S6⟩,KsAt.mv M6 nt (qK nhx) krn⟩⟩
  rw[qi nbx,qi nlb.symm];exact e4b
theorem aF(a:AtM K C "bounds_told" "Door.bounds_told" zT ["self"])(T:Txt K mg tk)(U:DCx K C):Mf P w K mg base C "bounds_told" ["self"] 1 (fZ K C):=by
 refine a.mq aG (fun vs H Q E h=>?_) (fun f cdv A outer s H vs Q E hr h=>?_)
 ·obtain⟨_,_,_,_,_,_,_,rfl,_⟩:=h
  rfl
 ·obtain⟨p,ta,hk,bd,lg,n,D,rfl,b,q⟩:=h
  refine⟨_,(qf (qj (qA (qb (qH (qv 0)) (qb (qH (qv 0)) (qb (qH (qv 0)) qa)))))),?_⟩
  exact⟨_,rfl,p,_,rfl,b.h_near U,_,rfl,p,_,rfl,b.h_far U,_,rfl,p,_,rfl,b.h_most U,by show 3<=sizeLine;decide,fun t ht=>q t _ (Same.upd ht) qc⟩
theorem bC(a:AtM K C "closed_now" "Door.closed_now" Qj ["self"])(T:Txt K mg tk)(U:DCx K C):Mf P w K mg base C "closed_now" ["self"] 1 (fo K C):=by
 refine a.mq aU (fun vs H Q E h=>?_) (fun f cdv A outer s H vs Q E hr h=>?_)
 ·obtain⟨_,_,_,_,_,_,_,rfl,_⟩:=h
  rfl
 ·obtain⟨p,ta,hk,bd,lg,n,D,rfl,b,q⟩:=h
  refine⟨_,(qf (qj (qH (qv 0)))),?_⟩
  exact⟨_,rfl,p,_,rfl,b.h_least_age U,q⟩
theorem aO(a:AtM K C "table_told" "Door.table_told" Qf ["self"])(T:Txt K mg tk)(U:DCx K C):Mf P w K mg base C "table_told" ["self"] 1 (io K C):=by
 refine a.mq aW (fun vs H Q E h=>?_) (fun f cdv A outer s H vs Q E hr h=>?_)
 ·obtain⟨_,_,_,_,_,_,_,rfl,_⟩:=h
  rfl
 ·obtain⟨p,ta,hk,bd,lg,n,D,rfl,b,q⟩:=h
  refine⟨_,(qf (qj (qH (qv 0)))),?_⟩
  exact⟨_,rfl,p,_,rfl,b.h_table U,q⟩
end
def l9(K:Frag):Sp:=fun vs H Q _=>∃(a:Addr) (ns:List Int) (k:Nat),vs=[.ref a,.int k]/\SqL K H a (ns.map V.int)/\k<=1000/\∀b H',H b=none->Same H H'->BoxC H' b 0->Q (.ref b) H'
section
variable{P:Program}{w:World}{K:Frag}{mg:Str->Option Value}{base:Heap}{tk:Nat->Tok}
theorem jm(a:At K mg "_law_take" av ["_law_box_here","_law_many"])(T:Txt K mg tk):Df P w K mg base "_law_take" ["_law_box_here","_law_many"] 1 zL:=by
 refine a.dq sc_law_take (fun vs H Q E h=>?_) (fun f cdv A outer s H vs Q E hr h=>?_)
 ·obtain⟨b,many,c,rfl,_⟩:=h
  rfl
 ·obtain⟨b,many,c,rfl,⟨n,m,k,hb,m0,m1,k0,k1⟩,hc,h0,h1,q⟩:=h
  refine⟨_,(qd (qI (qu vS (qB qD (qv 0) qe (fun _ _=>rfl)) qe (qr _)) (qd (qz (i:=2) sc_law_take.nd rfl (Or.inl rfl) (qk zt (qB qD (qv 0) qe (fun _ _=>rfl)) (qv 1)))
   (qd (zr (qk Zp (qB qD (qv 0) qe (fun _ _=>rfl)) (qv 1)) (aM (qv 0) qe Q1))
   (qf (qj (qv 2))))) qx)
   (qd (zr (qk qE (qB qD (qv 0) qe (fun _ _=>rfl)) qe) (aM (qv 0) qe Q1))
   (qd (qz (i:=3) sc_law_take.nd rfl (Or.inl rfl) (qB qD (qv 0) qe (fun _ _=>rfl)))
   (qd (qz (i:=4) sc_law_take.nd rfl (Or.inl rfl) (qk zt (qk zX (qB qD (qv 0) qe (fun _ _=>rfl)) (qk qE (qk qE qe (qk zX (qk zX qe (qv 3)) (qv 3))) (qk zX qe (qv 3)))) qe))
   (qd (qz (i:=4) sc_law_take.nd rfl (Or.inl rfl) (qk zt (qk zX (qv 4) (qk qE (qk qE (qk zt (qv 4) qe) (qk zX (qv 3) qe)) qe)) qe))
   (qf (qj (qk zt (qk qE (qk Zp (qv 4) qe) (qk Zp (qv 4) qe)) (qv 1))))))))),?_⟩
  refine⟨_,rfl,b,_,_,_,rfl,rfl,SqL.of hb,rfl,_,_,rfl,rfl,_,rfl,?_⟩
  refine qL (fun _=>?_) (fun _=>?_)
  ·refine⟨_,rfl,b,_,_,_,rfl,rfl,SqL.of hb,rfl,_,rfl,_,_,rfl,rfl,h0,?_⟩
   refine⟨_,rfl,b,_,_,_,rfl,rfl,SqL.of hb,rfl,_,rfl,_,_,rfl,rfl,⟨h0,h1⟩,_,rfl,b,_,_,0,rfl,rfl,hb,rfl,?_⟩
   refine⟨_,rfl,?_⟩
   refine q _ _ (Int.emod_nonneg _ (by omega)) (Int.emod_lt_of_pos _ h0) ⟨fun c o hc e=>?_,_,_,_,qc,m0,m1,k0,by omega⟩
   rw[qi hc]
   exact e
  ·refine⟨_,rfl,b,_,_,_,rfl,rfl,SqL.of hb,rfl,_,_,rfl,rfl,_,rfl,b,_,_,2,rfl,rfl,hb,rfl,?_⟩
   have hb2:(upd H b (lu n m (k+1))) b=some (lu n m (k+1)):=qc
   refine⟨_,rfl,b,_,_,_,rfl,rfl,SqL.of hb2,rfl,?_⟩
   refine⟨_,rfl,b,_,_,_,rfl,rfl,SqL.of hb2,rfl,_,rfl,_,_,rfl,rfl,.inl ⟨by decide,by decide⟩,_,rfl,_,_,rfl,rfl,.inl ⟨by show -(2 ^ 64:Int)<2*(k+1);omega,by show 2*(k+1)<(2 ^ 64:Int);omega⟩,_,_,rfl,rfl,_,rfl,_,_,rfl,rfl,.inl ⟨by decide,by decide⟩,_,_,rfl,rfl,_,_,rfl,rfl,.inl ⟨by omega,by omega⟩,_,_,rfl,rfl,(by decide:(0:Int)<2305843009213693921),?_⟩
   generalize hz:(m*(48271+2*(k+1)*(k+1)+65537*(k+1)))=zz
   have g0:=Int.emod_nonneg zz (by decide:(2305843009213693921:Int)≠0)
   have g1:=Int.emod_lt_of_pos zz (by decide:(0:Int)<2305843009213693921)
   refine⟨_,rfl,_,rfl,_,_,rfl,rfl,(by decide:(0:Int)<1000003),_,rfl,_,_,rfl,rfl,.inr ⟨by decide,by decide⟩,_,_,rfl,rfl,_,_,rfl,rfl,_,_,rfl,rfl,.inl ⟨by omega,by omega⟩,_,_,rfl,rfl,(by decide:(0:Int)<2305843009213693907),?_⟩
   refine⟨_,rfl,_,_,rfl,rfl,⟨by decide,by decide⟩,_,rfl,_,_,rfl,rfl,⟨by decide,by decide⟩,_,_,rfl,rfl,_,rfl,_,_,rfl,rfl,h0,?_⟩
   refine q _ _ (Int.emod_nonneg _ (by omega)) (Int.emod_lt_of_pos _ h0) ⟨fun c o hc e=>?_,_,_,_,qc,m0,m1,by omega,by omega⟩
   rw[qi hc]
   exact e
theorem kF(a:At K mg "_law_box" a8 ["_law_script","_law_k"])(T:Txt K mg tk):Df P w K mg base "_law_box" ["_law_script","_law_k"] 1 (l9 K):=by
 refine a.dq sc_law_box (fun vs H Q E h=>?_) (fun f cdv A outer s H vs Q E hr h=>?_)
 ·obtain⟨b,ns,k,rfl,_⟩:=h
  rfl
 ·obtain⟨b,ns,k,rfl,hS,hk1,q⟩:=h
  refine⟨_,(qd (qz (i:=2) sc_law_box.nd rfl (Or.inl rfl) qe)
   (qd (qI (qu ZJ (qv 1) (qp qF (by rfl) T.b_len PySem.boot_len (qb (qv 0) qa)) (qr _)) (qf (qz (i:=2) sc_law_box.nd rfl (Or.inl rfl) (qB qD (qv 0) (qv 1) (fun _ _=>rfl)))) qx)
   (qd (qz (i:=3) sc_law_box.nd rfl (Or.inl rfl) qe)
   (qd (zC PassesOwn.never rfl (zZ (cJ sV (qv 0) eT (eZ qe))) (ql (i:=4) sc_law_box.nd rfl (Or.inl rfl))
   (qf (qz (i:=3) sc_law_box.nd rfl (Or.inl rfl) (qk zt (qk qE (qk zX qe (qv 3)) (qv 4)) qe))))
   (qf (qj (zk (qb (qk zX (qp iu (by rfl) T.b_abs PyProof.Rows.boot_abs (qb (qv 2) qa)) (qC lL (by rfl) T.b_int PyProof.Rows.boot_int (qb (zx gw (qp iu (by rfl) T.b_abs PyProof.Rows.boot_abs (qb (qv 2) qa)) (qk ug qe qe) (qr _)) qa))) (qb (qk qE (qk qE (qk zt (qk qE (qv 2) (qv 3)) qe) (qk zX qe (qv 1))) qe) (qb qe qa)))))))))),?_⟩
  refine⟨_,rfl,_,rfl,b,_,rfl,.inl hS,_,_,rfl,rfl,_,rfl,?_⟩
  refine qL (fun hk=>?_) (fun _=>?_)
  ·have hk':k<ns.length:=by have:=of_decide_eq_true hk;rw[List.length_map]at this;omega
   refine⟨_,rfl,_,rfl,b,_,_,.int ns[k],rfl,rfl,hS,QH (by rw[List.getElem?_map,List.getElem?_eq_getElem hk'];rfl),?_⟩
   refine⟨_,rfl,_,rfl,b,_,rfl,hS,fun l hl=>⟨l,rfl,⟨_,SqL.of qc⟩,?_⟩⟩
   rw[iA]
   have s2:=Same.upd (o:= .lst ((bh ns none (some 63)).map V.int)) hl
   refine Zv (K:=K) (a:=l) (xs:=(bh ns none (some 63)).map V.int) (fun i σ H2=>H2=upd H l (.lst ((bh ns none (some 63)).map V.int))/\∃(z:Int) (o:Option V),σ=[some (.ref b),some (.int (k:Int)),some (.int ns[k]),some (.int z),o]/\0<=z/\z<2305843009213693951) ⟨rfl,_,_,rfl,by decide,by decide⟩ (fun i σ H2 _ ⟨e,_⟩=>by subst e;exact SqL.of qc) ?_ ?_
   ·rintro i x σ H2 hx ⟨rfl,z,o,rfl,z0,z1⟩
    obtain⟨y,rfl,hy⟩:=zH hx
    refine⟨_,rfl,_,_,rfl,rfl,.inl ⟨by decide,by decide⟩,_,rfl,_,_,rfl,rfl,_,_,rfl,rfl,(by decide:(0:Int)<2305843009213693951),rfl,_,_,rfl,Int.emod_nonneg _ (by decide),Int.emod_lt_of_pos _ (by decide)⟩
   ·rintro σ H2 ⟨rfl,z,o,rfl,z0,z1⟩
    refine⟨_,rfl,_,rfl,_,rfl,_,rfl,_,_,rfl,rfl,⟨by decide,by decide,by decide⟩,_,_,rfl,rfl,.inr ⟨_,rfl,?_⟩⟩
    refine⟨_,_,rfl,rfl,.inr ⟨ng _,lT _⟩,_,rfl,_,rfl,_,_,rfl,rfl,_,_,rfl,rfl,(by decide:(0:Int)<2305843009213693951),_,rfl,_,_,rfl,rfl,.inl ⟨by decide,by decide⟩,_,_,rfl,rfl,_,_,rfl,rfl,?_⟩
    have g0:=Int.emod_nonneg (ns[k]+z) (by decide:(2305843009213693951:Int)≠0)
    have g1:=Int.emod_lt_of_pos (ns[k]+z) (by decide:(0:Int)<2305843009213693951)
    refine⟨by show 3<=sizeLine;decide,fun p hp=>q _ _ (za hp s2) (s2.trans (Same.upd hp)) ⟨_,_,_,qc,?_,?_,by decide,by decide⟩⟩
    ·show 0<=(ns[k]+z)%2305843009213693951+7919*(k:Int)+3
     omega
    ·show(ns[k]+z)%2305843009213693951+7919*(k:Int)+3<4611686018427387904
     omega
  ·skip
   refine⟨_,rfl,_,rfl,b,_,rfl,hS,fun l hl=>⟨l,rfl,⟨_,SqL.of qc⟩,?_⟩⟩
   rw[iA]
   have s2:=Same.upd (o:= .lst ((bh ns none (some 63)).map V.int)) hl
   refine Zv (K:=K) (a:=l) (xs:=(bh ns none (some 63)).map V.int) (fun i σ H2=>H2=upd H l (.lst ((bh ns none (some 63)).map V.int))/\∃(z:Int) (o:Option V),σ=[some (.ref b),some (.int (k:Int)),some (.int 0),some (.int z),o]/\0<=z/\z<2305843009213693951) ⟨rfl,_,_,rfl,by decide,by decide⟩ (fun i σ H2 _ ⟨e,_⟩=>by subst e;exact SqL.of qc) ?_ ?_
   ·rintro i x σ H2 hx ⟨rfl,z,o,rfl,z0,z1⟩
    obtain⟨y,rfl,hy⟩:=zH hx
    refine⟨_,rfl,_,_,rfl,rfl,.inl ⟨by decide,by decide⟩,_,rfl,_,_,rfl,rfl,_,_,rfl,rfl,(by decide:(0:Int)<2305843009213693951),rfl,_,_,rfl,Int.emod_nonneg _ (by decide),Int.emod_lt_of_pos _ (by decide)⟩
   ·rintro σ H2 ⟨rfl,z,o,rfl,z0,z1⟩
    refine⟨_,rfl,_,rfl,_,rfl,_,rfl,_,_,rfl,rfl,⟨by decide,by decide,by decide⟩,_,_,rfl,rfl,.inr ⟨_,rfl,?_⟩⟩
    refine⟨_,_,rfl,rfl,.inr ⟨ng _,lT _⟩,_,rfl,_,rfl,_,_,rfl,rfl,_,_,rfl,rfl,(by decide:(0:Int)<2305843009213693951),_,rfl,_,_,rfl,rfl,.inl ⟨by decide,by decide⟩,_,_,rfl,rfl,_,_,rfl,rfl,?_⟩
    have g0:=Int.emod_nonneg (0+z) (by decide:(2305843009213693951:Int)≠0)
    have g1:=Int.emod_lt_of_pos (0+z) (by decide:(0:Int)<2305843009213693951)
    refine⟨by show 3<=sizeLine;decide,fun p hp=>q _ _ (za hp s2) (s2.trans (Same.upd hp)) ⟨_,_,_,qc,?_,?_,by decide,by decide⟩⟩
    ·show 0<=(0+z)%2305843009213693951+7919*(k:Int)+3
     omega
    ·show(0+z)%2305843009213693951+7919*(k:Int)+3<4611686018427387904
     omega
theorem gE(a:At K mg "_law_table" ZQ ["_law_box_here"])(T:Txt K mg tk)(dA:Df P w K mg base "_law_take" ["_law_box_here","_law_many"] 1 zL):Df P w K mg base "_law_table" ["_law_box_here"] 2 i0:=by
 refine a.dq sc_law_table (fun vs H Q E h=>?_) (fun f cdv A outer s H vs Q E hr h=>?_)
 ·obtain⟨x,c,rfl,_⟩:=h
  rfl
 ·obtain⟨b,c,rfl,hb,hc,q⟩:=h
  refine⟨_,(qd (qz (i:=1) sc_law_table.nd rfl (Or.inr rfl) (qC (kf rfl) (by rfl) T.b_list PyProof.Rows.boot_list (qb (qC fy (by rfl) T.b_range PyProof.Rows.boot_range (qb qe qa)) qa)))
   (qf (qj (qC qP (by rfl) T.b_tuple PyProof.Rows.boot_tuple (qb (zD (own:=["_law_k"]) (fr:=["_law_left","_law_box_here"]) (js:=[1,0]) rfl (QF rfl T.b_range (qb qe qa)) rfl (tZ rfl rfl) rfl (uT rfl (by decide +kernel) (by decide +kernel) (by decide +kernel) rfl rfl rfl rfl rfl rfl) (fun _ _ _ _=>ql (i:=0) (show List.Nodup (["_law_k","_law_left","_law_box_here"]:List Str)from by decide +kernel) rfl (Or.inl rfl) (.inr rfl)) (fun _ _ _ _=>(nE (K:=K) rfl PySem.F.plainAttrs_list PySem.F.slot_list_pop PySem.F.type_list_pop iy (qv 1) (qb (qm dA hr.mo (qb (qv 2) (qb (qp (aD (K:=K) rfl) (by rfl) T.b_len PySem.boot_len (qb (qv 1) qa)) qa))) qa)))) qa))))),?_⟩
  refine⟨_,rfl,fun r hr0=>⟨r,16,rfl,qc,by decide,fun l hl=>?_⟩⟩
  rw[vF]
  have s1:=(Same.upd (o:= .rng 0 16) hr0).trans (Same.upd (o:= .lst (digs.map V.int)) hl)
  have nlb:l≠b:=zh ((Same.upd hr0).grc hb).bx hl
  refine⟨_,rfl,by decide,by decide,Zm (n:=16) (by decide) (fun i ys H2=>GrC b (c+i) H H2/\∃ms zs:List Int,H2 l=some (.lst (ms.map V.int))/\ys=zs.map V.int/\ms.length+i=16/\(zs++ms).Perm digs) ⟨s1.grc hb,digs,[],qc,rfl,by rw[iN],.refl _⟩ ?_ ?_⟩
  ·rintro i ys H2 hi hl2 ⟨G2,ms,zs,hm,rfl,hml,pm⟩
   refine⟨_,rfl,.inl ⟨rfl,_,SqL.of hm⟩,?_⟩
   refine⟨_,rfl,_,rfl,l,_,rfl,.inl (SqL.of hm),b,_,_,rfl,G2.bx,by omega,by rw[List.length_map];omega,by rw[List.length_map];omega,fun x H3 x0 x1 g3=>?_⟩
   rw[List.length_map]at x1
   obtain⟨k,rfl⟩:∃k:Nat,x=(k:Int):=⟨x.toNat,by omega⟩
   have hk:k<ms.length:=by omega
   have hm3:=g3.kp _ _ nlb hm
   refine⟨l,_,_,k,.int ms[k],rfl,rfl,hm3,by omega,by omega,?_,?_,?_⟩
   ·rw[List.length_map];exact bA hk
   ·rw[List.getElem?_map,List.getElem?_eq_getElem hk];rfl
   ·refine⟨⟨fun c o hcb e=>?_,?_⟩,ms.eraseIdx k,zs++[ms[k]],?_,by simp,?_,?_⟩
    ·by_cases z:c=l
     ·subst z
      rw[Same.upd hr0 _ _ e]at hl;cases hl
     ·rw[qi z];exact g3.kp _ _ hcb (G2.kp _ _ hcb e)
    ·obtain⟨n,m,k',e,r⟩:=g3.bx
     exact⟨n,m,k',by rw[qi nlb.symm];exact e,r⟩
    ·rw[qc,kx]
    ·rw[List.length_eraseIdx_of_lt hk];omega
    ·exact(nW hk).trans pm
  ·rintro ys H2 hyl ⟨G2,ms,zs,hm,rfl,hml,pm⟩ p hp
   have e0:ms=[]:=List.eq_nil_of_length_eq_zero (by omega)
   subst e0
   rw[List.append_nil]at pm
   refine⟨p,_,rfl,.inl ⟨SqL.of qc,fun t ht=>?_⟩⟩
   have G3:=G2.same (Same.upd (o:= .lst (zs.map V.int)) hp)
   exact q t zs _ (G3.same (Same.upd ht)) (G3.fresh (hb.mono (by omega)) ht) qc pm
theorem kS(a:At K mg "_law_key" aK ["_law_box_here"])(T:Txt K mg tk)(dA:Df P w K mg base "_law_take" ["_law_box_here","_law_many"] 1 zL):Df P w K mg base "_law_key" ["_law_box_here"] 2 eK:=by
 refine a.dq kH (fun vs H Q E h=>?_) (fun f cdv A outer s H vs Q E hr h=>?_)
 ·obtain⟨x,c,rfl,_⟩:=h
  rfl
 ·obtain⟨b,c,rfl,hb,hc,q⟩:=h
  refine⟨_,(qf (qj (qC qP (by rfl) T.b_tuple PyProof.Rows.boot_tuple (qb (zD (own:=["_law_k"]) (fr:=["_law_box_here"]) (js:=[0]) rfl (QF rfl T.b_range (qb (qk qE qe (qm dA hr.mo (qb (qv 0) (qb qe qa)))) qa)) rfl (j6 rfl) rfl (kM rfl (by decide +kernel) (by decide +kernel) (by decide +kernel) rfl rfl rfl) (fun _ _ _ _=>ql (i:=0) (show List.Nodup (["_law_k","_law_box_here"]:List Str)from by decide +kernel) rfl (Or.inl rfl) (.inr rfl)) (fun _ _ _ _=>(qm dA hr.mo (qb (qv 1) (qb qe qa))))) qa)))),?_⟩
  refine⟨_,rfl,b,_,_,rfl,hb,by omega,by decide,by decide,fun r H1 r0 r1 g1=>⟨_,_,rfl,rfl,_,rfl,by omega,by omega,?_⟩⟩
  obtain⟨n,rfl,n8⟩:∃n:Nat,r=(n:Int)/\n<8:=⟨r.toNat,by omega,by omega⟩
  have en:(1+(n:Int)).toNat=n+1:=by omega
  rw[en]
  refine Zm (n:=n+1) (Nat.le_trans (by omega:n+1<=8) (by decide)) (fun i ys H2=>GrC b (c+1+i) H H2/\∃ks:List Int,ys=ks.map V.int/\q0 ks) ⟨g1,[],rfl,fun _ h=>nomatch h⟩ ?_ ?_
  ·rintro i ys H2 hi hl2 ⟨G2,ks,rfl,hk⟩
   refine⟨_,rfl,b,_,_,rfl,G2.bx,by omega,by decide,by decide,fun x H3 x0 x1 g3=>⟨G2.trans g3,ks++[x],by simp,fun z hz=>?_⟩⟩
   rcases List.mem_append.mp hz with y|y
   ·exact hk z y
   ·rw[List.mem_singleton.mp y];exact⟨x0,x1⟩
  ·rintro ys H2 hyl ⟨G2,ks,rfl,hk⟩ p hp
   rw[List.length_map]at hyl
   refine⟨p,_,rfl,.inl ⟨SqL.of qc,fun t ht=>?_⟩⟩
   have G3:=G2.same (Same.upd (o:= .lst (ks.map V.int)) hp)
   exact q t ks _ ((G3.same (Same.upd ht)).mono (by omega)) (G3.fresh (hb.mono (by omega)) ht) qc hk (by omega) (by omega)
end
section
variable{P:Program}{w:World}{K:Frag}{mg:Str->Option Value}{base:Heap}{tk:Nat->Tok}{C:Addr}
theorem gA(a:At K mg "_law_names" Z0 ["_law_box_here","_law_many"])(T:Txt K mg tk)(dA:Df P w K mg base "_law_take" ["_law_box_here","_law_many"] 1 zL):Df P w K mg base "_law_names" ["_law_box_here","_law_many"] 2 jo:=by
 refine a.dq sc_law_names (fun vs H Q E h=>?_) (fun f cdv A outer s H vs Q E hr h=>?_)
 ·obtain⟨_,_,_,rfl,_⟩:=h
  rfl
 ·obtain⟨b,many,c,rfl,hb,hc,hm,q⟩:=h
  refine⟨_,(qd (qz (i:=2) sc_law_names.nd rfl (Or.inr rfl) (zk (qb qh (qb qh (qb qh (qb qh (qb qh (qb qh (qb qh (qb qh (qb qh (qb qh (qb qh (qb qh qa))))))))))))))
   (qf (qj (zD (own:=["_law_k"]) (fr:=["_law_some","_law_box_here"]) (js:=[2,0]) rfl (QF rfl T.b_range (qb (qv 1) qa)) rfl (tZ rfl rfl) rfl (uT rfl (by decide +kernel) (by decide +kernel) (by decide +kernel) rfl rfl rfl rfl rfl rfl) (fun _ _ _ _=>ql (i:=0) (show List.Nodup (["_law_k","_law_some","_law_box_here"]:List Str)from by decide +kernel) rfl (Or.inl rfl) (.inr rfl)) (fun _ _ _ _=>(nE (K:=K) rfl PySem.F.plainAttrs_list PySem.F.slot_list_pop PySem.F.type_list_pop iy (qv 1) (qb (qm dA hr.mo (qb (qv 2) (qb (qp (aD (K:=K) rfl) (by rfl) T.b_len PySem.boot_len (qb (qv 1) qa)) qa))) qa))))))),?_⟩
  refine⟨by show 12<=sizeLine;decide,fun l hl=>?_⟩
  have u1:=Same.upd (o:= .lst (lawNames.map V.str)) hl
  have nlb:l≠b:=zh hb hl
  refine⟨_,rfl,_,rfl,by omega,by omega,?_⟩
  rw[Int.toNat_natCast]
  refine Zm (n:=many) (Nat.le_trans hm (by decide)) (fun i ys H2=>GrC b (c+i) H H2/\∃ms zs:List Str,H2 l=some (.lst (ms.map V.str))/\ys=zs.map V.str/\ms.length+i=12/\(zs++ms).Perm lawNames) ⟨u1.grc hb,lawNames,[],qc,rfl,rfl,.refl _⟩ ?_ ?_
  ·rintro i ys H2 hi hl2 ⟨G2,ms,zs,hms,rfl,hml,pm⟩
   refine⟨_,rfl,.inl ⟨rfl,_,SqL.of hms⟩,?_⟩
   refine⟨_,rfl,_,rfl,l,_,rfl,.inl (SqL.of hms),b,_,_,rfl,G2.bx,by omega,by rw[List.length_map];omega,by rw[List.length_map];omega,fun x H3 x0 x1 g3=>?_⟩
   rw[List.length_map]at x1
   obtain⟨k,rfl⟩:∃k:Nat,x=(k:Int):=⟨x.toNat,by omega⟩
   have hk:k<ms.length:=by omega
   have hm3:=g3.kp _ _ nlb hms
   refine⟨l,_,_,k,.str ms[k],rfl,rfl,hm3,by omega,by omega,?_,?_,?_⟩
   ·rw[List.length_map];exact bA hk
   ·rw[List.getElem?_map,List.getElem?_eq_getElem hk];rfl
   ·refine⟨⟨fun c o hcb e=>?_,?_⟩,ms.eraseIdx k,zs++[ms[k]],?_,by simp,?_,?_⟩
    ·by_cases z:c=l
     ·subst z
      rw[e]at hl;cases hl
     ·rw[qi z];exact g3.kp _ _ hcb (G2.kp _ _ hcb e)
    ·obtain⟨n,m,k',e,r⟩:=g3.bx
     exact⟨n,m,k',by rw[qi nlb.symm];exact e,r⟩
    ·rw[qc,lh]
    ·rw[List.length_eraseIdx_of_lt hk];omega
    ·exact(nK hk).trans pm
  ·rintro ys H2 hyl ⟨G2,ms,zs,hms,rfl,hml,pm⟩ p hp
   rw[List.length_map]at hyl
   have nd:(zs++ms).Nodup:=pm.nodup_iff.mpr (by decide +kernel)
   refine q p zs _ (G2.same (Same.upd hp)) (G2.fresh (hb.mono (by omega)) hp) qc hyl (List.nodup_append.mp nd).1 (fun z hz=>?_)
   have hz':=pm.mem_iff.mp (List.mem_append_left _ hz)
   simp only[lawNames,List.mem_cons,List.not_mem_nil,or_false]at hz'
   rcases hz' with rfl|rfl|rfl|rfl|rfl|rfl|rfl|rfl|rfl|rfl|rfl|rfl
   all_goals exact⟨by decide +kernel,by decide +kernel,by decide +kernel⟩
theorem gq(a:At K mg "_law_bounds" ZH ["_law_box_here"])(T:Txt K mg tk)(dA:Df P w K mg base "_law_take" ["_law_box_here","_law_many"] 1 zL):Df P w K mg base "_law_bounds" ["_law_box_here"] 2 ib:=by
 refine a.dq sc_law_bounds (fun vs H Q E h=>?_) (fun f cdv A outer s H vs Q E hr h=>?_)
 ·obtain⟨_,_,rfl,_⟩:=h
  rfl
 ·obtain⟨b,c,rfl,hb,hc,q⟩:=h
  refine⟨_,(qd (qz (i:=1) sc_law_bounds.nd rfl (Or.inl rfl) (qB qD (zk (qb qe (qb qe (qb qe (qb qe (qb qe (qb qe qa))))))) (qm dA hr.mo (qb (qv 0) (qb qe qa))) (fun _ _=>rfl)))
   (qf (qj (qA (qb (qv 1) (qb (qk qE (qv 1) (qB qD (zk (qb qe (qb qe (qb qe (qb qe (qb qe (qb qe qa))))))) (qm dA hr.mo (qb (qv 0) (qb qe qa))) (fun _ _=>rfl))) qa)))))),?_⟩
  refine⟨by show 6<=sizeLine;decide,fun l hl=>?_⟩
  have u1:=Same.upd (o:= .lst [.int 1,.int 2,.int 3,.int 4,.int 5,.int 64]) hl
  refine⟨_,rfl,b,_,_,rfl,(u1.grc hb).bx,by omega,by decide,by decide,fun r H2 r0 r1 g2=>?_⟩
  obtain⟨v,hv,hvm⟩:=QJ (xs:=[V.int 1,.int 2,.int 3,.int 4,.int 5,.int 64]) r0 r1
  obtain⟨near,rfl,n0,n1⟩:∃z:Int,v= .int z/\1<=z/\z<=64:=by
   simp only[List.mem_cons,List.not_mem_nil,or_false]at hvm
   rcases hvm with rfl|rfl|rfl|rfl|rfl|rfl<;>exact⟨_,rfl,by omega,by omega⟩
  refine⟨l,_,_,_,rfl,rfl,SqL.of (g2.kp _ _ (zh hb hl) qc),hv,?_⟩
  refine⟨_,rfl,_,rfl,by show 6<=sizeLine;decide,fun l2 hl2=>?_⟩
  have u3:=Same.upd (o:= .lst [.int 0,.int 1,.int 2,.int 3,.int 7,.int 25]) hl2
  refine⟨_,rfl,b,_,_,rfl,(u3.grc g2.bx).bx,by omega,by decide,by decide,fun r' H4 r0' r1' g4=>?_⟩
  obtain⟨v2,hv2,hvm2⟩:=QJ (xs:=[V.int 0,.int 1,.int 2,.int 3,.int 7,.int 25]) r0' r1'
  obtain⟨more,rfl,m0,m1⟩:∃z:Int,v2= .int z/\0<=z/\z<=25:=by
   simp only[List.mem_cons,List.not_mem_nil,or_false]at hvm2
   rcases hvm2 with rfl|rfl|rfl|rfl|rfl|rfl<;>exact⟨_,rfl,by omega,by omega⟩
  refine⟨l2,_,_,_,rfl,rfl,SqL.of (g4.kp _ _ (zh g2.bx hl2) qc),hv2,_,_,rfl,rfl,by show 2<=sizeLine;decide,fun t ht=>?_⟩
  exact q t near (near+more) _ (((((u1.grc hb).trans g2).same u3).trans g4).same (Same.upd ht)) qc n0 (by omega) (by omega)
theorem jl(a:At K mg "_law_made" aA ["_law_box_here","_law_wide"])(T:Txt K mg tk)(xN:Df P w K mg base "_law_bounds" ["_law_box_here"] 2 ib)(dA:Df P w K mg base "_law_take" ["_law_box_here","_law_many"] 1 zL)(xB:Df P w K mg base "_law_key" ["_law_box_here"] 2 eK)(xU:Df P w K mg base "_law_table" ["_law_box_here"] 2 i0):Df P w K mg base "_law_made" ["_law_box_here","_law_wide"] 3 (iJ K):=by
 refine a.dq sc_law_made (fun vs H Q E h=>?_) (fun f cdv A outer s H vs Q E hr h=>?_)
 ·obtain⟨_,_,rfl,_⟩:=h
  rfl
 ·obtain⟨b,c,rfl,hb,hc,q⟩:=h
  refine⟨_,(qd (zr (qm xN hr.mo (qb (qv 0) qa)) (zI rfl (qq (ql (i:=2) sc_law_made.nd rfl (Or.inl rfl)) (qq (ql (i:=3) sc_law_made.nd rfl (Or.inl rfl)) qY))))
   (qd (qz (i:=4) sc_law_made.nd rfl (Or.inl rfl) (pH (zn (qv 1)) (qk qE qe (qm dA hr.mo (qb (qv 0) (qb qe qa)))) (qk qE qe (qm dA hr.mo (qb (qv 0) (qb qe qa))))))
   (qd (j1 (i:=5) sc_law_made.nd rfl (Or.inl rfl) (own:=["_law_k"]) (fr:=["_law_box_here"]) (js:=[0]) rfl (QF rfl T.b_range (qb (qB qD (zk (qb qe (qb qe (qb qe (qb qe (qb qe qa)))))) (qm dA hr.mo (qb (qv 0) (qb qe qa))) (fun _ _=>rfl)) qa)) rfl (j6 rfl) rfl (kM rfl (by decide +kernel) (by decide +kernel) (by decide +kernel) rfl rfl rfl) (fun _ _ _ _=>ql (i:=0) (show List.Nodup (["_law_k","_law_box_here"]:List Str)from by decide +kernel) rfl (Or.inl rfl) (.inr rfl)) (fun _ _ _ _=>(qm xB hr.mo (qb (qv 1) qa))))
   (qf (qj (sr (Qz qh (qm xU hr.mo (qb (qv 0) qa)) (Qz qh (qv 5) (Qz qh (qv 2) (Qz qh (qv 3) (Qz qh (qv 4) (Qz qh qe (Qz qh iC tF))))))))))))),?_⟩
  refine⟨_,rfl,b,_,rfl,hb,by omega,fun q1 near far H1 g1 hq1 n0 n1 n2=>⟨q1,_,rfl,.tup hq1,rfl,_,_,rfl,_,_,rfl,rfl,?_⟩⟩
  refine⟨_,rfl,_,rfl,?_⟩
  refine qS ⟨_,rfl,b,_,_,rfl,g1.bx,by omega,by decide,by decide,fun r2 H2 r20 r21 g2=>⟨_,_,rfl,rfl,?_⟩⟩
  refine⟨by show 5<=sizeLine;decide,fun l hl=>?_⟩
  have u3:=Same.upd (o:= .lst [.int 1,.int 1,.int 2,.int 3,.int 8]) hl
  refine⟨_,rfl,b,_,_,rfl,(u3.grc g2.bx).bx,by omega,by decide,by decide,fun r3 H3 r30 r31 g3=>?_⟩
  obtain⟨v3,hv3,hm3⟩:=QJ (xs:=[V.int 1,.int 1,.int 2,.int 3,.int 8]) r30 r31
  obtain⟨nk,rfl,k1,k8⟩:∃z:Nat,v3= .int (z:Int)/\1<=z/\z<=8:=by
   simp only[List.mem_cons,List.not_mem_nil,or_false]at hm3
   rcases hm3 with rfl|rfl|rfl|rfl|rfl
   ·exact⟨1,rfl,by decide,by decide⟩
   ·exact⟨1,rfl,by decide,by decide⟩
   ·exact⟨2,rfl,by decide,by decide⟩
   ·exact⟨3,rfl,by decide,by decide⟩
   ·exact⟨8,rfl,by decide,by decide⟩
  have G3:GrC b (c+4) H H3:=(((g1.trans g2).same u3).trans g3).mono (by omega)
  refine⟨l,_,_,_,rfl,rfl,SqL.of (g3.kp _ _ (zh g2.bx hl) qc),hv3,_,rfl,by omega,by omega,?_⟩
  rw[Int.toNat_natCast]
  refine Zm (n:=nk) (by rw[sizeLine_eq];omega) (fun i ys H4=>GrC b (c+4+9*i) H H4/\∃(as:List Addr) (kss:List (List Int)),ys=as.map V.ref/\as.length=i/\kss.length=i/\(∀ks∈kss,ks.length<=8)/\∀(j:Nat) (x:Addr) (ks:List Int),as[j]? =some x->kss[j]? =some ks->H4 x=some (.tup (ks.map V.int))) ⟨G3,[],[],rfl,rfl,rfl,(fun z h=>nomatch h),fun j x ks e=>by(cases e)⟩ ?_ ?_
  ·rintro i ys H4 hi hyl ⟨G4,as,kss,rfl,hal,hkl,h8,hak⟩
   refine⟨_,rfl,b,_,rfl,G4.bx,by omega,fun x ks H5 g5 _ hx dk _ kl8=>?_⟩
   refine⟨(G4.trans g5).mono (by omega),as++[x],kss++[ks],by simp,by simp [hal],by simp [hkl],(fun z hz=>(List.mem_append.mp hz).elim (h8 z) fun w=>by rw[List.mem_singleton.mp w];exact kl8),fun j y ks' h1 h2=>?_⟩
   rw[List.getElem?_append]at h1 h2
   by_cases hj:j<i
   ·rw[if_pos (by omega)]at h1 h2
    have hy:=hak j y ks' h1 h2
    obtain⟨x1,x2,x3,eb,_⟩:=G4.bx
    exact g5.kp _ _ (qO hy eb (by intro z;cases z)) hy
   ·rw[if_neg (by omega)]at h1 h2
    have hj0:j-as.length=0:=by
     cases hj0:j-as.length with
     |zero=>rfl
     |succ k=>rw[hj0]at h1;cases h1
    have hj1:j-kss.length=0:=by omega
    rw[hj0]at h1
    rw[hj1]at h2
    cases h1
    cases h2
    exact hx
  ·rintro ys H4 hyl ⟨G4,as,kss,rfl,hal,hkl,h8,hak⟩ ml hml
   have u5:=Same.upd (o:= .lst (as.map V.ref)) hml
   have G5:=G4.same u5
   refine fun m hm=>?_
   have u6:=Same.upd (o:= .dK []) hm
   have G6:=G5.same u6
   refine⟨_,rfl,b,_,rfl,G6.bx,by omega,fun mt t H7 g7 fmt hmt pt=>?_⟩
   have G7:=G6.trans g7
   obtain⟨x1,x2,x3,eb,_⟩:=id G6.bx
   have em6:_=some (HO.dK []):=qc (H:=upd H4 ml (.lst (as.map V.ref))) (a:=m) (o:= .dK [])
   have nm:m≠b:=qO em6 eb (by intro z;cases z)
   have em7:=g7.kp _ _ nm em6
   have eml6:=u6 _ _ (qc (H:=H4) (a:=ml) (o:= .lst (as.map V.ref)))
   have eml7:=g7.kp _ _ (qO eml6 eb (i7 0 rfl (by intro a z;cases z))) eml6
   refine⟨_,rfl,_,rfl,_,rfl,_,rfl,fun kd hkd=>?_⟩
   have u8:=Same.upd (o:= .dK []) hkd
   have nmk:m≠kd:=qo em7 hkd
   refine⟨u8 _ _ em7,ze ⟨t,kss,near,far,(1+r2),0,[]⟩ mt ml kd,rfl,by show 7<=15;decide,?_⟩
   rw[ph]
   have fm:H m=none:=G5.fresh (hb.mono (by omega)) hm
   have fkd:H kd=none:=G7.fresh (hb.mono (by omega)) hkd
   have fml:H ml=none:=G4.fresh (hb.mono (by omega)) hml
   have G9:GrC b (c+200) H (upd (upd H7 kd (.dK [])) m (.dK (ze ⟨t,kss,near,far,(1+r2),0,[]⟩ mt ml kd))):=by
    have G8:=G7.same u8
    refine⟨fun x o hx e=>?_,?_⟩
    ·rw[qi (qo e fm)];exact G8.kp x o hx e
    ·obtain⟨y1,y2,y3,e,e1,e2,e3,e4⟩:=G8.bx
     exact⟨y1,y2,y3,by rw[qi nm.symm];exact e,e1,e2,e3,by omega⟩
   have kp9:∀x o,x≠m->H7 x=some o->(upd (upd H7 kd (.dK [])) m (.dK (ze ⟨t,kss,near,far,(1+r2),0,[]⟩ mt ml kd))) x=some o:=fun x o hx e=>by rw[qi hx];exact u8 _ _ e
   refine q m mt ml kd ⟨t,kss,near,far,(1+r2),0,[]⟩ _ G9 fm fml fkd ⟨qc,?_,⟨as,?_,by rw[hal,hkl],fun j x ks h1 h2=>?_⟩,⟨([],fun _=>0),?_,fun e he=>by(cases he),.refl _,List.nodup_nil⟩,nmk⟩ ⟨pt,rfl,by show 1<=kss.length;omega,by show kss.length<=8;omega,n0,n1,(by show far<=2000;omega),by show 1<=(1+r2);omega,by show(1+r2)<=12;omega,rfl⟩ h8
   ·exact SqT.of (kp9 _ _ (qO hmt em7 (by intro z;cases z)) hmt)
   ·exact kp9 _ _ (qO eml7 em7 (by intro z;cases z)) eml7
   ·have hx:=u6 _ _ (u5 _ _ (hak j x ks h1 h2))
    have hx7:=g7.kp _ _ (qO hx eb (by intro z;cases z)) hx
    exact SqT.of (kp9 _ _ (qO hx7 em7 (by intro z;cases z)) hx7)
   ·rw[qi nmk.symm];exact qc
end
section
variable{P:Program}{w:World}{K:Frag}{mg:Str->Option Value}{base:Heap}{tk:Nat->Tok}
theorem gm(a:At K mg "back_table" Zr ["table"])(T:Txt K mg tk):Df P w K mg base "back_table" ["table"] 1 (lZ K):=by
 refine a.dq sc_back_table (fun vs H Q E h=>?_) (fun f cdv A outer s H vs Q E hr h=>?_)
 ·obtain⟨x,t,rfl,_⟩:=h
  rfl
 ·obtain⟨c,t,rfl,hS,pm,q⟩:=h
  refine⟨_,(qd (qz (i:=1) sc_back_table.nd rfl (Or.inl rfl) (qk nu (zk (qb qe qa)) (qX (v:= .int 16) rfl T.g_DIGITS ⟨_,rfl⟩)))
   (qd (zC PassesOwn.never rfl (pA rfl T.b_enumerate (qb (qv 0) qa)) (dn rfl (qq (ql (i:=2) sc_back_table.nd rfl (Or.inl rfl)) (qq (ql (i:=3) sc_back_table.nd rfl (Or.inl rfl)) qY)))
   (qf (zr (qv 2) (aM (qv 1) (qv 3) Q1))))
   (qf (qj (qC qP (by rfl) T.b_tuple PyProof.Rows.boot_tuple (qb (qv 1) qa)))))),?_⟩
  refine⟨by show 1<=sizeLine;decide,fun p hp=>⟨p,16,_,rfl,rfl,qc,by decide,by decide,by show 16<=sizeLine;decide,fun l hl=>?_⟩⟩
  have e0:(List.replicate (16:Int).toNat [V.int 0]).flatten=(Qd t 0).map V.int:=by rw[n5];rfl
  rw[e0]
  have s1:=(Same.upd (o:= .lst [V.int 0]) hp)
  have s2:=s1.trans (Same.upd (o:= .lst ((Qd t 0).map V.int)) hl)
  have step:∀(i:Nat) (x:V) (H2:Hp) (pp:Addr),(t.map V.int)[i]? =some x->H2 l=some (.lst ((Qd t i).map V.int))->Same H H2->H2 pp=none->
    ∃j:Nat,∃z:Int,x= .int z/\Z4 ((Qd t i).map V.int).length z=some j/\(upd H2 pp (.tup [.int i,x])) l=some (.lst ((Qd t i).map V.int))/\
     (upd (upd H2 pp (.tup [.int i,x])) l (.lst (((Qd t i).map V.int).set j (.int i)))) l=some (.lst ((Qd t (i+1)).map V.int))/\Same H (upd (upd H2 pp (.tup [.int i,x])) l (.lst (((Qd t i).map V.int).set j (.int i)))):=by
   intro i x H2 pp hx hm sm hpp
   obtain⟨z,rfl,hz⟩:=zH hx
   have hi:i<t.length:=(List.getElem?_eq_some_iff.mp hz).1
   have ez:t[i]=z:=(List.getElem?_eq_some_iff.mp hz).2
   have bd:=im pm hi
   have sp:=Same.upd (o:= .tup [.int i,.int z]) hpp
   refine⟨z.toNat,z,rfl,eM (by omega) (by rw[List.length_map,Z8];omega),sp _ _ hm,?_,fun d o e=>?_⟩
   ·rw[qc,au,<- ez,oJ pm hi]
   ·have ndl:d≠l:=fun y=>by
     rw[y]at e
     rw[s1 _ _ e]at hl
     cases hl
    rw[qi ndl]
    exact sp _ _ (sm _ _ e)
  have fin:∀(o:Option V) (o':Option V) (H2:Hp),H2 l=some (.lst ((Qd t t.length).map V.int))->Same H H2->∀p',H2 p'=none->Q (.ref p') (upd H2 p' (.tup ((Qd t t.length).map V.int))):=fun _ _ H2 hm sm p' hp'=>
   q _ _ (sm.trans (Same.upd hp')) (by rw[qc,sk pm])
  rcases hS with hS|hS
  ·refine⟨_,rfl,c,rfl,.inl ⟨⟨_,s2.seq hS⟩,?_⟩⟩
   refine cy (K:=K) (a:=c) (xs:=t.map V.int) (fun i σ H2=>∃(o2 o3:Option V),σ=[some (.ref c),some (.ref l),o2,o3]/\H2 l=some (.lst ((Qd t i).map V.int))/\Same H H2) ⟨none,none,rfl,qc,s2⟩ (fun i σ H2 _ ⟨_,_,_,_,sm⟩=>sm.seq hS) ?_ ?_
   ·rintro i x σ H2 pp hx ⟨o2,o3,rfl,hm,sm⟩ hpp
    obtain⟨j,z,rfl,hj,e1,e2,s3⟩:=step i x H2 pp hx hm sm hpp
    refine⟨pp,_,rfl,SqT.of qc,rfl,_,_,rfl,_,_,rfl,rfl,?_⟩
    exact⟨_,rfl,_,rfl,_,rfl,l,_,_,j,rfl,rfl,e1,hj,_,_,rfl,e2,s3⟩
   ·rintro σ H2 ⟨o2,o3,rfl,hm,sm⟩
    rw[List.length_map]at hm
    exact⟨_,rfl,l,_,rfl,.inl ⟨SqL.of hm,fin o2 o3 H2 hm sm⟩⟩
  ·refine⟨_,rfl,c,rfl,.inr ⟨⟨_,Same.sqt s2 hS⟩,?_⟩⟩
   refine lM (K:=K) (a:=c) (xs:=t.map V.int) (fun i σ H2=>∃(o2 o3:Option V),σ=[some (.ref c),some (.ref l),o2,o3]/\H2 l=some (.lst ((Qd t i).map V.int))/\Same H H2) ⟨none,none,rfl,qc,s2⟩ (fun i σ H2 _ ⟨_,_,_,_,sm⟩=>Same.sqt sm hS) ?_ ?_
   ·rintro i x σ H2 pp hx ⟨o2,o3,rfl,hm,sm⟩ hpp
    obtain⟨j,z,rfl,hj,e1,e2,s3⟩:=step i x H2 pp hx hm sm hpp
    refine⟨pp,_,rfl,SqT.of qc,rfl,_,_,rfl,_,_,rfl,rfl,?_⟩
    exact⟨_,rfl,_,rfl,_,rfl,l,_,_,j,rfl,rfl,e1,hj,_,_,rfl,e2,s3⟩
   ·rintro σ H2 ⟨o2,o3,rfl,hm,sm⟩
    rw[List.length_map]at hm
    exact⟨_,rfl,l,_,rfl,.inl ⟨SqL.of hm,fin o2 o3 H2 hm sm⟩⟩
theorem oq(a:At K mg "coded" eW ["table","key","digits"])(T:Txt K mg tk):Df P w K mg base "coded" ["table","key","digits"] 1 (eI K):=by
 refine a.dq sc_coded (fun vs H Q E h=>?_) (fun f cdv A outer s H vs Q E hr h=>?_)
 ·obtain⟨a,b,c,t,ks,ds,rfl,_⟩:=h
  rfl
 ·obtain⟨a,b,c,t,ks,ds,rfl,ha,hb,hc,lt,l1,l64,q⟩:=h
  refine⟨_,(qd (qz (i:=3) sc_coded.nd rfl (Or.inl rfl) (qC zw (by rfl) T.b_list PyProof.Rows.boot_list (qb (qv 2) qa)))
   (qd (zC PassesOwn.never rfl (uN (qv 1)) (ql (i:=4) sc_coded.nd rfl (Or.inl rfl))
   (qf (zC PassesOwn.never rfl (QF rfl T.b_range (qb (qp qF (by rfl) T.b_len PySem.boot_len (qb (qv 2) qa)) qa)) (ql (i:=5) sc_coded.nd rfl (Or.inl rfl))
   (qd (qz (i:=6) sc_coded.nd rfl (Or.inl rfl) (qB qD (qv 3) (qk Q8 (qv 5) qe) (fun _ _=>rfl)))
   (qf (zr (qB (IxR.or qD zo) (qv 0) (qk zt (qk qE (qk qE (qk qE (qB qD (qv 3) (qv 5) (fun _ _=>rfl)) (qv 4)) (qv 5)) (qv 6)) (qX (v:= .int 16) rfl T.g_DIGITS ⟨_,rfl⟩)) (fun _ _=>rfl)) (aM (qv 3) (qv 5) Q1)))))))
   (qf (qj (qC qP (by rfl) T.b_tuple PyProof.Rows.boot_tuple (qb (qv 3) qa)))))),?_⟩
  refine⟨_,rfl,c,_,rfl,hc,fun l hl=>?_⟩
  have s1:Same H _:=Same.upd (o:= .lst (ds.map V.int)) hl
  refine⟨_,rfl,b,rfl,sH (K:=K) (H0:=H) hb (fun j σ H2=>Same H H2/\∃o4 o5 o6,σ=[some (.ref a),some (.ref b),some (.ref c),some (.ref l),o4,o5,o6]/\H2 l=some (.lst ((zU t (ks.take j) ds).map V.int))) ⟨s1,_,_,_,rfl,qc⟩ (fun j σ' H' h=>h.1) ?_ ?_⟩
  ·rintro j x σ H2 hx ⟨s2,o4,o5,o6,rfl,hm⟩
   obtain⟨shift,rfl,hks⟩:=zH hx
   rw[eY hks,gT]
   have hrl:(zU t (ks.take j) ds).length=ds.length:=ar
   generalize zU t (ks.take j) ds=r at hm hrl
   refine⟨_,rfl,c,_,rfl,hc.same s2,_,rfl,?_,?_,?_⟩
   ·omega
   ·rw[List.length_map];omega
   rw[show((((ds.map V.int).length:Nat):Int)).toNat=ds.length by rw[List.length_map];rfl]
   refine aY (n:=ds.length) (Pv:=fun i σ H3=>Same H H3/\∃o5 o6,σ=[some (.ref a),some (.ref b),some (.ref c),some (.ref l),some (.int shift),o5,o6]/\H3 l=some (.lst ((Zb t shift r i).map V.int))) ⟨s2,_,_,rfl,hm⟩ ?_ ?_
   ·rintro i σ H3 hi ⟨s3,o5,o6,rfl,hm3⟩
    have hrl3:(Zb t shift r i).length=ds.length:=by rw[zV,hrl]
    generalize hr':Zb t shift r i=r' at hm3 hrl3
    have hi':i<r'.length:=by omega
    refine⟨_,rfl,_,rfl,_,_,rfl,rfl,l,_,_,_,rfl,rfl,SqL.of hm3,lW (i:=i) (by omega) hi',?_⟩
    refine⟨_,rfl,_,rfl,_,rfl,l,_,_,_,rfl,rfl,SqL.of hm3,Zy (i:=i) (by omega) hi',_,rfl,_,_,rfl,rfl,_,rfl,_,_,rfl,rfl,_,rfl,_,_,rfl,rfl,_,_,rfl,rfl,(by decide:(0:Int)<16),?_⟩
    have dm:=Zq (r'.getD i 0+shift+(0+(i:Int))+ah r' i)
    refine(ha.same s3).ix (Zy (i:=((r'.getD i 0+shift+(0+(i:Int))+ah r' i)%16).toNat) (by have:=dm.1;omega) (by rw[lt];have:=dm.1;have:=dm.2;omega)) ?_
    refine⟨_,rfl,_,rfl,l,_,_,i,rfl,rfl,hm3,eM (by omega) (by rw[List.length_map];exact hi'),QM s3 hl,_,_,rfl,?_⟩
    rw[qc,au,Zb,hr',eU,Int.zero_add]
   ·rintro σ H3 ⟨s3,o5,o6,rfl,hm3⟩
    exact⟨s3,_,_,_,rfl,hm3⟩
  ·rintro σ H2 ⟨s2,o4,o5,o6,rfl,hm⟩
   rw[List.length_map,List.take_length]at hm
   exact⟨_,rfl,l,_,rfl,.inl ⟨SqL.of hm,fun p hp=>q p _ (s2.trans (Same.upd hp)) (za hp s2) qc⟩⟩
theorem kP(a:At K mg "decoded" br ["table","key","digits"])(T:Txt K mg tk)(xO:Df P w K mg base "back_table" ["table"] 1 (lZ K)):Df P w K mg base "decoded" ["table","key","digits"] 2 (fV K):=by
 refine a.dq sc_decoded (fun vs H Q E h=>?_) (fun f cdv A outer s H vs Q E hr h=>?_)
 ·obtain⟨a,b,c,t,ks,ds,rfl,_⟩:=h
  rfl
 ·obtain⟨a,b,c,t,ks,ds,rfl,ha,hb,hc,pm,hdd,l1,l64,q⟩:=h
  refine⟨_,(qd (qz (i:=3) sc_decoded.nd rfl (Or.inl rfl) (qm xO hr.mo (qb (qv 0) qa)))
   (qd (qz (i:=4) sc_decoded.nd rfl (Or.inl rfl) (qC zw (by rfl) T.b_list PyProof.Rows.boot_list (qb (qv 2) qa)))
   (qd (zC PassesOwn.never rfl (mr rfl T.b_reversed (qb (qv 1) qa)) (ql (i:=5) sc_decoded.nd rfl (Or.inl rfl))
   (qf (zC PassesOwn.never rfl (mr rfl T.b_reversed (qb (qC fy (by rfl) T.b_range PyProof.Rows.boot_range (qb (qp qF (by rfl) T.b_len PySem.boot_len (qb (qv 2) qa)) qa)) qa)) (ql (i:=6) sc_decoded.nd rfl (Or.inl rfl))
   (qd (qz (i:=7) sc_decoded.nd rfl (Or.inl rfl) (qB qD (qv 4) (qk Q8 (qv 6) qe) (fun _ _=>rfl)))
   (qf (zr (qk zt (qk Q8 (qk Q8 (qk Q8 (qB zo (qv 3) (qB qD (qv 4) (qv 6) (fun _ _=>rfl)) (fun _ _=>rfl)) (qv 5)) (qv 6)) (qv 7)) (qX (v:= .int 16) rfl T.g_DIGITS ⟨_,rfl⟩)) (aM (qv 4) (qv 6) Q1)))))))
   (qf (qj (qC qP (by rfl) T.b_tuple PyProof.Rows.boot_tuple (qb (qv 4) qa))))))),?_⟩
  refine⟨_,rfl,a,t,rfl,ha,pm,fun pb H1 s1 hpb=>?_⟩
  refine⟨_,rfl,c,_,rfl,hc.same s1,fun l hl=>?_⟩
  have s2:Same H1 _:=Same.upd (o:= .lst (ds.map V.int)) hl
  refine⟨_,rfl,b,rfl,oZ (K:=K) (H0:=H1) (hb.same s1) (fun j σ H2=>Same H1 H2/\∃o4 o5 o6,σ=[some (.ref a),some (.ref b),some (.ref c),some (.ref pb),some (.ref l),o4,o5,o6]/\H2 l=some (.lst ((QD (q9 t) (ks.drop (ks.length-j)) ds).map V.int))) ⟨s2,_,_,_,rfl,by rw[Nat.sub_zero,List.drop_length];exact qc⟩ (fun j σ' H' h=>h.1) ?_ ?_⟩
  ·rintro j x σ H2 hj hx ⟨s2,o4,o5,o6,rfl,hm⟩
   obtain⟨shift,rfl,hks⟩:=zH hx
   rw[List.length_map]at hj hks
   have ed:ks.drop (ks.length-(j+1))=shift::ks.drop (ks.length-j):=by
    have:=nJ hks
    rw[show ks.length-1-j+1=ks.length-j by omega]at this
    rw[show ks.length-(j+1)=ks.length-1-j by omega]
    exact this
   rw[ed,QD]
   have hrl:(QD (q9 t) (ks.drop (ks.length-j)) ds).length=ds.length:=cr
   have hrd:q0 (QD (q9 t) (ks.drop (ks.length-j)) ds):=hU hdd
   generalize QD (q9 t) (ks.drop (ks.length-j)) ds=r at hm hrl hrd
   refine⟨_,rfl,c,_,rfl,(hc.same s1).same s2,_,rfl,fun pr hpr=>⟨pr,rfl,.inr (.inr ⟨ds.length,?_,by omega,?_⟩)⟩⟩
   ·rw[qc,List.length_map]
   have s2':=s2.trans (Same.upd (o:= .rng 0 ((ds.map V.int).length:Nat)) hpr)
   have hm':=Same.upd (o:= .rng 0 ((ds.map V.int).length:Nat)) hpr _ _ hm
   refine oY (n:=ds.length) (Pv:=fun i σ H3=>Same H1 H3/\∃o5 o6 r',σ=[some (.ref a),some (.ref b),some (.ref c),some (.ref pb),some (.ref l),some (.int shift),o5,o6]/\H3 l=some (.lst (r'.map V.int))/\r'.length=ds.length/\q0 r'/\ZC (q9 t) shift r' (ds.length-i)=ZC (q9 t) shift r ds.length) ⟨s2',_,_,r,rfl,hm',hrl,hrd,rfl⟩ ?_ ?_
   ·rintro i σ H3 hi ⟨s3,o5,o6,r',rfl,hm3,hrl3,hrd3,er⟩
    have hi':ds.length-1-i<r'.length:=by omega
    have ep:(ds.length:Int)-1-i=((ds.length-1-i:Nat):Int):=by omega
    rw[ep]
    generalize hpl:ds.length-1-i=pl at hi'
    rw[show ds.length-i=pl+1 by omega,ZC]at er
    refine⟨_,rfl,_,rfl,_,_,rfl,rfl,l,_,_,_,rfl,rfl,SqL.of hm3,lW (i:=pl) rfl hi',?_⟩
    have dr:=eF hrd3 pl
    refine⟨_,rfl,_,rfl,_,rfl,l,_,_,_,rfl,rfl,SqL.of hm3,Zy (i:=pl) rfl hi',pb,_,_,_,rfl,rfl,SqT.of (s3 _ _ hpb),Zy (i:=(r'.getD pl 0).toNat) (by have:=dr.1;omega) (by rw[ZI];have:=dr.1;have:=dr.2;omega),?_⟩
    refine⟨_,rfl,_,_,rfl,rfl,_,rfl,_,_,rfl,rfl,_,rfl,_,_,rfl,rfl,_,_,rfl,rfl,(by decide:(0:Int)<16),?_⟩
    refine⟨_,rfl,_,rfl,l,_,_,pl,rfl,rfl,hm3,j5 (by rw[List.length_map];exact hi'),QM s3 hl,_,_,cw (q9 t) shift r' pl,rfl,?_,by rw[gF];exact hrl3,gQ hrd3,?_⟩
    ·rw[qc,au,cw]
    ·rw[show ds.length-(i+1)=pl by omega];exact er
   ·rintro σ H3 ⟨s3,o5,o6,r',rfl,hm3,hrl3,hrd3,er⟩
    rw[Nat.sub_self,ZC]at er
    rw[er]at hm3
    exact⟨s3,_,_,_,rfl,hm3⟩
  ·rintro σ H2 ⟨s2,o4,o5,o6,rfl,hm⟩
   rw[List.length_map,Nat.sub_self,List.drop_zero]at hm
   exact⟨_,rfl,l,_,rfl,.inl ⟨SqL.of hm,fun p hp=>q p _ ((s1.trans s2).trans (Same.upd hp)) (za hp (s1.trans s2)) qc⟩⟩
theorem cx(a:At K mg "letter_digits" QP ["name"])(T:Txt K mg tk):Df P w K mg base "letter_digits" ["name"] 1 f8:=by
 refine a.dq sc_letter_digits (fun vs H Q E h=>?_) (fun f cdv A outer s H vs Q E hr h=>?_)
 ·obtain⟨z,rfl,_⟩:=h
  rfl
 ·obtain⟨z,rfl,hz,q⟩:=h
  refine⟨_,(qd (qz (i:=1) sc_letter_digits.nd rfl (Or.inl rfl) (zk qa))
   (qd (zC PassesOwn.never rfl (mD (qv 0)) (ql (i:=2) sc_letter_digits.nd rfl (Or.inl rfl))
   (qd (qz (i:=3) sc_letter_digits.nd rfl (Or.inl rfl) (qk Q8 (qp iV (by rfl) T.b_ord PyProof.Rows.boot_ord (qb (qv 2) qa)) (qp iV (by rfl) T.b_ord PyProof.Rows.boot_ord (qb qh qa))))
   (qd (qV (Qq PySem.F.plainAttrs_list PySem.F.slot_list_append PySem.F.type_list_append zm (qv 1) (qb (qk zt (qv 3) (qX (v:= .int 16) rfl T.g_DIGITS ⟨_,rfl⟩)) qa)))
   (qf (qV (Qq PySem.F.plainAttrs_list PySem.F.slot_list_append PySem.F.type_list_append zm (qv 1) (qb (qk Zp (qv 3) (qX (v:= .int 16) rfl T.g_DIGITS ⟨_,rfl⟩)) qa)))))))
   (qf (qj (qv 1))))),?_⟩
  refine⟨by show 0<=sizeLine;decide,fun l hl=>?_⟩
  refine⟨_,rfl,z,rfl,gG hz,si (fun i σ H2=>Same H H2/\∃o2 o3,σ=[some (.str z),some (.ref l),o2,o3]/\H2 l=some (.lst ((Qp (z.cps.toList.take i)).map V.int))) ⟨Same.upd hl,_,_,rfl,qc⟩ ?_ ?_⟩
  ·rintro i c σ H2 hc ⟨s2,o2,o3,rfl,hm⟩
   have hc':=jy hc
   rw[sM hc',nc]
   have hln:(Qp (z.cps.toList.take i)).length<=16:=by rw[fH,List.length_take];have:=hz.2.2;omega
   generalize Qp (z.cps.toList.take i)=ds at hm hln
   have eX:((((⟨#[c]⟩:Str).cps.getD 0 0:Nat):Int)-((("a":Str).cps.getD 0 0:Nat):Int))=(c:Int)-97:=rfl
   have big:(100:Nat)<sizeLine:=by decide
   refine⟨_,rfl,_,rfl,rfl,_,rfl,rfl,_,_,rfl,rfl,?_⟩
   show cz _ _ _ [some (V.str z),some (V.ref l),some (V.str ⟨#[c]⟩),some (V.int ((c:Int)-97))] H2
   refine⟨_,rfl,.inl ⟨rfl,_,SqL.of hm⟩,_,rfl,_,_,rfl,rfl,(by decide:(0:Int)<16),l,_,_,rfl,rfl,hm,by rw[List.length_map];omega,?_⟩
   have w1:Same H (upd H2 l (.lst (ds.map V.int++[V.int (((c:Int)-97)%16)]))):=QM s2 hl
   refine⟨_,rfl,.inl ⟨rfl,_,SqL.of qc⟩,_,rfl,_,_,rfl,rfl,⟨by decide,by decide⟩,l,_,_,rfl,rfl,qc,by rw[List.length_append,List.length_map,List.length_singleton];omega,QM w1 hl,_,_,rfl,?_⟩
   rw[qc,List.map_append,List.append_assoc]
   rfl
  ·rintro σ H2 ⟨s2,o2,o3,rfl,hm⟩
   rw[show z.cps.size=z.cps.toList.length from rfl,List.take_length]at hm
   exact⟨_,rfl,q l H2 s2 hl hm⟩
theorem mB(a:At K mg "key_of" cn ["table","key","name"])(T:Txt K mg tk)(xE:Df P w K mg base "letter_digits" ["name"] 1 f8)(xM:Df P w K mg base "coded" ["table","key","digits"] 1 (eI K)):Df P w K mg base "key_of" ["table","key","name"] 2 (eu K):=by
 refine a.dq sc_key_of (fun vs H Q E h=>?_) (fun f cdv A outer s H vs Q E hr h=>?_)
 ·obtain⟨a,b,z,t,ks,rfl,_⟩:=h
  rfl
 ·obtain⟨a,b,z,t,ks,rfl,ha,hb,hz,lt,q⟩:=h
  refine⟨_,(qd (qz (i:=3) sc_key_of.nd rfl (Or.inl rfl) (qk nu (zk (qb qe qa)) (qX (v:= .int 4) rfl T.g_KEY_PLACES ⟨_,rfl⟩)))
   (qd (zC PassesOwn.never rfl (jr rfl T.b_enumerate (qb (qm xE hr.mo (qb (qv 2) qa)) qa)) (dn rfl (qq (ql (i:=4) sc_key_of.nd rfl (Or.inl rfl)) (qq (ql (i:=5) sc_key_of.nd rfl (Or.inl rfl)) qY)))
   (qf (sE (qv 3) (qk zt (qv 4) (qX (v:= .int 4) rfl T.g_KEY_PLACES ⟨_,rfl⟩)) nP (qv 5) vy Q1)))
   (qf (qj (qm xM hr.mo (qb (qv 0) (qb (qv 1) (qb (zD (own:=["total"]) (fr:=[]) (js:=[]) rfl (zZ (qv 3)) rfl (fun _ _ h=>nomatch h) rfl (cB rfl (by decide +kernel) (by decide +kernel) (by decide +kernel)) (fun _ _ _ _=>ql (i:=0) (show List.Nodup (["total"]:List Str)from by decide +kernel) rfl (Or.inl rfl) (.inr rfl)) (fun _ _ _ _=>(qk zt (qv 0) (qX (v:= .int 16) rfl T.g_DIGITS ⟨_,rfl⟩)))) qa)))))))),?_⟩
  refine⟨by show 1<=sizeLine;decide,fun p0 hp0=>⟨p0,4,_,rfl,rfl,qc,by decide,by decide,by show 4<=sizeLine;decide,fun l hl=>?_⟩⟩
  have s1:=(Same.upd (o:= .lst [V.int 0]) hp0)
  have s2:=s1.trans (Same.upd (o:= .lst (List.replicate (4:Int).toNat [V.int 0]).flatten) hl)
  have hlH:H l=none:=za hl s1
  refine⟨_,rfl,z,rfl,hz,fun ld H1 s3 hldn hld=>?_⟩
  have hm1:=s3 _ _ (qc (H:=upd H p0 (.lst [V.int 0])) (a:=l) (o:= .lst (List.replicate (4:Int).toNat [V.int 0]).flatten))
  have ndl:ld≠l:=fun y=>by rw[y,qc]at hldn;cases hldn
  generalize hds:Qp z.cps.toList=ds at hld q
  have hdl:ds.length<=16:=by rw[<- hds,fH];have:=hz.2.2;omega
  refine⟨ld,rfl,⟨_,SqL.of hld⟩,cy (K:=K) (a:=ld) (xs:=ds.map V.int) (fun i σ H2=>∃(o4 o5:Option V),σ=[some (.ref a),some (.ref b),some (.str z),some (.ref l),o4,o5]/\H2 l=some (.lst ((Q5 ds i).map V.int))/\H2 ld=some (.lst (ds.map V.int))/\Same H H2)
   ⟨none,none,rfl,hm1,hld,s2.trans s3⟩ (fun i σ H2 _ ⟨_,_,_,_,hd,_⟩=>SqL.of hd) ?_ ?_⟩
  ·rintro i x σ H2 pp hx ⟨o4,o5,rfl,hm,hd2,sm⟩ hpp
   obtain⟨dg,rfl,hz'⟩:=zH hx
   have hi:i<ds.length:=(List.getElem?_eq_some_iff.mp hz').1
   have eg:ds.getD i 0=dg:=by rw[List.getD_eq_getElem?_getD,hz'];rfl
   have sp2:=Same.upd (o:= .tup [.int i,.int dg]) hpp
   have hm':=sp2 _ _ hm
   have h4:i%4<(Q5 ds i).length:=Nat.mod_lt i (by decide)
   have e4:(i:Int)%4=((i%4:Nat):Int):=by omega
   refine⟨pp,_,rfl,SqT.of qc,rfl,_,_,rfl,_,_,rfl,rfl,?_⟩
   refine⟨_,rfl,_,rfl,_,_,rfl,rfl,(by decide:(0:Int)<4),l,_,i%4,.int ((Q5 ds i).getD (i%4) 0),rfl,(by show V.int ((i:Int)%4)=_;rw[e4]),hm',?_,_,rfl,_,_,rfl,rfl,l,_,_,i%4,rfl,rfl,hm',eM e4 (by rw[List.length_map];exact h4),_,_,rfl,?_,?_,?_⟩
   ·rw[ef h4,List.getD_eq_getElem?_getD,List.getElem?_eq_getElem h4];rfl
   ·rw[qc,au,<- eg,nA]
   ·rw[qi ndl];exact sp2 _ _ hd2
   ·exact QM (sm.trans sp2) hlH
  ·rintro σ H2 ⟨o4,o5,rfl,hm,hd2,sm⟩
   rw[List.length_map]at hm
   refine⟨_,rfl,_,rfl,_,rfl,l,rfl,⟨_,SqL.of hm⟩,Q9 (xs:=(Q5 ds ds.length).map V.int) (by show 4<=sizeLine;decide) (fun i ys H3=>ys=((ZR ds).take i).map V.int/\H3=H2) ⟨by simp,rfl⟩ (fun i ys H3 ⟨_,e⟩=>by rw[e];exact SqL.of hm) ?_ ?_⟩
   ·rintro i ys H3 x hx _ ⟨rfl,rfl⟩
    obtain⟨y,rfl,hy⟩:=zH hx
    refine⟨_,rfl,_,_,rfl,rfl,(by decide:(0:Int)<16),?_,rfl⟩
    have:(ZR ds)[i]? =some (y%16):=by unfold ZR;rw[List.getElem?_map,hy];rfl
    rw[List.take_add_one,this];simp
   ·rintro ys H3 hyl ⟨rfl,rfl⟩ p hp
    rw[show(ZR ds).take ((Q5 ds ds.length).map V.int).length=ZR ds from rfl]
    have su:=Same.upd (o:= .lst ((ZR ds).map V.int)) hp
    exact⟨a,b,p,t,ks,ZR ds,rfl,(ha.same sm).same su,(hb.same sm).same su,.lst qc,lt,by rw[gB];decide,by rw[gB];decide,fun p' H' s' hn' hp'=>q p' H' ((sm.trans su).trans s') (za hn' (sm.trans su)) hp'⟩
theorem ee(a:At K mg "count_digits" Q3 ["count"])(T:Txt K mg tk):Df P w K mg base "count_digits" ["count"] 1 vC:=by
 refine a.dq cS (fun vs H Q E h=>?_) (fun f cdv A outer s H vs Q E hr h=>?_)
 ·obtain⟨c,rfl,_⟩:=h
  rfl
 ·obtain⟨c,rfl,q⟩:=h
  refine⟨_,(qf (qj (qA (qb (qk zt (qv 0) (qX (v:= .int 16) rfl T.g_DIGITS ⟨_,rfl⟩)) (qb (qk zt (qk Zp (qv 0) (qX (v:= .int 16) rfl T.g_DIGITS ⟨_,rfl⟩)) (qX (v:= .int 16) rfl T.g_DIGITS ⟨_,rfl⟩)) (qb (qk Zp (qv 0) qe) qa)))))),?_⟩
  exact⟨_,rfl,_,_,rfl,rfl,(by decide:(0:Int)<16),_,rfl,_,_,rfl,rfl,⟨by decide,by decide⟩,_,_,rfl,rfl,(by decide:(0:Int)<16),_,rfl,_,_,rfl,rfl,⟨by decide,by decide⟩,by show 3<=sizeLine;decide,fun p hp=>q p _ (Same.upd hp) qc⟩
theorem sL{c d:Int}(h0:0<=c)(h1:c<4096)(hd:aR d):∀z∈Zo c d,0<=z/\z<=1000000:=fun z hz=>by
 have:=cj h0 h1 hd z (List.mem_append_left _ hz)
 exact⟨this.1,Int.le_trans (Int.le_of_lt this.2) (by decide)⟩
theorem jh(a:At K mg "press_of" az ["table","key","name","age","count","deed"])(T:Txt K mg tk)(xH:Df P w K mg base "count_digits" ["count"] 1 vC)(xI:Df P w K mg base "key_of" ["table","key","name"] 2 (eu K))(xM:Df P w K mg base "coded" ["table","key","digits"] 1 (eI K)):Df P w K mg base "press_of" ["table","key","name","age","count","deed"] 3 (jV K):=by
 refine a.dq sc_press_of (fun vs H Q E h=>?_) (fun f cdv A outer s H vs Q E hr h=>?_)
 ·obtain⟨a,b,z,age,c,d,t,ks,rfl,_⟩:=h
  rfl
 ·obtain⟨a,b,z,age,c,d,t,ks,rfl,ha,hb,hz,lt,c0,c1,hd,q⟩:=h
  refine⟨_,(qd (qz (i:=6) sc_press_of.nd rfl (Or.inl rfl) (qk Z6 (qm xH hr.mo (qb (qv 4) qa)) (qA (qb (qv 5) qa))))
   (qd (qz (i:=7) sc_press_of.nd rfl (Or.inl rfl) (qk Z6 (qv 6) (qA (qb (qk zt (qp (lX rfl) (by rfl) T.b_sum PyProof.Rows.boot_sum (qb (qv 6) qa)) (qX (v:= .int 16) rfl T.g_DIGITS ⟨_,rfl⟩)) qa))))
   (qf (qj (qA (qb (qv 2) (qb (qv 3) (qb (qm xM hr.mo (qb (qv 0) (qb (qm xI hr.mo (qb (qv 0) (qb (qv 1) (qb (qv 2) qa)))) (qb (qv 7) qa)))) qa)))))))),?_⟩
  refine⟨_,rfl,c,rfl,fun p1 H1 s1 hp1=>?_⟩
  refine⟨_,rfl,by show 1<=sizeLine;decide,fun p2 hp2=>?_⟩
  have u2:=Same.upd (o:= .tup [V.int d]) hp2
  refine⟨p1,p2,_,_,rfl,rfl,u2 _ _ hp1,qc,by show 4<=sizeLine;decide,fun p3 H3 s3 hp3=>?_⟩
  have hp3':H3 p3=some (.tup ((Zo c d).map V.int)):=hp3
  have S3:=(s1.trans u2).trans s3
  refine⟨_,rfl,_,rfl,p3,Zo c d,rfl,.tup hp3',by show 4<=1000;decide,sL c0 c1 hd,_,_,rfl,rfl,(by decide:(0:Int)<16),by show 1<=sizeLine;decide,fun p4 hp4=>?_⟩
  have u4:=Same.upd (o:= .tup [V.int ((Zo c d).sum%16)]) hp4
  refine⟨p3,p4,_,_,rfl,rfl,u4 _ _ hp3',qc,by show 5<=sizeLine;decide,fun p5 H5 s5 hp5=>?_⟩
  have hp5':H5 p5=some (.tup ((Zl c d).map V.int)):=hp5
  have S5:=(S3.trans u4).trans s5
  refine⟨_,rfl,_,rfl,_,rfl,_,rfl,_,rfl,_,rfl,a,b,z,t,ks,rfl,ha.same S5,hb.same S5,hz,lt,fun pk H6 s6 _ hpk=>?_⟩
  refine⟨_,rfl,a,pk,p5,t,eV t ks z,Zl c d,rfl,(ha.same S5).same s6,.tup hpk,.tup (s6 _ _ hp5'),lt,by rw[ac];decide,by rw[ac];decide,fun pc H7 s7 _ hpc=>?_⟩
  refine⟨by show 3<=sizeLine;decide,fun p hp=>?_⟩
  have u8:=Same.upd (o:= .tup [V.str z,.int age,.ref pc]) hp
  exact q p pc _ (((S5.trans s6).trans s7).trans u8) qc (u8 _ _ hpc)
theorem gi(a:At K mg "read_press" Zx ["table","key","press"])(T:Txt K mg tk)(xI:Df P w K mg base "key_of" ["table","key","name"] 2 (eu K))(yA:Df P w K mg base "decoded" ["table","key","digits"] 2 (fV K)):Df P w K mg base "read_press" ["table","key","press"] 3 (iR K):=by
 refine a.dq sc_read_press (fun vs H Q E h=>?_) (fun f cdv A outer s H vs Q E hr h=>?_)
 ·obtain⟨a,b,pr,pc,z,age,t,ks,ds,rfl,_⟩:=h
  rfl
 ·obtain⟨a,b,pr,pc,z,age,t,ks,ds,rfl,ha,hb,hpr,hpc,hz,pm,l5,hdd,q⟩:=h
  refine⟨_,(qd (zr (qv 2) (zI rfl (qq (ql (i:=3) sc_read_press.nd rfl (Or.inl rfl)) (qq (ql (i:=4) sc_read_press.nd rfl (Or.inl rfl)) (qq (ql (i:=5) sc_read_press.nd rfl (Or.inl rfl)) qY)))))
   (qd (zr (qm yA hr.mo (qb (qv 0) (qb (qm xI hr.mo (qb (qv 0) (qb (qv 1) (qb (qv 3) qa)))) (qb (qv 5) qa)))) (dn rfl (qq (ql (i:=6) sc_read_press.nd rfl (Or.inl rfl)) (qq (ql (i:=7) sc_read_press.nd rfl (Or.inl rfl)) (qq (ql (i:=8) sc_read_press.nd rfl (Or.inl rfl)) (qq (ql (i:=9) sc_read_press.nd rfl (Or.inl rfl)) (qq (ql (i:=10) sc_read_press.nd rfl (Or.inl rfl)) qY)))))))
   (qd (qI (qu bM (qv 10) (qk zt (qk qE (qk qE (qk qE (qv 6) (qv 7)) (qv 8)) (qv 9)) (qX (v:= .int 16) rfl T.g_DIGITS ⟨_,rfl⟩)) (qr _)) (qf (qj zd)) qx)
   (qf (qj (qA (qb (qk qE (qk qE (qv 6) (qk zX (qv 7) (qX (v:= .int 16) rfl T.g_DIGITS ⟨_,rfl⟩))) (qk zX (qv 8) qe)) (qb (qv 9) qa)))))))),?_⟩
  refine⟨_,rfl,pr,_,rfl,hpr,rfl,_,_,rfl,_,_,rfl,_,_,rfl,rfl,?_⟩
  refine⟨_,rfl,_,rfl,_,rfl,_,rfl,a,b,z,t,ks,rfl,ha,hb,hz,bJ pm,fun pk H1 s1 _ hpk=>?_⟩
  refine⟨_,rfl,a,pk,pc,t,eV t ks z,ds,rfl,ha.same s1,.tup hpk,hpc.same s1,pm,hdd,by omega,by omega,fun pd H2 s2 _ hpd=>?_⟩
  have q':∀x H',Same H2 H'->bf H' x (gu (QD (q9 t) (eV t ks z) ds))->Q x H':=fun x H' s' ht=>q x H' ((s1.trans s2).trans s') ht
  have hl:(QD (q9 t) (eV t ks z) ds).length=5:=by rw[cr,l5]
  obtain⟨lo,mi,hi,de,ck,er⟩:=sy hl
  rw[er]at hpd q'
  refine⟨pd,_,rfl,SqT.of hpd,rfl,_,_,rfl,_,_,rfl,_,_,rfl,_,_,rfl,_,_,rfl,rfl,?_⟩
  refine⟨_,rfl,_,rfl,_,rfl,_,_,rfl,rfl,_,rfl,_,_,rfl,rfl,_,rfl,_,_,rfl,rfl,_,_,rfl,rfl,(by decide:(0:Int)<16),rfl,_,rfl,?_⟩
  have q2:∀x H',Same H2 H'->bf H' x (if ck=(lo+mi+hi+de)%16 then some (lo+mi*16+hi*256,de)else none)->Q x H':=q'
  by_cases e:ck=(lo+mi+hi+de)%16
  ·rw[if_pos e]at q2
   refine cK (c:=V.int ck=V.int ((lo+mi+hi+de)%16)) (by rw[e]) ?_
   refine⟨_,rfl,_,rfl,_,_,rfl,rfl,.inr ⟨by decide,by decide⟩,_,_,rfl,rfl,_,rfl,_,_,rfl,rfl,.inr ⟨by decide,by decide⟩,_,_,rfl,rfl,_,rfl,by show 2<=sizeLine;decide,fun p hp=>?_⟩
   exact q2 _ _ (Same.upd hp) ⟨p,rfl,qc⟩
  ·rw[if_neg e]at q2
   refine qL (fun _=>q2 _ _ (Same.refl _) rfl) (fun y=>absurd ?_ y)
   have:¬V.int ck=V.int ((lo+mi+hi+de)%16):=fun w'=>e (by injection w')
   show(!decide (V.int ck=V.int ((lo+mi+hi+de)%16)))=true
   rw[decide_eq_false this];rfl
end
section
variable{P:Program}{w:World}{K:Frag}{mg:Str->Option Value}{base:Heap}{tk:Nat->Tok}{C:Addr}
theorem iQ(a:At K mg "_law_press" ZY ["_law_m","_law_name","_law_age_here","_law_count_here","_law_deed"])(T:Txt K mg tk)(xX:Df P w K mg base "press_of" ["table","key","name","age","count","deed"] 3 (jV K)):Df P w K mg base "_law_press" ["_law_m","_law_name","_law_age_here","_law_count_here","_law_deed"] 4 (cu K):=by
 refine a.dq iF (fun vs H Q E h=>?_) (fun f cdv A outer s H vs Q E hr h=>?_)
 ·obtain⟨_,_,_,_,_,_,_,_,_,rfl,_⟩:=h
  rfl
 ·obtain⟨m,mt,mk,kd,D,nm,age,c,d,rfl,l,tl,hn,a0,a1,c0,c1,hd,q⟩:=h
  refine⟨_,(qf (qj (qm xX hr.mo (qb (qy hr (qv 0) qh) (qb (qB qD (qy hr (qv 0) qh) (qv 2) (fun _ _=>rfl)) (qb (qv 1) (qb (qv 2) (qb (qv 3) (qb (qv 4) qa))))))))),?_⟩
  obtain⟨xs,ak,eh,hat,hak⟩:=l.ks.at a0 a1
  exact⟨_,rfl,m,_,rfl,l.g_table,_,rfl,m,_,rfl,l.g_keys,_,rfl,mk,_,_,_,rfl,rfl,SqL.of eh,hat,_,rfl,_,rfl,_,rfl,_,rfl,mt,ak,nm,age,c,d,D.t,Ql D age,rfl,.inr l.tb,.inr hak,hn,tl,c0,c1,hd,fun p pc H' s' h1 h2=>q p H' s' ⟨pc,h1,h2⟩⟩
theorem gf(a:At K mg "_law_learns" ZF ["_law_door_here","_law_m","_law_name","_law_age_here","_law_count_here"])(T:Txt K mg tk)(U:DCx K C)(xQ:Mf P w K mg base C "learn" ["self","one","other"] 7 (fg K C))(dE:Df P w K mg base "_law_press" ["_law_m","_law_name","_law_age_here","_law_count_here","_law_deed"] 4 (cu K)):Df P w K mg base "_law_learns" ["_law_door_here","_law_m","_law_name","_law_age_here","_law_count_here"] 8 (am K C):=by
 refine a.dq gp (fun vs H Q E h=>?_) (fun f cdv A outer s H vs Q E hr h=>?_)
 ·obtain⟨_,_,_,_,_,_,rfl,_⟩:=h
  rfl
 ·obtain⟨x,D,L,nm,age,c,rfl,b,ln,d20,l0,hn,a0,a1,c0,c1,hno,hmo,q⟩:=h
  refine⟨_,(qd (qV (zq xQ U.cl hr.mo (qv 0) (qb (qm dE hr.mo (qb (qv 1) (qb (qv 2) (qb (qv 3) (qb (qv 4) (qb qe qa)))))) (qb (qm dE hr.mo (qb (qv 1) (qb (qv 2) (qb (qv 3) (qb (qk qE (qv 4) qe) (qb qe qa)))))) qa))))
   (qf (zR hr (qy hr (qv 1) qh) (qv 2) (qA (qb (qv 3) (qb (qk qE (qv 4) qe) (qb zd qa))))))),?_⟩
  have tl:=bJ d20.ok.tp
  have d2:=d20.m2
  refine⟨_,rfl,x.a.p,rfl,b.dl.dr.no,_,rfl,_,rfl,_,rfl,_,rfl,x.m,x.mt,x.ml,x.kd,D,nm,age,c,0,rfl,b.lm,tl,hn,a0,a1,c0,by omega,⟨by decide,by decide⟩,fun p1 H1 s1 hp1=>?_⟩
  have b1:=b.same s1
  refine⟨_,rfl,_,rfl,_,rfl,_,rfl,_,_,rfl,rfl,x.m,x.mt,x.ml,x.kd,D,nm,age,c+1,5,rfl,b1.lm,tl,hn,a0,a1,by omega,by omega,⟨by decide,by decide⟩,fun p2 H2 s2 hp2=>?_⟩
  have b2:=b1.same s2
  have ht:zP D age=true:=by unfold zP;rw[l0,decide_eq_true a0,decide_eq_true a1];rfl
  refine⟨x.a,D,L,p1,p2,⟨nm,age,_⟩,⟨nm,age,_⟩,c,0,5,rfl,b2.dl,ln,d20.ok,PrAt.same s2 hp1,hp2,⟨hn,aN ..,cI d20.ok.tp c0 (by omega) ⟨by decide,by decide⟩⟩,⟨hn,aN ..,cI d20.ok.tp (by omega) (by omega) ⟨by decide,by decide⟩⟩,(if_pos ht).trans (bg d20.ok.tp c0 (by omega) ⟨by decide,by decide⟩),(if_pos ht).trans (bg d20.ok.tp (by omega) (by omega) ⟨by decide,by decide⟩),rfl,rfl,hno,hmo,fun H3 m3 d3=>?_⟩
  have m3':Mv (dS x.a) H2 H3:=m3.mono (fun c h z=>h (by simp only[List.mem_cons,List.not_mem_nil,or_false]at z;rcases z with rfl|rfl;exact bH _;exact ZL _))
  have b3:=b2.door m3' d3
  refine⟨_,rfl,_,rfl,_,_,rfl,rfl,by show 3<=sizeLine;decide,fun t4 ht4=>?_⟩
  have u4:=Same.upd (o:= .tup [.int age,.int (c+1),.non]) ht4
  have b4:=b3.same u4
  obtain⟨H5,dp,m5,kb5⟩:=b4.lm.kb.put nm (a:=t4) (e:=⟨age,c+1,none⟩) (by show D.kn.length<=100;omega) ⟨.non,qc,rfl⟩
  refine⟨_,rfl,x.m,_,rfl,b4.lm.g_known,_,rfl,x.kd,H5,rfl,dp,?_⟩
  have lm5:=b4.lm.putK m5 kb5
  have m5':Mv [x.m,x.ml,x.kd] _ H5:=m5.mono (fun c h z=>h (by rw[List.mem_singleton.mp z];simp))
  exact q _ H5 (((s1.trans s2).mv.trans (jI m3')).trans (u4.mv.trans (jM m5'))) (b4.law m5' lm5)
end
section
variable{P:Program}{w:World}{K:Frag}{mg:Str->Option Value}{base:Heap}{tk:Nat->Tok}{C:Addr}
theorem k6(a:At K mg "_law_due" aQ ["_law_m","_law_name","_law_age_here","_law_count_here","_law_deed"])(T:Txt K mg tk):Df P w K mg base "_law_due" ["_law_m","_law_name","_law_age_here","_law_count_here","_law_deed"] 1 (rb K):=by
 refine a.dq sc_law_due (fun vs H Q E h=>?_) (fun f cdv A outer s H vs Q E hr h=>?_)
 ·obtain⟨_,_,_,_,_,_,_,_,_,rfl,_⟩:=h
  rfl
 ·obtain⟨m,mt,mk,kd,D,nm,age,c,d,rfl,l,ok,q⟩:=h
  refine⟨_,(qd (qI (bz hr (qv 1) (qy hr (qv 0) qh)) (qf (qj (qA (qb qh (qb qh qa))))) qx)
   (qd (zr (qy hr (qy hr (qv 0) qh) (qv 1)) (zI rfl (qq (ql (i:=5) sc_law_due.nd rfl (Or.inl rfl)) (qq (ql (i:=6) sc_law_due.nd rfl (Or.inl rfl)) (qq (ql (i:=7) sc_law_due.nd rfl (Or.inl rfl)) qY)))))
   (qd (qI (QW.pt (zE (zB (ig Qo ZJ (qy hr (qv 0) qh) (qv 2) (qp qF (by rfl) T.b_len PySem.boot_len (qb (qy hr (qv 0) qh) qa)))) (zJ (qu ZJ (qv 2) (qv 5) (qr _))))) (qf (qj (qA (qb qh (qb qh qa))))) qx)
   (qd (qI (qu Qo (qv 3) (qv 6) (qr _)) (qf (qj (qA (qb qh (qb qh qa))))) qx)
   (qd (qI (QW.pt (zE (qu Qo (qv 3) (qk qE (qv 6) (qy hr (qv 0) qh)) (qr _)) (zJ (QW.pt (Qn (qu Qo (qv 3) (qk qE (qv 6) (qy hr (qv 0) qh)) (qr _)) (QK (qu (nF hr) (qv 7) (qA (qb (qv 2) (qb (qk Q8 (qv 3) qe) qa))) (qr _)))))))) (qd (zR hr (qy hr (qv 0) qh) (qv 1) (qA (qb (qv 2) (qb (qv 3) (qb zd qa)))))
   (qf (qj (qA (qb qh (qb (qv 1) (qb (qv 4) qa))))))) qx)
   (qd (qI (qu Qo (qv 3) (qk qE (qv 6) (qy hr (qv 0) qh)) (qr _)) (qd (zR hr (qy hr (qv 0) qh) (qv 1) (qA (qb (qv 5) (qb (qv 6) (qb (qA (qb (qv 2) (qb (qv 3) qa))) qa)))))
   (qf (qj (qA (qb qh (qb qh qa)))))) qx)
   (qf (qj (qA (qb qh (qb qh qa))))))))))),?_⟩
  rcases l.kb.get nm with⟨e1,g⟩|⟨e,x,e1,g,v,hx,hw⟩
  ·have eJ:qN D nm age (some (c,d))=([.str "held",.str "unknown"],D.kn):=by unfold qN;rw[e1]
   rw[eJ]at q
   refine⟨_,rfl,_,rfl,m,_,rfl,l.g_known,kd,_,rfl,g,_,rfl,?_⟩
   refine zc ?_
   refine⟨by show 2<=sizeLine;decide,fun q1 hq1=>?_⟩
   exact q q1 _ (Same.upd hq1).mv qc (l.same (Same.upd hq1))
  ·refine⟨_,rfl,_,rfl,m,_,rfl,l.g_known,kd,_,rfl,g,_,rfl,?_⟩
   refine qS ?_
   refine⟨_,rfl,m,_,rfl,l.g_known,_,rfl,kd,_,rfl,g,x,_,rfl,.tup hx,rfl,_,_,rfl,_,_,rfl,_,_,rfl,rfl,?_⟩
   obtain⟨as,eh,la,_⟩:=id l.ks
   have held:∀(w:Str) (kn:Kw),qN D nm age (some (c,d))=([.str "held",.str w],kn)->kn=D.kn->(∀q1 H',H'=upd H q1 (.tup [.str "held",.str w])->H q1=none->Q (.ref q1) H'):=fun w kn eJ ek q1 H' eH hq1=>by
    rw[eJ]at q
    subst eH ek
    exact q q1 _ (Same.upd hq1).mv qc (l.same (Same.upd hq1))
   refine⟨_,rfl,m,_,rfl,l.g_closed,_,rfl,_,_,rfl,rfl,_,rfl,?_⟩
   have tk0:∀b,zv D e age=b->(b=false->qN D nm age (some (c,d))=([.str "held",.str "age"],D.kn)):=fun b eb hb=>by unfold qN;rw[e1];simp only;rw[eb,hb];rfl
   by_cases h1:D.least<=age
   ·refine Ze (decide_eq_true h1) ?_
    refine⟨_,rfl,m,_,rfl,l.g_keys,mk,_,rfl,.inl (SqL.of eh),_,_,rfl,rfl,_,rfl,?_⟩
    rw[List.length_map,la]
    by_cases h2:age<D.kss.length
    ·rw[decide_eq_true h2]
     refine qS ?_
     refine⟨_,rfl,_,rfl,_,_,rfl,rfl,_,rfl,?_⟩
     by_cases h3:age<e.age
     ·refine Ze (decide_eq_true h3) ?_
      refine⟨by show 2<=sizeLine;decide,fun q1 hq1=>held _ _ (tk0 _ rfl (by unfold zv;rw[decide_eq_false (by omega:¬e.age<=age),Bool.and_false])) rfl q1 _ rfl hq1⟩
     ·refine Zf (decide_eq_false h3) ?_
      have ht:zv D e age=true:=by unfold zv zP;rw[decide_eq_true h1,decide_eq_true h2,decide_eq_true (by omega:e.age<=age)];rfl
      have hJ:qN D nm age (some (c,d))=if(qZ D.near D.far e age c).1="near" then([.str "open",.str nm,.int d],qU D.kn nm (qZ D.near D.far e age c).2)else([.str "held",.str (qZ D.near D.far e age c).1],qU D.kn nm (qZ D.near D.far e age c).2):=by unfold qN;rw[e1];simp only;rw[if_pos ht]
      have pself:=mU ok.nd e1
      have nold:¬(("old":Str)="near"):=by decide +kernel
      have nfar:¬(("far":Str)="near"):=by decide +kernel
      have nbey:¬(("beyond":Str)="near"):=by decide +kernel
      unfold qZ at hJ
      refine⟨_,rfl,_,rfl,_,_,rfl,rfl,_,rfl,?_⟩
      by_cases g1:c<=e.last
      ·rw[if_pos g1,if_neg (show¬(("old",e):Str×Kb).1="near" from nold),pself]at hJ
       refine Ze (decide_eq_true g1) ?_
       exact⟨by show 2<=sizeLine;decide,fun q1 hq1=>held _ _ hJ rfl q1 _ rfl hq1⟩
      ·rw[if_neg g1]at hJ
       refine Zf (decide_eq_false g1) ?_
       refine⟨_,rfl,_,rfl,_,rfl,m,_,rfl,l.g_near,_,_,rfl,rfl,_,_,rfl,rfl,_,rfl,?_⟩
       by_cases g2:c<=e.last+D.near
       ·rw[if_pos g2,if_pos rfl]at hJ
        refine Ze (decide_eq_true g2) ?_
        refine zc ?_
        refine⟨_,rfl,_,rfl,by show 3<=sizeLine;decide,fun t ht=>?_⟩
        have u1:=Same.upd (o:= .tup [.int age,.int c,.non]) ht
        have l1:=(l).same u1
        obtain⟨H2,dp,m2,kb2⟩:=l1.kb.put nm (a:=t) (e:=⟨age,c,none⟩) (by have:=ok.nl;omega) ⟨.non,qc,rfl⟩
        refine⟨_,rfl,m,_,rfl,l1.g_known,_,rfl,kd,H2,rfl,dp,?_⟩
        have l2:=l1.putK m2 kb2
        refine⟨_,rfl,_,rfl,by show 3<=sizeLine;decide,fun q1 hq1=>?_⟩
        rw[hJ]at q
        exact q q1 _ (((u1).mv.trans m2).trans (Same.upd hq1).mv) qc (l2.same (Same.upd hq1))
       ·rw[if_neg g2]at hJ
        refine Zf (decide_eq_false g2) ?_
        refine⟨_,rfl,_,rfl,_,rfl,m,_,rfl,l.g_far,_,_,rfl,rfl,_,_,rfl,rfl,_,rfl,?_⟩
        by_cases g3:c<=e.last+D.far
        ·rw[if_pos g3]at hJ
         refine Ze (decide_eq_true g3) ?_
         refine⟨_,rfl,_,rfl,_,rfl,_,_,rfl,rfl,by show 2<=sizeLine;decide,fun t0 ht0=>?_⟩
         have u0:=Same.upd (o:= .tup [.int age,.int (c-1)]) ht0
         have hw0:=hw.mv (S:=[]) u0.mv (fun c h=>nomatch h)
         refine⟨e.wt,t0,age,c-1,hw0,rfl,.inl qc,_,rfl,?_⟩
         by_cases g4:e.wt=some (age,c-1)
         ·rw[if_pos g4,if_pos rfl]at hJ
          rw[decide_eq_true g4]
          refine zc ?_
          refine⟨_,rfl,_,rfl,by show 3<=sizeLine;decide,fun t ht=>?_⟩
          have u1:=Same.upd (o:= .tup [.int age,.int c,.non]) ht
          have l1:=(l.same u0).same u1
          obtain⟨H2,dp,m2,kb2⟩:=l1.kb.put nm (a:=t) (e:=⟨age,c,none⟩) (by have:=ok.nl;omega) ⟨.non,qc,rfl⟩
          refine⟨_,rfl,m,_,rfl,l1.g_known,_,rfl,kd,H2,rfl,dp,?_⟩
          have l2:=l1.putK m2 kb2
          refine⟨_,rfl,_,rfl,by show 3<=sizeLine;decide,fun q1 hq1=>?_⟩
          rw[hJ]at q
          exact q q1 _ ((((u0.trans u1)).mv.trans m2).trans (Same.upd hq1).mv) qc (l2.same (Same.upd hq1))
         ·rw[if_neg g4,if_neg (show¬(("far",(⟨e.age,e.last,some (age,c)⟩:Kb)):Str×Kb).1="near" from nfar)]at hJ
          rw[decide_eq_false g4]
          refine qS ?_
          have l0:=l.same u0
          refine⟨_,rfl,_,rfl,_,rfl,m,_,rfl,l0.g_far,_,_,rfl,rfl,_,_,rfl,rfl,_,rfl,?_⟩
          refine Ze (decide_eq_true g3) ?_
          refine⟨_,rfl,_,rfl,_,rfl,_,rfl,by show 2<=sizeLine;decide,fun t1 ht1=>⟨by show 3<=sizeLine;decide,fun t ht=>?_⟩⟩
          have u1:=Same.upd (o:= .tup [.int age,.int c]) ht1
          have u2:=Same.upd (o:= .tup [.int e.age,.int e.last,.ref t1]) ht
          have l1:=(l0.same u1).same u2
          obtain⟨H2,dp,m2,kb2⟩:=l1.kb.put nm (a:=t) (e:=⟨e.age,e.last,some (age,c)⟩) (by have:=ok.nl;omega) ⟨.ref t1,qc,t1,rfl,u2 _ _ qc⟩
          refine⟨_,rfl,m,_,rfl,l1.g_known,_,rfl,kd,H2,rfl,dp,?_⟩
          have l2:=l1.putK m2 kb2
          refine⟨by show 2<=sizeLine;decide,fun q1 hq1=>?_⟩
          rw[hJ]at q
          exact q q1 _ ((((u0.trans u1).trans u2).mv.trans m2).trans (Same.upd hq1).mv) qc (l2.same (Same.upd hq1))
        ·rw[if_neg g3,if_neg (show¬(("beyond",e):Str×Kb).1="near" from nbey),pself]at hJ
         refine Zf (decide_eq_false g3) ?_
         refine qS ?_
         refine⟨_,rfl,_,rfl,_,rfl,m,_,rfl,l.g_far,_,_,rfl,rfl,_,_,rfl,rfl,_,rfl,?_⟩
         refine Zf (decide_eq_false g3) ?_
         exact⟨by show 2<=sizeLine;decide,fun q1 hq1=>held _ _ hJ rfl q1 _ rfl hq1⟩
    ·rw[decide_eq_false h2]
     refine zc ?_
     exact⟨by show 2<=sizeLine;decide,fun q1 hq1=>held _ _ (tk0 _ rfl (by unfold zv zP;rw[decide_eq_false h2,Bool.and_false,Bool.false_and])) rfl q1 _ rfl hq1⟩
   ·refine Zf (decide_eq_false h1) ?_
    refine⟨_,rfl,zc ?_⟩
    exact⟨by show 2<=sizeLine;decide,fun q1 hq1=>held _ _ (tk0 _ rfl (by unfold zv zP;rw[decide_eq_false h1,Bool.false_and,Bool.false_and])) rfl q1 _ rfl hq1⟩
theorem iY(a:At K mg "_law_count" ZU ["_law_box_here","_law_m","_law_name"])(T:Txt K mg tk)(dA:Df P w K mg base "_law_take" ["_law_box_here","_law_many"] 1 zL):Df P w K mg base "_law_count" ["_law_box_here","_law_m","_law_name"] 2 (gK K):=by
 refine a.dq sc_law_count (fun vs H Q E h=>?_) (fun f cdv A outer s H vs Q E hr h=>?_)
 ·obtain⟨_,_,_,_,_,_,_,_,rfl,_⟩:=h
  rfl
 ·obtain⟨b,m,mt,mk,kd,D,nm,n,rfl,hb,hn,l,q⟩:=h
  refine⟨_,(qd (zr (iK hr (qy hr (qv 1) qh) (qv 2) (qA (qb qe (qb qe (qb zd qa))))) (zI rfl (qq (ql (i:=3) sc_law_count.nd rfl (Or.inl rfl)) (qq (ql (i:=4) sc_law_count.nd rfl (Or.inl rfl)) (qq (ql (i:=5) sc_law_count.nd rfl (Or.inl rfl)) qY)))))
   (qd (qz (i:=6) sc_law_count.nd rfl (Or.inl rfl) (zk (qb (qv 4) (qb (qk qE (qv 4) qe) (qb (qk qE (qv 4) (qy hr (qv 1) qh)) (qb (qk qE (qk qE (qv 4) (qy hr (qv 1) qh)) qe) (qb (qk qE (qv 4) (qy hr (qv 1) qh)) (qb (qk qE (qk qE (qv 4) (qy hr (qv 1) qh)) qe) (qb qe (qb qe qa))))))))))
   (qd (qI (qu tj (qv 5) zd (qr _)) (qf (qz (i:=6) sc_law_count.nd rfl (Or.inl rfl) (qk tI (qv 6) (zk (qb (qk qE (qB zo (qv 5) qe (fun _ _=>rfl)) qe) (qb (qk qE (qB zo (qv 5) qe (fun _ _=>rfl)) qe) (qb (qk qE (qB zo (qv 5) qe (fun _ _=>rfl)) qe) (qb (qB zo (qv 5) qe (fun _ _=>rfl)) (qb (qk qE (qB zo (qv 5) qe (fun _ _=>rfl)) qe) qa))))))))) qx)
   (qd (qz (i:=7) sc_law_count.nd rfl (Or.inl rfl) (qk qE (qB qD (qv 6) (qm dA hr.mo (qb (qv 0) (qb (qp qF (by rfl) T.b_len PySem.boot_len (qb (qv 6) qa)) qa))) (fun _ _=>rfl)) (qB qD (zk (qb qe (qb qe (qb qe (qb qe (qb (vM ua qe) qa)))))) (qm dA hr.mo (qb (qv 0) (qb qe qa))) (fun _ _=>rfl))))
   (qf (qj (qp (ZN rfl) (by rfl) T.b_max PyProof.Rows.boot_max (qb qe (qb (qp (fM rfl) (by rfl) T.b_min PyProof.Rows.boot_min (qb qe (qb (qv 7) qa))) qa))))))))),?_⟩
  obtain⟨fk,ek,_⟩:=id l.kb
  refine⟨_,rfl,m,_,rfl,l.g_known,kd,rfl,.inl ⟨_,.inl ek⟩,_,rfl,by show 3<=sizeLine;decide,fun t ht=>?_⟩
  have u1:=Same.upd (o:= .tup [.int 0,.int 7,.non]) ht
  have l1:=l.same u1
  have b1:=(u1.grc hb).bx
  obtain⟨o,x,e,g,hx,v,hxv,hw⟩:∃(o:Option V) (x:Addr) (e:Kb),DGet (upd H t (.tup [.int 0,.int 7,.non])) kd (.str nm) o/\o.getD (.ref t)= .ref x/\BuAt (upd H t (.tup [.int 0,.int 7,.non])) x e:=by
   rcases l1.kb.get nm with⟨_,g⟩|⟨e,x,_,g,hx⟩
   ·exact⟨_,t,⟨0,7,none⟩,g,rfl,.non,qc,rfl⟩
   ·exact⟨_,x,e,g,rfl,hx⟩
  refine⟨o,g,?_⟩
  rw[hx]
  refine⟨x,_,rfl,.tup hxv,rfl,_,_,rfl,_,_,rfl,_,_,rfl,rfl,?_⟩
  refine⟨_,rfl,_,rfl,_,_,rfl,rfl,_,rfl,_,rfl,m,_,rfl,l1.g_near,_,_,rfl,rfl,_,rfl,_,rfl,m,_,rfl,l1.g_near,_,_,rfl,rfl,_,_,rfl,rfl,_,rfl,_,rfl,m,_,rfl,l1.g_far,_,_,rfl,rfl,_,rfl,_,rfl,m,_,rfl,l1.g_far,_,_,rfl,rfl,_,_,rfl,rfl,by show 8<=sizeLine;decide,fun l2 hl2=>?_⟩
  have u2:=Same.upd (o:= .lst ([e.last,e.last+1,e.last+D.near,e.last+D.near+1,e.last+D.far,e.last+D.far+1,4095,0].map V.int)) hl2
  have G2:GrC b n H _:=(u1.trans u2).grc hb
  have nb2:l2≠b:=zh b1 hl2
  refine⟨_,rfl,rfl,_,rfl,?_⟩
  cases ew:e.wt with
  |none=>
   rw[ew]at hw
   have hv:v= .non:=hw
   subst hv
   refine qL (fun y=>absurd y (by decide)) (fun _=>?_)
   obtain⟨L,eL⟩:∃L,L=l2:=⟨l2,rfl⟩
   obtain⟨zs,hzs⟩:∃zs:List Int,zs=[e.last,e.last+1,e.last+D.near,e.last+D.near+1,e.last+D.far,e.last+D.far+1,4095,0]:=⟨_,rfl⟩
   have hL:(upd (upd H t (.tup [.int 0,.int 7,.non])) l2 (.lst ([e.last,e.last+1,e.last+D.near,e.last+D.near+1,e.last+D.far,e.last+D.far+1,4095,0].map V.int))) L=some (.lst (zs.map V.int)):=by rw[eL,hzs];exact qc
   have nLb:L≠b:=by rw[eL];exact nb2
   rw[<- eL]
   rw[<- eL]at G2 hL
   have hL':1<=zs.length/\zs.length<=20:=by rw[hzs];exact⟨by show 1<=8;decide,by show 8<=20;decide⟩
   clear hzs
   refine⟨_,rfl,_,rfl,_,rfl,L,_,rfl,.inl (SqL.of hL),b,_,_,rfl,(G2).bx,by omega,by rw[List.length_map];omega,by rw[List.length_map];omega,fun r1 H5 r10 r11 g5=>?_⟩
   rw[List.length_map]at r11
   obtain⟨z1,hz1,_⟩:=QJ (xs:=zs) r10 r11
   have hL5:H5 L=some (.lst (zs.map V.int)):=g5.kp _ _ (nLb) hL
   refine⟨L,_,_,.int z1,rfl,rfl,SqL.of hL5,jG hz1,_,rfl,by show 5<=sizeLine;decide,fun l5 hl5=>?_⟩
   have u6:=Same.upd (o:= .lst [.int 0,.int 0,.int 0,.int 1,.int (-1)]) hl5
   refine⟨_,rfl,b,_,_,rfl,(u6.grc g5.bx).bx,by omega,by decide,by decide,fun r2 H6 r20 r21 g6=>?_⟩
   obtain⟨v2,hv2,hm2⟩:=QJ (xs:=[V.int 0,.int 0,.int 0,.int 1,.int (-1)]) r20 r21
   obtain⟨z2,rfl⟩:∃z:Int,v2= .int z:=by
    simp only[List.mem_cons,List.not_mem_nil,or_false]at hm2
    rcases hm2 with rfl|rfl|rfl|rfl|rfl<;>exact⟨_,rfl⟩
   refine⟨l5,_,_,_,rfl,rfl,SqL.of (g6.kp _ _ (zh g5.bx hl5) qc),hv2,_,_,rfl,rfl,?_⟩
   refine⟨_,rfl,_,_,rfl,_,_,rfl,?_⟩
   refine q _ _ (((((G2).trans g5).same u6).trans g6).mono (by omega)) ?_ ?_
   ·split<;>split<;>omega
   ·split<;>split<;>omega
  |some xc=>
   obtain⟨x1,c1⟩:=xc
   rw[ew]at hw
   obtain⟨wp,rfl,hwp⟩:=hw
   refine qL (fun _=>?_) (fun y=>absurd (by rfl) y)
   have hw2:=u2 _ _ hwp
   refine⟨_,rfl,_,rfl,wp,_,_,_,rfl,rfl,SqT.of hw2,rfl,_,_,rfl,rfl,_,rfl,wp,_,_,_,rfl,rfl,SqT.of hw2,rfl,_,_,rfl,rfl,_,rfl,wp,_,_,_,rfl,rfl,SqT.of hw2,rfl,_,_,rfl,rfl,_,rfl,wp,_,_,_,rfl,rfl,SqT.of hw2,rfl,_,rfl,wp,_,_,_,rfl,rfl,SqT.of hw2,rfl,_,_,rfl,rfl,by show 5<=sizeLine;decide,fun l3 hl3=>?_⟩
   have u3:=Same.upd (o:= .lst ([c1+1,c1+1,c1+1,c1,c1+2].map V.int)) hl3
   refine⟨l2,l3,_,_,rfl,rfl,u3 _ _ qc,qc,by show 13<=sizeLine;decide,fun l4 hl4=>?_⟩
   have u4:=Same.upd (o:= .lst ([e.last,e.last+1,e.last+D.near,e.last+D.near+1,e.last+D.far,e.last+D.far+1,4095,0,c1+1,c1+1,c1+1,c1,c1+2].map V.int)) hl4
   have G4:=(G2.same u3).same u4
   have nb4:l4≠b:=zh (G2.same u3).bx hl4
   obtain⟨zs,hzs⟩:∃zs:List Int,zs=[e.last,e.last+1,e.last+D.near,e.last+D.near+1,e.last+D.far,e.last+D.far+1,4095,0,c1+1,c1+1,c1+1,c1,c1+2]:=⟨_,rfl⟩
   obtain⟨L,eL⟩:∃L,L=l4:=⟨l4,rfl⟩
   have hL:(upd (upd (upd (upd H t (.tup [.int 0,.int 7,.non])) l2 (.lst ([e.last,e.last+1,e.last+D.near,e.last+D.near+1,e.last+D.far,e.last+D.far+1,4095,0].map V.int))) l3 (.lst ([c1+1,c1+1,c1+1,c1,c1+2].map V.int))) l4 (.lst ([e.last,e.last+1,e.last+D.near,e.last+D.near+1,e.last+D.far,e.last+D.far+1,4095,0,c1+1,c1+1,c1+1,c1,c1+2].map V.int))) L=some (.lst (zs.map V.int)):=by rw[eL,hzs];exact qc
   have nLb:L≠b:=by rw[eL];exact nb4
   rw[<- eL]
   rw[<- eL]at G4 hL
   have hL':1<=zs.length/\zs.length<=20:=by rw[hzs];exact⟨by show 1<=13;decide,by show 13<=20;decide⟩
   clear hzs
   refine⟨_,rfl,_,rfl,_,rfl,L,_,rfl,.inl (SqL.of hL),b,_,_,rfl,(G4).bx,by omega,by rw[List.length_map];omega,by rw[List.length_map];omega,fun r1 H5 r10 r11 g5=>?_⟩
   rw[List.length_map]at r11
   obtain⟨z1,hz1,_⟩:=QJ (xs:=zs) r10 r11
   have hL5:H5 L=some (.lst (zs.map V.int)):=g5.kp _ _ (nLb) hL
   refine⟨L,_,_,.int z1,rfl,rfl,SqL.of hL5,jG hz1,_,rfl,by show 5<=sizeLine;decide,fun l5 hl5=>?_⟩
   have u6:=Same.upd (o:= .lst [.int 0,.int 0,.int 0,.int 1,.int (-1)]) hl5
   refine⟨_,rfl,b,_,_,rfl,(u6.grc g5.bx).bx,by omega,by decide,by decide,fun r2 H6 r20 r21 g6=>?_⟩
   obtain⟨v2,hv2,hm2⟩:=QJ (xs:=[V.int 0,.int 0,.int 0,.int 1,.int (-1)]) r20 r21
   obtain⟨z2,rfl⟩:∃z:Int,v2= .int z:=by
    simp only[List.mem_cons,List.not_mem_nil,or_false]at hm2
    rcases hm2 with rfl|rfl|rfl|rfl|rfl<;>exact⟨_,rfl⟩
   refine⟨l5,_,_,_,rfl,rfl,SqL.of (g6.kp _ _ (zh g5.bx hl5) qc),hv2,_,_,rfl,rfl,?_⟩
   refine⟨_,rfl,_,_,rfl,_,_,rfl,?_⟩
   refine q _ _ (((((G4).trans g5).same u6).trans g6).mono (by omega)) ?_ ?_
   ·split<;>split<;>omega
   ·split<;>split<;>omega
theorem ca(a:At K mg "_law_same" ay ["_law_found","_law_due_here"])(T:Txt K mg tk):∀n:Nat,n<=8->Df P w K mg base "_law_same" ["_law_found","_law_due_here"] (n+1) (tM n)
 |0,_=>by
  refine a.dq cf (fun vs H Q E h=>?_) (fun f cdv A outer s H vs Q E hr h=>?_)
  ·obtain⟨x,y,rfl,_⟩:=h
   rfl
  ·obtain⟨x,y,rfl,e,q⟩:=h
   refine⟨_,(qd (qI (zn (qp zb (by rfl) T.b_isinstance PyProof.Rows.boot_isinstance (qb (qv 1) (qb (zp (v:= .ty "tuple") rfl T.b_tuple PyProof.Rows.boot_tuple rfl) qa)))) zS qx)
   (qd (qI (QW.pt (zE (qu QR (qv 1) zd (qr _)) (zJ (zn (qp zb (by rfl) T.b_isinstance PyProof.Rows.boot_isinstance (qb (qv 1) (qb (zp (v:= .ty "str") rfl T.b_str PyProof.Rows.boot_str rfl) qa))))))) (qf (qj (zx zy (qv 0) (qv 1) (qr _)))) qx)
   (qf (qj (Qm (qp zb (by rfl) T.b_isinstance PyProof.Rows.boot_isinstance (qb (qv 0) (qb (zp (v:= .ty "int") rfl T.b_int PyProof.Rows.boot_int rfl) qa))) (Qm (g9 (qp zb (by rfl) T.b_isinstance PyProof.Rows.boot_isinstance (qb (qv 0) (qb (zp (v:= .ty "bool") rfl T.b_bool PyProof.Rows.boot_bool rfl) qa)))) (Zs (zx zy (qv 0) (qv 1) (qr _))))))))),?_⟩
   cases e with
   |int _ i=>
    refine⟨_,rfl,_,"tuple","int",rfl,.int i,by simp,_,rfl,?_⟩
    rw[show zj "int" "tuple"=false from by decide]
    refine qS ⟨_,rfl,rfl,_,rfl,?_⟩
    refine qL (fun z=>nomatch (of_decide_eq_true z)) (fun _=>⟨_,rfl,_,"str","int",rfl,.int i,by simp,_,rfl,?_⟩)
    rw[show zj "int" "str"=false from by decide]
    refine qS ⟨_,rfl,_,"int","int",rfl,.int i,by simp,_,rfl,?_⟩
    rw[show zj "int" "int"=true from by decide]
    refine zc ⟨_,rfl,_,"bool","int",rfl,.int i,by simp,_,rfl,?_⟩
    rw[show zj "int" "bool"=false from by decide]
    refine⟨_,rfl,zc ⟨_,rfl,_,rfl,rfl,?_⟩⟩
    rw[decide_eq_true rfl]
    exact q _ (Same.refl _)
   |str _ z=>
    refine⟨_,rfl,_,"tuple","str",rfl,.str z,by simp,_,rfl,?_⟩
    rw[show zj "str" "tuple"=false from by decide]
    refine qS ⟨_,rfl,rfl,_,rfl,?_⟩
    refine qL (fun z=>nomatch (of_decide_eq_true z)) (fun _=>⟨_,rfl,_,"str","str",rfl,.str z,by simp,_,rfl,?_⟩)
    rw[show zj "str" "str"=true from by decide]
    refine zc ⟨_,rfl,_,rfl,rfl,?_⟩
    rw[decide_eq_true rfl]
    exact q _ (Same.refl _)
   |non _=>
    refine⟨_,rfl,_,"tuple","NoneType",rfl,.non,by simp,_,rfl,?_⟩
    rw[show zj "NoneType" "tuple"=false from by decide]
    refine qS ⟨_,rfl,rfl,_,rfl,?_⟩
    refine qL (fun _=>zc ⟨_,rfl,_,rfl,rfl,?_⟩) (fun z=>absurd (decide_eq_true rfl) z)
    rw[decide_eq_true rfl]
    exact q _ (Same.refl _)
 |n+1,hn=>by
  have xF:=ca a T n (by omega)
  refine a.dq cf (fun vs H Q E h=>?_) (fun f cdv A outer s H vs Q E hr h=>?_)
  ·obtain⟨x,y,rfl,_⟩:=h
   rfl
  ·obtain⟨x,y,rfl,e,q⟩:=h
   refine⟨_,(qd (qI (zn (qp zb (by rfl) T.b_isinstance PyProof.Rows.boot_isinstance (qb (qv 1) (qb (zp (v:= .ty "tuple") rfl T.b_tuple PyProof.Rows.boot_tuple rfl) qa)))) (qd (qI (QW.pt (zE (zB (zn (qp zb (by rfl) T.b_isinstance PyProof.Rows.boot_isinstance (qb (qv 0) (qb (zp (v:= .ty "tuple") rfl T.b_tuple PyProof.Rows.boot_tuple rfl) qa))))) (zJ (qu bM (qp qF (by rfl) T.b_len PySem.boot_len (qb (qv 0) qa)) (qp qF (by rfl) T.b_len PySem.boot_len (qb (qv 1) qa)) (qr _))))) (qf (qj Qs)) qx)
   (qf (qj (qp (bB rfl) (by rfl) T.b_all PyProof.Rows.boot_all (qb (zD (own:=["_law_one","_law_other"]) (fr:=[]) (js:=[]) rfl (vm rfl T.b_zip (qb (qv 0) (qb (qv 1) qa))) rfl (fun _ _ h=>nomatch h) rfl (cB rfl (by decide +kernel) (by decide +kernel) (by decide +kernel)) (fun _ _ _ _=>tE (K:=K) rfl 2 rfl (qq (ql (i:=0) (show List.Nodup (["_law_one","_law_other"]:List Str)from by decide +kernel) rfl (Or.inl rfl) (.inr rfl)) (qq (ql (i:=1) (show List.Nodup (["_law_one","_law_other"]:List Str)from by decide +kernel) rfl (Or.inl rfl) (.inr rfl)) qY))) (fun _ _ _ _=>(qm xF hr.mo (qb (qv 0) (qb (qv 1) qa))))) qa))))) qx)
   (qd (qI (QW.pt (zE (qu QR (qv 1) zd (qr _)) (zJ (zn (qp zb (by rfl) T.b_isinstance PyProof.Rows.boot_isinstance (qb (qv 1) (qb (zp (v:= .ty "str") rfl T.b_str PyProof.Rows.boot_str rfl) qa))))))) (qf (qj (zx zy (qv 0) (qv 1) (qr _)))) qx)
   (qf (qj (Qm (qp zb (by rfl) T.b_isinstance PyProof.Rows.boot_isinstance (qb (qv 0) (qb (zp (v:= .ty "int") rfl T.b_int PyProof.Rows.boot_int rfl) qa))) (Qm (g9 (qp zb (by rfl) T.b_isinstance PyProof.Rows.boot_isinstance (qb (qv 0) (qb (zp (v:= .ty "bool") rfl T.b_bool PyProof.Rows.boot_bool rfl) qa)))) (Zs (zx zy (qv 0) (qv 1) (qr _))))))))),?_⟩
   cases e with
   |int _ i=>
    refine⟨_,rfl,_,"tuple","int",rfl,.int i,by simp,_,rfl,?_⟩
    rw[show zj "int" "tuple"=false from by decide]
    refine qS ⟨_,rfl,rfl,_,rfl,?_⟩
    refine qL (fun z=>nomatch (of_decide_eq_true z)) (fun _=>⟨_,rfl,_,"str","int",rfl,.int i,by simp,_,rfl,?_⟩)
    rw[show zj "int" "str"=false from by decide]
    refine qS ⟨_,rfl,_,"int","int",rfl,.int i,by simp,_,rfl,?_⟩
    rw[show zj "int" "int"=true from by decide]
    refine zc ⟨_,rfl,_,"bool","int",rfl,.int i,by simp,_,rfl,?_⟩
    rw[show zj "int" "bool"=false from by decide]
    refine⟨_,rfl,zc ⟨_,rfl,_,rfl,rfl,?_⟩⟩
    rw[decide_eq_true rfl]
    exact q _ (Same.refl _)
   |str _ z=>
    refine⟨_,rfl,_,"tuple","str",rfl,.str z,by simp,_,rfl,?_⟩
    rw[show zj "str" "tuple"=false from by decide]
    refine qS ⟨_,rfl,rfl,_,rfl,?_⟩
    refine qL (fun z=>nomatch (of_decide_eq_true z)) (fun _=>⟨_,rfl,_,"str","str",rfl,.str z,by simp,_,rfl,?_⟩)
    rw[show zj "str" "str"=true from by decide]
    refine zc ⟨_,rfl,_,rfl,rfl,?_⟩
    rw[decide_eq_true rfl]
    exact q _ (Same.refl _)
   |non _=>
    refine⟨_,rfl,_,"tuple","NoneType",rfl,.non,by simp,_,rfl,?_⟩
    rw[show zj "NoneType" "tuple"=false from by decide]
    refine qS ⟨_,rfl,rfl,_,rfl,?_⟩
    refine qL (fun _=>zc ⟨_,rfl,_,rfl,rfl,?_⟩) (fun z=>absurd (decide_eq_true rfl) z)
    rw[decide_eq_true rfl]
    exact q _ (Same.refl _)
   | @tup _ c d xs ys h1 h2 hl hz hi=>
    refine⟨_,rfl,_,"tuple","tuple",rfl,.tup h2,by simp,_,rfl,?_⟩
    rw[show zj "tuple" "tuple"=true from by decide]
    refine zc ⟨_,rfl,_,"tuple","tuple",rfl,.tup h1,by simp,_,rfl,?_⟩
    rw[show zj "tuple" "tuple"=true from by decide]
    refine qS ?_
    refine⟨_,rfl,c,_,rfl,.inr (.inl h1),_,rfl,d,_,rfl,.inr (.inl h2),rfl,_,rfl,?_⟩
    refine cK (by rw[hl]) ?_
    refine⟨_,rfl,_,rfl,c,d,xs,ys,rfl,h1,h2,oV hl hz (fun i zs H2=>zs=(List.replicate i true).map V.bl/\Same H H2) ⟨rfl,Same.refl _⟩ (fun i zs H2 ⟨_,s2⟩=>⟨Rd.same s2 h1,Rd.same s2 h2⟩) ?_ ?_⟩
    ·rintro i zs H2 pp x y hx hy hzl ⟨rfl,s2⟩ hpp
     have s3:=s2.trans (Same.upd (o:= .tup [x,y]) hpp)
     refine⟨_,rfl,_,rfl,x,y,rfl,(hi i x y hx hy).same s3,fun H4 s4=>⟨?_,s3.trans s4⟩⟩
     rw[List.replicate_succ',List.map_append];rfl
    ·rintro zs H2 hzl ⟨rfl,s2⟩ p2 hp2
     refine⟨p2,_,rfl,SqL.of qc,?_⟩
     rw[show(List.replicate xs.length true).all id=true from by simp]
     exact q _ (s2.trans (Same.upd hp2))
end
section
variable{P:Program}{w:World}{K:Frag}{mg:Str->Option Value}{base:Heap}{tk:Nat->Tok}{C:Addr}
theorem lq(a:At K mg "_law_age" aS ["_law_box_here","_law_m","_law_name"])(T:Txt K mg tk)(dA:Df P w K mg base "_law_take" ["_law_box_here","_law_many"] 1 zL):Df P w K mg base "_law_age" ["_law_box_here","_law_m","_law_name"] 2 (mw K):=by
 refine a.dq sc_law_age (fun vs H Q E h=>?_) (fun f cdv A outer s H vs Q E hr h=>?_)
 ·obtain⟨_,_,_,_,_,_,_,_,rfl,_⟩:=h
  rfl
 ·obtain⟨b,m,mt,mk,kd,D,nm,n,rfl,hb,hn,l,hkb,k1,k8,q⟩:=h
  refine⟨_,(qd (qz (i:=3) sc_law_age.nd rfl (Or.inl rfl) (qB zo (iK hr (qy hr (qv 1) qh) (qv 2) (qA (qb qe (qb qe (qb zd qa))))) qe (fun _ _=>rfl)))
   (qf (qj (qB qD (zk (qb (qv 3) (qb (qv 3) (qb (qv 3) (qb (qm dA hr.mo (qb (qv 0) (qb (qp qF (by rfl) T.b_len PySem.boot_len (qb (qy hr (qv 1) qh) qa)) qa))) qa))))) (qm dA hr.mo (qb (qv 0) (qb qe qa))) (fun _ _=>rfl))))),?_⟩
  obtain⟨fk,ek,_⟩:=id l.kb
  refine⟨_,rfl,m,_,rfl,l.g_known,kd,rfl,.inl ⟨_,.inl ek⟩,_,rfl,by show 3<=sizeLine;decide,fun t ht=>?_⟩
  have u1:=Same.upd (o:= .tup [.int 0,.int 7,.non]) ht
  have l1:=l.same u1
  have b1:=(u1.grc hb).bx
  obtain⟨o,x,e,g,hx,a0,a1,v,hxv,hw⟩:∃(o:Option V) (x:Addr) (e:Kb),DGet (upd H t (.tup [.int 0,.int 7,.non])) kd (.str nm) o/\o.getD (.ref t)= .ref x/\0<=e.age/\e.age<D.kss.length/\BuAt (upd H t (.tup [.int 0,.int 7,.non])) x e:=by
   rcases l1.kb.get nm with⟨_,g⟩|⟨e,x,he,g,hx⟩
   ·exact⟨_,t,⟨0,7,none⟩,g,rfl,Int.le_refl _,by show(0:Int)<_;omega,.non,qc,rfl⟩
   ·have:=hkb _ (Qa he)
    exact⟨_,x,e,g,rfl,this.a0,this.a1,hx⟩
  refine⟨o,g,?_⟩
  rw[hx]
  refine⟨x,_,_,_,rfl,rfl,SqT.of hxv,rfl,?_⟩
  obtain⟨as,eh,la,_⟩:=id l1.ks
  have lks:(as.map V.ref).length=D.kss.length:=by rw[List.length_map];exact la
  refine⟨_,rfl,_,rfl,_,rfl,_,rfl,_,rfl,m,_,rfl,l1.g_keys,mk,_,rfl,.inl (SqL.of eh),b,_,_,rfl,b1,by omega,by rw[lks];omega,by rw[lks];omega,fun r1 H2 r10 r11 g2=>⟨by show 4<=sizeLine;decide,fun l2 hl2=>?_⟩⟩
  rw[lks]at r11
  have u3:=Same.upd (o:= .lst [.int e.age,.int e.age,.int e.age,.int r1]) hl2
  refine⟨_,rfl,b,_,_,rfl,(u3.grc g2.bx).bx,by omega,by decide,by decide,fun r2 H4 r20 r21 g4=>?_⟩
  obtain⟨v2,hv2,hm2⟩:=QJ (xs:=[V.int e.age,.int e.age,.int e.age,.int r1]) r20 r21
  obtain⟨age,rfl,p0,p1⟩:∃z:Int,v2= .int z/\0<=z/\z<D.kss.length:=by
   simp only[List.mem_cons,List.not_mem_nil,or_false]at hm2
   rcases hm2 with rfl|rfl|rfl|rfl
   ·exact⟨_,rfl,a0,a1⟩
   ·exact⟨_,rfl,a0,a1⟩
   ·exact⟨_,rfl,a0,a1⟩
   ·exact⟨_,rfl,r10,r11⟩
  exact⟨l2,_,_,_,rfl,rfl,SqL.of (g4.kp _ _ (zh g2.bx hl2) qc),hv2,q age _ (((((u1.grc hb).trans g2).same u3).trans g4).mono (by omega)) p0 p1⟩
theorem hX(a:At K mg "_law_shown" ZZ ["_law_door_here","_law_m"])(T:Txt K mg tk)(U:DCx K C)(dD:Mf P w K mg base C "known_now" ["self"] 1 (cv K C)):Df P w K mg base "_law_shown" ["_law_door_here","_law_m"] 2 (jC K C):=by
 refine a.dq hV (fun vs H Q E h=>?_) (fun f cdv A outer s H vs Q E hr h=>?_)
 ·obtain⟨_,_,_,rfl,_⟩:=h
  rfl
 ·obtain⟨a,n,D,rfl,b,q⟩:=h
  refine⟨_,(qf (qj (zx (ut hr) (zG dD U.cl hr.mo (qv 0)) (qC qP (by rfl) T.b_tuple PyProof.Rows.boot_tuple (qb (zD (own:=["_law_name"]) (fr:=["_law_m"]) (js:=[1]) rfl (zZ (qp (ba rfl) (by rfl) T.b_sorted PyProof.Rows.boot_sorted (qb (qy hr (qv 1) qh) qa))) rfl (j6 rfl) rfl (kM rfl (by decide +kernel) (by decide +kernel) (by decide +kernel) rfl rfl rfl) (fun _ _ _ _=>ql (i:=0) (show List.Nodup (["_law_name","_law_m"]:List Str)from by decide +kernel) rfl (Or.inl rfl) (.inr rfl)) (fun _ _ _ _=>(qk Z6 (qA (qb (qv 0) qa)) (qy hr (qy hr (qv 1) qh) (qv 0))))) qa)) (qr _)))),?_⟩
  refine⟨_,rfl,a.p,rfl,b.dr.no,a.p,a.ta,a.hk,a.bd,a.lg,n,D,rfl,b.dr,b.ok,fun q1 ss1 H1 s1 pm1 so1 sh1=>?_⟩
  have b1:=b.same s1
  obtain⟨fn,hd,hbu,hpm,_⟩:=id b1.lm.kb
  refine⟨_,rfl,a.m,_,rfl,b1.lm.g_known,a.kd,_,fn.1.map (·.1),rfl,hd,jQ _ _,by rw[List.length_map,hpm.length_eq];have:=b.ok.nl;omega,fun l ss hl pm0 so=>⟨l,rfl,⟨_,SqL.of qc⟩,?_⟩⟩
  have pm:=pm0.trans (hpm.map (·.1))
  obtain rfl:=bY pm1 so1 pm so
  have u1:=Same.upd (o:= .lst (ss1.map V.str)) hl
  have ls:ss1.length<=60:=by rw[pm.length_eq,List.length_map];exact b.ok.nl
  refine Q9 (K:=K) (xs:=ss1.map V.str) (by rw[List.length_map,sizeLine_eq];omega) (fun i ys H3=>Same (upd H1 l (.lst (ss1.map V.str))) H3/\∃as:List Addr,ys=as.map V.ref/\as.length=i/\∀(j:Nat) (x:Addr) (nm:Str) (e:Kb),as[j]? =some x->ss1[j]? =some nm->D.kn.lookup nm=some e->∃v,H3 x=some (.tup [.str nm,.int e.age,.int e.last,v])/\Wt H3 v e.wt) ⟨Same.refl _,[],rfl,rfl,fun j x nm e h=>by(cases h)⟩ (fun i ys H3 ⟨s3,_⟩=>s3.seq (SqL.of qc)) ?_ ?_
  ·rintro i ys H3 x hx hyl ⟨s3,as,rfl,hal,has⟩
   rw[List.getElem?_map]at hx
   cases es:ss1[i]? with
   |none=>rw[es]at hx;cases hx
   |some nm=>
    rw[es]at hx
    obtain rfl:V.str nm=x:=Option.some.inj hx
    have hmem:nm∈D.kn.map (·.1):=pm.mem_iff.mp (List.mem_of_getElem? es)
    obtain⟨e,he⟩:=Qr hmem
    have b3:=b1.lm.same (u1.trans s3)
    refine⟨_,rfl,by show 1<=sizeLine;decide,fun t ht=>?_⟩
    have u4:=Same.upd (o:= .tup [.str nm]) ht
    have b4:=b3.same u4
    obtain⟨e',x0,he',g,v0,hx0,hw0⟩:=(b4.kb.get nm).resolve_left (fun z=>by rw[he]at z;cases z.1)
    rw[he]at he'
    cases he'
    refine⟨_,rfl,a.m,_,rfl,b4.g_known,_,rfl,a.kd,_,rfl,g,t,x0,_,_,rfl,rfl,qc,hx0,by show 4<=sizeLine;decide,fun q2 H5 s5 hq2=>?_⟩
    refine⟨(s3.trans u4).trans s5,as++[q2],by simp,by simp [hal],fun j y m2 e2 h1 h2 h3=>?_⟩
    rw[List.getElem?_append]at h1
    split at h1
    ·obtain⟨v,a1,a2⟩:=has j y m2 e2 h1 h2 h3
     exact⟨v,s5 _ _ (u4 _ _ a1),a2.mv (S:=[]) (u4.trans s5).mv (fun c h=>nomatch h)⟩
    ·have hj:j-as.length=0:=by
      cases hj:j-as.length with
      |zero=>rfl
      |succ k=>rw[hj]at h1;cases h1
     rw[hj]at h1
     cases h1
     obtain rfl:j=i:=by omega
     rw[es]at h2
     cases h2
     rw[he]at h3
     cases h3
     exact⟨v0,hq2,hw0.mv (S:=[]) s5.mv (fun c h=>nomatch h)⟩
  ·rintro ys H3 hyl ⟨s3,as,rfl,hal,has⟩ l2 hl2
   have u4:=Same.upd (o:= .lst (as.map V.ref)) hl2
   refine⟨l2,_,rfl,.inl ⟨SqL.of qc,fun q2 hq2=>?_⟩⟩
   have u5:=Same.upd (o:= .tup (as.map V.ref)) hq2
   have S:=u4.trans u5
   obtain⟨bs,eb,lb,hbs⟩:=sh1
   rw[List.length_map]at hyl
   have la:as.length=ss1.length:=by rw[hal,List.length_map]
   refine⟨3,by decide,Eqd.tup (n:=2) (.inl (S _ _ (s3 _ _ (u1 _ _ eb)))) (.inl qc) (by rw[List.length_map,List.length_map,lb,la]) fun j x y ex ey=>?_,q _ ((s1.trans u1).trans (s3.trans S))⟩
   rw[List.getElem?_map]at ex ey
   cases e1:bs[j]? with
   |none=>rw[e1]at ex;cases ex
   |some x1=>
    rw[e1]at ex
    cases ex
    cases e2:as[j]? with
    |none=>rw[e2]at ey;cases ey
    |some x2=>
     rw[e2]at ey
     cases ey
     have hj:j<ss1.length:=by rw[<- la];exact(List.getElem?_eq_some_iff.mp e2).1
     have es:ss1[j]? =some ss1[j]:=List.getElem?_eq_getElem hj
     obtain⟨e,he⟩:=Qr (pm.mem_iff.mp (List.mem_of_getElem? es))
     obtain⟨v1,a1,a2⟩:=hbs j x1 _ e e1 es he
     obtain⟨v2,c1,c2⟩:=has j x2 _ e e2 es he
     have S1:=(u1.trans s3).trans S
     exact Eqd.four (S1 _ _ a1) (S _ _ c1) (Wt.eqd (a2.mv (S:=[]) S1.mv (fun c h=>nomatch h)) (c2.mv (S:=[]) S.mv (fun c h=>nomatch h)))
end
section
variable{P:Program}{w:World}{K:Frag}{mg:Str->Option Value}{base:Heap}{tk:Nat->Tok}{C:Addr}
theorem jj(a:At K mg "_law_seen" ao ["_law_door_here"])(T:Txt K mg tk)(U:DCx K C)(dD:Mf P w K mg base C "known_now" ["self"] 1 (cv K C))(xC:Mf P w K mg base C "keys_now" ["self"] 1 (jX K C))(dW:Mf P w K mg base C "closed_now" ["self"] 1 (fo K C))(dP:Mf P w K mg base C "bounds_told" ["self"] 1 (fZ K C))(dU:Mf P w K mg base C "table_told" ["self"] 1 (io K C))(xJ:Mf P w K mg base C "log_now" ["self"] 1 (mx K C)):Df P w K mg base "_law_seen" ["_law_door_here"] 2 (lO K C):=by
 refine a.dq sc_law_seen (fun vs H Q E h=>?_) (fun f cdv A outer s H vs Q E hr h=>?_)
 ·obtain⟨_,_,_,rfl,_⟩:=h
  rfl
 ·obtain⟨x,D,L,rfl,b,ok,q⟩:=h
  refine⟨_,(qd (qz (i:=1) sc_law_seen.nd rfl (Or.inl rfl) (qA (qb (zG dD U.cl hr.mo (qv 0)) (qb (zG xC U.cl hr.mo (qv 0)) (qb (zG dW U.cl hr.mo (qv 0)) (qb (zG dP U.cl hr.mo (qv 0)) (qb (zG dU U.cl hr.mo (qv 0)) qa)))))))
   (qf (qj (qk Z6 (qv 1) (qA (qb (zG xJ U.cl hr.mo (qv 0)) qa)))))),?_⟩
  refine⟨_,rfl,x.p,rfl,b.dr.no,x.p,x.ta,x.hk,x.bd,x.lg,L.length,D,rfl,b.dr,ok,fun k ss H1 s1 pm so sh=>?_⟩
  have b1:=b.same s1
  refine⟨_,rfl,x.p,rfl,b1.dr.no,x.p,x.ta,x.hk,x.bd,x.lg,L.length,D,rfl,b1.dr,fun ks as H2 s2 ek la rk=>?_⟩
  have b2:=b1.same s2
  refine⟨_,rfl,x.p,rfl,b2.dr.no,x.p,x.ta,x.hk,x.bd,x.lg,L.length,D,rfl,b2.dr,?_⟩
  refine⟨_,rfl,x.p,rfl,b2.dr.no,x.p,x.ta,x.hk,x.bd,x.lg,L.length,D,rfl,b2.dr,fun bd H3 s3 ebd=>?_⟩
  have b3:=b2.same s3
  refine⟨_,rfl,x.p,rfl,b3.dr.no,x.p,x.ta,x.hk,x.bd,x.lg,L.length,D,rfl,b3.dr,by show 5<=sizeLine;decide,fun t4 ht4=>?_⟩
  have u4:=Same.upd (o:= .tup [.ref k,.ref ks,.int D.least,.ref bd,.ref x.ta]) ht4
  have b4:=b3.same u4
  refine⟨_,rfl,_,rfl,x.p,rfl,b4.dr.no,x,D,L,rfl,b4,fun t5 H5 s5 lt=>?_⟩
  refine⟨by show 1<=sizeLine;decide,fun t6 ht6=>?_⟩
  have u6:=Same.upd (o:= .tup [.ref t5]) ht6
  refine⟨t4,t6,_,_,rfl,rfl,u6 _ _ (s5 _ _ qc),qc,by show 6<=sizeLine;decide,fun p7 H7 s7 e7=>?_⟩
  have S:=(u4.trans s5).trans (u6.trans s7)
  have S2:=s3.trans S
  have S1:=s2.trans S2
  exact q p7 H7 (s1.trans S1) ⟨k,ks,bd,x.ta,t5,ss,as,e7,pm,so,sh.same S1,Same.sqt S2 ek,la,fun i a z h1 h2=>Same.sqt S2 (rk i a z h1 h2),S _ _ ebd,Same.sqt S b3.dr.tb,lt.same (u6.trans s7)⟩
theorem kX(a:At K mg "_law_own" aV ["_law_m"])(T:Txt K mg tk):Df P w K mg base "_law_own" ["_law_m"] 1 (jq K):=by
 refine a.dq sc_law_own (fun vs H Q E h=>?_) (fun f cdv A outer s H vs Q E hr h=>?_)
 ·obtain⟨_,_,_,_,_,rfl,_⟩:=h
  rfl
 ·obtain⟨m,mt,ml,kd,D,rfl,l,k8,q⟩:=h
  refine⟨_,(qd (qz (i:=1) sc_law_own.nd rfl (Or.inl rfl) (qC aa (by rfl) T.b_dict PyProof.Rows.boot_dict (qb (qv 0) qa)))
   (qd (zR hr (qv 1) qh (qC zw (by rfl) T.b_list PyProof.Rows.boot_list (qb (qy hr (qv 0) qh) qa)))
   (qd (zR hr (qv 1) qh (qC aa (by rfl) T.b_dict PyProof.Rows.boot_dict (qb (qy hr (qv 0) qh) qa)))
   (qf (qj (qv 1)))))),?_⟩
  refine⟨_,rfl,m,_,rfl,l.di,fun m' hm'=>?_⟩
  have S1:Same H (upd H m' (.dK (ze D mt ml kd))):=Same.upd hm'
  have l1:=l.same S1
  obtain⟨as,eh,la,hks⟩:=id l1.ks
  refine⟨_,rfl,m,_,rfl,l1.g_keys,ml,_,rfl,.inl (SqL.of eh),fun ml' hml'=>?_⟩
  have fml:H ml'=none:=za hml' S1
  have u2:=Same.upd (o:= .lst (as.map V.ref)) hml'
  have nm2:m'≠ml':=qo qc hml'
  have e2:(upd (upd H m' (.dK (ze D mt ml kd))) ml' (.lst (as.map V.ref))) m'=some (.dK (ze D mt ml kd)):=by rw[qi nm2];exact qc
  have l1':LmAt K (upd H m' (.dK (ze D mt ml kd))) m' mt ml kd D:=⟨qc,l1.tb,l1.ks,l1.kb,fun z=>by obtain⟨f,e,_⟩:=l.kb;rw[<- z,hm']at e;cases e⟩
  have l2:=l1'.same u2
  refine⟨_,rfl,m',_,rfl,l2.p_put (k:= .inr "keys") 1 (.ref ml') rfl,?_⟩
  have S2:Same H _:=S1.put (o:= .lst (as.map V.ref)) fml
  have S3:=S2.put (o:= .dK (ze D mt ml' kd)) hm'
  have e3:((ze D mt ml kd).set 1 (.inr "keys",.ref ml'))=ze D mt ml' kd:=rfl
  rw[e3]
  have m3:Mv [m'] (upd (upd H m' (.dK (ze D mt ml kd))) ml' (.lst (as.map V.ref))) (upd (upd (upd H m' (.dK (ze D mt ml kd))) ml' (.lst (as.map V.ref))) m' (.dK (ze D mt ml' kd))):=Mv.upd1
  have nt3:NT [m'] (upd (upd H m' (.dK (ze D mt ml kd))) ml' (.lst (as.map V.ref))):=NT.one e2 trivial
  have l3:=l.same S3
  obtain⟨f3,ek3,b3,pm3,nd3⟩:=id l3.kb
  have ks3:KsAt K (upd (upd (upd H m' (.dK (ze D mt ml kd))) ml' (.lst (as.map V.ref))) m' (.dK (ze D mt ml' kd))) ml' D.kss:=⟨as,by rw[qi nm2.symm];exact qc,la,fun i a ks h1 h2=>m3.sqt nt3 (Same.sqt u2 (hks i a ks h1 h2))⟩
  refine⟨_,rfl,m,_,rfl,l3.g_known,kd,_,rfl,ek3,fun kd' hkd'=>?_⟩
  have fkd:H kd'=none:=za hkd' S3
  have nk2:m'≠kd':=qo qc hkd'
  have u4:=Same.upd (o:= .dK (zO f3.1 f3.2)) hkd'
  have l4:LmAt K (upd (upd (upd (upd H m' (.dK (ze D mt ml kd))) ml' (.lst (as.map V.ref))) m' (.dK (ze D mt ml' kd))) kd' (.dK (zO f3.1 f3.2))) m' mt ml' kd D:=⟨by rw[qi nk2];exact qc,(l3.same u4).tb,ks3.same u4,(l3.same u4).kb,l1'.ne⟩
  refine⟨_,rfl,m',_,rfl,l4.p_put (k:= .inr "known") 6 (.ref kd') rfl,?_⟩
  have e5:((ze D mt ml' kd).set 6 (.inr "known",.ref kd'))=ze D mt ml' kd':=rfl
  rw[e5]
  have S4:=S3.put (o:= .dK (zO f3.1 f3.2)) fkd
  have S5:=S4.put (o:= .dK (ze D mt ml' kd')) hm'
  have m5:Mv [m'] (upd (upd (upd (upd H m' (.dK (ze D mt ml kd))) ml' (.lst (as.map V.ref))) m' (.dK (ze D mt ml' kd))) kd' (.dK (zO f3.1 f3.2))) (upd (upd (upd (upd (upd H m' (.dK (ze D mt ml kd))) ml' (.lst (as.map V.ref))) m' (.dK (ze D mt ml' kd))) kd' (.dK (zO f3.1 f3.2))) m' (.dK (ze D mt ml' kd'))):=Mv.upd1
  have nt5:NT [m'] _:=NT.one l4.di trivial
  exact⟨_,rfl,q m' ml' kd' _ S5 hm' fml fkd ⟨qc,m5.sqt nt5 l4.tb,l4.ks.mv m5 nt5 (qK nm2.symm),(show KnAt _ kd' D.kn from⟨f3,qc,fun e he=>(b3 e he).same u4,pm3,nd3⟩).mv m5 nt5 (qK nk2.symm),nk2⟩⟩
end
section
variable{P:Program}{w:World}{K:Frag}{mg:Str->Option Value}{base:Heap}{tk:Nat->Tok}{C:Addr}
theorem bw(a:At K mg "_law_listed_door" Qk ["_law_m"])(T:Txt K mg tk)(U:DCx K C)(xW:Mi P w K mg base C "Door" ["self","table","keys","near","far","most"] 1 (cm K C)):Df P w K mg base "_law_listed_door" ["_law_m"] 3 (bq K C):=by
 refine a.dq sc_law_listed_door (fun vs H Q E h=>?_) (fun f cdv A outer s H vs Q E hr h=>?_)
 ·obtain⟨_,_,_,_,_,rfl,_⟩:=h
  rfl
 ·obtain⟨m,mt,ml,kd,D,rfl,l,⟨tp,l0,k1,k8,n0,n1,n2,m1,m2,kn0⟩,kl8,q⟩:=h
  refine⟨_,(qd (ni (i:=1) (j:=2) rfl sc_law_listed_door.nd rfl rfl (by decide) rfl rfl (qb (qC zw (by rfl) T.b_list PyProof.Rows.boot_list (qb (qy hr (qv 0) qh) qa)) (qb (zD (own:=["_law_key_here"]) (fr:=[]) (js:=[]) rfl (zZ (qy hr (qv 0) qh)) rfl (fun _ _ h=>nomatch h) rfl (cB rfl (by decide +kernel) (by decide +kernel) (by decide +kernel)) (fun _ _ _ _=>ql (i:=0) (show List.Nodup (["_law_key_here"]:List Str)from by decide +kernel) rfl (Or.inl rfl) (.inr rfl)) (fun _ _ _ _=>(qC (gh (K:=K) rfl) (by rfl) T.b_list PyProof.Rows.boot_list (qb (qv 0) qa)))) qa)))
   (qd (qz (i:=3) sc_law_listed_door.nd rfl (Or.inl rfl) (jA xW hr.mo (qb (qv 1) (qb (qv 2) (qb (qy hr (qv 0) qh) (qb (qy hr (qv 0) qh) (qb (qy hr (qv 0) qh) qa)))))))
   (qd (qV (ik PySem.F.plainAttrs_list PySem.F.slot_list_reverse PySem.F.type_list_reverse lB (qv 1)))
   (qd (zC PassesOwn.never rfl (zZ (qv 2)) (ql (i:=4) sc_law_listed_door.nd rfl (Or.inl rfl))
   (qf (qV (Qq PySem.F.plainAttrs_list PySem.F.slot_list_append PySem.F.type_list_append zm (qv 4) (qb qe qa)))))
   (qd (qV (ik PySem.F.plainAttrs_list PySem.F.slot_list_clear PySem.F.type_list_clear iL (qv 2)))
   (qf (qj (qv 3)))))))),?_⟩
  refine⟨_,rfl,m,_,rfl,l.g_table,mt,_,rfl,.inr l.tb,fun tl htl=>?_⟩
  have u1:=Same.upd (o:= .lst (D.t.map V.int)) htl
  have e1:(upd H tl (.lst (D.t.map V.int))) tl=some (.lst (D.t.map V.int)):=qc
  generalize upd H tl (.lst (D.t.map V.int))=H1 at u1 e1⊢
  have l1:=l.same u1
  obtain⟨as,eh,la,hks⟩:=id l1.ks
  refine⟨_,rfl,m,_,rfl,l1.g_keys,ml,rfl,⟨_,SqL.of eh⟩,?_⟩
  refine Q9 (K:=K) (xs:=as.map V.ref) (by rw[List.length_map,la,sizeLine_eq];omega) (fun i ys H3=>Same H1 H3/\∃bs:List Addr,ys=bs.map V.ref/\bs.length=i/\(∀z∈bs,H1 z=none)/\∀(j:Nat) (x:Addr) (ks:List Int),bs[j]? =some x->D.kss[j]? =some ks->H3 x=some (.lst (ks.map V.int))) ⟨Same.refl _,[],rfl,rfl,(fun z h=>nomatch h),fun j x ks h=>(by cases h)⟩ (fun i ys H3 ⟨s3,_⟩=>s3.seq (SqL.of eh)) ?_ ?_
  ·rintro i ys H3 x hx hyl ⟨s3,bs,rfl,hal,hn,has⟩
   rw[List.getElem?_map]at hx
   cases es:as[i]? with
   |none=>rw[es]at hx;cases hx
   |some a=>
    rw[es]at hx
    obtain rfl:V.ref a=x:=Option.some.inj hx
    have hi:i<D.kss.length:=by rw[<- la];exact(List.getElem?_eq_some_iff.mp es).1
    have ek:=List.getElem?_eq_getElem hi
    refine⟨_,rfl,a,_,rfl,.inr (Same.sqt s3 (hks i a _ es ek)),fun p hp=>?_⟩
    have u4:=Same.upd (o:= .lst (D.kss[i].map V.int)) hp
    refine⟨s3.trans u4,bs++[p],by simp,by simp [hal],fun z hz=>?_,fun j y ks h1 h2=>?_⟩
    ·rcases List.mem_append.mp hz with hz|hz
     ·exact hn z hz
     ·rw[List.mem_singleton.mp hz];exact za hp s3
    ·rw[List.getElem?_append]at h1
     split at h1
     ·exact u4 _ _ (has j y ks h1 h2)
     ·have hj:j-bs.length=0:=by
       cases hj:j-bs.length with
       |zero=>rfl
       |succ k=>rw[hj]at h1;cases h1
      rw[hj]at h1
      cases h1
      obtain rfl:j=i:=by omega
      rw[ek]at h2
      cases h2
      exact qc
  ·rintro ys H3 hyl ⟨s3,bs,rfl,hal,hn,has⟩ kl hkl
   rw[List.length_map]at hal
   have u4:=Same.upd (o:= .lst (bs.map V.ref)) hkl
   have ntk:tl≠kl:=qo (s3 _ _ e1) hkl
   have ntb:tl∉bs:=fun z=>by rw[hn tl z]at e1;cases e1
   have e4:(upd H3 kl (.lst (bs.map V.ref))) kl=some (.lst (bs.map V.ref)):=qc
   have has4:∀(j:Nat) (x:Addr) (ks:List Int),bs[j]? =some x->D.kss[j]? =some ks->(upd H3 kl (.lst (bs.map V.ref))) x=some (.lst (ks.map V.int)):=fun j x ks h1 h2=>u4 _ _ (has j x ks h1 h2)
   have nkb:∀z∈bs,z≠kl:=fun z hz w=>by
    obtain⟨j,hj⟩:=List.getElem?_of_mem hz
    have hj2:j<D.kss.length:=by have:=(List.getElem?_eq_some_iff.mp hj).1;omega
    have:=has j z _ hj (List.getElem?_eq_getElem hj2)
    rw[w,hkl]at this;cases this
   generalize upd H3 kl (.lst (bs.map V.ref))=H4 at u4 e4 has4⊢
   have S4:Same H1 H4:=s3.trans u4
   have l4:=l1.same S4
   refine⟨_,_,rfl,?_⟩
   refine⟨_,rfl,_,rfl,_,rfl,m,_,rfl,l4.g_near,_,rfl,m,_,rfl,l4.g_far,_,rfl,m,_,rfl,l4.g_most,fun x dx nx ndx nex=>?_⟩
   have sJ:Same H4 (upd (upd H4 dx (.own x)) x (.ins C dx [])):=(Same.upd ndx).trans (Same.upd (by rw[qi nex.symm];exact nx))
   refine⟨x,tl,kl,dx,D.near,D.far,D.most,D.t,D.kss,rfl,qc,.inl (SqL.of (sJ _ _ (S4 _ _ e1))),⟨bs,sJ _ _ e4,by omega,fun i a ks h1 h2=> .inl (sJ _ _ (has4 i a ks h1 h2))⟩,k8,fun ta hk bd lg H5 h1 h2 h3 mv dr krn=>⟨rfl,?_⟩⟩
   have S5:Same H4 H5:=fun c o e=>mv c o (qK (qo e nx)) (sJ c o e)
   have eD:(⟨D.t,D.kss,D.near,D.far,D.most,0,[]⟩:Dr)=D:=by rw[<- l0,<- kn0]
   rw[eD]at dr
   have dl:DlAt K C H5 ⟨x,ta,hk,bd,lg⟩ D []:=dr.dl krn
   have f1:=za h1 sJ
   have f2:=za h2 sJ
   have f3:=za h3 sJ
   have HA:∀(z:Addr),z∈tl::kl::bs->H4 z≠none/\H z=none:=fun z hz=>by
    rcases List.mem_cons.mp hz with rfl|hz
    ·exact⟨(fun w=>by rw[S4 _ _ e1]at w;cases w),htl⟩
    ·rcases List.mem_cons.mp hz with rfl|hz
     ·exact⟨(fun w=>by rw[e4]at w;cases w),za (za hkl s3) u1⟩
     ·obtain⟨j,hj⟩:=List.getElem?_of_mem hz
      have hj2:j<D.kss.length:=by have:=(List.getElem?_eq_some_iff.mp hj).1;omega
      exact⟨(fun w=>by rw[has4 j z _ hj (List.getElem?_eq_getElem hj2)]at w;cases w),za (hn z hz) u1⟩
   have NL:∀z∈tl::kl::bs,∃ys,H5 z=some (.lst ys):=fun z hz=>by
    rcases List.mem_cons.mp hz with rfl|hz
    ·exact⟨_,S5 _ _ (S4 _ _ e1)⟩
    ·rcases List.mem_cons.mp hz with rfl|hz
     ·exact⟨_,S5 _ _ e4⟩
     ·obtain⟨j,hj⟩:=List.getElem?_of_mem hz
      have hj2:j<D.kss.length:=by have:=(List.getElem?_eq_some_iff.mp hj).1;omega
      exact⟨_,S5 _ _ (has4 j z _ hj (List.getElem?_eq_getElem hj2))⟩
   have nt5:NT (tl::kl::bs) H5:=fun z hz=>let⟨ys,e⟩:=NL z hz;⟨_,e,trivial⟩
   have e5:=S5 _ _ (S4 _ _ e1)
   refine⟨_,rfl,.inl ⟨rfl,_,SqL.of e5⟩,tl,_,rfl,rfl,e5,?_⟩
   have m6:Mv (tl::kl::bs) H5 (upd H5 tl (.lst (D.t.map V.int).reverse)):=Mv.upd1.mono (fun c h z=>h (by rw[List.mem_singleton.mp z];exact List.mem_cons_self ..))
   have e6:(upd H5 tl (.lst (D.t.map V.int).reverse)) kl=some (.lst (bs.map V.ref)):=by rw[qi ntk.symm];exact S5 _ _ e4
   have b6:∀z∈bs,∃ys,(upd H5 tl (.lst (D.t.map V.int).reverse)) z=some (.lst ys)/\ys.length<=20:=fun z hz=>by
    obtain⟨j,hj⟩:=List.getElem?_of_mem hz
    have hj2:j<D.kss.length:=by have:=(List.getElem?_eq_some_iff.mp hj).1;omega
    have nz:z≠tl:=fun w=>ntb (w▸hz)
    refine⟨_,(qi nz).trans (S5 _ _ (has4 j z _ hj (List.getElem?_eq_getElem hj2))),?_⟩
    have:=kl8 _ (List.getElem_mem hj2)
    rw[List.length_map];omega
   generalize upd H5 tl (.lst (D.t.map V.int).reverse)=H6 at m6 e6 b6⊢
   refine⟨_,rfl,kl,rfl,⟨_,SqL.of e6⟩,?_⟩
   refine Zv (K:=K) (xs:=bs.map V.ref) (Pv:=fun i σ Hx=>Mv (tl::kl::bs) H5 Hx/\Hx kl=some (.lst (bs.map V.ref))/\(∀z∈bs,∃ys,Hx z=some (.lst ys)/\ys.length<=20+i)/\∃o,σ=[some (.ref m),some (.ref tl),some (.ref kl),some (.ref x),o]) ⟨m6,e6,b6,_,rfl⟩ (fun i σ Hx _ ⟨_,e,_⟩=>SqL.of e) ?_ ?_
   ·rintro i y σ Hx hy ⟨m7,e7,b7,o,rfl⟩
    rw[List.getElem?_map]at hy
    cases es:bs[i]? with
    |none=>rw[es]at hy;cases hy
    |some z=>
     rw[es]at hy
     obtain rfl:V.ref z=y:=Option.some.inj hy
     have hz:=List.mem_of_getElem? es
     obtain⟨ys,ez,hl⟩:=b7 z hz
     have hi:i<bs.length:=(List.getElem?_eq_some_iff.mp es).1
     refine⟨_,rfl,.inl ⟨rfl,_,SqL.of ez⟩,z,_,_,rfl,rfl,ez,by rw[sizeLine_eq];omega,?_⟩
     refine⟨m7.trans (Mv.upd1.mono (fun c h w=>h (by rw[List.mem_singleton.mp w];exact List.mem_cons_of_mem _ (List.mem_cons_of_mem _ hz)))),by rw[qi (nkb z hz).symm];exact e7,fun u hu=>?_,_,rfl⟩
     by_cases hu2:u=z
     ·rw[hu2,qc];exact⟨_,rfl,by rw[List.length_append];show ys.length+1<=_;omega⟩
     ·obtain⟨zs,e9,h9⟩:=b7 u hu
      exact⟨zs,by rw[qi hu2];exact e9,by omega⟩
   ·rintro σ Hx ⟨m7,e7,b7,o,rfl⟩
    refine⟨_,rfl,.inl ⟨rfl,_,SqL.of e7⟩,kl,_,rfl,rfl,e7,_,rfl,?_⟩
    have m8:=m7.trans (S:=tl::kl::bs) ((Mv.upd1 (a:=kl) (H:=Hx) (o:= .lst [])).mono (fun c h w=>h (by rw[List.mem_singleton.mp w];exact List.mem_cons_of_mem _ (List.mem_cons_self ..))))
    refine q ⟨x,ta,hk,bd,lg⟩ _ (fun c o e=>m8 c o (fun z=>by rw[(HA c z).2]at e;cases e) (S5 _ _ (S4 _ _ (u1 _ _ e)))) (za (za nx S4) u1) (za (za f1 S4) u1) (za (za f2 S4) u1) (za (za f3 S4) u1) (dl.mv m8 nt5 (fun z=>(HA _ z).1 nx) (fun z=>(HA _ z).1 f1) (fun z=>(HA _ z).1 f2) (fun z=>(HA _ z).1 f3))
end
section
variable{P:Program}{w:World}{K:Frag}{mg:Str->Option Value}{base:Heap}{tk:Nat->Tok}{C:Addr}
theorem jc(a:At K mg "_law_done" aj ["_law_box_here","_law_door_here","_law_m","_law_names_here"])(T:Txt K mg tk)(U:DCx K C)(dA:Df P w K mg base "_law_take" ["_law_box_here","_law_many"] 1 zL)(xB:Df P w K mg base "_law_key" ["_law_box_here"] 2 eK)(xK:Mf P w K mg base C "forget" ["self","name"] 1 (c7 K C))(xD:Mf P w K mg base C "turn_key" ["self","key"] 1 (iM K C))(dO:Mf P w K mg base C "close_below" ["self","age"] 1 (ir K C))(xS:Mf P w K mg base C "hear" ["self","thing"] 6 (jv K C))(dI:Df P w K mg base "_law_learns" ["_law_door_here","_law_m","_law_name","_law_age_here","_law_count_here"] 8 (am K C))(x6:Df P w K mg base "_law_age" ["_law_box_here","_law_m","_law_name"] 2 (mw K))(xT:Df P w K mg base "_law_count" ["_law_box_here","_law_m","_law_name"] 2 (gK K))
  (dE:Df P w K mg base "_law_press" ["_law_m","_law_name","_law_age_here","_law_count_here","_law_deed"] 4 (cu K))(x8:Df P w K mg base "_law_due" ["_law_m","_law_name","_law_age_here","_law_count_here","_law_deed"] 1 (rb K))(yG:∀n:Nat,n<=8->Df P w K mg base "_law_same" ["_law_found","_law_due_here"] (n+1) (tM n)):Df P w K mg base "_law_done" ["_law_box_here","_law_door_here","_law_m","_law_names_here"] 9 (gz K C):=by
 have xF:=yG 1 (by decide)
 refine a.dq sc_law_done (fun vs H Q E h=>?_) (fun f cdv A outer s H vs Q E hr h=>?_)
 ·obtain⟨_,_,_,_,_,_,_,rfl,_⟩:=h
  rfl
 ·obtain⟨b,nl,x,D,L,n,ns,rfl,bx,hn0,nb,ne,hnl,nnb,nnf,n1,n12,nnm,en,hL,d20,q⟩:=h
  refine⟨_,(qd (qz (i:=4) sc_law_done.nd rfl (Or.inl rfl) (qB qD (qv 3) (qm dA hr.mo (qb (qv 0) (qb (qp qF (by rfl) T.b_len PySem.boot_len (qb (qv 3) qa)) qa))) (fun _ _=>rfl)))
   (qd (qz (i:=5) sc_law_done.nd rfl (Or.inl rfl) (qm dA hr.mo (qb (qv 0) (qb qe qa))))
   (qd (qI (QW.pt (Qn (qu zy (qv 5) qe (qr _)) (QK (nr hr (qv 4) (qy hr (qv 2) qh))))) (qd (qV (gX (qy hr (qv 2) qh) (qv 4)))
   (qf (qj (zx QR (zq xK U.cl hr.mo (qv 1) (qb (qv 4) qa)) zd (qr _))))) qx)
   (qd (qI (QW.pt (Qn (qu ZJ (qv 5) qe (qr _)) (Qn (bz hr (qv 4) (qy hr (qv 2) qh)) (Qn (qu ZJ (qp fT (by rfl) T.b_len PySem.boot_len (qb (qy hr (qv 2) qh) qa)) (qy hr (qv 2) qh) (qr _)) (QK (qu zy (qy hr (qv 2) qh) qe (qr _))))))) (qd (qV (qm dI hr.mo (qb (qv 1) (qb (qv 2) (qb (qv 4) (qb (qm dA hr.mo (qb (qv 0) (qb (qp qF (by rfl) T.b_len PySem.boot_len (qb (qy hr (qv 2) qh) qa)) qa))) (qb (qm dA hr.mo (qb (qv 0) (qb qe qa))) qa)))))))
   (qf (qj Qs))) qx)
   (qd (qI (QW.pt (Qn (qu zy (qv 5) qe (qr _)) (QK (qu ZJ (qp qF (by rfl) T.b_len PySem.boot_len (qb (qy hr (qv 2) qh) qa)) qe (qr _))))) (qd (qz (i:=6) sc_law_done.nd rfl (Or.inl rfl) (qC zw (by rfl) T.b_list PyProof.Rows.boot_list (qb (qm xB hr.mo (qb (qv 0) qa)) qa)))
   (qd (qV (Qq PySem.F.plainAttrs_list PySem.F.slot_list_append PySem.F.type_list_append zm (qy hr (qv 2) qh) (qb (qC qP (by rfl) T.b_tuple PyProof.Rows.boot_tuple (qb (qv 6) qa)) qa)))
   (qd (qz (i:=7) sc_law_done.nd rfl (Or.inl rfl) (zq xD U.cl hr.mo (qv 1) (qb (qv 6) qa)))
   (qd (qV (ik PySem.F.plainAttrs_list PySem.F.slot_list_clear PySem.F.type_list_clear iL (qv 6)))
   (qf (qj (zx QR (qv 7) zd (qr _)))))))) qx)
   (qd (qI (QW.pt (Qn (qu zy (qv 5) qe (qr _)) (QK (qu zy (qm dA hr.mo (qb (qv 0) (qb qe qa))) qe (qr _))))) (qd (qz (i:=8) sc_law_done.nd rfl (Or.inl rfl) (qm dA hr.mo (qb (qv 0) (qb (qp qF (by rfl) T.b_len PySem.boot_len (qb (qy hr (qv 2) qh) qa)) qa))))
   (qd (zR hr (qv 2) qh (qp (ZN rfl) (by rfl) T.b_max PyProof.Rows.boot_max (qb (qy hr (qv 2) qh) (qb (qv 8) qa))))
   (qf (qj (zx QR (zq dO U.cl hr.mo (qv 1) (qb (qv 8) qa)) zd (qr _)))))) qx)
   (qd (rO (i:=8) (j:=9) (k:=10) rfl sc_law_done.nd rfl rfl rfl rfl rfl rfl (qb (qm x6 hr.mo (qb (qv 0) (qb (qv 2) (qb (qv 4) qa)))) (qb (qm xT hr.mo (qb (qv 0) (qb (qv 2) (qb (qv 4) qa)))) (qb (qm dA hr.mo (qb (qv 0) (qb qe qa))) qa))))
   (qf (qj (qm xF hr.mo (qb (zq xS U.cl hr.mo (qv 1) (qb (qm dE hr.mo (qb (qv 2) (qb (qv 4) (qb (qv 8) (qb (qv 9) (qb (qv 10) qa)))))) qa)) (qb (qm x8 hr.mo (qb (qv 2) (qb (qv 4) (qb (qv 8) (qb (qv 9) (qb (qv 10) qa)))))) qa)))))))))))),?_⟩
  have d0:Dn K C H H b n x D L D:=⟨bx,en,fun c o _ e=>e,nb,ne⟩
  have k1:=d20.k1
  have k8:=d20.ok.kl
  have l0:=d20.ok.l0
  refine⟨_,rfl,_,rfl,_,rfl,nl,_,rfl,.inl (SqL.of hnl),b,_,_,rfl,bx,by omega,by rw[List.length_map];omega,by rw[List.length_map];omega,fun xi H1 x0 x1 g1=>?_⟩
  rw[List.length_map]at x1
  obtain⟨j,rfl⟩:∃j:Nat,xi=(j:Int):=⟨xi.toNat,by omega⟩
  have hj:j<ns.length:=by omega
  have hn1:=g1.kp _ _ nnb hnl
  have d1:=d0.grc g1
  refine⟨nl,_,_,.str ns[j],rfl,rfl,SqL.of hn1,QH (by rw[List.getElem?_map,List.getElem?_eq_getElem hj];rfl),?_⟩
  have hnm:=nnm ns[j] (List.getElem_mem hj)
  generalize ns[j]=nm at hnm
  refine⟨_,rfl,b,_,_,rfl,g1.bx,by omega,by decide,by decide,fun way H2 w0 w1 g2=>?_⟩
  have d2:=d1.grc g2
  have e2:=d2.en
  refine jn (fun bb H'=>H'=H2/\(bb=true->D.kn.lookup nm≠none)) (fun Q' hQ=>?_) (fun H3 ⟨eH,ht⟩=>?_) (fun H3 ⟨eH,_⟩=>?_)
  ·refine⟨_,rfl,rfl,_,rfl,?_⟩
   refine qL (fun _=>?_) (fun _=>hQ _ _ ⟨rfl,fun z=>nomatch z⟩)
   rcases e2.lm.kb.get nm with⟨hno,g⟩|⟨e,xx,he,g,_⟩
   ·exact⟨_,rfl,_,rfl,x.m,_,rfl,e2.lm.g_known,x.kd,_,rfl,g,_,rfl,hQ _ _ ⟨rfl,fun z=>nomatch z⟩⟩
   ·exact⟨_,rfl,_,rfl,x.m,_,rfl,e2.lm.g_known,x.kd,_,rfl,g,_,rfl,hQ _ _ ⟨rfl,fun _ z=>by rw[he]at z;cases z⟩⟩
  ·subst eH
   have hk:=ht rfl
   obtain⟨f0,hd,hbu,hpm,nd⟩:=id e2.lm.kb
   obtain⟨kvs,ekv,kn'⟩:=e2.lm.kb.drop nm
   have ek:kvs=zO f0.1 f0.2:=by rw[hd]at ekv;injection ekv with z;injection z with z;exact z.symm
   obtain⟨e,he⟩:=Option.ne_none_iff_exists'.mp hk
   have hv:zN kvs (Sum.inr nm:qG)=some (.ref (f0.2 nm)):=by rw[ek,bI,ZS hpm nd,he];rfl
   refine⟨_,rfl,x.m,_,rfl,e2.lm.g_known,x.kd,rfl,.inl ⟨_,.inl ekv⟩,_,rfl,kvs,.inr nm,_,ekv,rfl,hv,?_⟩
   have d3:=d2.law (rH Mv.upd1) (e2.lm.putK Mv.upd1 kn')
   refine⟨_,rfl,x.a.p,rfl,d3.en.dl.dr.no,_,rfl,x.a,D,L,nm,rfl,d3.en.dl,by omega,hk,fun D' r hd' H4 m4 d4=>?_⟩
   obtain⟨rfl,rfl⟩:_=D'/\_=r:=by have w:=(if_neg hk).symm.trans hd';injection w with w;injection w with w1 w2;exact⟨w1,w2⟩
   have d5:=d3.door (pZ m4) d4
   refine⟨rfl,?_⟩
   rw[decide_eq_true rfl]
   exact q _ _ _ d5.mv (d5.bx.mono (by omega)) d5.en d20.forget (by simp)
  ·subst eH
   refine eB (fun bb H'=>H'=H3/\(bb=true->D.kn.lookup nm=none/\(D.kn.length:Int)<D.most/\D.least=0)) (fun Q' hQ=>?_) (fun H4 ⟨eH,ht⟩=>?_) (fun H4 ⟨eH,_⟩=>?_)
   ·refine⟨_,rfl,_,_,rfl,rfl,_,rfl,?_⟩
    refine qL (fun _=>?_) (fun _=>hQ _ _ ⟨rfl,fun z=>nomatch z⟩)
    rcases e2.lm.kb.get nm with⟨hno,g⟩|⟨e,xx,he,g,_⟩
    ·refine⟨_,rfl,_,rfl,x.m,_,rfl,e2.lm.g_known,x.kd,_,rfl,g,_,rfl,zc ?_⟩
     obtain⟨f0,hd,hbu,hpm,nd⟩:=id e2.lm.kb
     have hkl:(zO f0.1 f0.2).length=D.kn.length:=by unfold zO;rw[List.length_map];exact hpm.length_eq
     refine⟨_,rfl,x.m,_,rfl,e2.lm.g_known,x.kd,_,rfl,hd,_,rfl,x.m,_,rfl,e2.lm.g_most,_,_,rfl,rfl,_,rfl,?_⟩
     rw[hkl]
     refine qL (fun y=>?_) (fun _=>hQ _ _ ⟨rfl,fun z=>nomatch z⟩)
     refine⟨_,rfl,x.m,_,rfl,e2.lm.g_closed,rfl,_,rfl,hQ _ _ ⟨rfl,fun z=>⟨hno,of_decide_eq_true y,?_⟩⟩⟩
     have z:=of_decide_eq_true z
     injection z
    ·exact⟨_,rfl,_,rfl,x.m,_,rfl,e2.lm.g_known,x.kd,_,rfl,g,_,rfl,qS (hQ _ _ ⟨rfl,fun z=>nomatch z⟩)⟩
   ·subst eH
    obtain⟨hno,hmo,hl⟩:=ht rfl
    obtain⟨as,eh,la,_⟩:=id e2.lm.ks
    have lks:(as.map V.ref).length=D.kss.length:=by rw[List.length_map];exact la
    refine⟨_,rfl,_,rfl,_,rfl,_,rfl,_,rfl,x.m,_,rfl,e2.lm.g_keys,x.ml,_,rfl,.inl (SqL.of eh),b,_,_,rfl,d2.bx,by omega,by rw[lks];omega,by rw[lks];omega,fun age H5 a0 a1 g5=>?_⟩
    rw[lks]at a1
    refine⟨_,rfl,b,_,_,rfl,g5.bx,by omega,by decide,by decide,fun c H6 c0 c1 g6=>?_⟩
    have d6:=(d2.grc g5).grc g6
    refine⟨x,D,L,nm,age,c,rfl,d6.en,by omega,d20,hl,hnm,a0,a1,c0,by omega,hno,hmo,fun r H7 m7 e7=>?_⟩
    have d7:=d6.up m7 e7
    exact q _ _ _ d7.mv (d7.bx.mono (by omega)) d7.en (d20.learn a0 a1 (by omega) (by omega) hmo) (by simp)
   ·subst eH
    refine eB (fun bb H'=>H'=H4/\(bb=true->D.kss.length<8)) (fun Q' hQ=>?_) (fun H5 ⟨eH,ht⟩=>?_) (fun H5 ⟨eH,_⟩=>?_)
    ·refine⟨_,rfl,rfl,_,rfl,?_⟩
     refine qL (fun _=>?_) (fun _=>hQ _ _ ⟨rfl,fun z=>nomatch z⟩)
     obtain⟨as,eh,la,_⟩:=id e2.lm.ks
     refine⟨_,rfl,x.m,_,rfl,e2.lm.g_keys,x.ml,_,rfl,.inl (SqL.of eh),_,_,rfl,rfl,_,rfl,hQ _ _ ⟨rfl,fun z=>?_⟩⟩
     rw[List.length_map,la]at z
     have:=of_decide_eq_true z
     omega
    ·subst eH
     have hk:=ht rfl
     refine⟨_,rfl,b,_,rfl,d2.bx,by omega,fun p ks H6 g6 fp hp dk _ k8'=>?_⟩
     have d6:=d2.grc g6
     refine⟨p,_,rfl,.inr (SqT.of hp),fun kl hkl=>?_⟩
     have fk:=d6.free hkl
     have u7:=Same.upd (o:= .lst (ks.map V.int)) hkl
     have d7:=d6.same u7
     have ekl:(upd H6 kl (.lst (ks.map V.int))) kl=some (.lst (ks.map V.int)):=qc
     generalize upd H6 kl (.lst (ks.map V.int))=H7 at u7 d7 ekl⊢
     obtain⟨as,eh,la,hks⟩:=id d7.en.lm.ks
     refine⟨_,rfl,x.m,_,rfl,d7.en.lm.g_keys,.inl ⟨rfl,_,SqL.of eh⟩,_,rfl,kl,_,rfl,.inl ⟨SqL.of ekl,fun t ht=>?_⟩⟩
     have u8:=Same.upd (o:= .tup (ks.map V.int)) ht
     have d8:=d7.same u8
     have e8:=u8 _ _ eh
     refine⟨x.ml,_,_,rfl,rfl,e8,by rw[List.length_map,la,sizeLine_eq];omega,?_⟩
     have ks9:=ie e8 la (fun i a ks h1 h2=>Same.sqt u8 (hks i a ks h1 h2)) (SqT.of (qc (H:=H7) (a:=t) (o:= .tup (ks.map V.int))))
     have d9:=d8.law (v8 Mv.upd1) (d8.en.lm.putH Mv.upd1 ks9)
     have nkm:kl≠x.ml:=fun z=>fk.2.1 (z▸uu)
     have ek9:(upd (upd H7 t (.tup (ks.map V.int))) x.ml (.lst (as.map V.ref++[.ref t]))) kl=some (.lst (ks.map V.int)):=by rw[qi nkm];exact u8 _ _ ekl
     generalize upd (upd H7 t (.tup (ks.map V.int))) x.ml (.lst (as.map V.ref++[.ref t]))=H9 at d9 ek9⊢
     refine⟨_,rfl,x.a.p,rfl,d9.en.dl.dr.no,_,rfl,x.a,D,L,kl,ks,rfl,d9.en.dl,by omega,hk,.inl ek9,k8',fun D' r hd' Ha ma da=>?_⟩
     obtain⟨rfl,rfl⟩:_=D'/\_=r:=by have w:=(if_pos hk).symm.trans hd';injection w with w;injection w with w1 w2;exact⟨w1,w2⟩
     have d10:=d9.door (vQ ma) da
     have ek10:=ma _ _ (fun z=>fk.2.1 (cF (by simp only[List.mem_cons,List.not_mem_nil,or_false]at z;rcases z with z|z<;>rw[z];exact cW _;exact ZL _))) ek9
     refine⟨_,rfl,.inl ⟨rfl,_,SqL.of ek10⟩,kl,_,rfl,rfl,ek10,_,rfl,?_⟩
     have d11:=d10.aside (o:= .lst []) fk ek10
     refine⟨rfl,?_⟩
     rw[decide_eq_true rfl]
     exact q _ _ _ d11.mv (d11.bx.mono (by omega)) d11.en (d20.turn hk) (by simp)
    ·subst eH
     refine eB (fun bb H'=>∃n',Dn K C H H' b n' x D L D/\n'<=n+3) (fun Q' hQ=>?_) (fun H6 ⟨n6,d6,hn6⟩=>?_) (fun H6 ⟨n6,d6,hn6⟩=>?_)
     ·refine⟨_,rfl,rfl,_,rfl,?_⟩
      refine qL (fun _=>?_) (fun _=>hQ _ _ ⟨_,d2,by omega⟩)
      exact⟨_,rfl,b,_,_,rfl,d2.bx,by omega,by decide,by decide,fun r H6 _ _ g6=>⟨rfl,_,rfl,hQ _ _ ⟨_,d2.grc g6,by omega⟩⟩⟩
     ·obtain⟨as,eh,la,_⟩:=id d6.en.lm.ks
      have lks:(as.map V.ref).length=D.kss.length:=by rw[List.length_map];exact la
      refine⟨_,rfl,_,rfl,x.m,_,rfl,d6.en.lm.g_keys,x.ml,_,rfl,.inl (SqL.of eh),b,_,_,rfl,d6.bx,by omega,by rw[lks];omega,by rw[lks];omega,fun age H7 a0 a1 g7=>?_⟩
      have d7:=d6.grc g7
      refine⟨_,rfl,x.m,_,rfl,d7.en.lm.g_closed,_,rfl,_,_,rfl,?_⟩
      obtain⟨z,hz⟩:∃z:Int,z=if age>D.least then age else D.least:=⟨_,rfl⟩
      rw[<- hz]
      refine⟨_,rfl,x.m,_,rfl,d7.en.lm.p_closed z,?_⟩
      have d8:=d7.law (vT Mv.upd1) (d7.en.lm.to (D':={D with least:=z}) rfl rfl rfl)
      refine⟨_,rfl,x.a.p,rfl,d8.en.dl.dr.no,_,rfl,x.a,D,L,age,rfl,d8.en.dl,by omega,fun D' r hd' H9 m9 dl9=>?_⟩
      obtain⟨rfl,rfl⟩:_=D'/\_=r:=by injection hd' with w;injection w with w1 w2;exact⟨w1,w2⟩
      rw[<- hz]at dl9
      have d9:=d8.door (vO m9) dl9
      refine⟨rfl,?_⟩
      rw[decide_eq_true rfl]
      exact q _ _ _ d9.mv (d9.bx.mono (by omega)) d9.en (d20.close (by rw[hz];split<;>omega)) (by simp)
     ·refine⟨_,rfl,_,rfl,_,rfl,b,x.m,x.mt,x.ml,x.kd,D,nm,_,rfl,d6.bx,by omega,d6.en.lm,d20.kb,k1,k8,fun age Ha ga a0 a1=>?_⟩
      have da:=d6.grc ga
      refine⟨_,rfl,_,rfl,_,rfl,b,x.m,x.mt,x.ml,x.kd,D,nm,_,rfl,da.bx,by omega,da.en.lm,fun c Hb gb c0 c1=>?_⟩
      have db:=da.grc gb
      refine⟨_,rfl,b,_,_,rfl,db.bx,by omega,by decide,by decide,fun d Hc dd0 dd1 gc=>⟨_,_,_,rfl,?_⟩⟩
      have dc:=db.grc gc
      have tl:=bJ d20.ok.tp
      refine⟨_,rfl,x.a.p,rfl,dc.en.dl.dr.no,_,rfl,_,rfl,_,rfl,_,rfl,_,rfl,x.m,x.mt,x.ml,x.kd,D,nm,age,c,d,rfl,dc.en.lm,tl,hnm,a0,a1,c0,c1,⟨dd0,dd1⟩,fun pr Hd sd hpr=>?_⟩
      have ddn:=dc.same sd
      have rc:Zn D ⟨nm,age,Zk D.t (Ql D age) nm c d⟩=qN D nm age (some (c,d)):=by unfold Zn;simp only;rw[bg d20.ok.tp c0 c1 ⟨dd0,dd1⟩]
      refine⟨x.a,D,L,.ref pr,some ⟨nm,age,Zk D.t (Ql D age) nm c d⟩,rfl,ddn.en.dl,by omega,d20.ok,⟨pr,rfl,hpr,⟨hnm,aN ..,cI d20.ok.tp c0 c1 ⟨dd0,dd1⟩⟩⟩,(fun z=>nomatch z),fun P eP pr' q2 He epr me _ hq2 de=>?_⟩
      obtain rfl:_=P:=Option.some.inj eP
      rw[rc]at hq2 de
      have dne:=ddn.door (pZ me) de
      obtain⟨scJ,szJ⟩:=lC D nm age (some (c,d))
      refine⟨_,rfl,_,rfl,_,rfl,_,rfl,_,rfl,x.m,x.mt,x.ml,x.kd,D,nm,age,c,d,rfl,dne.en.lm,d20.ok,fun q3 Hf mf hq3 lmf=>?_⟩
      have dnf:=dne.law (rH mf) lmf
      obtain⟨f9,ek9,_⟩:=id dne.en.lm.kb
      have ntk:NT [x.kd] He:=NT.one ek9 trivial
      refine⟨_,_,rfl,Eqv.scal (.inl (mf.tup ntk hq2)) (.inl hq3) (by rw[sizeLine_eq];omega) scJ,fun Hg sg=>?_⟩
      have dng:=dnf.same sg
      exact q _ _ _ dng.mv (dng.bx.mono (by omega)) dng.en (d20.hear a0 a1 c0 c1) (by simp)
end
section
variable{P:Program}{w:World}{K:Frag}{mg:Str->Option Value}{base:Heap}{tk:Nat->Tok}{C:Addr}
theorem ux{f:Addr}{fd:FuncData}(F:Fun K "law" "law" Zi f fd)(T:Txt K mg tk)(U:DCx K C)(dY:Mf P w K mg base C "twin_door" ["self"] 3 (jU K C))(xA:Df P w K mg base "_law_box" ["_law_script","_law_k"] 1 (l9 K))(dA:Df P w K mg base "_law_take" ["_law_box_here","_law_many"] 1 zL)(xR:Df P w K mg base "_law_names" ["_law_box_here","_law_many"] 2 jo)(xL:Df P w K mg base "_law_made" ["_law_box_here","_law_wide"] 3 (iJ K))(dH:Df P w K mg base "_law_listed_door" ["_law_m"] 3 (bq K C))(dI:Df P w K mg base "_law_learns" ["_law_door_here","_law_m","_law_name","_law_age_here","_law_count_here"] 8 (am K C))
  (yE:Df P w K mg base "_law_own" ["_law_m"] 1 (jq K))(dL:Df P w K mg base "_law_seen" ["_law_door_here"] 2 (lO K C))(xV:Df P w K mg base "_law_shown" ["_law_door_here","_law_m"] 2 (jC K C))(xZ:Df P w K mg base "_law_done" ["_law_box_here","_law_door_here","_law_m","_law_names_here"] 9 (gz K C)):FnOk P w K mg base Zz 11 f fd ["_law_script"] (gx K):=by
 refine F.dq sc_law (fun vs H Q E h=>?_) (fun cdv A outer s H vs Q E hr h=>?_)
 ·obtain⟨x,ns,rfl,_⟩:=h
  rfl
 ·obtain⟨sc,ns,rfl,hS,hlen,q⟩:=h
  refine⟨_,(qd (ni (i:=1) (j:=2) rfl sc_law.nd rfl rfl (by decide) rfl rfl (qb (qm xL hr.mo (qb (qm xA hr.mo (qb (qv 0) (qb qe qa))) (qb Qs qa))) (qb (qm xL hr.mo (qb (qm xA hr.mo (qb (qv 0) (qb qe qa))) (qb Qs qa))) qa)))
   (qd (qz (i:=3) sc_law.nd rfl (Or.inl rfl) (qm xR hr.mo (qb (qm xA hr.mo (qb (qv 0) (qb qe qa))) (qb qe qa))))
   (qd (qz (i:=4) sc_law.nd rfl (Or.inl rfl) (zk (qb (zk (qb (qm dH hr.mo (qb (qv 1) qa)) (qb (qv 1) qa))) (qb (zk (qb (qm dH hr.mo (qb (qv 2) qa)) (qb (qv 2) qa))) qa))))
   (qd (zC PassesOwn.never rfl (zZ (qv 4)) (zI rfl (qq (ql (i:=5) sc_law.nd rfl (Or.inl rfl)) (qq (ql (i:=6) sc_law.nd rfl (Or.inl rfl)) qY)))
   (qf (qV (qm dI hr.mo (qb (qv 5) (qb (qv 6) (qb (qB qD (qv 3) qe (fun _ _=>rfl)) (qb qe (qb qe qa)))))))))
   (qd (zC PassesOwn.never rfl (mN rfl T.b_range (qb qe (qb (qp (ZN rfl) (by rfl) T.b_max PyProof.Rows.boot_max (qb qe (qb (qp (fM rfl) (by rfl) T.b_min PyProof.Rows.boot_min (qb qe (qb (qp qF (by rfl) T.b_len PySem.boot_len (qb (qv 0) qa)) qa))) qa))) qa))) (ql (i:=7) sc_law.nd rfl (Or.inl rfl))
   (qd (qz (i:=8) sc_law.nd rfl (Or.inl rfl) (qm xA hr.mo (qb (qv 0) (qb (qv 7) qa))))
   (qd (qI (QW.pt (Qn (qu zy (qp qF (by rfl) T.b_len PySem.boot_len (qb (qv 4) qa)) qe (qr _)) (QK (QW.pt (zE (qu zy (qv 7) qe (qr _)) (zJ (qu zy (qm dA hr.mo (qb (qv 8) (qb qe qa))) qe (qr _)))))))) (qd (qV (Qq PySem.F.plainAttrs_list PySem.F.slot_list_append PySem.F.type_list_append zm (qv 4) (qb (zk (qb (zG dY U.cl hr.mo (qB qD (qB qD (qv 4) qe (fun _ _=>rfl)) qe (fun _ _=>rfl))) (qb (qm yE hr.mo (qb (qB qD (qB qD (qv 4) qe (fun _ _=>rfl)) qe (fun _ _=>rfl)) qa)) qa))) qa)))
   (qf (qI (qu (bv hr) (qm dL hr.mo (qb (qB qD (qB qD (qv 4) qe (fun _ _=>rfl)) qe (fun _ _=>rfl)) qa)) (qm dL hr.mo (qb (qB qD (qB qD (qv 4) qe (fun _ _=>rfl)) qe (fun _ _=>rfl)) qa)) (qr _)) (qf (qj Qs)) qx))) qx)
   (qf (zC PassesOwn.never rfl (QF rfl T.b_range (qb qe qa)) (ql (i:=9) sc_law.nd rfl (Or.inl rfl))
   (qd (qz (i:=10) sc_law.nd rfl (Or.inl rfl) (qm dA hr.mo (qb (qv 8) (qb (qp qF (by rfl) T.b_len PySem.boot_len (qb (qv 4) qa)) qa))))
   (qd (j1 (i:=11) sc_law.nd rfl (Or.inl rfl) (own:=["_law_door_here","_law_m"]) (fr:=[]) (js:=[]) rfl (zZ (qv 4)) rfl (fun _ _ h=>nomatch h) rfl (cB rfl (by decide +kernel) (by decide +kernel) (by decide +kernel)) (fun _ _ _ _=>sq (K:=K) rfl 2 rfl (qq (ql (i:=0) (show List.Nodup (["_law_door_here","_law_m"]:List Str)from by decide +kernel) rfl (Or.inl rfl) (.inr rfl)) (qq (ql (i:=1) (show List.Nodup (["_law_door_here","_law_m"]:List Str)from by decide +kernel) rfl (Or.inl rfl) (.inr rfl)) qY))) (fun _ _ _ _=>(qm dL hr.mo (qb (qv 0) qa))))
   (qd (qI (zB (zn (qm xZ hr.mo (qb (qv 8) (qb (qB qD (qB qD (qv 4) (qv 10) (fun _ _=>rfl)) qe (fun _ _=>rfl)) (qb (qB qD (qB qD (qv 4) (qv 10) (fun _ _=>rfl)) qe (fun _ _=>rfl)) (qb (qv 3) qa))))))) (qf (qj Qs)) qx)
   (qf (zC PassesOwn.never rfl (jr rfl T.b_enumerate (qb (qv 4) qa)) (dn rfl (qq (ql (i:=12) sc_law.nd rfl (Or.inl rfl)) (qq (zI rfl (qq (ql (i:=5) sc_law.nd rfl (Or.inl rfl)) (qq (ql (i:=6) sc_law.nd rfl (Or.inl rfl)) qY))) qY)))
   (qd (qz (i:=13) sc_law.nd rfl (Or.inl rfl) (qm dL hr.mo (qb (qv 5) qa)))
   (qd (qI (QW.pt (zE (QW.pt (Qn (qu bM (qv 12) (qv 10) (qr _)) (QK (qu (bv hr) (qv 13) (qB qD (qv 11) (qv 12) (fun _ _=>rfl)) (qr _))))) (zE (zB (zn (qm xV hr.mo (qb (qv 5) (qb (qv 6) qa))))) (zJ (qu (bv hr) (qm dL hr.mo (qb (qv 5) qa)) (qv 13) (qr _)))))) (qf (qj Qs)) qx)
   (qf (qI (QW.pt (zE (qu (bv hr) (qB zo (qv 13) qe (fun _ _=>rfl)) (qC qP (by rfl) T.b_tuple PyProof.Rows.boot_tuple (qb (qy hr (qv 6) qh) qa)) (qr _)) (zE (qu bM (qB zo (qv 13) qe (fun _ _=>rfl)) (qy hr (qv 6) qh) (qr _)) (zJ (qu (bv hr) (qB zo (qv 13) qe (fun _ _=>rfl)) (qy hr (qv 6) qh) (qr _)))))) (qf (qj Qs)) qx))))))))))))))
   (qf (qj Qs))))))),?_⟩
  refine⟨_,rfl,sc,ns,0,rfl,hS,by decide,fun b0 H1 hb0 s1 bx0=>?_⟩
  refine⟨b0,0,rfl,bx0,by omega,fun m1 mt1 ml1 kd1 D1 H2 g2 fm1 fl1 fk1 lm1 nw1 k81=>?_⟩
  have S2:=cD hb0 s1 g2
  refine⟨_,rfl,sc,ns,1,rfl,S2.seq hS,by decide,fun b1 H3 hb1 s3 bx1=>?_⟩
  refine⟨b1,0,rfl,bx1,by omega,fun m2 mt2 ml2 kd2 D2 H4 g4 fm2 fl2 fk2 lm2 nw2 k82=>⟨_,_,rfl,?_⟩⟩
  have S24:=cD hb1 s3 g4
  refine⟨_,rfl,sc,ns,2,rfl,(S2.trans S24).seq hS,by decide,fun b2 H5 hb2 s5 bx2=>?_⟩
  refine⟨b2,4,0,rfl,bx2,by omega,by decide,fun nl nms H6 g6 fnl hnl nlen nd nnm=>?_⟩
  have S46:=cD hb2 s5 g6
  have lm1':=lm1.same (S24.trans S46)
  have lm2':=lm2.same S46
  have S6:=(S2.trans S24).trans S46
  have F1:=ei fm1 fl1 fk1
  have F2:=ei fm2 fl2 fk2
  refine⟨_,rfl,m1,mt1,ml1,kd1,D1,rfl,lm1',nw1,k81,fun a1 H7 s7 p1 p2 p3 p4 dl1=>?_⟩
  refine⟨_,rfl,by show 2<=sizeLine;decide,fun e1 he1=>?_⟩
  have A1:=eQ p1 p2 p3 p4
  have u8:=Same.upd (o:= .lst [.ref a1.p,.ref m1]) he1
  have t8:(upd H7 e1 (.lst [.ref a1.p,.ref m1])) e1=some (.lst [.ref a1.p,.ref m1]):=qc
  generalize upd H7 e1 (.lst [.ref a1.p,.ref m1])=H8 at u8 t8⊢
  refine⟨_,rfl,m2,mt2,ml2,kd2,D2,rfl,lm2'.same (s7.trans u8),nw2,k82,fun a2 H9 s9 r1 r2 r3 r4 dl2=>?_⟩
  refine⟨_,rfl,by show 2<=sizeLine;decide,fun e2 he2=>?_⟩
  have A2:=eQ r1 r2 r3 r4
  have u10:=Same.upd (o:= .lst [.ref a2.p,.ref m2]) he2
  have t10:(upd H9 e2 (.lst [.ref a2.p,.ref m2])) e2=some (.lst [.ref a2.p,.ref m2]):=qc
  generalize upd H9 e2 (.lst [.ref a2.p,.ref m2])=H10 at u10 t10⊢
  refine⟨by show 2<=sizeLine;decide,fun wl hwl=>?_⟩
  have u11:=Same.upd (o:= .lst [.ref e1,.ref e2]) hwl
  have t11:(upd H10 wl (.lst [.ref e1,.ref e2])) wl=some (.lst [.ref e1,.ref e2]):=qc
  generalize upd H10 wl (.lst [.ref e1,.ref e2])=H11 at u11 t11⊢
  have L1:∀z∈[m1,ml1,kd1],H2 z≠none:=fun z hz=>lm1.there hz
  have L2':∀z∈[m2,ml2,kd2],H6 z≠none:=fun z hz=>lm2'.there hz
  have P1:∀z∈dS a1++[m1,ml1,kd1],H7 z≠none:=fun z hz=>(List.mem_append.mp hz).elim (fun h=>dl1.there h) fun h=>(lm1'.same s7).there h
  have P2:∀z∈dS a2++[m2,ml2,kd2],H9 z≠none:=fun z hz=>(List.mem_append.mp hz).elim (fun h=>dl2.there h) fun h=>(lm2'.same (s7.trans (u8.trans s9))).there h
  have S8A:=(s9.trans u10).trans u11
  have en1:Enf K C H11 ⟨e1,a1,m1,mt1,ml1,kd1⟩ D1 [] D1:=(gW t8 (dl1.same u8) (lm1'.same (s7.trans u8)) (apart (fun z hz=>lm1'.there hz) A1) (fun z hz w=>P1 z hz (w▸he1))).same S8A
  have en2:Enf K C H11 ⟨e2,a2,m2,mt2,ml2,kd2⟩ D2 [] D2:=(gW t10 (dl2.same u10) (lm2'.same (s7.trans (u8.trans (s9.trans u10)))) (apart (H:=H8) (fun z hz=>(lm2'.same (s7.trans u8)).there hz) A2) (fun z hz w=>P2 z hz (w▸he2))).same u11
  have S11:Same H H11:=S6.trans (s7.trans (u8.trans S8A))
  have nle:H6 nl≠none:=fun z=>by rw[hnl]at z;cases z
  have e1e:H8 e1≠none:=fun z=>by rw[t8]at z;cases z
  have S8:=S6.trans (s7.trans u8)
  have qw:Qw K C H H11 wl [(⟨e1,a1,m1,mt1,ml1,kd1⟩,D1,[]),(⟨e2,a2,m2,mt2,ml2,kd2⟩,D2,[])]:=by
   refine Qw.two S11 en1 en2 (fun z hz w=>?_) (fun w=>?_) (fun w=>P1 _ w ?_) (fun z hz=>?_) (fun z hz=>?_) (fun z=>?_) (fun z=>?_) t11 (fun w=>P1 _ w ?_) (fun w=>P2 _ w ?_) ?_
   ·rcases List.mem_append.mp hz with hz1|hz1
    ·rcases List.mem_append.mp w with w|w
     ·exact zg u8 (dl1.there hz1) (A2 z w)
     ·exact L2' z w (A1 z hz1)
    ·rcases List.mem_append.mp w with w|w
     ·exact zg u8 (P1 z hz) (A2 z w)
     ·exact zg s3 (L1 z hz1) (F2 z w)
   ·rcases List.mem_append.mp w with w|w
    ·exact e1e (A2 _ w)
    ·exact zg s7 (L2' _ w) he1
   ·exact za he2 (u8.trans s9)
   ·rcases List.mem_append.mp hz with h|h
    ·exact za (A1 z h) S6
    ·exact za (F1 z h) s1
   ·rcases List.mem_append.mp hz with h|h
    ·exact za (A2 z h) S8
    ·exact za (F2 z h) (S2.trans s3)
   ·have z:e1=wl:=z
    exact zg (s9.trans u10) e1e (z▸hwl)
   ·have z:e2=wl:=z
    rw[<- z,t10]at hwl;cases hwl
   ·exact za hwl (u8.trans (s9.trans u10))
   ·exact za hwl u10
   ·exact za hwl (S8.trans (s9.trans u10))
  have wl0:Wl K C H H11 wl nl nms [(⟨e1,a1,m1,mt1,ml1,kd1⟩,D1,[]),(⟨e2,a2,m2,mt2,ml2,kd2⟩,D2,[])] 1:=by
   refine⟨qw,(s7.trans (u8.trans S8A)) _ _ hnl,by omega,⟨fun z=>?_,za fnl ((S2.trans S24).trans s5),fun i x hx=>?_⟩,fun i x hx=>?_⟩
   ·exact zg (s7.trans (u8.trans (s9.trans u10))) nle (z▸hwl)
   ·match i,hx with
    |0,hx=>
     cases hx
     refine⟨fun w=>?_,fun w=>zg s7 nle (w▸he1)⟩
     rcases List.mem_append.mp w with w|w
     ·exact nle (A1 _ w)
     ·exact zg (S24.trans s5) (L1 _ w) fnl
    |1,hx=>
     cases hx
     refine⟨fun w=>?_,fun w=>zg (s7.trans (u8.trans s9)) nle (w▸he2)⟩
     rcases List.mem_append.mp w with w|w
     ·exact zg (s7.trans u8) nle (A2 _ w)
     ·exact(lm2.same s5).there w fnl
    |i+2,hx=>cases hx
   ·match i,hx with
    |0,hx=>cases hx;exact⟨D20.new nw1,by show 0<=1;decide⟩
    |1,hx=>cases hx;exact⟨D20.new nw2,by show 0<=1;decide⟩
    |i+2,hx=>cases hx
  clear qw en1 en2 P1 P2 L1 L2' S8A A1 A2 F1 F2
  obtain⟨_,z1,_,_,_,_,_,_,_,n1⟩:=id nw1
  obtain⟨_,z2,_,_,_,_,_,_,_,n2⟩:=id nw2
  refine⟨_,rfl,wl,rfl,⟨_,SqL.of t11⟩,?_⟩
  refine Zv (K:=K) (xs:=[.ref e1,.ref e2]) (Pv:=fun i σ Hx=>∃ys,Wl K C H Hx wl nl nms ys 1/\ys.map (·.1)=[⟨e1,a1,m1,mt1,ml1,kd1⟩,⟨e2,a2,m2,mt2,ml2,kd2⟩]/\(∀(j:Nat) (y:Ef),ys[j]? =some y->y.2.1.least=0/\(i<=j->y.2.1.kn=[]/\y.2.2=[]))/\∃o5 o6,σ=[some (.ref sc),some (.ref m1),some (.ref m2),some (.ref nl),some (.ref wl),o5,o6,none,none,none,none,none,none,none]) ⟨_,wl0,rfl,fun j y hj=>?_,_,_,rfl⟩ ?_ ?_ ?_
  ·match j,hj with
   |0,hj=>cases hj;exact⟨z1,fun _=>⟨n1,rfl⟩⟩
   |1,hj=>cases hj;exact⟨z2,fun _=>⟨n2,rfl⟩⟩
   |j+2,hj=>cases hj
  ·rintro i σ Hx _ ⟨ys,w1,em,_,_⟩
   have pe:=w1.qw.pe
   rw[show(ys.map fun x=>V.ref x.1.e)=(ys.map (·.1)).map (fun f:Fm=>V.ref f.e) by rw[List.map_map];rfl,em]at pe
   exact SqL.of pe
  ·rintro i v σ Hx hv ⟨ys,w1,em,hy,o5,o6,rfl⟩
   have ev:(ys.map fun x=>V.ref x.1.e)=[.ref e1,.ref e2]:=by rw[show(ys.map fun x=>V.ref x.1.e)=(ys.map (·.1)).map (fun f:Fm=>V.ref f.e) by rw[List.map_map];rfl,em];rfl
   rw[<- ev,List.getElem?_map]at hv
   cases ey:ys[i]? with
   |none=>rw[ey]at hv;cases hv
   |some y=>
    rw[ey]at hv
    obtain rfl:V.ref y.1.e=v:=Option.some.inj hv
    have en:=w1.qw.en i y ey
    obtain⟨dk,lk⟩:=w1.ok i y ey
    obtain⟨yl,yk⟩:=hy i y ey
    obtain⟨yk,yL⟩:=yk (Nat.le_refl _)
    refine⟨y.1.e,_,rfl,.inl (SqL.of en.tu),rfl,_,_,rfl,_,_,rfl,rfl,?_⟩
    have hn0:0<nms.length:=by omega
    refine⟨_,rfl,_,rfl,_,rfl,nl,_,_,.str nms[0],rfl,rfl,SqL.of w1.hn,QH (j:=0) (by rw[List.getElem?_map,List.getElem?_eq_getElem hn0];rfl),?_⟩
    have k1:=dk.k1
    refine⟨y.1,y.2.1,y.2.2,nms[0],0,5,rfl,en,by omega,dk,yl,nnm _ (List.getElem_mem hn0),by decide,by omega,by decide,by decide,by rw[yk];rfl,by rw[yk];have:=dk.m1;show(0:Int)<_;omega,fun r Hy my ey'=>?_⟩
    refine⟨_,w1.step0 ey my ey' (dk.learn (by decide) (by omega) (by decide) (by decide) (by rw[yk];have:=dk.m1;show(0:Int)<_;omega)) (by rw[yL];show 1<=1;decide) (Nat.le_refl _),?_,fun j u hj=>?_,_,_,rfl⟩
    ·rw[<- em]
     refine List.ext_getElem? fun j=>?_
     rw[List.getElem?_map,List.getElem?_map,List.getElem?_set]
     split
     ·rename_i z
      subst z
      rw[ey,if_pos (List.getElem?_eq_some_iff.mp ey).1];rfl
     ·rfl
    ·rcases(Z5 ey hj).2 with⟨rfl,rfl⟩|⟨nj,hj'⟩
     ·exact⟨yl,fun h=>absurd h (by omega)⟩
     ·exact⟨(hy j u hj').1,fun h=>(hy j u hj').2 (by omega)⟩
  rintro σ Hx ⟨ys,w1,em,_,o5,o6,rfl⟩
  have ly:ys.length=2:=by have:=congrArg List.length em;rwa [List.length_map]at this
  clear em
  refine⟨_,rfl,sc,_,rfl,.inl (w1.qw.s.seq hS),_,_,rfl,_,_,rfl,_,_,rfl,⟨by decide,by decide,?_,?_⟩,?_⟩
  ·split<;>split<;>omega
  ·split<;>split<;>omega
  refine aY (Pv:=fun i σ Hx=>∃(ys:List Ef) (o5 o6 o7 o8 o9 oa ob oc od:Option V),Wl K C H Hx wl nl nms ys (1+2*i)/\(ys.length=2\/ys.length=3)/\σ=[some (.ref sc),some (.ref m1),some (.ref m2),some (.ref nl),some (.ref wl),o5,o6,o7,o8,o9,oa,ob,oc,od]) ⟨ys,_,_,_,_,_,_,_,_,_,w1,.inl ly,rfl⟩ ?_ ?_
  ·rintro i σ Hx hi ⟨ys,o5,o6,o7,o8,o9,oa,ob,oc,od,w1,ly,rfl⟩
   have hi12:i<12:=by
    refine Nat.lt_of_lt_of_le hi ?_
    split<;>split<;>omega
   refine⟨_,rfl,_,rfl,sc,ns,2+i,by simp,w1.qw.s.seq hS,by omega,fun b H1 hb s1 bx=>?_⟩
   have ob1:Out H wl ys b:=w1.qw.free hb
   have w2:=w1.same s1
   refine pG (fun σ' H'=>∃(zs:List Ef) (o5 o6 o9 oa ob oc od:Option V),Wl K C H H' wl nl nms zs (1+2*i)/\(zs.length=2\/zs.length=3)/\BoxC H' b 1/\Out H wl zs b/\σ'=[some (.ref sc),some (.ref m1),some (.ref m2),some (.ref nl),some (.ref wl),o5,o6,some (.int (2+(i:Int))),some (.ref b),o9,oa,ob,oc,od]) (fun D' hrt hnx=>?_) ?_
   ·refine uM (fun bb H'=>Wl K C H H' wl nl nms ys (1+2*i)/\BoxC H' b 1/\(bb=true->ys.length=2)) (fun Q' hQ=>?_) (fun H' ⟨w3,bx3,l2⟩=>?_) (fun H' ⟨w3,bx3,_⟩=>hnx _ _ ⟨ys,_,_,_,_,_,_,_,w3,ly,bx3,ob1,rfl⟩)
    ·refine⟨_,rfl,wl,_,rfl,.inl (SqL.of w2.qw.pe),rfl,_,rfl,?_⟩
     refine qL (fun y=>?_) (fun _=>hQ _ _ ⟨w2,bx.mono (by omega),fun z=>nomatch z⟩)
     have l2:ys.length=2:=by
      have y:=of_decide_eq_true y
      injection y with y
      rw[List.length_map]at y
      omega
     refine⟨_,rfl,rfl,_,rfl,?_⟩
     refine qL (fun _=>hQ _ _ ⟨w2,bx.mono (by omega),fun _=>l2⟩) (fun _=>?_)
     exact⟨_,rfl,b,_,_,rfl,bx,by omega,by decide,by decide,fun r H2 _ _ g2=>⟨rfl,_,rfl,hQ _ _ ⟨w2.box bx g2 ob1,g2.bx,fun _=>l2⟩⟩⟩
    ·have l2:=l2 rfl
     have h0:0<ys.length:=by omega
     have ey:=List.getElem?_eq_getElem h0
     generalize ys[0]=y at ey
     have en:=w3.qw.en 0 y ey
     obtain⟨dk,lk⟩:=w3.ok 0 y ey
     have at0:=w3.qw.at ey
     refine⟨_,rfl,.inl ⟨rfl,_,SqL.of w3.qw.pe⟩,_,rfl,wl,_,_,_,rfl,rfl,SqL.of w3.qw.pe,at0,y.1.e,_,_,.ref y.1.a.p,rfl,rfl,SqL.of en.tu,rfl,y.1.a.p,rfl,en.dl.dr.no,y.1.a,y.2.1,y.2.2,rfl,en.dl,dk.ok.kl,fun a' H4 s4 f1 f2 f3 f4 dl4=>?_⟩
     have w4:=w3.same s4
     have en4:=en.same s4
     refine⟨_,rfl,wl,_,_,_,rfl,rfl,SqL.of w4.qw.pe,at0,y.1.e,_,_,.ref y.1.m,rfl,rfl,SqL.of en4.tu,rfl,y.1.m,y.1.mt,y.1.ml,y.1.kd,y.2.1,rfl,en4.lm,dk.ok.kl,fun m' ml' kd' H5 s5 g1 g2 g3 lm5=>?_⟩
     refine⟨by show 2<=sizeLine;decide,fun e' he'=>?_⟩
     have A:=eQ f1 f2 f3 f4
     have B:=ei g1 g2 g3
     have u6:=Same.upd (o:= .lst [.ref a'.p,.ref m']) he'
     have dl6:=(dl4.same s5).same u6
     have lm6:=lm5.same u6
     have t6:(upd H5 e' (.lst [.ref a'.p,.ref m'])) e'=some (.lst [.ref a'.p,.ref m']):=qc
     generalize upd H5 e' (.lst [.ref a'.p,.ref m'])=H6 at u6 dl6 lm6 t6⊢
     have S:=s4.trans (s5.trans u6)
     have en6:Enf K C H6 ⟨e',a',m',y.1.mt,ml',kd'⟩ y.2.1 y.2.2 y.2.1:=gW t6 dl6 lm6 (fun z hz w=>dl4.there w (B z hz)) (fun z hz w=>(List.mem_append.mp hz).elim (fun h=>(dl4.same s5).there h (w▸he')) fun h=>lm5.there h (w▸he'))
     have fF:∀z∈fS ⟨e',a',m',y.1.mt,ml',kd'⟩,H' z=none:=fun z hz=>(List.mem_append.mp hz).elim (fun h=>A z h) fun h=>za (B z h) s4
     have fE:H' e'=none:=za he' (s4.trans s5)
     have w7:=w3.add S en6 fF fE dk lk
     refine⟨wl,_,_,rfl,rfl,S _ _ w3.qw.pe,by rw[List.length_map,sizeLine_eq];omega,?_⟩
     have bx7:BoxC (upd H6 wl (.lst ((ys.map fun x=>V.ref x.1.e)++[.ref e']))) b 1:=((S.grc bx3).bx).moved Mv.upd1 (qK ob1.1)
     have ob7:Out H wl (ys++[(⟨e',a',m',y.1.mt,ml',kd'⟩,y.2.1,y.2.2)]) b:=ob1.add (H:=H') (fun z=>by obtain⟨_,_,_,e,_⟩:=bx3;rw[z]at e;cases e) fF fE
     generalize upd H6 wl (.lst ((ys.map fun x=>V.ref x.1.e)++[.ref e']))=H7 at w7 bx7⊢
     have ey0:(ys++[((⟨e',a',m',y.1.mt,ml',kd'⟩:Fm),y.2.1,y.2.2)])[0]? =some y:=by rw[List.getElem?_append_left h0];exact ey
     have ey2:(ys++[((⟨e',a',m',y.1.mt,ml',kd'⟩:Fm),y.2.1,y.2.2)])[2]? =some ((⟨e',a',m',y.1.mt,ml',kd'⟩:Fm),y.2.1,y.2.2):=by rw[List.getElem?_append_right (by omega),l2];rfl
     have en72:=w7.qw.en 2 _ ey2
     refine⟨_,rfl,wl,_,_,_,rfl,rfl,SqL.of w7.qw.pe,w7.qw.at ey2,e',_,_,.ref a'.p,rfl,rfl,SqL.of en72.tu,rfl,a',y.2.1,y.2.2,rfl,en72.dl,dk.ok,fun q1 H8 s8 sn1=>?_⟩
     have w8:=w7.same s8
     have en80:=w8.qw.en 0 _ ey0
     refine⟨_,rfl,wl,_,_,_,rfl,rfl,SqL.of w8.qw.pe,w8.qw.at ey0,y.1.e,_,_,.ref y.1.a.p,rfl,rfl,SqL.of en80.tu,rfl,y.1.a,y.2.1,y.2.2,rfl,en80.dl,dk.ok,fun q2 H9 s9 sn2=>?_⟩
     refine⟨6,by decide,(sn1.same s9).eqk sn2 dk.ok (by omega),_,rfl,qS ?_⟩
     exact hnx _ _ ⟨_,_,_,_,_,_,_,_,w8.same s9,.inr (by rw[List.length_append,l2];rfl),((s8.trans s9).grc bx7).bx,ob7,rfl⟩
   ·rintro σ' H' ⟨zs,p5,p6,p9,pa,pb,pc,pd,w3,lz,bx3,ob3,rfl⟩
    refine⟨2,rfl,by decide,by decide,aY (n:=2) (Pv:=fun t σ Hy=>∃(zs:List Ef) (p5 p6 p9 pa pb pc pd:Option V),Wl K C H Hy wl nl nms zs (1+2*i+t)/\(zs.length=2\/zs.length=3)/\BoxC Hy b (1+31*t)/\Out H wl zs b/\σ=[some (.ref sc),some (.ref m1),some (.ref m2),some (.ref nl),some (.ref wl),p5,p6,some (.int (2+(i:Int))),some (.ref b),p9,pa,pb,pc,pd]) ⟨zs,_,_,_,_,_,_,_,w3,lz,bx3,ob3,rfl⟩ ?_ ?_⟩
    ·rintro t σ Hy ht ⟨zs,p5,p6,p9,pa,pb,pc,pd,w4,lz,bx4,ob4,rfl⟩
     refine⟨_,rfl,_,rfl,wl,_,rfl,.inl (SqL.of w4.qw.pe),b,_,_,rfl,bx4,by omega,by rw[List.length_map];omega,by rw[List.length_map];omega,fun at0 H5 a0 a1 g5=>?_⟩
     rw[List.length_map]at a1
     obtain⟨j0,rfl⟩:∃j:Nat,at0=(j:Int):=⟨at0.toNat,by omega⟩
     have hj0:j0<zs.length:=by omega
     have w5:=w4.box bx4 g5 ob4
     refine⟨_,rfl,wl,rfl,⟨_,SqL.of w5.qw.pe⟩,?_⟩
     refine kL (K:=K) (xs:=zs.map fun x=>V.ref x.1.e) (by rw[List.length_map,sizeLine_eq];omega) (fun k vs H6=>Same H5 H6/\∃as:List Addr,vs=as.map V.ref/\as.length=k/\∀(j:Nat) (a:Addr) (y:Ef),as[j]? =some a->zs[j]? =some y->SeenAt K H6 a y.2.1 y.2.2) ⟨Same.refl _,[],rfl,rfl,fun j a y h=>(by cases h)⟩ (fun k vs H6 ⟨s6,_⟩=>SqL.of (s6 _ _ w5.qw.pe)) ?_ ?_
     ·rintro k vs H6 v hv hvl ⟨s6,as,rfl,la,ha⟩
      rw[List.getElem?_map]at hv
      cases ey:zs[k]? with
      |none=>rw[ey]at hv;cases hv
      |some y=>
       rw[ey]at hv
       obtain rfl:V.ref y.1.e=v:=Option.some.inj hv
       have en:=(w5.same s6).qw.en k y ey
       obtain⟨dk,lk⟩:=w5.ok k y ey
       refine⟨y.1.e,_,_,rfl,.inl (SqL.of en.tu),?_⟩
       refine⟨_,rfl,y.1.a,y.2.1,y.2.2,rfl,en.dl,dk.ok,fun q1 H7 s7 sn=>?_⟩
       refine⟨s6.trans s7,as++[q1],by simp,by simp [la],fun j a u h1 h2=>?_⟩
       rw[List.getElem?_append]at h1
       split at h1
       ·exact(ha j a u h1 h2).same s7
       ·have hj:j-as.length=0:=by
         cases hj:j-as.length with
         |zero=>rfl
         |succ k=>rw[hj]at h1;cases h1
        rw[hj]at h1
        cases h1
        obtain rfl:j=k:=by omega
        rw[ey]at h2
        cases h2
        exact sn
     ·rintro vs H6 hvl ⟨s6,as,rfl,la,ha⟩ al hal
      rw[List.length_map]at la
      have u7:=Same.upd (o:= .lst (as.map V.ref)) hal
      have t7:(upd H6 al (.lst (as.map V.ref))) al=some (.lst (as.map V.ref)):=qc
      have S57:=s6.trans u7
      have fal:=(w5.same s6).qw.free hal
      have nab:al≠b:=fun z=>by obtain⟨_,_,_,e,_⟩:=(s6.grc g5.bx).bx;rw[<- z,hal]at e;cases e
      generalize upd H6 al (.lst (as.map V.ref))=H7 at u7 t7 S57⊢
      have w7:=w5.same S57
      have ha7:∀(j:Nat) (a:Addr) (y:Ef),as[j]? =some a->zs[j]? =some y->SeenAt K H7 a y.2.1 y.2.2:=fun j a y h1 h2=>(ha j a y h1 h2).same u7
      have ex:=List.getElem?_eq_getElem hj0
      generalize zs[j0]=x at ex
      have en:=w7.qw.en j0 x ex
      obtain⟨dk,lk⟩:=w7.ok j0 x ex
      have bx7:=(S57.grc g5.bx).bx
      refine⟨_,rfl,_,rfl,_,rfl,wl,_,_,_,rfl,rfl,SqL.of w7.qw.pe,w7.qw.at ex,x.1.e,_,_,.ref x.1.a.p,rfl,rfl,SqL.of en.tu,rfl,_,rfl,_,rfl,wl,_,_,_,rfl,rfl,SqL.of w7.qw.pe,w7.qw.at ex,x.1.e,_,_,.ref x.1.m,rfl,rfl,SqL.of en.tu,rfl,_,rfl,?_⟩
      refine⟨b,nl,x.1,x.2.1,x.2.2,_,nms,rfl,bx7,by omega,(ob4.2.2 j0 x ex).1,(ob4.2.2 j0 x ex).2,w7.hn,w7.nb bx7,(w7.no.2.2 j0 x ex).1,by omega,by omega,nnm,en,by omega,dk,fun D' L' H8 m8 bx8 en8 d8 hl8=>⟨_,rfl,qS ?_⟩⟩
      have w8:=w7.step (n':=1+2*i+t+1) ex bx7 ob4 m8 en8 d8 (by omega) (by omega)
      have nt8:NT (b::fS x.1) H7:=fun z hz=>(List.mem_cons.mp hz).elim (fun h=>bO bx7 _ (List.mem_singleton.mpr h)) fun h=>en.nt z h
      have t8:=m8 _ _ (fun z=>(List.mem_cons.mp z).elim nab fun h=>(fal.2.2 j0 x ex).1 h) t7
      have ob8:Out H wl (zs.set j0 (x.1,D',L')) b:=ob4.set ex
      have ln8:(zs.set j0 (x.1,D',L')).length=zs.length:=List.length_set ..
      refine⟨_,rfl,wl,rfl,⟨_,SqL.of w8.qw.pe⟩,?_⟩
      refine cy (K:=K) (a:=wl) (xs:=(zs.set j0 (x.1,D',L')).map fun x=>V.ref x.1.e) (fun j σ Hz=>Same H8 Hz/\∃o5 o6 oc od,σ=[some (.ref sc),some (.ref m1),some (.ref m2),some (.ref nl),some (.ref wl),o5,o6,some (.int (2+(i:Int))),some (.ref b),some (.int (0+(t:Int))),some (.int (j0:Int)),some (.ref al),oc,od]) ⟨Same.refl _,_,_,_,_,rfl⟩ (fun j σ Hz _ ⟨sz,_⟩=>SqL.of (sz _ _ w8.qw.pe)) ?_ ?_
      ·rintro j v σ Hz p hv ⟨sz,o5,o6,oc,od,rfl⟩ hp
       rw[List.getElem?_map]at hv
       cases ey:(zs.set j0 (x.1,D',L'))[j]? with
       |none=>rw[ey]at hv;cases hv
       |some y=>
        rw[ey]at hv
        obtain rfl:V.ref y.1.e=v:=Option.some.inj hv
        have u9:=Same.upd (o:= .tup [.int j,.ref y.1.e]) hp
        have t9:(upd Hz p (.tup [.int j,.ref y.1.e])) p=some (.tup [.int j,.ref y.1.e]):=qc
        generalize upd Hz p (.tup [.int j,.ref y.1.e])=H9 at u9 t9⊢
        have S9:=sz.trans u9
        have en9:=(w8.same S9).qw.en j y ey
        obtain⟨dy,ly'⟩:=w8.ok j y ey
        refine⟨p,_,rfl,SqT.of t9,rfl,_,_,rfl,_,_,rfl,y.1.e,_,rfl,.inl (SqL.of en9.tu),rfl,_,_,rfl,_,_,rfl,rfl,rfl,?_⟩
        refine⟨_,rfl,y.1.a,y.2.1,y.2.2,rfl,en9.dl,dy.ok,fun q1 Ha sa sn=>?_⟩
        have ena:=en9.same sa
        refine jn (fun bb H'=>bb=false/\Same Ha H') (fun Q' hQ=>?_) (fun H' ⟨z,_⟩=>by cases z) (fun Hb ⟨_,sb⟩=>?_)
        ·refine uf (fun H'=>H'=Ha) (fun Q2 hQ2=>?_) (fun H' eH=>?_)
         ·refine⟨_,rfl,_,rfl,rfl,_,rfl,?_⟩
          refine qL (fun y0=>?_) (fun _=>hQ2 _ rfl)
          have nj:j≠j0:=fun z=>by rw[z]at y0;simp at y0
          have eyj:zs[j]? =some y:=by
           rcases(Z5 ex ey).2 with⟨h,_⟩|⟨_,h⟩
           ·exact absurd h nj
           ·exact h
          have hj:j<as.length:=by have:=(List.getElem?_eq_some_iff.mp eyj).1;omega
          have ea:=List.getElem?_eq_getElem hj
          have sna:=((ha7 j as[j] y ea eyj).mv m8 nt8).same (S9.trans sa)
          exact⟨_,rfl,_,rfl,_,rfl,al,_,_,.ref as[j],rfl,rfl,SqL.of ((S9.trans sa) _ _ t8),QH (by rw[List.getElem?_map,ea];rfl),6,by decide,sn.eqk sna dy.ok (by omega),_,rfl,hQ2 _ rfl⟩
         ·subst eH
          refine⟨_,rfl,_,rfl,y.1.ad,_,_,rfl,ena.bo dy.ok,fun Hc sc'=>⟨_,rfl,qS ?_⟩⟩
          have enc:=ena.same sc'
          refine⟨_,rfl,y.1.a,y.2.1,y.2.2,rfl,enc.dl,dy.ok,fun q2 Hd sd sn2=>⟨_,rfl,6,by decide,sn2.eqk (sn.same (sc'.trans sd)) dy.ok (by omega),_,rfl,hQ _ _ ⟨rfl,sc'.trans sd⟩⟩⟩
        ·have enb:=ena.same sb
         obtain⟨k,ks,bd,tb,lg,ss,bs,e,pm,so,sh,e1',l1,r1,e2',e3,lt⟩:=sn.same sb
         obtain⟨cs,eh,lc,hcs⟩:=id enb.lm.ks
         refine⟨_,rfl,q1,_,_,.ref ks,rfl,rfl,SqT.of e,rfl,_,rfl,y.1.m,_,rfl,enb.lm.g_keys,y.1.ml,_,rfl,.inl ⟨SqL.of eh,fun tt htt=>?_⟩⟩
         have uc:=Same.upd (o:= .tup (cs.map V.ref)) htt
         have lmc:=enb.lm.same uc
         refine⟨2,by decide,gM (Same.sqt uc e1') l1 (fun i a z h1 h2=>Same.sqt uc (r1 i a z h1 h2)) (SqT.of qc) lc (fun i a z h1 h2=>Same.sqt uc (hcs i a z h1 h2)),_,rfl,qS ?_⟩
         refine⟨_,rfl,q1,_,_,.int y.2.1.least,rfl,rfl,SqT.of (uc _ _ e),rfl,_,rfl,y.1.m,_,rfl,lmc.g_closed,rfl,_,rfl,?_⟩
         refine cK rfl ?_
         refine⟨_,rfl,q1,_,_,.ref tb,rfl,rfl,SqT.of (uc _ _ e),rfl,_,rfl,y.1.m,_,rfl,lmc.g_table,1,by decide,Zw (Same.sqt uc e3) lmc.tb,_,rfl,qS ?_⟩
         exact⟨S9.trans (sa.trans (sb.trans uc)),_,_,_,_,rfl⟩
      ·rintro σ Hz ⟨sz,o5,o6,oc,od,rfl⟩
       exact⟨_,_,_,_,_,_,_,_,w8.same sz,by rw[ln8];exact lz,((sz.grc bx8).bx).mono (by omega),ob8,rfl⟩
    ·rintro σ Hy ⟨zs,p5,p6,p9,pa,pb,pc,pd,w4,lz,bx4,ob4,rfl⟩
     exact⟨zs,_,_,_,_,_,_,_,_,_,w4.mono (by omega),lz,rfl⟩
  ·rintro σ Hx ⟨ys,o5,o6,o7,o8,o9,oa,ob,oc,od,w1,ly,rfl⟩
   exact q _
end
theorem tK{l:W.OpenLaw}{w:World}{K:Frag}{h:Heap}{mg:Str->Option Value}{fa:Addr}(X:K.In h)(G:h.Ns mainGlobals mg)(hfa:mg "law"=some (.ref fa))
  {C:Addr}
  (aCD:W.nsIn K mainGlobals "Door"=some (some (.ref C)))
  (pgD:W.plainGet K C Str.empty=true)
  (hdD:W.hasDictIn K C=true)
  (poD:W.plainOver K C=true)
  (saD:W.findIn K (.ref C) "__setattr__"=some (some (.builtin "object.__setattr__")))
  (mkD:W.makesIn K C=true)
  (kcD:W.keepIn K (.ref C)=true)
  (n_D_table:W.findIn K (.ref C) "table"=some none)
  (n_D_house_keys:W.findIn K (.ref C) "house_keys"=some none)
  (n_D_near:W.findIn K (.ref C) "near"=some none)
  (n_D_far:W.findIn K (.ref C) "far"=some none)
  (n_D_most:W.findIn K (.ref C) "most"=some none)
  (n_D_least_age:W.findIn K (.ref C) "least_age"=some none)
  (n_D_buttons:W.findIn K (.ref C) "buttons"=some none)
  (n_D_log:W.findIn K (.ref C) "log"=some none)
  (A0:Ac K mg "is_number" ZX)
  (A1:Ac K mg "is_digit" aB)
  (A2:Ac K mg "are_digits" Zt)
  (A3:Ac K mg "back_table" Zr)
  (A4:Ac K mg "coded" eW)
  (A5:Ac K mg "decoded" br)
  (A6:Ac K mg "is_name" be)
  (A7:Ac K mg "is_code" aL)
  (A8:Ac K mg "is_press" Z9)
  (A9:Ac K mg "letter_digits" QP)
  (A10:Ac K mg "key_of" cn)
  (A11:Ac K mg "count_digits" Q3)
  (A12:Ac K mg "press_of" az)
  (A13:Ac K mg "read_press" Zx)
  (A14:Ac K mg "word_of" aT)
  (A15:Ac K mg "step_by" bp)
  (A16:Acm K C "__init__" "Door.__init__" Zc)
  (A17:Acm K C "is_full" "Door.is_full" QY)
  (A18:Acm K C "button_of" "Door.button_of" Qu)
  (A19:Acm K C "takes_age" "Door.takes_age" QB)
  (A20:Acm K C "takes_from" "Door.takes_from" Qi)
  (A21:Acm K C "plain_step" "Door.plain_step" Qe)
  (A22:Acm K C "answer_to" "Door.answer_to" Qx)
  (A23:Acm K C "hear" "Door.hear" ZV)
  (A24:Acm K C "read_right" "Door.read_right" Qh)
  (A25:Acm K C "learn" "Door.learn" ZA)
  (A26:Acm K C "forget" "Door.forget" Zg)
  (A27:Acm K C "turn_key" "Door.turn_key" QL)
  (A28:Acm K C "close_below" "Door.close_below" zY)
  (A29:Acm K C "known_now" "Door.known_now" Qy)
  (A30:Acm K C "keys_now" "Door.keys_now" QU)
  (A31:Acm K C "closed_now" "Door.closed_now" Qj)
  (A32:Acm K C "bounds_told" "Door.bounds_told" zT)
  (A33:Acm K C "table_told" "Door.table_told" Qf)
  (A34:Acm K C "log_now" "Door.log_now" QZ)
  (A35:Acm K C "twin_door" "Door.twin_door" QC)
  (A36:Ac K mg "_law_box" a8)
  (A37:Ac K mg "_law_take" av)
  (A38:Ac K mg "_law_table" ZQ)
  (A39:Ac K mg "_law_key" aK)
  (A40:Ac K mg "_law_names" Z0)
  (A41:Ac K mg "_law_bounds" ZH)
  (A42:Ac K mg "_law_made" aA)
  (A43:Ac K mg "_law_press" ZY)
  (A44:Ac K mg "_law_learns" ZF)
  (A45:Ac K mg "_law_due" aQ)
  (A46:Ac K mg "_law_count" ZU)
  (A47:Ac K mg "_law_age" aS)
  (A48:Ac K mg "_law_shown" ZZ)
  (A49:Ac K mg "_law_same" ay)
  (A50:Ac K mg "_law_seen" ao)
  (A51:Ac K mg "_law_own" aV)
  (A52:Ac K mg "_law_listed_door" Qk)
  (A53:Ac K mg "_law_done" aj)
  {f54:Addr}{od54 an54:Option Addr}{sl54:Array (Option Value)}{oc54 kV54 dc54 pm54 cd54 ct54:Value}
  (a54:W.nsIn K mainGlobals "law"=some (some (.ref f54)))
  (l54:K.lookup f54=some ⟨oc54,od54,.func (W.fnOf "law" "law" (zM Zi) (zf Zi) (qg Zi) .none kV54 dc54 pm54 an54 cd54 ct54),sl54⟩)
  (c54:W.codeIn K cd54 "law"=true)
  (k54:W.keepIn K (.ref f54)=true)
  {t0:Tok}
  (yg0:W.nsIn K mainGlobals "DIGITS"=some (some (.int 16 t0)))
  {t1:Tok}
  (yg1:W.nsIn K mainGlobals "KEY_PLACES"=some (some (.int 4 t1)))
  {t2:Tok}
  (yg2:W.nsIn K mainGlobals "LONGEST_NAME"=some (some (.int 8 t2)))
  {t3:Tok}
  (yg3:W.nsIn K mainGlobals "CODE_DIGITS"=some (some (.int 5 t3)))
  {t4:Tok}
  (yg4:W.nsIn K mainGlobals "AGES"=some (some (.int 8 t4)))
  (z0:W.nsIn K mainGlobals "isinstance"=some none)
  (z1:W.nsIn K mainGlobals "bool"=some none)
  (z2:W.nsIn K mainGlobals "int"=some none)
  (z3:W.nsIn K mainGlobals "tuple"=some none)
  (z4:W.nsIn K mainGlobals "all"=some none)
  (z5:W.nsIn K mainGlobals "len"=some none)
  (z6:W.nsIn K mainGlobals "abs"=some none)
  (z7:W.nsIn K mainGlobals "list"=some none)
  (z8:W.nsIn K mainGlobals "enumerate"=some none)
  (z9:W.nsIn K mainGlobals "range"=some none)
  (z10:W.nsIn K mainGlobals "max"=some none)
  (z11:W.nsIn K mainGlobals "min"=some none)
  (z12:W.nsIn K mainGlobals "str"=some none)
  (z13:W.nsIn K mainGlobals "zip"=some none)
  (z14:W.nsIn K mainGlobals "ord"=some none)
  (z15:W.nsIn K mainGlobals "sum"=some none)
  (z16:W.nsIn K mainGlobals "reversed"=some none)
  (z17:W.nsIn K mainGlobals "sorted"=some none)
  (z18:W.nsIn K mainGlobals "dict"=some none):
  ∃fd:FuncData,(∀(s:Shared) (v:Value),BindsTo s fd ⟨[v],[]⟩ [("_law_script",v)])/\∀base:Heap,K.In base->base.Ns mainGlobals mg->FnOk l.prog w K mg base Zz 11 fa fd ["_law_script"] (gx K):=by
 have e:=hfa.symm.trans (W.mg_of X G a54)
 cases e
 have T:Txt K mg (fun i=>if i=0 then t0 else if i=1 then t1 else if i=2 then t2 else if i=3 then t3 else if i=4 then t4 else 0):=⟨W.mg_of X G yg0,W.mg_of X G yg1,W.mg_of X G yg2,W.mg_of X G yg3,W.mg_of X G yg4,W.mg_none_of X G z0,W.mg_none_of X G z1,W.mg_none_of X G z2,W.mg_none_of X G z3,W.mg_none_of X G z4,W.mg_none_of X G z5,W.mg_none_of X G z6,W.mg_none_of X G z7,W.mg_none_of X G z8,W.mg_none_of X G z9,W.mg_none_of X G z10,W.mg_none_of X G z11,W.mg_none_of X G z12,W.mg_none_of X G z13,W.mg_none_of X G z14,W.mg_none_of X G z15,W.mg_none_of X G z16,W.mg_none_of X G z17,W.mg_none_of X G z18⟩
 refine⟨W.fnOf "law" "law" (zM Zi) (zf Zi) (qg Zi) .none kV54 dc54 pm54 an54 cd54 ct54,fun s v=> .of_eq rfl,fun base _ _=>?_⟩
 have U:DCx K C:=⟨⟨pgD,hdD,poD,saD⟩,n_D_table,n_D_house_keys,n_D_near,n_D_far,n_D_most,n_D_least_age,n_D_buttons,n_D_log⟩
 have dM:=ij (P:=l.prog) (w:=w) (base:=base) (A0.at fun _ _ _ _ _ _=>zQ fun _=>rfl) T
 have xY:=jf (A1.at fun _ _ _ _ _ _=>zQ fun _=>rfl) T dM
 have xP:=ge (A2.at fun _ _ _ _ _ _=>zQ fun _=>rfl) T xY
 have xO:=gm (P:=l.prog) (w:=w) (base:=base) (A3.at fun _ _ _ _ _ _=>zQ fun _=>rfl) T
 have xM:=oq (P:=l.prog) (w:=w) (base:=base) (A4.at fun _ _ _ _ _ _=>fJ fun _ _ _=>rfl) T
 have yA:=kP (A5.at fun _ _ _ _ _ _=>fJ fun _ _ _=>rfl) T xO
 have yD:=kj (P:=l.prog) (w:=w) (base:=base) (A6.at fun _ _ _ _ _ _=>zQ fun _=>rfl) T
 have yB:=j8 (A7.at fun _ _ _ _ _ _=>zQ fun _=>rfl) T xP
 have dQ:=i8 (A8.at fun _ _ _ _ _ _=>zQ fun _=>rfl) T yD dM yB
 have xE:=cx (P:=l.prog) (w:=w) (base:=base) (A9.at fun _ _ _ _ _ _=>zQ fun _=>rfl) T
 have xI:=mB (A10.at fun _ _ _ _ _ _=>fJ fun _ _ _=>rfl) T xE xM
 have xH:=ee (P:=l.prog) (w:=w) (base:=base) (A11.at fun _ _ _ _ _ _=>zQ fun _=>rfl) T
 have xX:=jh (A12.at fun _ _ _ _ _ _=>wd fun _ _ _ _ _ _=>rfl) T xH xI xM
 have dJ:=gi (A13.at fun _ _ _ _ _ _=>fJ fun _ _ _=>rfl) T xI yA
 have x9:=kz (P:=l.prog) (w:=w) (base:=base) (A14.at fun _ _ _ _ _ _=>uI fun _ _ _ _=>rfl) T
 have yC:=lj (A15.at fun _ _ _ _ _ _=>rq fun _ _ _ _ _=>rfl) T x9
 have yF:=eG (P:=l.prog) (w:=w) (base:=base) (A16.at fun _ _ _ _ _ _=>wd fun _ _ _ _ _ _=>rfl) T U
 have xW:=yF.mi mkD kcD (W.mg_of X G aCD)
 have xG:=cY (P:=l.prog) (w:=w) (base:=base) (A17.at fun _ _ _ _ _ _=>zQ fun _=>rfl) T U
 have dZ:=bW (P:=l.prog) (w:=w) (base:=base) (A18.at fun _ _ _ _ _ _=>ZM fun _ _=>rfl) T U
 have dC:=bV (P:=l.prog) (w:=w) (base:=base) (A19.at fun _ _ _ _ _ _=>ZM fun _ _=>rfl) T U
 have dB:=aZ (A20.at fun _ _ _ _ _ _=>fJ fun _ _ _=>rfl) T U dC
 have dR:=aX (A21.at fun _ _ _ _ _ _=>uI fun _ _ _ _=>rfl) T U dB yC
 have dX:=bS (A22.at fun _ _ _ _ _ _=>ZM fun _ _=>rfl) T U dZ dB dR dJ
 have xS:=hR (A23.at fun _ _ _ _ _ _=>ZM fun _ _=>rfl) T U dQ dX
 have dG:=bu (A24.at fun _ _ _ _ _ _=>ZM fun _ _=>rfl) T U dQ dC dJ
 have xQ:=gg (A25.at fun _ _ _ _ _ _=>fJ fun _ _ _=>rfl) T U dG xG
 have xK:=eO (P:=l.prog) (w:=w) (base:=base) (A26.at fun _ _ _ _ _ _=>ZM fun _ _=>rfl) T U
 have xD:=cC (P:=l.prog) (w:=w) (base:=base) (A27.at fun _ _ _ _ _ _=>ZM fun _ _=>rfl) T U
 have dO:=aJ (P:=l.prog) (w:=w) (base:=base) (A28.at fun _ _ _ _ _ _=>ZM fun _ _=>rfl) T U
 have dD:=bQ (P:=l.prog) (w:=w) (base:=base) (A29.at fun _ _ _ _ _ _=>zQ fun _=>rfl) T U
 have xC:=cg (P:=l.prog) (w:=w) (base:=base) (A30.at fun _ _ _ _ _ _=>zQ fun _=>rfl) T U
 have dW:=bC (P:=l.prog) (w:=w) (base:=base) (A31.at fun _ _ _ _ _ _=>zQ fun _=>rfl) T U
 have dP:=aF (P:=l.prog) (w:=w) (base:=base) (A32.at fun _ _ _ _ _ _=>zQ fun _=>rfl) T U
 have dU:=aO (P:=l.prog) (w:=w) (base:=base) (A33.at fun _ _ _ _ _ _=>zQ fun _=>rfl) T U
 have xJ:=cX (P:=l.prog) (w:=w) (base:=base) (A34.at fun _ _ _ _ _ _=>zQ fun _=>rfl) T U
 have dY:=bR (A35.at fun _ _ _ _ _ _=>zQ fun _=>rfl) T U xW
 have xA:=kF (P:=l.prog) (w:=w) (base:=base) (A36.at fun _ _ _ _ _ _=>ZM fun _ _=>rfl) T
 have dA:=jm (P:=l.prog) (w:=w) (base:=base) (A37.at fun _ _ _ _ _ _=>ZM fun _ _=>rfl) T
 have xU:=gE (A38.at fun _ _ _ _ _ _=>zQ fun _=>rfl) T dA
 have xB:=kS (A39.at fun _ _ _ _ _ _=>zQ fun _=>rfl) T dA
 have xR:=gA (A40.at fun _ _ _ _ _ _=>ZM fun _ _=>rfl) T dA
 have xN:=gq (A41.at fun _ _ _ _ _ _=>zQ fun _=>rfl) T dA
 have xL:=jl (A42.at fun _ _ _ _ _ _=>ZM fun _ _=>rfl) T xN dA xB xU
 have dE:=iQ (A43.at fun _ _ _ _ _ _=>rq fun _ _ _ _ _=>rfl) T xX
 have dI:=gf (A44.at fun _ _ _ _ _ _=>rq fun _ _ _ _ _=>rfl) T U xQ dE
 have x8:=k6 (P:=l.prog) (w:=w) (base:=base) (A45.at fun _ _ _ _ _ _=>rq fun _ _ _ _ _=>rfl) T
 have xT:=iY (A46.at fun _ _ _ _ _ _=>fJ fun _ _ _=>rfl) T dA
 have x6:=lq (A47.at fun _ _ _ _ _ _=>fJ fun _ _ _=>rfl) T dA
 have xV:=hX (A48.at fun _ _ _ _ _ _=>ZM fun _ _=>rfl) T U dD
 have xF:=ca (P:=l.prog) (w:=w) (base:=base) (A49.at fun _ _ _ _ _ _=>ZM fun _ _=>rfl) T
 have dL:=jj (A50.at fun _ _ _ _ _ _=>zQ fun _=>rfl) T U dD xC dW dP dU xJ
 have yE:=kX (P:=l.prog) (w:=w) (base:=base) (A51.at fun _ _ _ _ _ _=>zQ fun _=>rfl) T
 have dH:=bw (A52.at fun _ _ _ _ _ _=>zQ fun _=>rfl) T U xW
 have xZ:=jc (A53.at fun _ _ _ _ _ _=>uI fun _ _ _ _=>rfl) T U dA xB xK xD dO xS dI x6 xT dE x8 xF
 exact ux (gO (st:=Zi) l54 c54 k54) T U dY xA dA xR xL dH dI yE dL xV xZ
theorem wD{l:W.OpenLaw}{q:Program}{loose:List Str}{XP:(Str->Option Value)->Heap->Prop}{YP:World->Heap->Prop}{d:DefRec}{K:Params->Frag}(hn:l.most=some 63)(hdf:d.params.defaults=[])
  (hY:∀(w:World) (h:Heap),YP w h->(K w.params).In h)
  (F:∀(w:World) (mg:Str->Option Value) (fa:Addr) (h:Heap),(K w.params).In h->h.Ns mainGlobals mg->mg d.name=some (.ref fa)->
   ∃fd:FuncData,(∀(s:Shared) (u:Value),BindsTo s fd ⟨[u],[]⟩ [("_law_script",u)])/\∀base:Heap,(K w.params).In base->base.Ns mainGlobals mg->FnOk l.prog w (K w.params) mg base Zz 11 fa fd ["_law_script"] (gx (K w.params))):
  W.WalkO q loose XP YP l.row.toRowW d [] (fun f vs=>PySem.call f vs):=
 L2.sU (n:=63) (k:=11) (x:="_law_script") (CX:=fun _=>Zz) (sp:=fun w=>gx (K w.params)) hn (by decide) hdf ⟨rfl,by decide,by decide⟩ hY F (fun _ _ a ns hl _ hS=>⟨a,ns,rfl,hS,hl,fun _=>rfl⟩) fun _ _ _ _ _ z=>z
end Lw
namespace PySem.W.Fast
def tw1678213493857439994:=()
def tw10885412986859437065:=()
def tw5722070911444760903:=()
def tw2777521845132406308:=()
def tw9409711006594729720:=()
def tw7627266009836179237:=()
def tw10451367220607581892:=()
def tw5360830467673503828:=()
def tw10510993290726810486:=()
def tw5786336787733667093:=()
def tw8475200696912313312:=()
def tw12411761695261988208:=()
def tw82322416080843974:=()
def tw13273764891758497414:=()
def tw11021435289196946862:=()
def tw17214027889671169769:=()
def tw7116959246362032491:=()
def tw15460363022007939729:=()
def tw5909992298861148921:=()
def tw3445758402277763465:=()
def tw7062745045443057833:=()
def tw17879471530556347066:=()
def tw17106736153850525581:=()
def tw16384007627343299979:=()
def tw4980488230180992027:=()
def tw3143404070142098567:=()
def tw16209906608877047788:=()
def tw13519172170790938073:=()
def tw10526078794136422207:=()
def tw4478921012702440658:=()
def tw16985884989710845330:=()
def tw12780266112281617971:=()
def tw5789350302554090482:=()
def tw4666615473266936224:=()
def tw972923756617623604:=()
def tw2208879307753825254:=()
def tw9270833202924396299:=()
def tw16975916730440233814:=()
def tw17881683542417415553:=()
def tw17749026422198431542:=()
def tw517014714506459395:=()
def tw3001403005811870908:=()
def tw7195455166910452702:=()
def tw4772872612359037003:=()
def tw17295887718520227362:=()
def tw13886400726743014066:=()
def tw13545531529708907483:=()
def tw17199725236514308207:=()
def tw7190126540692887739:=()
def tw8725801028876483168:=()
def tw16202277747624574206:=()
def tw6461654892885867796:=()
def tw9959686946252796959:=()
def tw5856933734348744461:=()
def tw4556624135670094938:=()
def tw1556600957511816660:=()
def tw11069723081837051760:=()
def tw3947986843583433444:=()
def tw5477299710544970093:=()
def tw15517824473306405233:=()
def tw6304181066874891653:=()
def tw384467028607629178:=()
def tw9315878665371614623:=()
def tw7452094573575060467:=()
def tw16604676555363655499:=()
def tw16218995359634939446:=()
def tw10742010790209099433:=()
def tw14163293630109656428:=()
def tw3851693517017501753:=()
def tw14205353831784667682:=()
def tw6126045149901998459:=()
def tw14511649736075148107:=()
def tw16181244820642285737:=()
def tw998961369680947017:=()
def tw14692152812364319113:=()
def tw8977573063014432286:=()
def tw10037910217798667557:=()
def tw6926780128682591647:=()
def tw16975380145775323289:=()
def tw14874260288953206087:=()
def tw928066920407396808:=()
def tw12296865468779469221:=()
def tw11357402204100866406:=()
def tw7261742832784159251:=()
def tw2480293259766168175:=()
def tw11712745110814350750:=()
def tw14329071586088523497:=()
def tw7599769593561967174:=()
def tw1333090135408316718:=()
def tw11961005340020511105:=()
def tw13888459360019291145:=()
def tw12056125153301256977:=()
def tw3328248463946076345:=()
def tw16137390488601052486:=()
def tw3603580637248412169:=()
def tw1218389685321157455:=()
def tw9507707298906778790:=()
def tw16741889709233193110:=()
def tw6316104215509407996:=()
def tw5977634949531897334:=()
def tw10031438694449078799:=()
def tw15085765128244930420:=()
def tw10475260785082444712:=()
def tw7695997097318011744:=()
def tw16509836424202427656:=()
def tw2703368746495150542:=()
def tw16992420818885593554:=()
def tw14481721244625126809:=()
def tw17195562239754255260:=()
def tw9182277168886162604:=()
def tw4728404019285317460:=()
def tw8982562325552814517:=()
def tw13493160011512414196:=()
def tw8537236330705353311:=()
def tw7692943252183466352:=()
def tw5455672760558570857:=()
def tw3723393315423370202:=()
def tw13320128710938718410:=()
def tw9954207570520702298:=()
def tw1683021296759064948:=()
def tw5767395233254351042:=()
def tw885577863975883879:=()
def tw3440513032694525024:=()
def tw6015436818848301514:=()
def tw4697615993876516900:=()
def tw9393328443246452814:=()
def tw9601894193888630865:=()
def tw5776353540647007834:=()
def tw15876588925490695806:=()
def tw737265218113560957:=()
end PySem.W.Fast
open PySem PySem.W PyProof.Rows
set_option maxRecDepth 100000 in
set_option maxHeartbeats 0 in
theorem PySem.Challenge.cw_rollcode_k20_doors_apart_holds : PySem.Challenge.rw_rollcode_k20_doors_apart.Holds := by
 w_on;o_law;k_head;(case hw=>w_witness2)
 k_fill
 refine Lw.wD (l:=PySem.Challenge.rw_rollcode_k20_doors_apart) rfl rfl (fun w h Y=>PySem.W.kIn_of Y) ?F
 case F=>
  intro w mg fa h KX G hmg
  refine' Lw.tK KX G hmg ?aCD ?pgD ?hdD ?poD ?saD ?mkD ?kcD ?n_D_table ?n_D_house_keys ?n_D_near ?n_D_far ?n_D_most ?n_D_least_age ?n_D_buttons ?n_D_log ?A0 ?A1 ?A2 ?A3 ?A4 ?A5 ?A6 ?A7 ?A8 ?A9 ?A10 ?A11 ?A12 ?A13 ?A14 ?A15 ?A16 ?A17 ?A18 ?A19 ?A20 ?A21 ?A22 ?A23 ?A24 ?A25 ?A26 ?A27 ?A28 ?A29 ?A30 ?A31 ?A32 ?A33 ?A34 ?A35 ?A36 ?A37 ?A38 ?A39 ?A40 ?A41 ?A42 ?A43 ?A44 ?A45 ?A46 ?A47 ?A48 ?A49 ?A50 ?A51 ?A52 ?A53 ?a54 ?l54 ?c54 ?k54 ?yg0 ?yg1 ?yg2 ?yg3 ?yg4 ?z0 ?z1 ?z2 ?z3 ?z4 ?z5 ?z6 ?z7 ?z8 ?z9 ?z10 ?z11 ?z12 ?z13 ?z14 ?z15 ?z16 ?z17 ?z18
  (case aCD|pgD|hdD|poD|saD|mkD|kcD|n_D_table|n_D_house_keys|n_D_near|n_D_far|n_D_most|n_D_least_age|n_D_buttons|n_D_log=>k_is)
  (case A0|A1|A2|A3|A4|A5|A6|A7|A8|A9|A10|A11|A12|A13|A14|A15=>refine' L3.pN KX G ?ya ?yl ?yc ?yk;case ya|yl|yc|yk=>k_is)
  (case A16|A17|A18|A19|A20|A21|A22|A23|A24|A25|A26|A27|A28|A29|A30|A31|A32|A33|A34|A35=>refine' L3.um ?ya ?yi ?yl ?yc ?yk;case ya|yi|yl|yc|yk=>k_is)
  (case A36|A37|A38|A39|A40|A41|A42|A43|A44|A45|A46|A47|A48|A49|A50|A51|A52|A53=>refine' L3.pN KX G ?ya ?yl ?yc ?yk;case ya|yl|yc|yk=>k_is)
  (case a54|l54|c54|k54|yg0|yg1|yg2|yg3|yg4|z0|z1|z2|z3|z4|z5|z6|z7|z8|z9|z10|z11|z12|z13|z14|z15|z16|z17|z18=>k_is)
