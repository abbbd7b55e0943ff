import PyProof.Rows.All
import Wide.All
import OpenK.AllK
import Wide.FinOn
import Lean
import PyProof.EqAt
import PyProof.EqKinds
import PyProof.TupleCall
import PySem.Syntax
import KE.KSortAsk
import PyProof.ListMulAny
import PyProof.FactsAll.tuple_2
import PyProof.NeData
import PyProof.P3In
import KE.KSortTup
import PyProof.DictUpdate
import PyProof.DictCopy
import PyProof.CompFree
import PyProof.Rows.CatchOwn
import OpenK.KRaise
import PyProof.ExcBaseAll.ValueError
import PyProof.ExcAttrAll.ValueError
import PyProof.IsiH_tuple
import PyProof.StrOps2
import PySem.Challenge.RW_anywait_k24_held
set_option linter.all false
set_option Elab.async false
set_option maxRecDepth 100000
set_option maxHeartbeats 0
section
namespace L2
open PySem PySem.Spec PyProof.Rows
abbrev Key:=Sum Int Str
def rC:Key->Value->Bool
 |.inl k,v=>Value.isInt k v
 |.inr x,v=>Value.isStrOf x v
def acp(w:World):Key->Int
 |.inl k=>hashInt k
 |.inr x=>hashStr w x
theorem bI:∀{k:Key}{v:Value},rC k v=true->(∃i t,k=Sum.inl i/\v=Value.int i t)\/(∃x t,k=Sum.inr x/\v=Value.str x t)
 |.inl i,v,h=>by
  obtain⟨t,e⟩:=Value.isInt_shape (k:=i) (v:=v) h
  exact .inl ⟨i,t,rfl,e⟩
 |.inr x,v,h=>by
  obtain⟨t,e⟩:=Value.isStrOf_shape (x:=x) (v:=v) h
  exact .inr ⟨x,t,rfl,e⟩
theorem BP(i:Int)(t:Tok):rC (.inl i) (.int i t)=true:=by simp[rC,Value.isInt]
theorem BL(x:Str)(t:Tok):rC (.inr x) (.str x t)=true:=by simp[rC,Value.isStrOf]
theorem SX(a b:Int):decide ((Sum.inl a:Key)=Sum.inl b)=(a==b):=by
 by_cases e:a=b
 ·subst e;simp
 ·have h:¬(Sum.inl a:Key)=Sum.inl b:=fun q=>e (Sum.inl.inj q)
  rw[decide_eq_false h]
  exact(beq_eq_false_iff_ne.mpr e).symm
theorem SM(a b:Str):decide ((Sum.inr a:Key)=Sum.inr b)=decide (a=b):=by
 by_cases e:a=b
 ·subst e;simp
 ·have h:¬(Sum.inr a:Key)=Sum.inr b:=fun q=>e (Sum.inr.inj q)
  rw[decide_eq_false h,decide_eq_false e]
theorem SQ(a:Int)(b:Str):decide ((Sum.inl a:Key)=Sum.inr b)=false:=decide_eq_false (fun q=>nomatch q)
theorem SN(a:Str)(b:Int):decide ((Sum.inr a:Key)=Sum.inl b)=false:=decide_eq_false (fun q=>nomatch q)
def bL(prog:Program)(w:World):PySem.KeyKind prog w Key where
 is:=rC
 hash:=acp w
 inj:=fun v a b ha hb=>by
  rcases bI ha with ⟨i,t,rfl,rfl⟩|⟨x,t,rfl,rfl⟩
  ·rcases bI hb with ⟨j,u,rfl,e⟩|⟨y,u,rfl,e⟩
   ·injection e with e1 _;rw[e1]
   ·exact nomatch e
  ·rcases bI hb with ⟨j,u,rfl,e⟩|⟨y,u,rfl,e⟩
   ·exact nomatch e
   ·injection e with e1 _;rw[e1]
 byValue:=fun k v h=>by
  rcases bI h with ⟨i,t,rfl,rfl⟩|⟨x,t,rfl,rfl⟩<;>rfl
 pyHash:=fun hv h=>by
  rcases bI hv with ⟨i,t,rfl,rfl⟩|⟨x,t,rfl,rfl⟩
  ·exact wpAny_pyHash_int h
  ·exact wpAny_pyHash_str h
 eqBool:=fun hu hv h=>by
  rcases bI hu with ⟨i,t,rfl,rfl⟩|⟨x,t,rfl,rfl⟩
  ·rcases bI hv with ⟨j,u,rfl,rfl⟩|⟨y,u,rfl,rfl⟩
   ·rw[SX]at h;exact wpAny_eqBool_int h
   ·rw[SQ]at h;exact SeqAt.EqAt.int_str i t y u _ _ _ _ h
  ·rcases bI hv with ⟨j,u,rfl,rfl⟩|⟨y,u,rfl,rfl⟩
   ·rw[SN]at h;exact SeqAt.EqAt.str_int x t j u _ _ _ _ h
   ·rw[SM]at h;exact wpAny_eqBool_str h
 «strs»:=fun k x t v h=>by
  rcases bI h with ⟨i,u,rfl,e⟩|⟨y,u,rfl,e⟩
  ·exact nomatch e
  ·injection e with e1 _
   subst e1
   cases v<;>rfl
theorem vP(prog:Program)(w:World)(i:Int)(t:Tok):(bL prog w).is (.inl i) (.int i t)=true:=BP i t
theorem vO(prog:Program)(w:World)(x:Str)(t:Tok):(bL prog w).is (.inr x) (.str x t)=true:=BL x t
end L2
namespace L2
open PySem PySem.Spec PyProof.Rows
inductive V where
 |non|bl (b:Bool)|int (i:Int)|str (x:Str)|byt (b:Array UInt8)|flt (b:UInt64)|ref (a:Addr)|ty (n:String)
 deriving DecidableEq
def RelV:V->Value->Prop
 |.non,u=>u=Value.none
 |.bl b,u=>u=Value.bool b
 |.int i,u=>∃t,u=Value.int i t
 |.str x,u=>∃t,u=Value.str x t
 |.byt b,u=>∃t,u=Value.bytes b t
 |.flt b,u=>∃t,u=Value.float b t
 |.ref a,u=>u=Value.ref a
 |.ty n,u=>u=Value.type n
abbrev Vals:List V->List Value->Prop:=Paired RelV
theorem Vals.length{xs:List V}{us:List Value}(r:Vals xs us):xs.length=us.length:=Paired.length r
theorem Vals.get:∀{xs:List V}{us:List Value}{i:Nat}{x:V},Vals xs us->xs[i]? =some x->∃u,us[i]? =some u/\RelV x u
 |_,_,_,_,.nil=>fun e=>by simp at e
 |_,_,0,_,.cons r _=>fun e=>by simp at e;subst e;exact⟨_,rfl,r⟩
 |_,_,i+1,x,.cons _ t=>fun e=>by
  obtain⟨u,h1,h2⟩:=Vals.get (i:=i) (x:=x) t (by simpa using e)
  exact⟨u,by simpa using h1,h2⟩
theorem Vals.set{x:V}{u:Value}(r:RelV x u):∀{xs:List V}{us:List Value}(i:Nat),Vals xs us->Vals (xs.set i x) (us.set i u)
 |_,_,_,.nil=>.nil
 |_,_,0,.cons _ t=>.cons r t
 |_,_,i+1,.cons q t=>.cons q (Vals.set r i t)
theorem Vals.append:∀{xs ys:List V}{us ws:List Value},Vals xs us->Vals ys ws->Vals (xs++ys) (us++ws)
 |_,_,_,_,.nil=>fun s=>s
 |_,_,_,_,.cons r t=>fun s=>.cons r (Vals.append t s)
theorem Vals.take:∀{xs:List V}{us:List Value}(n:Nat),Vals xs us->Vals (xs.take n) (us.take n)
 |_,_,0,_=>.nil
 |_,_,_+1,.nil=>.nil
 |_,_,n+1,.cons r t=>.cons r (Vals.take n t)
theorem Vals.drop:∀{xs:List V}{us:List Value}(n:Nat),Vals xs us->Vals (xs.drop n) (us.drop n)
 |_,_,0,r=>r
 |_,_,_+1,.nil=>.nil
 |_,_,n+1,.cons _ t=>Vals.drop n t
def mW:Option V->Option Value->Prop
 |some v,some u=>RelV v u
 |none,none=>True
 |_,_=>False
def KV{κ:Type}:List (κ×V)->List (κ×Value)->Prop:=Paired fun(p:κ×V)(q:κ×Value)=>p.1=q.1/\RelV p.2 q.2
def kV:Key->V
 |.inl i=>.int i
 |.inr x=>.str x
inductive HO where
 |lst (xs:List V)
 |tup (xs:List V)
 |dK (kvs:List (Key×V))|dT (kvs:List (List Key×V))
 |set (S:Int->Bool) (n:Nat)
 |ins (C dx:Addr) (fs:List (Str×V))
 |own (x:Addr)
 |xd (fs:List (Str×V))
 |met (f x:Addr)
 |rng (lo hi:Int)
 |frz (o:Obj) (u:HO)
 |tbl (ps:Array Value)
 |ext (φ:Heap->Prop)
abbrev Hp:=Addr->Option HO
def upd(H:Hp)(a:Addr)(o:HO):Hp:=fun b=>if b=a then some o else H b
theorem aQ{H:Hp}{a:Addr}{o:HO}:upd H a o a=some o:=by unfold upd;rw[if_pos rfl]
theorem az{H:Hp}{a b:Addr}{o:HO}(h:b≠a):upd H a o b=H b:=by unfold upd;rw[if_neg h]
theorem Ys{H:Hp}{a b:Addr}{o u:HO}(h:H a=some o)(h':H b=some u)(d:o≠u):a≠b:=by
 intro e;subst e;rw[h]at h';exact d (Option.some.inj h')
theorem fL{H:Hp}{a b:Addr}{o:HO}(h:H a=some o)(h':H b=none):a≠b:=by
 intro e;subst e;rw[h]at h';cases h'
def TupOk(h:Heap)(a:Addr)(items:Array Value):Prop:=∃o,h.get? a=some o/\o.cls=.type "tuple"/\o.dict=none/\∃n,o.data=.seq items n
theorem TupOk.is{h:Heap}{a:Addr}{items:Array Value}(x:TupOk h a items):IsTup h a items:=let ⟨o,e,c,_,d⟩:=x;⟨o,e,c,d⟩
theorem TupOk.new(h:Heap)(items:Array Value):TupOk (h.push {cls:=.type "tuple",data:=.seq items}) h.objs.size items:=⟨_,Heap.get?_push_size _ rfl,rfl,rfl,_,rfl⟩
section
variable(P:Program)(w:World)
def bN(H:Hp)(h:Heap)(a:Addr):HO->Prop
 |.lst xs=>xs.length<=sizeLine/\∃(its:List Value)(n:Nat),Vals xs its/\h.get? a=some {cls:=.type "list",data:=.seq its.toArray n}
 |.tup xs=>xs.length<=sizeLine/\∃its:List Value,Vals xs its/\TupOk h a its.toArray
 |.dK kvs=>kvs.length<=sizeLine/\(a==sysModules)=false/\∃vs,KV kvs vs/\h.DictOf (bL P w) a vs
 |.dT kvs=>kvs.length<=sizeLine/\(a==sysModules)=false/\∃xs:List (List Key×Addr×Value),
   Paired (fun(p:List Key×V)(q:List Key×Addr×Value)=>p.1=q.1/\H q.2.1=some (.tup (p.1.map kV))/\RelV p.2 q.2.2) kvs xs/\
   ∃o es ep,h.get? a=some o/\o.ExactDict/\o.data=.dict es ep/\es.toList=xs.map (entryOfKey (tupleKind (bL P w)))/\(xs.map (·.1)).Nodup
 |.set S n=>h.SetOf (intKind P w) a S n
 |.ins C dx fs=>H dx=some (.own a)/\fs.length<=1000/\dx≠a/\h.get? a=some (PySem.W.instObj C dx)/\
   ∃mA,h.Ns1 dx mA/\(∀f,mW (fs.lookup f) (mA f))/\PySem.Within mA (fs.map (·.1))
 |.own _=>∃o,h.get? a=some o
 |.xd fs=>∃mA,h.Ns1 a mA/\∀f,mW (fs.lookup f) (mA f)
 |.rng lo hi=>∃t u v,h.get? a=some {cls:=.type "range",data:=.fields #[.int lo t,.int hi u,.int 1 v]}
 |.frz o u=>h.get? a=some o/\bN H h a u
 |.tbl ps=>h.get? a=some {cls:=.none,data:=.fields ps}
 |.met f x=>h.get? a=some (PySem.W.methodObj (.ref f) (.ref x))
 |.ext φ=>φ h/\(∃o,h.get? a=some o)/\∀h1 h2:Heap,φ h1->(∀o,h1.get? a=some o->h2.get? a=some o)->φ h2
def iV(H:Hp)(h:Heap):Prop:=∀a o,H a=some o->bN P w H h a o
end
section
variable{P:Program}{w:World}{H H':Hp}{h h':Heap}{a:Addr}{o:HO}
theorem bN.lt(x:bN P w H h a o):a<h.objs.size:=by
 cases o with
 |lst xs=>obtain⟨_,_,_,_,e⟩:=x;exact Heap.lt_size e
 |tup xs=>obtain⟨_,_,_,p⟩:=x;exact p.is.lt
 |dK kvs=>obtain⟨_,_,_,_,o,_,_,e,_⟩:=x;exact Heap.lt_size e
 |dT kvs=>obtain⟨_,_,_,_,o,_,_,e,_⟩:=x;exact Heap.lt_size e
 |set S n=>obtain⟨o,_,_,_,e,_⟩:=x;exact Heap.lt_size e
 |ins C dx fs=>obtain⟨_,_,_,e,_⟩:=x;exact Heap.lt_size e
 |own y=>obtain⟨_,e⟩:=x;exact Heap.lt_size e
 |xd fs=>obtain⟨_,⟨_,_,_,e,_⟩,_⟩:=x;exact Heap.lt_size e
 |rng lo hi=>obtain⟨_,_,_,e⟩:=x;exact Heap.lt_size e
 |frz ob u=>obtain⟨e,_⟩:=x;exact Heap.lt_size e
 |tbl ps=>exact Heap.lt_size (show h.get? a=some _ from x)
 |met f y=>exact Heap.lt_size (show h.get? a=some _ from x)
 |ext φ=>obtain⟨_,⟨_,e⟩,_⟩:=x;exact Heap.lt_size e
theorem Paired.Sq{α β:Type}{F G:α->β->Prop}:∀{l₁:List α}{l₂:List β},Paired F l₁ l₂->(∀a b,F a b->G a b)->Paired G l₁ l₂
 |_,_,.nil=>fun _=>.nil
 |_,_,.cons r t=>fun f=>.cons (f _ _ r) (Paired.Sq t f)
theorem bN.stay(x:bN P w H h a o)(k:∀b u,(b=a\/H b=some (.own a))->h.get? b=some u->h'.get? b=some u)
  (ho:∀b,H b=some (.own a)->H' b=some (.own a))(ht:∀b xs,H b=some (.tup xs)->H' b=some (.tup xs)):bN P w H' h' a o:=by
 induction o with
 |lst xs=>obtain⟨z,its,n,r,e⟩:=x;exact⟨z,its,n,r,k _ _ (.inl rfl) e⟩
 |tup xs=>obtain⟨z,its,r,ob,e,c⟩:=x;exact⟨z,its,r,ob,k _ _ (.inl rfl) e,c⟩
 |dK kvs=>obtain⟨z,y,vs,r,ob,es,ep,e,c⟩:=x;exact⟨z,y,vs,r,ob,es,ep,k _ _ (.inl rfl) e,c⟩
 |dT kvs=>
  obtain⟨z,y,xs,r,ob,es,ep,e,c⟩:=x
  exact⟨z,y,xs,Paired.Sq r fun p q z=>⟨z.1,ht _ _ z.2.1,z.2.2⟩,ob,es,ep,k _ _ (.inl rfl) e,c⟩
 |set S n=>obtain⟨ob,es,ep,t,e,c⟩:=x;exact⟨ob,es,ep,t,k _ _ (.inl rfl) e,c⟩
 |ins C dx fs=>
  obtain⟨d,z,ne,e,mA,⟨od,es,ep,e2,c⟩,r⟩:=x
  exact⟨ho _ d,z,ne,k _ _ (.inl rfl) e,mA,⟨od,es,ep,k _ _ (.inr d) e2,c⟩,r⟩
 |own y=>obtain⟨ob,e⟩:=x;exact⟨ob,k _ _ (.inl rfl) e⟩
 |xd fs=>obtain⟨mA,⟨od,es,ep,e,c⟩,r⟩:=x;exact⟨mA,⟨od,es,ep,k _ _ (.inl rfl) e,c⟩,r⟩
 |rng lo hi=>obtain⟨t,u,v,e⟩:=x;exact⟨t,u,v,k _ _ (.inl rfl) e⟩
 |frz ob u ih=>obtain⟨e,q⟩:=x;exact⟨k _ _ (.inl rfl) e,ih q⟩
 |tbl ps=>
  have e:h.get? a=some {cls:=.none,data:=.fields ps}:=x
  show h'.get? a=some {cls:=.none,data:=.fields ps}
  exact k a _ (.inl rfl) e
 |met f y=>
  have e:h.get? a=some (PySem.W.methodObj (.ref f) (.ref y)):=x
  show h'.get? a=some (PySem.W.methodObj (.ref f) (.ref y))
  exact k a _ (.inl rfl) e
 |ext φ=>obtain⟨p,⟨o,e⟩,st⟩:=x;exact⟨st _ _ p fun o q=>k _ _ (.inl rfl) q,⟨o,k _ _ (.inl rfl) e⟩,st⟩
theorem iV.lt(x:iV P w H h)(e:H a=some o):a<h.objs.size:=(x a o e).lt
theorem iV.fresh(x:iV P w H h)(e:h.objs.size<=a):H a=none:=by
 cases q:H a with
 |none=>rfl
 |some u=>exact absurd (Nat.lt_of_lt_of_le (x.lt q) e) (Nat.lt_irrefl _)
theorem iV.kept(x:iV P w H h)(k:∀b u,h.get? b=some u->h'.get? b=some u):iV P w H h':=fun a o e=>
 (x a o e).stay (fun b u _ q=>k b u q) (fun _ q=>q) fun _ _ q=>q
theorem iV.laid(x:iV P w H h)(k:∀b u,h.get? b=some u->h'.get? b=some u)(hp:h.objs.size<=a)(new:bN P w (upd H a o) h' a o):iV P w (upd H a o) h':=fun b u e=>by
 have hn:=x.fresh hp
 by_cases hb:b=a
 ·subst hb;rw[aQ]at e;cases e;exact new
 ·rw[az hb]at e
  exact(x b u e).stay (fun c v _ q=>k c v q) (fun c q=>by rw[az (fL q hn)];exact q) fun c xs q=>by rw[az (fL q hn)];exact q
end
def Rd(H:Hp)(a:Addr)(u:HO):Prop:=H a=some u\/∃o,H a=some (.frz o u)
theorem Rd.ok{P:Program}{w:World}{H:Hp}{h:Heap}{a:Addr}{u:HO}(r:Rd H a u)(x:iV P w H h):bN P w H h a u:=by
 rcases r with r|⟨o,r⟩
 ·exact x a u r
 ·obtain⟨_,q⟩:=x a _ r
  exact q
def Z3:Option HO->Prop
 |some (.lst _)=>True
 |some (.dK _)=>True
 |some (.dT _)=>True
 |some (.set _ _)=>True
 |some (.ins _ _ _)=>True
 |some (.ext _)=>True
 |_=>False
section
variable{P:Program}{w:World}{H:Hp}{h h':Heap}{x e:Addr}{o':HO}
theorem iV.write(ok:iV P w H h)(mu:Z3 (H x))(he:e=x\/H e=some (.own x))(k:∀b u,b≠e->h.get? b=some u->h'.get? b=some u)(heo:∃u,h'.get? e=some u)
  (new:bN P w (upd H x o') h' x o'):iV P w (upd H x o') h':=fun b u q=>by
 have nown:∀c y,H c=some (.own y)->c≠x:=fun c y r z=>by subst z;rw[r]at mu;exact mu
 have ntup:∀c xs,H c=some (.tup xs)->c≠x:=fun c xs r z=>by subst z;rw[r]at mu;exact mu
 by_cases hb:b=x
 ·subst hb;rw[aQ]at q;cases q;exact new
 ·rw[az hb]at q
  by_cases hbe:b=e
  ·have q':H b=some (.own x):=by
    rcases he with z|z
    ·exact absurd (hbe.trans z) hb
    ·rw[hbe];exact z
   rw[q]at q';cases q'
   obtain⟨v,hv⟩:=heo
   exact⟨v,by rw[hbe];exact hv⟩
  ·refine(ok b u q).stay (fun c v hc r=>k c v ?_ r) (fun c r=>by rw[az (nown c b r)];exact r) fun c xs r=>by rw[az (ntup c xs r)];exact r
   rcases hc with rfl|hc
   ·exact hbe
   ·rintro rfl
    rcases he with z|z
    ·exact nown c b hc z
    ·rw[hc]at z;cases z;exact hb rfl
end
structure Un(fs ex:List Addr)(H H':Hp)(h h':Heap):Prop where
 keep:∀b o,h.get? b=some o->H b=none->b∉fs->b∉ex->h'.get? b=some o
 slot:∀b o,h.get? b=some o->H b=none->b∈fs->b∉ex->∃sl,h'.get? b=some {o with slots:=sl}
 free:∀b o,h.get? b=some o->H b=none->b∉ex->H' b=none
 there:∀b o,h.get? b=some o->b∉ex->∃o',h'.get? b=some o'
 tups:∀b xs,H b=some (.tup xs)->H' b=some (.tup xs)
 frzs:∀b o u,H b=some (.frz o u)->H' b=some (.frz o u)
 tbls:∀b ps,H b=some (.tbl ps)->∃more,H' b=some (.tbl (ps++more))
section
variable{fs fs' ex ex':List Addr}{H H1 H2:Hp}{h h1 h2 h':Heap}{a x e:Addr}{o:HO}
theorem Un.any(u:Un fs ex H H1 h h1){b:Addr}{ob:Obj}(q:h.get? b=some ob)(n:H b=none)(hx:b∉ex):∃sl,h1.get? b=some {ob with slots:=sl}:=by
 by_cases hb:b∈fs
 ·exact u.slot b ob q n hb hx
 ·exact⟨ob.slots,u.keep b ob q n hb hx⟩
theorem Un.trans(a:Un fs ex H H1 h h1)(b:Un fs ex H1 H2 h1 h2):Un fs ex H H2 h h2 where
 keep:=fun c ob q n hc hx=>b.keep c ob (a.keep c ob q n hc hx) (a.free c ob q n hx) hc hx
 slot:=fun c ob q n hc hx=>by
  obtain⟨sl,e1⟩:=a.slot c ob q n hc hx
  obtain⟨sl',e2⟩:=b.slot c _ e1 (a.free c ob q n hx) hc hx
  exact⟨sl',e2⟩
 free:=fun c ob q n hx=>by
  obtain⟨o',e1⟩:=a.there c ob q hx
  exact b.free c o' e1 (a.free c ob q n hx) hx
 there:=fun c ob q hx=>by
  obtain⟨o',e1⟩:=a.there c ob q hx
  exact b.there c o' e1 hx
 tups:=fun c xs q=>b.tups c xs (a.tups c xs q)
 frzs:=fun c ob xs q=>b.frzs c ob xs (a.frzs c ob xs q)
 tbls:=fun c ps q=>by
  obtain⟨m1,e1⟩:=a.tbls c ps q
  obtain⟨m2,e2⟩:=b.tbls c _ e1
  exact⟨m1++m2,by rw[e2,Array.append_assoc]⟩
theorem Un.kept(k:∀b u,h.get? b=some u->h'.get? b=some u):Un fs ex H H h h':=
 ⟨fun b ob q _ _ _=>k b ob q,fun b ob q _ _ _=>⟨ob.slots,k b ob q⟩,fun _ _ _ n _=>n,fun b ob q _=>⟨ob,k b ob q⟩,fun _ _ q=>q,fun _ _ _ q=>q,fun _ ps q=>⟨#[],by rw[q];simp⟩⟩
theorem Un.refl:Un fs ex H H h h:=Un.kept fun _ _ q=>q
theorem Un.laid(k:∀b u,h.get? b=some u->h'.get? b=some u)(hp:h.objs.size<=a)(hn:H a=none):Un fs ex H (upd H a o) h h' where
 keep:=fun b u q _ _ _=>k b u q
 slot:=fun b u q _ _ _=>⟨u.slots,k b u q⟩
 free:=fun b u q n _=>by rw[az (Nat.ne_of_lt (Nat.lt_of_lt_of_le (Heap.lt_size q) hp))];exact n
 there:=fun b u q _=>⟨u,k b u q⟩
 tups:=fun b xs q=>by rw[az (fL q hn)];exact q
 frzs:=fun b u xs q=>by rw[az (fL q hn)];exact q
 tbls:=fun b ps q=>⟨#[],by rw[az (fL q hn),q];simp⟩
theorem Un.write(mu:Z3 (H x))(he:e=x\/H e=some (.own x))(k:∀b u,b≠e->h.get? b=some u->h'.get? b=some u)(heo:∃u,h'.get? e=some u):Un fs ex H (upd H x o) h h':=by
 have hx:∀b,H b=none->b≠x:=fun b n z=>by subst z;rw[n]at mu;exact mu
 have hb:∀b,H b=none->b≠e:=fun b n z=>by
  subst z
  rcases he with r|r
  ·exact hx b n r
  ·rw[n]at r;cases r
 have hm:∀b u,H b=some u->¬Z3 (some u)->b≠x:=fun b u q nm z=>by subst z;rw[q]at mu;exact nm mu
 refine⟨fun b u q n _ _=>k b u (hb b n) q,fun b u q n _ _=>⟨u.slots,k b u (hb b n) q⟩,fun b u q n _=>by rw[az (hx b n)];exact n,fun b u q _=>?_,
  fun b xs q=>by rw[az (hm b _ q fun z=>z)];exact q,fun b u xs q=>by rw[az (hm b _ q fun z=>z)];exact q,fun b ps q=>⟨#[],by rw[az (hm b _ q fun z=>z),q];simp⟩⟩
 by_cases hbe:b=e
 ·subst hbe;exact heo
 ·exact⟨u,k b u hbe q⟩
end
def trk(h:Heap)(H:Hp):List Addr:=(List.range h.objs.size).filter fun a=>(H a).isSome
def uh(h:Heap)(H:Hp):Heap:=PySem.W.hideAll h (trk h H)
theorem Cd(h:Heap)(H:Hp):(uh h H).objs.size=h.objs.size:=PySem.W.hideAll_size _ _
theorem Ha{h:Heap}{H:Hp}{b:Addr}{o:Obj}(e:h.get? b=some o)(n:H b=none):(uh h H).get? b=some o:=
 PySem.W.hideAll_get _ e fun hm=>by
  have q:(H b).isSome=true:=(List.mem_filter.mp hm).2
  rw[n]at q;simp at q
theorem La{h:Heap}{H:Hp}{b:Addr}{o:Obj}(e:(uh h H).get? b=some o):h.get? b=some o/\H b=none:=by
 have e':h.get? b=some o:=PySem.W.of_hideAll (trk h H) e
 refine⟨e',?_⟩
 cases q:H b with
 |none=>rfl
 |some x=>
  have hm:b∈trk h H:=List.mem_filter.mpr ⟨List.mem_range.mpr (Heap.lt_size e'),by simp[q]⟩
  have z:(uh h H).get? b=none:=PySem.W.hideAll_none (trk h H) hm
  rw[z]at e;cases e
def M9(g h:Heap)(L:Addr):List (Addr×Obj):=(List.range h.objs.size).filterMap fun a=>if a=L\/(g.get? a).isSome=true then none else(h.get? a).map fun o=>(a,o)
def rest(g h:Heap)(L d:Addr):List (Addr×Obj):=(M9 g h L).filter fun p=>decide (p.1≠d)
end L2
namespace L2
open PySem PySem.Spec PyProof.Rows
structure Mod(K:PySem.W.Frag)(mg:Str->Option Value)(base:Heap):Prop where
 kin:K.In base
 glob:base.Ns mainGlobals mg
 blt:∃mb,base.Ns builtinsNs mb/\∀x:Str,x≠"__name__"->mb x=bootBuiltins x
 nolimit:base.NoLimit
structure Cx where
 prog:Program
 w:World
 K:PySem.W.Frag
 mg:Str->Option Value
 base:Heap
 A:Around
 N:List Str
 s₀:Shared
 H₀:Hp
 env:Env
 outer:List Env
 stack:List Env
 ex:List Addr
 fn:Str->Bool
 calm:Bool
 pn:List (Addr×Obj)
 xe:Value->Shared->Prop
def frs(l:List Env):List Addr:=l.filterMap (·.frame)
abbrev Cx.fs(X:Cx):List Addr:=frs X.outer
def UW(sc:Scope)(x:Str):Prop:=sc.names.lookup x=some .local\/sc.names.lookup x=some .cell\/sc.names.lookup x=some .free
def Loc(sc:Scope)(x:Str):Prop:=sc.names.lookup x=some .local\/sc.names.lookup x=some .cell
def Look(env:Env)(h:Heap)(m:Str->Option Value)(x:Str)(u:Value):Prop:=
 (env.kindOf x=some .local/\m x=some u)\/((env.kindOf x=some .cell\/env.kindOf x=some .free)/\∃c,env.cells.lookup x=some c/\h.IsCell c (some u))
structure Cx.Ok(X:Cx):Prop where
 mod:Mod X.K X.mg X.base
 kind:X.env.scope.kind=.function
 glob:X.env.globals=mainGlobals
 blt:X.env.builtins=builtinsNs
 above:X.s₀.heap.objs.size<=X.env.locals
 inj:∀x y c,X.env.cells.lookup x=some c->X.env.cells.lookup y=some c->x=y
 has:∀x,(X.env.kindOf x=some .cell\/X.env.kindOf x=some .free)->∃c,X.env.cells.lookup x=some c
 cab:∀x c,X.fn x=true->X.env.cells.lookup x=some c->X.s₀.heap.objs.size<=c
 hd:X.calm=true->X.A.handled=none
 frames:X.A.frames=some X.stack
 stk:X.stack=X.outer\/(X.stack=X.env::X.outer/\X.env.frame=some X.env.locals)
 exf:∀b∈X.ex,b≠X.env.locals/\∀x c,X.env.cells.lookup x=some c->c≠b
 bs:∀b o,X.base.get? b=some o->X.s₀.heap.get? b=some o/\X.H₀ b=none
 bsz:X.base.objs.size<=X.s₀.heap.objs.size
 noex:∀b o,X.base.get? b=some o->b∉X.ex
 exfs:∀b∈X.ex,b∉X.fs
 jy:X.s₀.heap.FunFrames X.base X.outer
 frf:∀b∈X.fs,X.H₀ b=none
structure Inv(X:Cx)(pins:List (Addr×Obj))(σ:List (Option V))(H:Hp)(s:Shared):Prop where
 ok:X.Ok
 os:s.os=X.s₀.os
 bare:AllBare s.gens
 base:Un X.fs X.ex X.H₀ H X.s₀.heap s.heap
 loc:∃m,s.heap.Ns X.env.locals m/\∀(i:Nat)(x:Str)(v:V),X.N[i]? =some x->σ[i]? =some (some v)->UW X.env.scope x->∃u,RelV v u/\Look X.env s.heap m x u
 cell:∀x c,X.env.cells.lookup x=some c->∃v,s.heap.IsCell c v
 free:H X.env.locals=none
 freeC:∀x c,X.env.cells.lookup x=some c->H c=none
 pin:∀p∈X.pn++pins,s.heap.get? p.1=some p.2/\H p.1=none/\p.1≠X.env.locals/\p.1∉X.fs/\∀v,p.2.data≠ .cell v
 hok:iV X.prog X.w H s.heap
 len:σ.length=X.N.length
section
variable{X:Cx}{pins:List (Addr×Obj)}{σ:List (Option V)}{H H':Hp}{s:Shared}{h':Heap}
theorem Cx.Ok.aci(ok:X.Ok){b:Addr}{o:Obj}(e:X.base.get? b=some o):b∉X.fs:=fun hb=>by
 have:=(ok.jy.mem hb).1
 rw[e]at this;cases this
theorem Inv.bs(I:Inv X pins σ H s):∀b o,X.base.get? b=some o->s.heap.get? b=some o/\H b=none:=fun b o e=>
 ⟨I.base.keep b o (I.ok.bs b o e).1 (I.ok.bs b o e).2 (I.ok.aci e) (I.ok.noex b o e),I.base.free b o (I.ok.bs b o e).1 (I.ok.bs b o e).2 (I.ok.noex b o e)⟩
theorem Inv.bk(I:Inv X pins σ H s):∀b o,X.base.get? b=some o->s.heap.get? b=some o:=fun b o e=>(I.bs b o e).1
theorem Inv.mod(I:Inv X pins σ H s):Mod X.K X.mg X.base:=I.ok.mod
theorem Inv.wO(I:Inv X pins σ H s):X.K.In s.heap:=I.ok.mod.kin.keeps I.bk
theorem Inv.fr(I:Inv X pins σ H s):∃m,Fr X.base X.env.locals s.heap m:=
 let ⟨m,hn,_⟩:=I.loc
 ⟨m,hn,I.bk,Nat.le_trans I.ok.bsz I.ok.above⟩
theorem Inv.lt(I:Inv X pins σ H s):X.env.locals<s.heap.objs.size:=let ⟨_,hn,_⟩:=I.loc;hn.lt
theorem Inv.sz(I:Inv X pins σ H s):X.s₀.heap.objs.size<=s.heap.objs.size:=Nat.le_trans I.ok.above (Nat.le_of_lt I.lt)
theorem Inv.ach(I:Inv X pins σ H s){a:Addr}(h:s.heap.objs.size<=a):a∉X.fs:=fun hb=>by
 obtain⟨_,o,ho,_⟩:=I.ok.jy.mem hb
 exact absurd (Nat.lt_of_lt_of_le (Heap.lt_size ho) (Nat.le_trans I.sz h)) (Nat.lt_irrefl _)
theorem Inv.Qc(I:Inv X pins σ H s):∀x c,X.env.cells.lookup x=some c->c≠X.env.locals:=fun x c e z=>by
 obtain⟨v,o,ho,hd⟩:=I.cell x c e
 obtain⟨m,⟨o',es,ep,ho',hd',_⟩,_⟩:=I.loc
 rw[z,ho']at ho;cases ho;rw[hd']at hd;cases hd
theorem Inv.jy(I:Inv X pins σ H s):s.heap.FunFrames X.base X.outer:=by
 have all:∀(l:List Env),(∀b∈frs l,b∈X.fs)->X.s₀.heap.FunFrames X.base l->s.heap.FunFrames X.base l:=by
  intro l
  induction l with
  |nil=>intro _ _;trivial
  |cons env r ih=>
   intro hs hl
   obtain⟨hk,⟨L,o,hf,hn,ho,hd⟩,hr⟩:=hl
   have hL:L∈X.fs:=hs L (by unfold frs;rw[List.filterMap_cons,hf];exact List.mem_cons_self)
   obtain⟨sl,e⟩:=I.base.slot L o ho (I.ok.frf L hL) hL fun z=>I.ok.exfs L z hL
   exact⟨hk,⟨L,_,hf,hn,e,hd⟩,ih (fun b hb=>hs b (by unfold frs;rw[List.filterMap_cons,hf];exact List.mem_cons_of_mem _ hb)) hr⟩
 exact all X.outer (fun _ hb=>hb) I.ok.jy
theorem Inv.stack(I:Inv X pins σ H s):s.heap.FunFrames X.base X.stack:=by
 rcases I.ok.stk with e|⟨e,hf⟩
 ·rw[e];exact I.jy
 ·rw[e]
  obtain⟨m,hn,_⟩:=I.loc
  refine .cons (by rw[I.ok.kind];decide) hf hn ?_ I.jy
  exact Heap.get?_none_of_le (Nat.le_trans I.ok.bsz I.ok.above)
theorem Inv.wY(I:Inv X pins σ H s):∀b∈frs X.stack,b∈X.env.locals::X.fs:=fun b hb=>by
 rcases I.ok.stk with e|⟨e,hf⟩
 ·rw[e]at hb;exact List.mem_cons_of_mem _ hb
 ·rw[e]at hb
  unfold frs at hb
  rw[List.filterMap_cons,hf]at hb
  exact hb
theorem Inv.mY(I:Inv X pins σ H s):∀b∈frs X.stack,H b=none:=fun b hb=>by
 rcases List.mem_cons.mp (I.wY b hb)with e|hb
 ·rw[e];exact I.free
 ·obtain⟨_,o,ho,_⟩:=I.ok.jy.mem hb
  exact I.base.free b o ho (I.ok.frf b hb) fun z=>I.ok.exfs b z hb
theorem Inv.step{g':Array GenState}{t':Nat}{d':Drawn}{ch:List Addr}(I:Inv X pins σ H s)
  (hch:∀b∈ch,(b∈X.ex\/X.s₀.heap.objs.size<=b)/\b≠X.env.locals/\(∀x c,X.env.cells.lookup x=some c->c≠b)/\∀p∈X.pn++pins,p.1≠b)
  (keep:∀b o,b≠X.env.locals->b∉X.fs->b∉ch->s.heap.get? b=some o->H b=none->h'.get? b=some o)
  (slot:∀b o,b≠X.env.locals->b∈X.fs->b∉ch->s.heap.get? b=some o->H b=none->∃sl,h'.get? b=some {o with slots:=sl})(free:∀b o,b∉ch->s.heap.get? b=some o->H b=none->H' b=none)
  (there:∀b o,b∉ch->s.heap.get? b=some o->∃o',h'.get? b=some o')
  (tups:∀b xs,H b=some (.tup xs)->H' b=some (.tup xs))(frzs:∀b o u,H b=some (.frz o u)->H' b=some (.frz o u))(tbls:∀b ps,H b=some (.tbl ps)->∃more,H' b=some (.tbl (ps++more)))
  (ns:∀m,s.heap.Ns X.env.locals m->h'.Ns X.env.locals m)(hok:iV X.prog X.w H' h')(hg:AllBare g'):
  Inv X pins σ H' {s with heap:=h',gens:=g',drawn:=d',toks:=t'}:=by
 have neL:∀b o,X.s₀.heap.get? b=some o->b≠X.env.locals:=fun b o e=>Nat.ne_of_lt (Nat.lt_of_lt_of_le (Heap.lt_size e) I.ok.above)
 have neC:∀b o,X.s₀.heap.get? b=some o->b∉X.ex->b∉ch:=fun b o e hx hb=>by
  rcases (hch b hb).1 with z|z
  ·exact hx z
  ·exact absurd (Nat.lt_of_lt_of_le (Heap.lt_size e) z) (Nat.lt_irrefl _)
 have cellK:∀x c,X.env.cells.lookup x=some c->∀v,s.heap.IsCell c v->h'.IsCell c v:=fun x c e v⟨o,ho,hd⟩=>by
  have nch:c∉ch:=fun z=>(hch c z).2.2.1 x c e rfl
  by_cases hc:c∈X.fs
  ·obtain⟨sl,q⟩:=slot c o (I.Qc x c e) hc nch ho (I.freeC x c e)
   exact⟨_,q,hd⟩
  ·exact⟨o,keep c o (I.Qc x c e) hc nch ho (I.freeC x c e),hd⟩
 refine⟨I.ok,I.os,hg,⟨fun b o e n hb hx=>?_,fun b o e n hb hx=>?_,fun b o e n hx=>?_,fun b o e hx=>?_,fun b xs e=>tups b xs (I.base.tups b xs e),fun b o xs e=>frzs b o xs (I.base.frzs b o xs e),fun b ps e=>?_⟩,?_,fun x c e=>?_,?_,fun x c e=>?_,fun p hp=>?_,hok,I.len⟩
 ·exact keep b o (neL b o e) hb (neC b o e hx) (I.base.keep b o e n hb hx) (I.base.free b o e n hx)
 ·obtain⟨sl,e1⟩:=I.base.slot b o e n hb hx
  obtain⟨sl',e2⟩:=slot b _ (neL b o e) hb (neC b o e hx) e1 (I.base.free b o e n hx)
  exact⟨sl',e2⟩
 ·obtain⟨o',e1⟩:=I.base.there b o e hx
  exact free b o' (neC b o e hx) e1 (I.base.free b o e n hx)
 ·obtain⟨o',e1⟩:=I.base.there b o e hx
  exact there b o' (neC b o e hx) e1
 ·obtain⟨m1,e1⟩:=I.base.tbls b ps e
  obtain⟨m2,e2⟩:=tbls b _ e1
  exact⟨m1++m2,by rw[e2,Array.append_assoc]⟩
 ·obtain⟨m,hn,hl⟩:=I.loc
  refine⟨m,ns m hn,fun i x v e1 e2 e3=>?_⟩
  obtain⟨u,r,l⟩:=hl i x v e1 e2 e3
  refine⟨u,r,?_⟩
  rcases l with l|⟨k,c,e,z⟩
  ·exact .inl l
  ·exact .inr ⟨k,c,e,cellK x c e _ z⟩
 ·obtain⟨v,z⟩:=I.cell x c e
  exact⟨v,cellK x c e v z⟩
 ·obtain⟨m,⟨o,_,_,ho,_⟩,_⟩:=I.loc
  exact free _ o (fun z=>(hch _ z).2.1 rfl) ho I.free
 ·obtain⟨v,o,ho,hd⟩:=I.cell x c e
  exact free c o (fun z=>(hch c z).2.2.1 x c e rfl) ho (I.freeC x c e)
 ·obtain⟨e,n,ne,nf,d⟩:=I.pin p hp
  have nch:p.1∉ch:=fun z=>(hch p.1 z).2.2.2 p hp rfl
  exact⟨keep p.1 p.2 ne nf nch e n,free p.1 p.2 nch e n,ne,nf,d⟩
theorem Inv.un{t':Nat}(I:Inv X pins σ H s)(u:Un X.fs [] H H' s.heap h')(hok:iV X.prog X.w H' h'):Inv X pins σ H' {s with heap:=h',toks:=t'}:=by
 obtain⟨m,⟨o,es,ep,ho,r⟩,_⟩:=id I.loc
 obtain⟨sl,hL⟩:=u.any ho I.free (by simp)
 exact I.step (g':=s.gens) (d':=s.drawn) (ch:=[]) (fun _ z=>nomatch z) (fun b o _ hb _ e n=>u.keep b o e n hb (by simp)) (fun b o _ hb _ e n=>u.slot b o e n hb (by simp)) (fun b o _ e n=>u.free b o e n (by simp)) (fun b o _ e=>u.there b o e (by simp)) u.tups u.frzs u.tbls (fun m' hm=>by
  obtain⟨o',es',ep',ho',r'⟩:=hm
  rw[ho]at ho';cases ho'
  exact⟨_,es',ep',hL,r'⟩) hok I.bare
theorem Inv.call{g':Array GenState}{t':Nat}{d':Drawn}{ch:List Addr}(I:Inv X pins σ H s)(u:Un (frs X.stack) ch H H' s.heap h')(hok:iV X.prog X.w H' h')(hg:AllBare g')
  (hch:∀b∈ch,(b∈X.ex\/X.s₀.heap.objs.size<=b)/\b≠X.env.locals/\(∀x c,X.env.cells.lookup x=some c->c≠b)/\∀p∈X.pn++pins,p.1≠b):
  Inv X pins σ H' {s with heap:=h',gens:=g',drawn:=d',toks:=t'}:=by
 obtain⟨m,⟨o,es,ep,ho,r⟩,_⟩:=id I.loc
 obtain⟨sl,hL⟩:=u.any ho I.free fun z=>(hch _ z).2.1 rfl
 exact I.step (ch:=ch) hch (fun b o hL hb hc e n=>u.keep b o e n (fun z=>(List.mem_cons.mp (I.wY b z)).elim hL hb) hc) (fun b o _ _ hc e n=>u.any e n hc) (fun b o hc e n=>u.free b o e n hc) (fun b o hc e=>u.there b o e hc) u.tups u.frzs u.tbls (fun m' hm=>by
  obtain⟨o',es',ep',ho',r'⟩:=hm
  rw[ho]at ho';cases ho'
  exact⟨_,es',ep',hL,r'⟩) hok hg
theorem Inv.turned{t':Nat}{it:Addr}(I:Inv X pins σ H s)(k:∀b o,b≠it->s.heap.get? b=some o->h'.get? b=some o)(hn:H it=none)(hL:it≠X.env.locals)
  (h1:it∈X.ex\/X.s₀.heap.objs.size<=it)(h2:∀x c,X.env.cells.lookup x=some c->c≠it)(h3:∀p∈X.pn++pins,p.1≠it):Inv X pins σ H {s with heap:=h',toks:=t'}:=by
 have nit:∀b u,H b=some u->b≠it:=fun b u e z=>by rw[z,hn]at e;cases e
 refine I.step (g':=s.gens) (d':=s.drawn) (ch:=[it]) (fun b hb=>?_) (fun b o _ _ hc e _=>k b o (fun z=>hc (by simp[z])) e) (fun b o _ _ hc e _=>⟨o.slots,k b o (fun z=>hc (by simp[z])) e⟩) (fun _ _ _ _ n=>n)
  (fun b o hc e=>⟨o,k b o (fun z=>hc (by simp[z])) e⟩) (fun _ _ e=>e) (fun _ _ _ e=>e) (fun b ps e=>⟨#[],by rw[e];simp⟩) (fun m hm=>?_) (fun b u e=>?_) I.bare
 ·have e:b=it:=by simpa using hb
  subst e
  exact⟨h1,hL,h2,h3⟩
 ·obtain⟨o,es,ep,ho,r⟩:=hm
  exact⟨o,es,ep,k _ o (Ne.symm hL) ho,r⟩
 ·refine(I.hok b u e).stay (fun c v hc q=>k c v ?_ q) (fun _ q=>q) fun _ _ q=>q
  rcases hc with z|z
  ·rw[z];exact nit b u e
  ·exact nit c _ z
theorem Inv.tok(I:Inv X pins σ H s)(t:Nat):Inv X pins σ H {s with toks:=t}:=I.un (h':=s.heap) (t':=t) Un.refl I.hok
theorem Inv.kept{t':Nat}(I:Inv X pins σ H s)(k:∀b u,s.heap.get? b=some u->h'.get? b=some u):Inv X pins σ H {s with heap:=h',toks:=t'}:=I.un (Un.kept k) (I.hok.kept k)
theorem Inv.laid{a:Addr}{o:HO}{t':Nat}(I:Inv X pins σ H s)(k:∀b u,s.heap.get? b=some u->h'.get? b=some u)(hp:s.heap.objs.size<=a)(new:bN X.prog X.w (upd H a o) h' a o):
  Inv X pins σ (upd H a o) {s with heap:=h',toks:=t'}:=I.un (Un.laid k hp (I.hok.fresh hp)) (I.hok.laid k hp new)
theorem Inv.write{x e:Addr}{o:HO}{t':Nat}(I:Inv X pins σ H s)(mu:Z3 (H x))(he:e=x\/H e=some (.own x))(k:∀b u,b≠e->s.heap.get? b=some u->h'.get? b=some u)(heo:∃u,h'.get? e=some u)
  (new:bN X.prog X.w (upd H x o) h' x o):Inv X pins σ (upd H x o) {s with heap:=h',toks:=t'}:=I.un (Un.write mu he k heo) (I.hok.write mu he k heo new)
theorem Inv.zf{pins':List (Addr×Obj)}(I:Inv X pins σ H s)(h:∀p∈pins',s.heap.get? p.1=some p.2/\H p.1=none/\p.1≠X.env.locals/\p.1∉X.fs/\∀v,p.2.data≠ .cell v):Inv X pins' σ H s:=
 ⟨I.ok,I.os,I.bare,I.base,I.loc,I.cell,I.free,I.freeC,fun p hp=>(List.mem_append.mp hp).elim (fun z=>I.pin p (List.mem_append_left _ z)) (h p),I.hok,I.len⟩
theorem vL{N:List Str}(hN:N.Nodup){i j:Nat}{x:Str}(a:N[i]? =some x)(b:N[j]? =some x):i=j:=by
 obtain⟨h1,e1⟩:=List.getElem?_eq_some_iff.mp a
 obtain⟨h2,e2⟩:=List.getElem?_eq_some_iff.mp b
 exact(List.getElem_inj hN).mp (e1.trans e2.symm)
theorem qD{M:Model}{A:Around}{E:Value->Shared->Prop}{i:Nat}{x:Str}{v:V}{u:Value}{Q:Unit->Shared->Prop}(I:Inv X pins σ H s)(hN:X.N.Nodup)(hi:X.N[i]? =some x)(hx:Loc X.env.scope x)(r:RelV v u)
  (h:∀s',Inv X pins (σ.set i (some v)) H s'->(∃a,Heap.SameBut a s.heap s'.heap/\(a=X.env.locals\/X.env.cells.lookup x=some a))->Q () s')(hf:X.fn x=true\/X.env.scope.names.lookup x=some .local:=by first|exact .inl rfl|exact .inr rfl|assumption):wpAny M A (storeName X.env x u) Q E s:=by
 obtain⟨m,hn,hl⟩:=id I.loc
 have hcls:(X.env.scope.kind== .class||(X.env.scope.kind== .module&&X.env.locals !=X.env.globals))=false:=by rw[I.ok.kind];rfl
 have hiσ:i<σ.length:=by rw[I.len];exact(List.getElem?_eq_some_iff.mp hi).1
 have Qc:=I.Qc
 have tracked:∀{a:Addr}{h':Heap},(∃o,s.heap.get? a=some o/\H a=none)->Heap.SameBut a s.heap h'->iV X.prog X.w H h':=fun{a h'}ha hs b ob e=>by
  obtain⟨_,_,hfree⟩:=ha
  refine(I.hok b ob e).stay (fun c w' hc q=>(hs.2 c ?_).trans q) (fun _ q=>q) fun _ _ q=>q
  rintro rfl
  rcases hc with rfl|hc
  ·rw[hfree]at e;cases e
  ·rw[hfree]at hc;cases hc
 rcases hx with hk|hk
 ·refine wpAny_storeName_local hk hn (fun h' hn' hs=>?_) hcls
  obtain⟨oL,_,_,hoL,_⟩:=id hn
  refine h _ ⟨I.ok,I.os,I.bare,⟨fun b o e n hb hx=>?_,fun b o e n hb hx=>?_,I.base.free,fun b o e hx=>?_,I.base.tups,I.base.frzs,I.base.tbls⟩,⟨_,hn',fun j y v' e1 e2 e3=>?_⟩,fun y c e=>?_,I.free,I.freeC,fun p hp=>?_,tracked ⟨oL,hoL,I.free⟩ hs,by simpa using I.len⟩ ⟨_,hs,.inl rfl⟩
  ·exact(hs.2 b (Nat.ne_of_lt (Nat.lt_of_lt_of_le (Heap.lt_size e) I.ok.above))).trans (I.base.keep b o e n hb hx)
  ·obtain⟨sl,e1⟩:=I.base.slot b o e n hb hx
   exact⟨sl,(hs.2 b (Nat.ne_of_lt (Nat.lt_of_lt_of_le (Heap.lt_size e) I.ok.above))).trans e1⟩
  ·obtain⟨o',e1⟩:=I.base.there b o e hx
   exact⟨o',(hs.2 b (Nat.ne_of_lt (Nat.lt_of_lt_of_le (Heap.lt_size e) I.ok.above))).trans e1⟩
  ·by_cases hj:j=i
   ·subst hj
    rw[hi]at e1;cases e1
    rw[List.getElem?_set_self hiσ]at e2
    cases e2
    exact⟨u,r,.inl ⟨hk,by simp⟩⟩
   ·rw[List.getElem?_set_ne (Ne.symm hj)]at e2
    obtain⟨u',r',q⟩:=hl j y v' e1 e2 e3
    refine⟨u',r',?_⟩
    rcases q with ⟨k,e⟩|⟨k,c,e,z⟩
    ·refine .inl ⟨k,?_⟩
     have:y≠x:=fun e=>hj (vL hN e1 (e▸hi))
     simp[this,e]
    ·exact .inr ⟨k,c,e,z.sameBut hs (Qc y c e)⟩
  ·obtain⟨w',z⟩:=I.cell y c e
   exact⟨w',z.sameBut hs (Qc y c e)⟩
  ·obtain⟨e,n,ne,nf,d⟩:=I.pin p hp
   exact⟨(hs.2 p.1 ne).trans e,n,ne,nf,d⟩
 ·have hfn:X.fn x=true:=by
   rcases hf with z|z
   ·exact z
   ·rw[z]at hk;cases hk
  obtain⟨c,hc⟩:=I.ok.has x (.inl hk)
  obtain⟨w',z⟩:=I.cell x c hc
  refine wpAny_storeName_cell I.ok.kind hk hc z (fun h' hc' hs=>?_)
  obtain⟨oc,hoc,hocd⟩:=id z
  refine h {s with heap:=h'} ⟨I.ok,I.os,I.bare,⟨fun b o e n hb hx=>?_,fun b o e n hb hx=>?_,I.base.free,fun b o e hx=>?_,I.base.tups,I.base.frzs,I.base.tbls⟩,⟨m,hn.sameBut hs (Ne.symm (Qc x c hc)),fun j y v' e1 e2 e3=>?_⟩,fun y c' e=>?_,I.free,I.freeC,fun p hp=>?_,tracked ⟨oc,hoc,I.freeC x c hc⟩ hs,by simpa using I.len⟩ ⟨c,hs,.inr hc⟩
  ·exact(hs.2 b (Nat.ne_of_lt (Nat.lt_of_lt_of_le (Heap.lt_size e) (I.ok.cab x c hfn hc)))).trans (I.base.keep b o e n hb hx)
  ·obtain⟨sl,e1⟩:=I.base.slot b o e n hb hx
   exact⟨sl,(hs.2 b (Nat.ne_of_lt (Nat.lt_of_lt_of_le (Heap.lt_size e) (I.ok.cab x c hfn hc)))).trans e1⟩
  ·obtain⟨o',e1⟩:=I.base.there b o e hx
   exact⟨o',(hs.2 b (Nat.ne_of_lt (Nat.lt_of_lt_of_le (Heap.lt_size e) (I.ok.cab x c hfn hc)))).trans e1⟩
  ·by_cases hj:j=i
   ·subst hj
    rw[hi]at e1;cases e1
    rw[List.getElem?_set_self hiσ]at e2
    cases e2
    exact⟨u,r,.inr ⟨.inl hk,c,hc,hc'⟩⟩
   ·rw[List.getElem?_set_ne (Ne.symm hj)]at e2
    obtain⟨u',r',q⟩:=hl j y v' e1 e2 e3
    refine⟨u',r',?_⟩
    rcases q with q|⟨k,c',e,z'⟩
    ·exact .inl q
    ·refine .inr ⟨k,c',e,z'.sameBut hs ?_⟩
     rintro rfl
     exact hj (vL hN e1 (I.ok.inj _ _ _ e hc▸hi))
  ·by_cases hcc:c'=c
   ·subst hcc;exact⟨_,hc'⟩
   ·obtain⟨w2,z2⟩:=I.cell y c' e
    exact⟨w2,z2.sameBut hs hcc⟩
  ·obtain⟨e,n,ne,nf,d⟩:=I.pin p hp
   refine⟨(hs.2 p.1 ?_).trans e,n,ne,nf,d⟩
   intro q
   rw[q,hoc]at e
   have q':oc=p.2:=Option.some.inj e
   exact d w' (by rw[<-q'];exact hocd)
theorem nT{M:Model}{A:Around}{E:Value->Shared->Prop}{i:Nat}{x:Str}{v:V}{u:Value}{Q:Unit->Shared->Prop}(I:Inv X pins σ H s)(hN:X.N.Nodup)(hi:X.N[i]? =some x)(hx:Loc X.env.scope x)(r:RelV v u)
  (h:∀s',Inv X pins (σ.set i (some v)) H s'->Q () s')(hf:X.fn x=true\/X.env.scope.names.lookup x=some .local:=by first|exact .inl rfl|exact .inr rfl|assumption):wpAny M A (storeName X.env x u) Q E s:=
 qD I hN hi hx r (fun s' I' _=>h s' I') hf
theorem Inv.call'{s':Shared}{ch:List Addr}(I:Inv X pins σ H s)(ho:s'.os=s.os)(u:Un (frs X.stack) ch H H' s.heap s'.heap)(hok:iV X.prog X.w H' s'.heap)(hg:AllBare s'.gens)
  (hch:∀b∈ch,(b∈X.ex\/X.s₀.heap.objs.size<=b)/\b≠X.env.locals/\(∀x c,X.env.cells.lookup x=some c->c≠b)/\∀p∈X.pn++pins,p.1≠b):Inv X pins σ H' s':=by
 obtain⟨h',g',d',t',o'⟩:=s'
 have e:o'=s.os:=ho
 subst e
 exact I.call (g':=g') (t':=t') (d':=d') u hok hg hch
end
abbrev XK:=Value->Option Addr->Hp->Prop
abbrev St:=List (Option V)
abbrev VK:=V->Hp->Prop
abbrev TE:=St->Hp->VK->Prop
abbrev TT:=St->Hp->(Bool->Hp->Prop)->Prop
abbrev TA:=St->Hp->(List V->Hp->Prop)->Prop
structure Ends where
 nx:St->Hp->Prop
 rt:VK
 bk:St->Hp->Prop:=fun _ _=>False
 ct:St->Hp->Prop:=fun _ _=>False
abbrev TS:=Ends->St->Hp->Prop
def EP(X:Cx)(pins:List (Addr×Obj))(σ:St)(Q:VK)(u:Value)(s':Shared):Prop:=∃v H',Inv X pins σ H' s'/\RelV v u/\Q v H'
def TP(X:Cx)(pins:List (Addr×Obj))(σ:St)(Q:Bool->Hp->Prop)(b:Bool)(s':Shared):Prop:=∃H',Inv X pins σ H' s'/\Q b H'
def AP(X:Cx)(pins:List (Addr×Obj))(σ:St)(Q:List V->Hp->Prop)(us:List Value)(s':Shared):Prop:=∃vs H',Inv X pins σ H' s'/\Vals vs us/\Q vs H'
def SP(X:Cx)(pins:List (Addr×Obj))(D:Ends)(f:Flow)(s':Shared):Prop:=
 match f with
 |.next=>∃σ' H',Inv X pins σ' H' s'/\D.nx σ' H'
 |.brk=>∃σ' H',Inv X pins σ' H' s'/\D.bk σ' H'
 |.cont=>∃σ' H',Inv X pins σ' H' s'/\D.ct σ' H'
 |.ret u=>∃v σ' H',Inv X pins σ' H' s'/\RelV v u/\D.rt v H'
def PE(X:Cx)(e:Expr)(t:TE):Prop:=
 ∀(pins:List (Addr×Obj))(s:Shared)(σ:St)(H:Hp)(Q:VK),Inv X pins σ H s->t σ H Q->wpAny (model X.prog X.w) X.A (eval e X.env) (EP X pins σ Q) X.xe s
def PT(X:Cx)(e:Expr)(t:TT):Prop:=
 ∀(pins:List (Addr×Obj))(s:Shared)(σ:St)(H:Hp)(Q:Bool->Hp->Prop),Inv X pins σ H s->t σ H Q->wpAny (model X.prog X.w) X.A (isTrue e X.env (eval e X.env)) (TP X pins σ Q) X.xe s
def PW(X:Cx)(e:Expr)(t:TT):Prop:=
 ∀(whole:Sem Value)(pins:List (Addr×Obj))(s:Shared)(σ:St)(H:Hp)(Q:Bool->Hp->Prop),Inv X pins σ H s->t σ H Q->wpAny (model X.prog X.w) X.A (isTrue e X.env whole) (TP X pins σ Q) X.xe s
theorem PW.pt{X:Cx}{e:Expr}{t:TT}(h:PW X e t):PT X e t:=h _
def PA(X:Cx)(es:List Expr)(t:TA):Prop:=
 ∀(pos:Pos)(pins:List (Addr×Obj))(s:Shared)(σ:St)(H:Hp)(Q:List V->Hp->Prop),Inv X pins σ H s->t σ H Q->wpAny (model X.prog X.w) X.A (spliced (backTo pos (starEach es X.env))) (AP X pins σ Q) X.xe s
def PS(X:Cx)(st:Stmt)(t:TS):Prop:=
 ∀(pins:List (Addr×Obj))(s:Shared)(σ:St)(H:Hp)(D:Ends),Inv X pins σ H s->t D σ H->wpAny (model X.prog X.w) X.A (exec st X.env) (SP X pins D) X.xe s
def sG(X:Cx)(st:List Stmt)(t:TS):Prop:=
 ∀(pins:List (Addr×Obj))(s:Shared)(σ:St)(H:Hp)(D:Ends),Inv X pins σ H s->t D σ H->wpAny (model X.prog X.w) X.A (execs st X.env) (SP X pins D) X.xe s
theorem bV{α:Type}{t:Sem α}{Q Q':α->Shared->Prop}{M:Model}{A:Around}{E:Value->Shared->Prop}{s:Shared}(h:wpAny M A t Q E s)(hQ:∀a s,Q a s->Q' a s):wpAny M A t Q' E s:=wpAny_mono h hQ fun _ _ x=>x
end L2
namespace L2
open PySem PySem.Spec PyProof.Rows
section
variable{X:Cx}
theorem bin{a b:Expr}{ta tb:TE}(ha:PE X a ta)(hb:PE X b tb){pins:List (Addr×Obj)}{s:Shared}{σ:St}{H:Hp}{R:V->V->Hp->Prop}(I:Inv X pins σ H s)(h:ta σ H fun x H1=>tb σ H1 fun y H2=>R x y H2)
  {α:Type}{Q:α->Shared->Prop}{f:Value->Value->Sem α}
  (hf:∀v u s2 x y H2,Inv X pins σ H2 s2->RelV x v->RelV y u->R x y H2->wpAny (model X.prog X.w) X.A (f v u) Q X.xe s2):
  wpAny (model X.prog X.w) X.A (eval a X.env) (fun v s₁=>wpAny (model X.prog X.w) X.A (eval b X.env) (fun u s₂=>wpAny (model X.prog X.w) X.A (f v u) Q X.xe s₂) X.xe s₁) X.xe s:=by
 refine bV (ha pins s σ H _ I h) fun v s1⟨x,H1,I1,r1,q1⟩=>?_
 refine bV (hb pins s1 σ H1 _ I1 q1) fun u s2⟨y,H2,I2,r2,q2⟩=>?_
 exact hf v u s2 x y H2 I2 r1 r2 q2
def Av(i:Nat):TE:=fun σ H Q=>∃v,σ[i]? =some (some v)/\Q v H
def tC(v:V):TE:=fun _ H Q=>Q v H
theorem xK{i:Nat}{x:Str}{pos:Pos}(hN:X.N[i]? =some x)(hv:UW X.env.scope x)(hd:(x==("__debug__":Str))=false:=by decide)(hcd:(x==("__classdict__":Str))=false:=by decide):PE X (.Name x pos) (Av i):=by
 intro pins s σ H Q I h
 obtain⟨v,e,h⟩:=h
 obtain⟨m,hn,hl⟩:=I.loc
 obtain⟨u,r,l⟩:=hl i x v hN e hv
 have fin:EP X pins σ Q u s:=⟨v,H,I,r,h⟩
 rcases l with ⟨hk,hm⟩|⟨hk,c,hc,hcell⟩
 ·exact wpAny_Name (wpAny_loadName_local I.ok.kind hk hn hm fin) hd
 ·rcases hk with hk|hk
  ·exact wpAny_Name (wpAny_loadName_cell I.ok.kind hk hc hcell fin) hd
  ·exact wpAny_Name (wpAny_loadName_free I.ok.kind hk hc hcell fin hcd) hd
theorem RL{i j pos}:PE X (.Constant (.int i) j pos) (tC (.int i)):=fun _ _ _ H _ I h=>wpAny_Constant_int ⟨.int i,H,I.tok _,⟨_,rfl⟩,h⟩
theorem Yb{b j pos}:PE X (.Constant (.bool b) j pos) (tC (.bl b)):=fun _ _ _ H _ I h=>Constant_bool ⟨.bl b,H,I,rfl,h⟩
theorem RJ{j pos}:PE X (.Constant .none j pos) (tC .non):=fun _ _ _ H _ I h=>Constant_none ⟨.non,H,I,rfl,h⟩
theorem FW{x j pos}:PE X (.Constant (.str x) j pos) (tC (.str x)):=fun _ _ _ H _ I h=>Calls.Constant_str ⟨.str x,H,I.tok _,⟨_,rfl⟩,h⟩
def Gl(X:Cx)(x:Str):Prop:=X.env.kindOf x=some .globalImplicit
theorem jr{E:Value->Shared->Prop}{pins:List (Addr×Obj)}{s:Shared}{σ:St}{H:Hp}{x:Str}{u:Value}{pos:Pos}{Q:Value->Shared->Prop}(I:Inv X pins σ H s)(hg:Gl X x)(hm:X.mg x=some u)(h:Q u s)
  (hd:(x==("__debug__":Str))=false:=by decide):wpAny (model X.prog X.w) X.A (eval (.Name x pos) X.env) Q E s:=
 Calls.Name_function_global I.ok.kind hg (Calls.loadGlobal_global (by rw[I.ok.glob];exact I.mod.glob.keeps I.bk) hm h) hd
theorem oV{E:Value->Shared->Prop}{pins:List (Addr×Obj)}{s:Shared}{σ:St}{H:Hp}{x:Str}{u:Value}{pos:Pos}{Q:Value->Shared->Prop}(I:Inv X pins σ H s)(hg:Gl X x)(hm:X.mg x=none)(hv:bootBuiltins x=some u)(h:Q u s)
  (hn:x≠"__name__":=by decide)(hd:(x==("__debug__":Str))=false:=by decide):wpAny (model X.prog X.w) X.A (eval (.Name x pos) X.env) Q E s:=by
 obtain⟨mb,h1,h2⟩:=I.mod.blt
 exact Calls.Name_function_global I.ok.kind hg (Calls.loadGlobal_builtin (by rw[I.ok.glob];exact I.mod.glob.keeps I.bk) hm (by rw[I.ok.blt];exact h1.keeps I.bk) ((h2 x hn).trans hv) h) hd
theorem tQ{x:Str}{v:V}{u:Value}{pos:Pos}(hg:Gl X x)(hm:X.mg x=some u)(r:RelV v u)(hd:(x==("__debug__":Str))=false:=by decide):PE X (.Name x pos) (tC v):=
 fun _ _ _ H _ I h=>jr I hg hm ⟨v,H,I,r,h⟩ hd
theorem zg{x:Str}{v:V}{u:Value}{pos:Pos}(hg:Gl X x)(hm:X.mg x=none)(hv:bootBuiltins x=some u)(r:RelV v u)(hn:x≠"__name__":=by decide)(hd:(x==("__debug__":Str))=false:=by decide):PE X (.Name x pos) (tC v):=
 fun _ _ _ H _ I h=>oV I hg hm hv ⟨v,H,I,r,h⟩ hn hd
variable{a b:Expr}{ta tb:TE}{pos:Pos}
variable{tA tB':TT}{rest:List Expr}
def abI(t u:TT):TT:=fun σ H Q=>t σ H fun c H1=>if c=true then u σ H1 Q else Q false H1
def tOr(t u:TT):TT:=fun σ H Q=>t σ H fun c H1=>if c=true then Q true H1 else u σ H1 Q
def abD(t:TT):TT:=fun σ H Q=>t σ H fun c H1=>Q (!c) H1
theorem Kl(ha:PT X a tA):PW X (.BoolOp .And [a] pos) tA:=by
 intro wh pins s σ H Q I h
 refine isTrue_and (bV (ha pins s σ H Q I h) fun c s1 e=>?_)
 cases c with
 |true=>exact isTrue_and_nil e
 |false=>exact e
theorem Rt(ha:PT X a tA):PW X (.BoolOp .Or [a] pos) tA:=by
 intro wh pins s σ H Q I h
 refine isTrue_or (bV (ha pins s σ H Q I h) fun c s1 e=>?_)
 cases c with
 |false=>exact isTrue_or_nil e
 |true=>exact e
theorem Ru(ha:PT X a tA)(hb:PW X (.BoolOp .And (b::rest) pos) tB'):PW X (.BoolOp .And (a::b::rest) pos) (abI tA tB'):=by
 intro wh pins s σ H Q I h
 refine isTrue_and (bV (ha pins s σ H _ I h) fun c s1⟨H1,I1,q1⟩=>?_)
 cases c with
 |true=>exact hb wh pins s1 σ H1 Q I1 q1
 |false=>exact⟨H1,I1,q1⟩
theorem X4(ha:PT X a tA)(hb:PW X (.BoolOp .Or (b::rest) pos) tB'):PW X (.BoolOp .Or (a::b::rest) pos) (tOr tA tB'):=by
 intro wh pins s σ H Q I h
 refine isTrue_or (bV (ha pins s σ H _ I h) fun c s1⟨H1,I1,q1⟩=>?_)
 cases c with
 |true=>exact⟨H1,I1,q1⟩
 |false=>exact hb wh pins s1 σ H1 Q I1 q1
theorem Rw(ha:PT X a tA):PT X (.UnaryOp .Not a pos) (abD tA):=by
 intro pins s σ H Q I h
 exact isTrue_not (ha pins s σ H (fun c H1=>Q (!c) H1) I h)
def W5(ta tb:TE):TE:=fun σ H Q=>ta σ H fun x H1=>∃c,x=.bl c/\if c=true then tb σ H1 Q else Q (.bl false) H1
def abC(ta tb:TE):TE:=fun σ H Q=>ta σ H fun x H1=>∃c,x=.bl c/\if c=true then Q (.bl true) H1 else tb σ H1 Q
def WQ(ta:TE):TE:=fun σ H Q=>ta σ H fun x H1=>∃c,x=.bl c/\Q (.bl (!c)) H1
theorem xM{op}{t:TE}(h:PE X a t):PE X (.BoolOp op [a] pos) t:=fun pins s σ H Q I hw=>BoolOp_one (h pins s σ H Q I hw)
theorem xN(ha:PE X a ta)(hb:PE X (.BoolOp .And (b::rest) pos) tb):PE X (.BoolOp .And (a::b::rest) pos) (W5 ta tb):=by
 intro pins s σ H Q I h
 refine BoolOp_and (bV (ha pins s σ H _ I h) fun v s1⟨x,H1,I1,r1,q1⟩=>?_)
 obtain⟨c,rfl,q1⟩:=q1
 cases r1
 refine wpAny_truthy_bool ?_
 cases c with
 |true=>exact hb pins s1 σ H1 Q I1 q1
 |false=>exact⟨.bl false,H1,I1,rfl,q1⟩
theorem X7(ha:PE X a ta)(hb:PE X (.BoolOp .Or (b::rest) pos) tb):PE X (.BoolOp .Or (a::b::rest) pos) (abC ta tb):=by
 intro pins s σ H Q I h
 refine BoolOp_or (bV (ha pins s σ H _ I h) fun v s1⟨x,H1,I1,r1,q1⟩=>?_)
 obtain⟨c,rfl,q1⟩:=q1
 cases r1
 refine wpAny_truthy_bool ?_
 cases c with
 |false=>exact hb pins s1 σ H1 Q I1 q1
 |true=>exact⟨.bl true,H1,I1,rfl,q1⟩
theorem RG(ha:PE X a ta):PE X (.UnaryOp .Not a pos) (WQ ta):=by
 intro pins s σ H Q I h
 refine UnaryOp_ (bV (ha pins s σ H _ I h) fun v s1⟨x,H1,I1,r1,q1⟩=>?_)
 obtain⟨c,rfl,q1⟩:=q1
 cases r1
 exact not_of (wpAny_truthy_bool ⟨.bl (!c),H1,I1,rfl,q1⟩)
def tIf(t:TT)(ta tb:TE):TE:=fun σ H Q=>t σ H fun c H1=>if c=true then ta σ H1 Q else tb σ H1 Q
theorem Gb{c:Expr}(hc:PT X c tA)(ha:PE X a ta)(hb:PE X b tb):PE X (.IfExp c a b pos) (tIf tA ta tb):=by
 intro pins s σ H Q I h
 refine wpAny_IfExp (bV (hc pins s σ H _ I h) fun d s1⟨H1,I1,q1⟩=>?_)
 cases d with
 |true=>exact ha pins s1 σ H1 Q I1 q1
 |false=>exact hb pins s1 σ H1 Q I1 q1
end
end L2
namespace L2
open PySem PySem.Spec PyProof.Rows
def iU(K:PySem.W.Frag)(H:Hp)(a:Addr)(xs:List V):Prop:=
 Rd H a (.lst xs)\/
  ∃(o:Obj)(its:Array Value)(n:Nat),K.lookup a=some o/\o.cls=.type "list"/\o.dict=none/\o.data=.seq its n/\its.size<=sizeLine/\Vals xs its.toList
def iC(K:PySem.W.Frag)(H:Hp)(a:Addr)(xs:List V):Prop:=
 Rd H a (.tup xs)\/
  ∃(o:Obj)(its:Array Value)(n:Nat),K.lookup a=some o/\o.cls=.type "tuple"/\o.dict=none/\o.data=.seq its n/\its.size<=sizeLine/\Vals xs its.toList
def adk:Value->Option V
 |.none=>some .non
 |.bool b=>some (.bl b)
 |.int i _=>some (.int i)
 |.str x _=>some (.str x)
 |.bytes b _=>some (.byt b)
 |.float b _=>some (.flt b)
 |.ref a=>some (.ref a)
 |.type n=>some (.ty n)
 |_=>none
theorem RelV.abs{x:V}{u:Value}(r:RelV x u):adk u=some x:=by
 cases x with
 |non=>cases r;rfl
 |bl _=>cases r;rfl
 |int _=>obtain⟨t,rfl⟩:=r;rfl
 |str _=>obtain⟨t,rfl⟩:=r;rfl
 |byt _=>obtain⟨t,rfl⟩:=r;rfl
 |flt _=>obtain⟨t,rfl⟩:=r;rfl
 |ref _=>cases r;rfl
 |ty _=>cases r;rfl
theorem RelV.inj{x y:V}{u:Value}(r:RelV x u)(q:RelV y u):x=y:=Option.some.inj (r.abs.symm.trans q.abs)
theorem Vals.inj:∀{xs ys:List V}{us:List Value},Vals xs us->Vals ys us->xs=ys
 |_,_,_,.nil,.nil=>rfl
 |_,_,_,.cons r t,.cons r' t'=>by rw[r.inj r',Vals.inj t t']
section
variable{X:Cx}{pins:List (Addr×Obj)}{σ:St}{H:Hp}{s:Shared}{a:Addr}{xs ys:List V}
theorem Inv.list(I:Inv X pins σ H s)(h:iU X.K H a xs):∃its:List Value,Vals xs its/\PlainL s.heap a its.toArray/\xs.length<=sizeLine:=by
 rcases h with h|⟨o,its,n,hk,hc,hd,hs,hz,r⟩
 ·obtain⟨z,its,n,r,e⟩:=h.ok I.hok
  exact⟨its,r,⟨_,n,e,rfl,rfl,rfl⟩,z⟩
 ·refine⟨its.toList,r,⟨o,n,I.wO a o hk,hc,hd,by simpa using hs⟩,?_⟩
  have e:=r.length
  simp only[Array.length_toList]at e
  omega
theorem Inv.wV(I:Inv X pins σ H s)(h:iC X.K H a xs):∃its:List Value,Vals xs its/\TupOk s.heap a its.toArray/\xs.length<=sizeLine:=by
 rcases h with h|⟨o,its,n,hk,hc,hn,hs,hz,r⟩
 ·obtain⟨z,its,r,p⟩:=h.ok I.hok
  exact⟨its,r,p,z⟩
 ·refine⟨its.toList,r,⟨o,I.wO a o hk,hc,hn,n,by simpa using hs⟩,?_⟩
  have e:=r.length
  simp only[Array.length_toList]at e
  omega
theorem Inv.tuple(I:Inv X pins σ H s)(h:iC X.K H a xs):∃its:List Value,Vals xs its/\IsTup s.heap a its.toArray/\xs.length<=sizeLine:=by
 obtain⟨its,r,p,z⟩:=I.wV h
 exact⟨its,r,p.is,z⟩
theorem Inv.vV(I:Inv X pins σ H s)(h:iU X.K H a xs)(h':iU X.K H a ys):xs=ys:=by
 obtain⟨its,r,⟨o,n,e,_,_,d⟩,_⟩:=I.list h
 obtain⟨its',r',⟨o',n',e',_,_,d'⟩,_⟩:=I.list h'
 rw[e]at e';cases e'
 rw[d]at d'
 injection d' with d1 _
 have:its=its':=by simpa using congrArg Array.toList d1
 subst this
 exact r.inj r'
theorem Inv.qz(I:Inv X pins σ H s)(h:iC X.K H a xs)(h':iC X.K H a ys):xs=ys:=by
 obtain⟨its,r,⟨o,e,_,n,d⟩,_⟩:=I.tuple h
 obtain⟨its',r',⟨o',e',_,n',d'⟩,_⟩:=I.tuple h'
 rw[e]at e';cases e'
 rw[d]at d'
 injection d' with d1 _
 have:its=its':=by simpa using congrArg Array.toList d1
 subst this
 exact r.inj r'
end
abbrev Cx.wish(X:Cx)(E:Value->Shared->Prop):Cx:={X with xe:=E}
abbrev Cx.O1(X:Cx):Cx:=X.wish fun _ _=>False
theorem Cx.Ok.wish{X:Cx}(ok:X.Ok)(E:Value->Shared->Prop):(X.wish E).Ok:=
 ⟨ok.mod,ok.kind,ok.glob,ok.blt,ok.above,ok.inj,ok.has,ok.cab,ok.hd,ok.frames,ok.stk,ok.exf,ok.bs,ok.bsz,ok.noex,ok.exfs,ok.jy,ok.frf⟩
theorem Cx.Ok.gU{X:Cx}{E:Value->Shared->Prop}(ok:(X.wish E).Ok):X.Ok:=
 ⟨ok.mod,ok.kind,ok.glob,ok.blt,ok.above,ok.inj,ok.has,ok.cab,ok.hd,ok.frames,ok.stk,ok.exf,ok.bs,ok.bsz,ok.noex,ok.exfs,ok.jy,ok.frf⟩
section
variable{X:Cx}{pins:List (Addr×Obj)}{σ:St}{H:Hp}{s:Shared}{E:Value->Shared->Prop}
theorem Inv.wish(I:Inv X pins σ H s)(E:Value->Shared->Prop):Inv (X.wish E) pins σ H s:=⟨I.ok.wish E,I.os,I.bare,I.base,I.loc,I.cell,I.free,I.freeC,I.pin,I.hok,I.len⟩
theorem Inv.gU(I:Inv (X.wish E) pins σ H s):Inv X pins σ H s:=⟨I.ok.gU,I.os,I.bare,I.base,I.loc,I.cell,I.free,I.freeC,I.pin,I.hok,I.len⟩
theorem SP.gU{D:Ends}{f:Flow}{s':Shared}(h:SP (X.wish E) pins D f s'):SP X pins D f s':=by
 cases f with
 |next=>obtain⟨σ',H',I,q⟩:=h;exact⟨σ',H',I.gU,q⟩
 |brk=>obtain⟨σ',H',I,q⟩:=h;exact⟨σ',H',I.gU,q⟩
 |cont=>obtain⟨σ',H',I,q⟩:=h;exact⟨σ',H',I.gU,q⟩
 |ret u=>obtain⟨v,σ',H',I,r,q⟩:=h;exact⟨v,σ',H',I.gU,r,q⟩
theorem sG.O1{st:List Stmt}{t:TS}(h:sG X.O1 st t):sG X st t:=fun pins s σ H D I hw=>
 wpAny_mono (h pins s σ H D (I.wish _) hw) (fun _ _ q=>q.gU) fun _ _ z=>False.elim z
end
section
variable{X:Cx}{st:Stmt}{rest:List Stmt}{t u:TS}{e:Expr}{te:TE}{pos:Pos}
def WW:TS:=fun D σ H=>D.nx σ H
def WL(t u:TS):TS:=fun D σ H=>t {D with nx:=u D} σ H
theorem Kp:sG X [] WW:=fun _ _ σ H _ I h=>wpAny_execs_nil ⟨σ,H,I,h⟩
theorem Fw(h1:PS X st t)(h2:sG X rest u):sG X (st::rest) (WL t u):=by
 intro pins s σ H D I h
 refine wpAny_execs_cons (bV (h1 pins s σ H {D with nx:=u D} I h) fun f s1 q=>?_)
 cases f with
 |next=>
  obtain⟨σ',H',I',q⟩:=q
  exact h2 pins s1 σ' H' D I' q
 |ret v=>exact q
 |brk=>exact q
 |cont=>exact q
theorem Ko(h1:PS X st t):sG X [st] t:=by
 intro pins s σ H D I h
 refine wpAny_execs_cons (bV (h1 pins s σ H D I h) fun f s1 q=>?_)
 cases f with
 |next=>exact wpAny_execs_nil q
 |ret v=>exact q
 |brk=>exact q
 |cont=>exact q
theorem Inv.quiet{pins:List (Addr×Obj)}{σ:St}{H:Hp}{s:Shared}(I:Inv X pins σ H s):interactive X.env=false:=by simp[interactive,I.ok.kind]
def W2(te:TE):TS:=fun D σ H=>te σ H fun _ H1=>D.nx σ H1
theorem tO(he:PE X e te)(hs:swapsWith e none pos.line X.env=pure false:=by rfl):PS X (.Expr e pos) (W2 te):=by
 intro pins s σ H D I h
 exact wpAny_Expr_any (bV (he pins s σ H _ I h) fun v s1⟨x,H1,I1,r1,q1⟩=>⟨σ,H1,I1,q1⟩) I.quiet hs
def WN(te:TE):TS:=fun D σ H=>te σ H D.rt
theorem jL(he:PE X e te):PS X (.Return (some e) pos) (WN te):=by
 intro pins s σ H D I h
 exact wpAny_Return_some (bV (he pins s σ H _ I h) fun v s1⟨x,H1,I1,r1,q1⟩=>⟨x,σ,H1,I1,r1,q1⟩)
def WM:TS:=fun D _ H=>D.rt .non H
theorem Kq:PS X (.Return none pos) WM:=fun _ _ σ H _ I h=>wpAny_Return_none ⟨.non,σ,H,I,rfl,h⟩
def abF(c:TT)(t u:TS):TS:=fun D σ H=>c σ H fun b H1=>if b=true then t D σ H1 else u D σ H1
theorem X5{c:Expr}{a b:List Stmt}{tc:TT}(hc:PT X c tc)(ha:sG X a t)(hb:sG X b u):PS X (.If c a b pos) (abF tc t u):=by
 intro pins s σ H D I h
 refine wpAny_If (bV (hc pins s σ H _ I h) fun d s1⟨H1,I1,q1⟩=>?_)
 cases d with
 |true=>exact ha pins s1 σ H1 D I1 q1
 |false=>exact hb pins s1 σ H1 D I1 q1
end
abbrev TG:=V->St->Hp->(St->Hp->Prop)->Prop
abbrev U3:=List V->St->Hp->(St->Hp->Prop)->Prop
def PG(X:Cx)(target:Expr)(t:TG):Prop:=
 ∀(pins:List (Addr×Obj))(s:Shared)(σ:St)(H:Hp)(v:V)(u:Value)(Q:St->Hp->Prop),Inv X pins σ H s->RelV v u->t v σ H Q->
  wpAny (model X.prog X.w) X.A (assign target X.env u) (fun _ s'=>∃σ' H',Inv X pins σ' H' s'/\Q σ' H') X.xe s
def Z2(X:Cx)(ts:List Expr)(t:U3):Prop:=
 ∀(pins:List (Addr×Obj))(s:Shared)(σ:St)(H:Hp)(vs:List V)(us:List Value)(Q:St->Hp->Prop),Inv X pins σ H s->Vals vs us->t vs σ H Q->
  wpAny (model X.prog X.w) X.A (assignInOrder ((assignEach ts X.env).map (·.2)) us) (fun _ s'=>∃σ' H',Inv X pins σ' H' s'/\Q σ' H') X.xe s
abbrev U0:=V->V->V->Hp->(Hp->Prop)->Prop
def Nh(X:Cx)(t:U0):Prop:=
 ∀(pins:List (Addr×Obj))(s:Shared)(σ:St)(H:Hp)(o i v:V)(ov iv u:Value)(Q:Hp->Prop),Inv X pins σ H s->RelV o ov->RelV i iv->RelV v u->t o i v H Q->
  wpAny (model X.prog X.w) X.A (setItem ov iv u) (fun _ s'=>∃H',Inv X pins σ H' s'/\Q H') X.xe s
section
variable{X:Cx}{pos:Pos}
def PL(i:Nat):TG:=fun v σ H Q=>Q (σ.set i (some v)) H
theorem Ky{i:Nat}{x:Str}(hN:X.N.Nodup)(hi:X.N[i]? =some x)(hx:Loc X.env.scope x)(hf:X.fn x=true\/X.env.scope.names.lookup x=some .local:=by first|exact .inl rfl|exact .inr rfl|assumption):PG X (.Name x pos) (PL i):=by
 intro pins s σ H v u Q I r h
 exact wpAny_assign_Name (nT I hN hi hx r (fun s' I'=>⟨_,H,I',h⟩) hf)
def acW:U3:=fun vs σ H Q=>vs=[]/\Q σ H
def Zn(t:TG)(u:U3):U3:=fun vs σ H Q=>∃v r,vs=v::r/\t v σ H fun σ' H'=>u r σ' H' Q
theorem Kw:Z2 X [] acW:=by
 intro pins s σ H vs us Q I r h
 obtain⟨e,h⟩:=h
 subst e
 cases r
 exact assignInOrder_nil ⟨σ,H,I,h⟩
theorem FQ{e:Expr}{es:List Expr}{t:TG}{u:U3}(h1:PG X e t)(h2:Z2 X es u)
  (hs:(assignEach (e::es) X.env).map (·.2)=assign e X.env::(assignEach es X.env).map (·.2):=by rfl):Z2 X (e::es) (Zn t u):=by
 intro pins s σ H vs us Q I r h
 obtain⟨v,vr,e1,h⟩:=h
 subst e1
 cases r with
 |cons r rr=>
  rw[hs]
  refine assignInOrder_cons (bV (h1 pins s σ H _ _ _ I r h) fun _ s1⟨σ1,H1,I1,q1⟩=>?_)
  exact h2 pins s1 σ1 H1 _ _ Q I1 rr q1
def acU(K:PySem.W.Frag)(n:Nat)(t:U3):TG:=fun v σ H Q=>∃a xs,v=.ref a/\iC K H a xs/\xs.length=n/\t xs σ H Q
theorem Rz{es:List Expr}{k:Nat}{t:U3}{n:Nat}(hc:X.calm=true)(h:Z2 X es t)
  (hn:(assignEach es X.env).length=n:=by rfl)(hst:(assignEach es X.env).findIdx? (·.1)=none:=by rfl):PG X (.Tuple es k pos) (acU X.K n t):=by
 intro pins s σ H v u Q I r hw
 obtain⟨a,xs,e1,hq,hl,hw⟩:=hw
 subst e1
 cases r
 obtain⟨its,rv,ht,hz⟩:=I.tuple hq
 refine assign_Tuple_tuple (I.ok.hd hc) ht (by simp[hn,<-hl,rv.length]) hst fun h' hx=>?_
 have I1:Inv X pins σ H {s with heap:=h'}:=I.kept (t':=s.toks) fun b o e=>hx b o (Nat.ne_of_lt (Heap.lt_size e)) e
 exact h pins _ σ H xs _ Q I1 (by simpa using rv) hw
def acV(to ti:TE)(t:U0):TG:=fun v σ H Q=>to σ H fun o H1=>ti σ H1 fun i H2=>t o i v H2 fun H3=>Q σ H3
theorem RB{o i:Expr}{to ti:TE}{t:U0}(ho:PE X o to)(hi:PE X i ti)(hs:Nh X t)
  (ha:∀v,assign (.Subscript o i pos) X.env v=(do
   let ov<-holding [v] (eval o X.env)
   let iv<-holding [v,ov] (eval i X.env)
   standAt pos
   holding [v,ov,iv] (setItem ov iv v)
   release [v,ov,iv] []):=by intro _;rfl):PG X (.Subscript o i pos) (acV to ti t):=by
 intro pins s σ H v u Q I r h
 rw[ha]
 refine wpAny_bind (wpAny_holding (bV (ho pins s σ H _ I h) fun ov s1⟨x,H1,I1,r1,q1⟩=>?_))
 refine wpAny_bind (wpAny_holding (bV (hi pins s1 σ H1 _ I1 q1) fun iv s2⟨y,H2,I2,r2,q2⟩=>?_))
 refine wpAny_bind (wpAny_standAt (wpAny_bind (wpAny_holding (bV (hs pins s2 σ H2 x y v ov iv u _ I2 r1 r2 r q2) fun _ s3⟨H3,I3,q3⟩=>?_))))
 exact wpAny_release ⟨σ,H3,I3,q3⟩
def W4(te:TE)(g:TG):TS:=fun D σ H=>te σ H fun x H1=>g x σ H1 D.nx
theorem Fy{tg e:Expr}{te:TE}{g:TG}(he:PE X e te)(hg:PG X tg g)(hs:swapsWithSole [tg] e pos.line X.env=pure false:=by rfl)(hw:swappedStores [tg] e X.env=pure none:=by rfl)
  (h1:(assignEach [tg] X.env).map (·.2)=[assign tg X.env]:=by rfl):PS X (.Assign [tg] e pos) (W4 te g):=by
 intro pins s σ H D I h
 refine wpAny_Assign_stores (bV (he pins s σ H _ I h) fun v s1⟨x,H1,I1,r1,q1⟩=>?_) hs hw
 rw[h1]
 exact bV (hg pins s1 σ H1 x v _ I1 r1 q1) fun _ s2 q=>q
theorem Rx{i:Nat}{x:Str}{e:Expr}{te:TE}{pos':Pos}(hN:X.N.Nodup)(hi:X.N[i]? =some x)(hx:Loc X.env.scope x)(he:PE X e te)(hs:swapsWith e (some (.Name x pos')) pos.line X.env=pure false:=by rfl)(hf:X.fn x=true\/X.env.scope.names.lookup x=some .local:=by first|exact .inl rfl|exact .inr rfl|assumption):
  PS X (.Assign [.Name x pos'] e pos) (W4 te (PL i)):=by
 intro pins s σ H D I h
 refine wpAny_Assign_Name (bV (he pins s σ H _ I h) fun v s1⟨y,H1,I1,r1,q1⟩=>?_) hs
 exact nT I1 hN hi hx r1 (fun s2 I2=>⟨_,H1,I2,q1⟩) hf
end
section
variable{X:Cx}{pos:Pos}
def QV(c:TT)(tb:TS):TS:=fun D σ H=>∃W:Nat->St->Hp->Prop,(∃m,W m σ H)/\∀m σ H,W m σ H->
 c σ H fun b H1=>if b=true then∃N:St->Hp->Prop,(∀σ' H',N σ' H'->∃m',m'<m/\W m' σ' H')/\tb {D with nx:=N,ct:=N,bk:=D.nx} σ H1 else D.nx σ H1
theorem Fx{c:Expr}{body:List Stmt}{tc:TT}{tb:TS}(hp:PassesOwn (model X.prog X.w) X.A X.env X.xe)(hc:PT X c tc)(hb:sG X body tb):PS X (.While c body [] pos) (QV tc tb):=by
 intro pins s σ H D I h
 obtain⟨W,⟨m0,w0⟩,turn⟩:=h
 refine wpAny_While (codeAny_whileLoop (fun n s'=>∃σ' H',Inv X pins σ' H' s'/\W n σ' H') ?_ m0 ⟨σ,H,I,w0⟩)
 rintro n s1 ⟨σ1,H1,I1,w1⟩
 refine wpAny_passesOwn hp (bV (hc pins s1 σ1 H1 _ I1 (turn n σ1 H1 w1)) fun b s2⟨H2,I2,q2⟩=>?_)
 cases b with
 |true=>
  obtain⟨N,hN,q2⟩:=q2
  rw[if_pos rfl]
  refine wpAny_passesOwn hp (bV (hb pins s2 σ1 H2 _ I2 q2) fun f s3 q3=>?_)
  cases f with
  |next=>
   obtain⟨σ3,H3,I3,n3⟩:=q3
   obtain⟨m',hm,w3⟩:=hN σ3 H3 n3
   exact⟨m',hm,σ3,H3,I3,w3⟩
  |cont=>
   obtain⟨σ3,H3,I3,n3⟩:=q3
   obtain⟨m',hm,w3⟩:=hN σ3 H3 n3
   exact⟨m',hm,σ3,H3,I3,w3⟩
  |brk=>exact q3
  |ret v=>exact q3
 |false=>
  rw[if_neg Bool.false_ne_true]
  exact wpAny_execs_nil ⟨σ1,H2,I2,q2⟩
end
structure It where
 go:Nat->Hp->Prop
 yld:Nat->Hp->V->Hp->Prop
 stop:Nat->Hp->Prop
def iD(X:Cx)(pins:List (Addr×Obj))(H:Hp)(b:Addr):Prop:=
 H b=none/\b≠X.env.locals/\b∉X.fs/\(b∈X.ex\/X.s₀.heap.objs.size<=b)/\(∀x c,X.env.cells.lookup x=some c->c≠b)/\∀p∈X.pn++pins,p.1≠b
theorem Inv.yg{X:Cx}{pins:List (Addr×Obj)}{σ:St}{H H':Hp}{s:Shared}{b:Addr}(I:Inv X pins σ H s)(hb:s.heap.objs.size<=b)(hn:H' b=none):iD X pins H' b:=by
 refine⟨hn,Nat.ne_of_gt (Nat.lt_of_lt_of_le I.lt hb),I.ach hb,.inr (Nat.le_trans I.sz hb),fun x c e z=>?_,fun p hp z=>?_⟩
 ·obtain⟨v,q⟩:=I.cell x c e
  exact absurd (Nat.lt_of_lt_of_le q.lt (by rw[z];exact hb)) (Nat.lt_irrefl _)
 ·exact absurd (Nat.lt_of_lt_of_le (Heap.lt_size (I.pin p hp).1) (by rw[z];exact hb)) (Nat.lt_irrefl _)
structure Turn(P:Program)(w:World)(K:PySem.W.Frag)(tg:Expr)(J:It)(fp:List Addr)(it:Addr)(tn:Nat->Heap->Prop):Prop where
 mem:it∈fp
 obj:∀i h,tn i h->∀b∈fp,∃o,h.get? b=some o/\∀v,o.data≠ .cell v
 keep:∀i h h',tn i h->(∀b∈fp,∀o,h.get? b=some o->h'.get? b=some o)->tn i h'
 item:∀(X:Cx),X.prog=P->X.w=w->X.K=K->X.calm=true->∀(i:Nat)(pins:List (Addr×Obj))(s:Shared)(σ:St)(H:Hp)(E:Value->Shared->Prop),Inv X pins σ H s->(∀b∈fp,iD X pins H b)->tn i s.heap->J.go i H->
  wpAny (model P w) X.A (pyNext (.ref it)) (fun r s1=>∃u,r=some u/\
   wpAny (model P w) X.A (letOwnedTupleGo tg (.ref it) u) (fun _ s2=>∃x H',Inv X pins σ H' s2/\RelV x u/\J.yld i H x H'/\tn (i+1) s2.heap/\∀b∈fp,H' b=none) E s1) E s
 done:∀(X:Cx),X.prog=P->X.w=w->X.K=K->X.calm=true->∀(i:Nat)(pins:List (Addr×Obj))(s:Shared)(σ:St)(H:Hp)(E:Value->Shared->Prop),Inv X pins σ H s->(∀b∈fp,iD X pins H b)->tn i s.heap->J.stop i H->
  wpAny (model P w) X.A (pyNext (.ref it)) (fun r s1=>r=none/\Inv X pins σ H s1) E s
 self:∀(A:Around)(i:Nat)(s:Shared)(Q:Value->Shared->Prop)(E:Value->Shared->Prop),tn i s.heap->Q (.ref it) s->wpAny (model P w) A (pyIter (.ref it)) Q E s
abbrev TI:=St->Hp->(It->Hp->Prop)->Prop
def PIE(X:Cx)(pins:List (Addr×Obj))(σ:St)(tg:Expr)(R:It->Hp->Prop)(itv:Value)(s2:Shared):Prop:=
 ∃(it:Addr)(fp:List Addr)(tn:Nat->Heap->Prop)(J:It)(H':Hp),itv=.ref it/\Inv X pins σ H' s2/\Turn X.prog X.w X.K tg J fp it tn/\tn 0 s2.heap/\(∀b∈fp,iD X pins H' b)/\R J H'
def PI(X:Cx)(tg iter:Expr)(wi:TI):Prop:=
 ∀(pins:List (Addr×Obj))(s:Shared)(σ:St)(H:Hp)(R:It->Hp->Prop),Inv X pins σ H s->wi σ H R->
  wpAny (model X.prog X.w) X.A (eval iter X.env) (fun v s1=>wpAny (model X.prog X.w) X.A (pyIter v) (PIE X pins σ tg R) X.xe s1) X.xe s
theorem wj {M : Model} {A : Around} {E : Value -> Shared -> Prop} {s : Shared} {tg : Expr} {it : Addr} {u : Value} {o : Obj} {n : String} {vs : Array Value} {Q : Unit -> Shared -> Prop} (ho : s.heap.get? it = some o) (hc : o.cls = .type n) (hd : o.data = .fields vs)
    (hn : ["enumerate", "zip", "dict_itemiterator", "dict_reverseitemiterator", "odict_iterator", "itertools.zip_longest", "itertools.pairwise"].contains n = false) (hQ : Q () s) : wpAny M A (letOwnedTupleGo tg (.ref it) u) Q E s := by
  unfold letOwnedTupleGo
  cases tg <;> first
    | exact wpAny_pure hQ
    | (cases u <;> first
        | exact wpAny_pure hQ
        | (refine wpAny_bind (wpAny_load ho ?_)
           rw [hc, hd]
           show wpAny M A (if (["enumerate", "zip", "dict_itemiterator", "dict_reverseitemiterator", "odict_iterator", "itertools.zip_longest", "itertools.pairwise"].contains n && vs[0]? == some (rawInt _)) = true then _ else _) Q E s
           rw [if_neg (by intro h; rw [hn, Bool.false_and] at h; cases h)]
           exact wpAny_pure hQ))
def Itl(K:PySem.W.Frag)(a:Addr):It:=
 ⟨fun i H=>∃xs x,iU K H a xs/\xs[i]? =some x,fun i H x H'=>H'=H/\∀xs,iU K H a xs->xs[i]? =some x,fun i H=>∃xs,iU K H a xs/\xs.length<=i⟩
def Itt(K:PySem.W.Frag)(a:Addr):It:=
 ⟨fun i H=>∃xs x,iC K H a xs/\xs[i]? =some x,fun i H x H'=>H'=H/\∀xs,iC K H a xs->xs[i]? =some x,fun i H=>∃xs,iC K H a xs/\xs.length<=i⟩
def Z4(lo:Int)(n:Nat):It:=⟨fun i _=>i<n,fun i H x H'=>H'=H/\x=.int (lo+i),fun i _=>n<=i⟩
theorem Ao{P:Program}{w:World}{K:PySem.W.Frag}{tg:Expr}(a it:Addr):Turn P w K tg (Itl K a) [it] it (fun i h=>h.IsListIter it a i) where
 mem:=by simp
 obj:=fun i h st b hb=>by
  have e:b=it:=by simpa using hb
  subst e
  obtain⟨o,e,c,d⟩:=st
  exact⟨o,e,fun v z=>by rw[d]at z;cases z⟩
 keep:=fun i h h' st k=>st.at fun o e=>k it (by simp) o e
 item:=by
  intro X hP hw hK hc i pins s σ H E I hf st hg
  subst hP hw hK
  obtain⟨xs,x,hq,hx⟩:=hg
  obtain⟨its,rv,p,hz⟩:=I.list hq
  obtain⟨u,hu,ru⟩:=rv.get hx
  obtain⟨f0,f1,f2,f3,f4,f5⟩:=hf it (by simp)
  refine wpAny_pyNext_list_item st p.isList (x:=u) (by simpa using hu) fun h' st' sb=>?_
  have I1:Inv X pins σ H {s with heap:=h'}:=I.turned (t':=s.toks) (fun b o hb e=>(sb.2 b hb).trans e) f0 f1 f3 f4 f5
  obtain⟨o,e,c,d⟩:=id st'
  exact⟨u,rfl,wj (s:={s with heap:=h'}) e c d (by decide) ⟨x,H,I1,ru,⟨rfl,fun ys hy=>by rw[I.vV hy hq];exact hx⟩,st',fun b hb=>(hf b hb).1⟩⟩
 done:=by
  intro X hP hw hK hc i pins s σ H E I hf st hg
  subst hP hw hK
  obtain⟨xs,hq,hx⟩:=hg
  obtain⟨its,rv,p,hz⟩:=I.list hq
  obtain⟨f0,f1,f2,f3,f4,f5⟩:=hf it (by simp)
  have hl:=rv.length
  exact wpAny_pyNext_list_end (I.ok.hd hc) st p.isList (by simp;omega) fun h' eb=>⟨rfl,I.turned (t':=s.toks) (fun b o hb e=>eb b o hb e) f0 f1 f3 f4 f5⟩
 self:=fun _ _ _ _ _ st h=>wpAny_pyIter_listiter st h
theorem wQ{P:Program}{w:World}{K:PySem.W.Frag}{tg:Expr}(a it:Addr):Turn P w K tg (Itt K a) [it] it (fun i h=>h.IsTupleIter it a i) where
 mem:=by simp
 obj:=fun i h st b hb=>by
  have e:b=it:=by simpa using hb
  subst e
  obtain⟨o,e,c,d⟩:=st
  exact⟨o,e,fun v z=>by rw[d]at z;cases z⟩
 keep:=fun i h h' st k=>st.at fun o e=>k it (by simp) o e
 item:=by
  intro X hP hw hK hc i pins s σ H E I hf st hg
  subst hP hw hK
  obtain⟨xs,x,hq,hx⟩:=hg
  obtain⟨its,rv,p,hz⟩:=I.tuple hq
  obtain⟨u,hu,ru⟩:=rv.get hx
  obtain⟨f0,f1,f2,f3,f4,f5⟩:=hf it (by simp)
  refine wpAny_pyNext_tuple_item st (show s.heap.IsTuple a its.toArray from p) (x:=u) (by simpa using hu) fun h' st' sb=>?_
  have I1:Inv X pins σ H {s with heap:=h'}:=I.turned (t':=s.toks) (fun b o hb e=>(sb.2 b hb).trans e) f0 f1 f3 f4 f5
  obtain⟨o,e,c,d⟩:=id st'
  exact⟨u,rfl,wj (s:={s with heap:=h'}) e c d (by decide) ⟨x,H,I1,ru,⟨rfl,fun ys hy=>by rw[I.qz hy hq];exact hx⟩,st',fun b hb=>(hf b hb).1⟩⟩
 done:=by
  intro X hP hw hK hc i pins s σ H E I hf st hg
  subst hP hw hK
  obtain⟨xs,hq,hx⟩:=hg
  obtain⟨its,rv,p,hz⟩:=I.tuple hq
  obtain⟨f0,f1,f2,f3,f4,f5⟩:=hf it (by simp)
  have hl:=rv.length
  exact wpAny_pyNext_tuple_end (I.ok.hd hc) st (show s.heap.IsTuple a its.toArray from p) (by simp;omega) fun h' eb=>⟨rfl,I.turned (t':=s.toks) (fun b o hb e=>eb b o hb e) f0 f1 f3 f4 f5⟩
 self:=fun _ _ _ _ _ st h=>wpAny_pyIter_tupleiter st h
theorem wR{P:Program}{w:World}{K:PySem.W.Frag}{tg:Expr}(it:Addr)(lo:Int)(n:Nat):Turn P w K tg (Z4 lo n) [it] it (fun i h=>IsRangeIter h it (lo+(i:Nat)*1) ((n:Int)- (i:Nat)) 1) where
 mem:=by simp
 obj:=fun i h st b hb=>by
  have e:b=it:=by simpa using hb
  subst e
  exact⟨_,st,fun v z=>by
   have z':Data.fields _=Data.cell v:=z
   cases z'⟩
 keep:=fun i h h' st k=>k it (by simp) _ st
 item:=by
  intro X hP hw hK hc i pins s σ H E I hf st hg
  subst hP hw hK
  obtain⟨f0,f1,f2,f3,f4,f5⟩:=hf it (by simp)
  have W:=Walks.range (prog:=X.prog) (w:=X.w) (I.ok.hd hc) it lo 1 n
  refine W.item i s _ _ hg st fun v h' tk hv st' kk=>?_
  obtain⟨t,rfl⟩:=hv
  have I1:Inv X pins σ H {s with heap:=h',toks:=tk}:=I.turned (fun b o hb e=>kk b o (by simpa using hb) e) f0 f1 f3 f4 f5
  refine⟨_,rfl,wj (s:={s with heap:=h',toks:=tk}) (n:="range_iterator") st' rfl rfl (by decide) ⟨.int (lo+i),H,I1,⟨t,?_⟩,⟨rfl,rfl⟩,st',fun b hb=>(hf b hb).1⟩⟩
  rw[Int.mul_one]
 done:=by
  intro X hP hw hK hc i pins s σ H E I hf st hg
  subst hP hw hK
  obtain⟨f0,f1,f2,f3,f4,f5⟩:=hf it (by simp)
  exact wpAny_pyNext_range_end (I.ok.hd hc) st (by have:n<=i:=hg;omega) fun h' eb=>⟨rfl,I.turned (t':=s.toks) (fun b o hb e=>eb b o hb e) f0 f1 f3 f4 f5⟩
 self:=fun _ _ _ _ _ st h=>wpAny_pyIter_rangeiter st h
end L2
namespace L2
open PySem PySem.Spec PyProof.Rows
section
variable{X:Cx}{tg:Expr}
theorem Ff{pins:List (Addr×Obj)}{σ:St}{H:Hp}{s:Shared}{R:It->Hp->Prop}{E:Value->Shared->Prop}{lo hi:Int}{t u v:Tok}{tk:Nat}(I:Inv X pins σ H s)(h1: -(2 ^62)<=lo)(h2:lo<2 ^62)(h3: -(2 ^62)<=hi)(h4:hi<2 ^62)
  (q:R (Z4 lo (hi-lo).toNat) H):wpAny (model X.prog X.w) X.A (pyIter (.ref s.heap.objs.size)) (PIE X pins σ tg R) E {s with heap:=s.heap.push {cls:=.type "range",data:=.fields #[.int lo t,.int hi u,.int 1 v]},toks:=tk}:=by
 refine wpAny_pyIter_range (IsRange.new ..) (small_one h1 h2 h3 h4) ?_
 have I1:Inv X pins σ H {s with heap:=s.heap.push {cls:=.type "range",data:=.fields #[.int lo t,.int hi u,.int 1 v]},toks:=tk}:=I.kept fun b o e=>Heap.get?_push_of_some _ e
 refine⟨(s.heap.push {cls:=.type "range",data:=.fields #[.int lo t,.int hi u,.int 1 v]}).objs.size,[(s.heap.push {cls:=.type "range",data:=.fields #[.int lo t,.int hi u,.int 1 v]}).objs.size],_,_,H,rfl,
  I1.kept (t':=tk) fun b o e=>Heap.get?_push_of_some _ e,wR _ lo (hi-lo).toNat,?_,fun b hb=>?_,q⟩
 ·have e1:lo+((0:Nat):Int)*1=lo:=by simp
  have e2:(((hi-lo).toNat:Nat):Int)- ((0:Nat):Int)=Builtin.Range.rangeSize lo hi 1:=by rw[rangeSize_one];split<;>omega
  show IsRangeIter _ _ (lo+((0:Nat):Int)*1) ((((hi-lo).toNat:Nat):Int)- ((0:Nat):Int)) 1
  rw[e1,e2]
  exact Heap.get?_push_size _ rfl
 ·have e:b=(s.heap.push {cls:=.type "range",data:=.fields #[.int lo t,.int hi u,.int 1 v]}).objs.size:=by simpa using hb
  subst e
  exact I1.yg (Nat.le_refl _) (I1.hok.fresh (Nat.le_refl _))
def Zf(ta:TA):TI:=fun σ H R=>ta σ H fun vs H1=>∃j:Int,vs=[.int j]/\ -(2 ^62)<=j/\j<2 ^62/\R (Z4 0 j.toNat) H1
theorem Bo{a:Expr}{ta:TA}{p pos:Pos}(hg:Gl X "range")(hm:X.mg "range"=none)(ha:PA X [a] ta)(hs:starEach [a] X.env=[(false,eval a X.env)]:=by rfl):PI X tg (.Call (.Name "range" p) [a] [] pos) (Zf ta):=by
 intro pins s σ H R I h
 refine Call_ (oV I hg hm boot_range (PyProof.Rows.callWith_type1 (bV (ha pos pins s σ H _ I h) fun us s1⟨vs,H1,I1,r1,q1⟩=>?_) hs rfl))
 obtain⟨j,e,q1,q2,q⟩:=q1
 subst e
 cases r1 with
 |cons r rr=>
  cases rr
  obtain⟨t,rfl⟩:=r
  exact call_range_1 (Ff I1 (by omega) (by omega) q1 q2 (by simpa using q))
def abG(wi:TI)(g:TG)(tb:TS):TS:=fun D σ H=>wi σ H fun J H1=>∃W:Nat->Nat->St->Hp->Prop,(∃m,W 0 m σ H1)/\∀i m σ H,W i m σ H->
 (J.stop i H/\D.nx σ H)\/(J.go i H/\∃N:St->Hp->Prop,(∀σ' H',N σ' H'->∃m',m'<m/\W (i+1) m' σ' H')/\∀x H',J.yld i H x H'->g x σ H' fun σ2 H2=>tb {D with nx:=N,ct:=N,bk:=D.nx} σ2 H2)
def lD(fp:List Addr)(h:Heap):List (Addr×Obj):=fp.filterMap fun b=>(h.get? b).map fun o=>(b,o)
theorem ie{fp:List Addr}{h:Heap}{b:Addr}{o:Obj}(hb:b∈fp)(e:h.get? b=some o):(b,o)∈lD fp h:=List.mem_filterMap.mpr ⟨b,hb,by rw[e];rfl⟩
theorem Bt{fp:List Addr}{h:Heap}{p:Addr×Obj}(hp:p∈lD fp h):p.1∈fp/\h.get? p.1=some p.2:=by
 obtain⟨b,hb,e⟩:=List.mem_filterMap.mp hp
 cases q:h.get? b with
 |none=>rw[q]at e;cases e
 |some o=>
  rw[q]at e
  have e':(b,o)=p:=Option.some.inj e
  subst e'
  exact⟨hb,q⟩
theorem Inv.pinned{pins:List (Addr×Obj)}{σ:St}{H:Hp}{s:Shared}{fp:List Addr}(I:Inv X pins σ H s)(hf:∀b∈fp,iD X pins H b)(ho:∀b∈fp,∃o,s.heap.get? b=some o/\∀v,o.data≠ .cell v):Inv X (pins++lD fp s.heap) σ H s:=
 I.zf fun p hp=>(List.mem_append.mp hp).elim (fun z=>I.pin p (List.mem_append_right _ z)) fun z=>by
  obtain⟨hb,e⟩:=Bt z
  obtain⟨f0,f1,f2,_⟩:=hf p.1 hb
  obtain⟨o,e',d⟩:=ho p.1 hb
  rw[e]at e';cases e'
  exact⟨e,f0,f1,f2,d⟩
theorem Inv.jR{pins pl:List (Addr×Obj)}{σ:St}{H:Hp}{s:Shared}(I:Inv X (pins++pl) σ H s):Inv X pins σ H s:=I.zf fun p hp=>I.pin p (List.mem_append_right _ (List.mem_append_left _ hp))
theorem Ry{iter:Expr}{body:List Stmt}{wi:TI}{g:TG}{tb:TS}{pos:Pos}(hp:PassesOwn (model X.prog X.w) X.A X.env X.xe)(hc:X.calm=true)(hi:PI X tg iter wi)(hg:PG X tg g)(hb:sG X body tb)
  (hs:∀x,foldedSetIterable iter X.env x=pure x:=by intro _;rfl):PS X (.For tg iter body [] pos) (abG wi g tb):=by
 intro pins s σ H D I h
 refine wpAny_For (bV (hi pins s σ H _ I h) fun v s1 h1=>bV h1 fun itv s2 h2=>?_) hs
 obtain⟨it,fp,tn,J,H2,e,I2,T,st2,f2,W,⟨m0,w0⟩,turn⟩:=h2
 subst e
 have stat:∀{H':Hp},(∀b∈fp,H' b=none)->∀b∈fp,iD X pins H' b:=fun hn b hb=>⟨hn b hb,(f2 b hb).2⟩
 refine codeAny_forLoop_any (fun n s'=>∃i σ' H',Inv X pins σ' H' s'/\tn i s'.heap/\(∀b∈fp,H' b=none)/\W i n σ' H') ?_ m0 ⟨0,σ,H2,I2,st2,fun b hb=>(f2 b hb).1,w0⟩
 rintro n s3 ⟨i,σ3,H3,I3,st3,fr3,w3⟩
 rcases turn i n σ3 H3 w3 with ⟨stop,qn⟩|⟨go,N,hN,step⟩
 ·refine wpAny_passesOwn hp (bV (T.done X rfl rfl rfl hc i pins s3 σ3 H3 X.xe I3 (stat fr3) st3 stop) fun r s4⟨hr,I4⟩=>?_)
  subst hr
  exact wpAny_execs_nil ⟨σ3,H3,I4,qn⟩
 ·refine wpAny_passesOwn hp (bV (T.item X rfl rfl rfl hc i pins s3 σ3 H3 X.xe I3 (stat fr3) st3 go) fun r s4⟨u,hr,h4⟩=>?_)
  subst hr
  refine wpAny_passesOwn hp (bV h4 fun _ s5⟨x,H5,I5,r5,y5,st5,fr5⟩=>?_)
  have I5':=I5.pinned (stat fr5) (T.obj _ _ st5)
  refine wpAny_passesOwn hp (bV (hg _ s5 σ3 H5 x u _ I5' r5 (step x H5 y5)) fun _ s6⟨σ6,H6,I6,q6⟩=>?_)
  refine wpAny_passesOwn hp (bV (hb _ s6 σ6 H6 _ I6 q6) fun f s7 q7=>?_)
  have again:∀{σ7:St}{H7:Hp},Inv X (pins++lD fp s5.heap) σ7 H7 s7->N σ7 H7->∃m,m<n/\∃i σ' H',Inv X pins σ' H' s7/\tn i s7.heap/\(∀b∈fp,H' b=none)/\W i m σ' H':=fun{σ7 H7}I7 n7=>by
   obtain⟨m',hm,w7⟩:=hN σ7 H7 n7
   refine⟨m',hm,i+1,σ7,H7,I7.jR,T.keep _ _ _ st5 fun b hb o e=>(I7.pin (b,o) (List.mem_append_right _ (List.mem_append_right _ (ie hb e)))).1,fun b hb=>?_,w7⟩
   obtain⟨o,e,d⟩:=T.obj _ _ st5 b hb
   exact(I7.pin (b,o) (List.mem_append_right _ (List.mem_append_right _ (ie hb e)))).2.1
  cases f with
  |next=>obtain⟨σ7,H7,I7,n7⟩:=q7;exact again I7 n7
  |cont=>obtain⟨σ7,H7,I7,n7⟩:=q7;exact again I7 n7
  |brk=>obtain⟨σ7,H7,I7,q7⟩:=q7;exact⟨σ7,H7,I7.jR,q7⟩
  |ret v=>obtain⟨x7,σ7,H7,I7,r7,q7⟩:=q7;exact⟨x7,σ7,H7,I7.jR,r7,q7⟩
end
end L2
namespace L2
open PySem PySem.Spec PyProof.Rows
abbrev R2:=V->V->Hp->VK->Prop
def fB(X:Cx)(f:Value->Value->Sem Value)(r:R2):Prop:=
 ∀(pins:List (Addr×Obj))(s:Shared)(σ:St)(H:Hp)(x y:V)(v u:Value)(Q:VK),Inv X pins σ H s->RelV x v->RelV y u->r x y H Q->
  wpAny (model X.prog X.w) X.A (f v u) (EP X pins σ Q) X.xe s
def UnR(X:Cx)(f:Value->Sem Value)(r:V->Hp->VK->Prop):Prop:=
 ∀(pins:List (Addr×Obj))(s:Shared)(σ:St)(H:Hp)(x:V)(v:Value)(Q:VK),Inv X pins σ H s->RelV x v->r x H Q->
  wpAny (model X.prog X.w) X.A (f v) (EP X pins σ Q) X.xe s
def eF(X:Cx)(f:Value)(r:List V->Hp->VK->Prop):Prop:=
 ∀(pins:List (Addr×Obj))(s:Shared)(σ:St)(H:Hp)(xs:List V)(us:List Value)(Q:VK),Inv X pins σ H s->Vals xs us->r xs H Q->
  wpAny (model X.prog X.w) X.A (call f us) (EP X pins σ Q) X.xe s
def adm(X:Cx)(r:V->Hp->(Bool->Hp->Prop)->Prop):Prop:=
 ∀(pins:List (Addr×Obj))(s:Shared)(σ:St)(H:Hp)(x:V)(v:Value)(Q:Bool->Hp->Prop),Inv X pins σ H s->RelV x v->r x H Q->
  wpAny (model X.prog X.w) X.A (truthy v) (TP X pins σ Q) X.xe s
def Vm(r:R2)(ta tb:TE):TE:=fun σ H Q=>ta σ H fun x H1=>tb σ H1 fun y H2=>r x y H2 Q
def tUn(r:V->Hp->VK->Prop)(ta:TE):TE:=fun σ H Q=>ta σ H fun x H1=>r x H1 Q
def rI(C:Int->Int->Prop)(g:Int->Int->V):R2:=fun x y H Q=>∃i j,x=.int i/\y=.int j/\C i j/\Q (g i j) H
def Fo(g:Int->Int->V):R2:=fun x y H Q=>∃i j,x=.int i/\y=.int j/\Q (g i j) H
def rU(g:Int->V):V->Hp->VK->Prop:=fun x H Q=>∃i,x=.int i/\Q (g i) H
section
variable{X:Cx}{a b c:Expr}{ta tb tc:TE}{pos:Pos}
theorem Uz(ha:PE X a ta)(hb:PE X b tb){pins:List (Addr×Obj)}{s:Shared}{σ:St}{H:Hp}{R:V->V->Hp->Prop}(I:Inv X pins σ H s)
  (h:ta σ H fun x H1=>tb σ H1 fun y H2=>R x y H2){Q:Value->Shared->Prop}{f:Value->Value->Sem Value}
  (hf:∀v u s2 x y H2,Inv X pins σ H2 s2->RelV x v->RelV y u->R x y H2->wpAny (model X.prog X.w) X.A (f v u) Q X.xe s2):
  wpAny (model X.prog X.w) X.A (eval a X.env) (fun v s₁=>wpAny (model X.prog X.w) X.A (eval b X.env) (fun u s₂=>wpAny (model X.prog X.w) X.A (f v u) Q X.xe s₂) X.xe s₁) X.xe s:=by
 refine bV (ha pins s σ H _ I h) fun v s1⟨x,H1,I1,r1,q1⟩=>?_
 refine bV (hb pins s1 σ H1 _ I1 q1) fun u s2⟨y,H2,I2,r2,q2⟩=>?_
 exact hf v u s2 x y H2 I2 r1 r2 q2
theorem oJ{op:Operator}{r:R2}(ho:fB X (binaryOp op) r)(ha:PE X a ta)(hb:PE X b tb):PE X (.BinOp a op b pos) (Vm r ta tb):=by
 intro pins s σ H Q I h
 exact wpAny_BinOp (Uz ha hb I h fun v u s2 x y H2 I2 rx ry q=>ho pins s2 σ H2 x y v u Q I2 rx ry q)
theorem X6{op:UnaryOp}{r:V->Hp->VK->Prop}(ho:UnR X (unaryOp op) r)(ha:PE X a ta):PE X (.UnaryOp op a pos) (tUn r ta):=by
 intro pins s σ H Q I h
 exact UnaryOp_ (bV (ha pins s σ H _ I h) fun v s1⟨x,H1,I1,r1,q1⟩=>ho pins s1 σ H1 x v Q I1 r1 q1)
theorem opI{f:Value->Value->Sem Value}{C:Int->Int->Prop}{g:Int->Int->Int}
  (rule:∀(i j:Int)(t u:Tok)(s:Shared)(Q:Value->Shared->Prop)(E:Value->Shared->Prop),C i j->Q (.int (g i j) s.toks) {s with toks:=s.toks+1}->wpAny (model X.prog X.w) X.A (f (.int i t) (.int j u)) Q E s):
  fB X f (rI C fun i j=>.int (g i j)):=by
 intro pins s σ H x y v u Q I rx ry h
 obtain⟨i,j,rfl,rfl,hc,q⟩:=h
 obtain⟨t,rfl⟩:=rx
 obtain⟨t',rfl⟩:=ry
 exact rule i j t t' s _ _ hc ⟨.int (g i j),H,I.tok _,⟨_,rfl⟩,q⟩
theorem Yl{f:Value->Value->Sem Value}{g:Int->Int->Int}
  (rule:∀(i j:Int)(t u:Tok)(s:Shared)(Q:Value->Shared->Prop)(E:Value->Shared->Prop),Q (.int (g i j) s.toks) {s with toks:=s.toks+1}->wpAny (model X.prog X.w) X.A (f (.int i t) (.int j u)) Q E s):
  fB X f (Fo fun i j=>.int (g i j)):=by
 intro pins s σ H x y v u Q I rx ry h
 obtain⟨i,j,rfl,rfl,q⟩:=h
 obtain⟨t,rfl⟩:=rx
 obtain⟨t',rfl⟩:=ry
 exact rule i j t t' s _ _ ⟨.int (g i j),H,I.tok _,⟨_,rfl⟩,q⟩
theorem K9{f:Value->Value->Sem Value}{g:Int->Int->Bool}
  (rule:∀(i j:Int)(t u:Tok)(s:Shared)(Q:Value->Shared->Prop)(E:Value->Shared->Prop),Q (.bool (g i j)) s->wpAny (model X.prog X.w) X.A (f (.int i t) (.int j u)) Q E s):
  fB X f (Fo fun i j=>.bl (g i j)):=by
 intro pins s σ H x y v u Q I rx ry h
 obtain⟨i,j,rfl,rfl,q⟩:=h
 obtain⟨t,rfl⟩:=rx
 obtain⟨t',rfl⟩:=ry
 exact rule i j t t' s _ _ ⟨.bl (g i j),H,I,rfl,q⟩
def Z7(i j:Int):Prop:=0<j/\j<1073741824
def Z6(i j:Int):Prop:=0<=j/\j<=1000000/\i.natAbs<2 ^64
def Nk(i j:Int):Prop:=(-(2 ^64)<i/\i<2 ^64)\/(-(2 ^64)<j/\j<2 ^64)
theorem Nk.ok{i j:Int}(h:Nk i j):IntMulOk i j:=by
 rcases h with ⟨h1,h2⟩|⟨h1,h2⟩
 ·exact .of_left (intBits_le_64 h1 h2)
 ·exact .of_right (intBits_le_64 h1 h2)
theorem R4:fB X (binaryOp .Add) (Fo fun i j=>.int (i+j)):=Yl fun _ _ _ _ _ _ _ q=>add_int q
theorem RP:fB X (binaryOp .Sub) (Fo fun i j=>.int (i-j)):=Yl fun _ _ _ _ _ _ _ q=>sub_int q
theorem RV:fB X (binaryOp .Mult) (rI Nk fun i j=>.int (i*j)):=opI fun _ _ _ _ _ _ _ hc q=>mul_int q hc.ok
theorem K4:fB X (binaryOp .FloorDiv) (rI Z7 fun i j=>.int (i/j)):=opI fun i j _ _ _ _ _ hc q=>by
 have h1:(0:Int)<j:=hc.1
 have h2:j<1073741824:=hc.2
 exact floordiv_int (by omega) (by rw[Int.fdiv_eq_ediv_of_nonneg i (by omega)];exact q) (.inl (PyProof.noPylong_small (by omega)))
theorem RW:fB X (binaryOp .Mod) (rI (fun _ j=>0<j) fun i j=>.int (i%j)):=opI fun i j _ _ _ _ _ hc q=>by
 have h1:(0:Int)<j:=hc
 exact mod_int' (by omega) (by rw[Int.fmod_eq_emod_of_nonneg i (by omega)];exact q)
theorem RQ:fB X (binaryOp .Pow) (rI Z6 fun i j=>.int (i ^j.toNat)):=opI fun _ _ _ _ _ _ _ hc q=>pow_int_small hc.1 hc.2.1 hc.2.2 q
theorem unI{f:Value->Sem Value}{g:Int->Int}
  (rule:∀(i:Int)(t:Tok)(s:Shared)(Q:Value->Shared->Prop)(E:Value->Shared->Prop),Q (.int (g i) s.toks) {s with toks:=s.toks+1}->wpAny (model X.prog X.w) X.A (f (.int i t)) Q E s):
  UnR X f (rU fun i=>.int (g i)):=by
 intro pins s σ H x v Q I rx h
 obtain⟨i,rfl,q⟩:=h
 obtain⟨t,rfl⟩:=rx
 exact rule i t s _ _ ⟨.int (g i),H,I.tok _,⟨_,rfl⟩,q⟩
theorem QL:UnR X (unaryOp .USub) (rU fun i=>.int (-i)):=unI fun _ _ _ _ _ q=>neg_int q
end
def JX:V->V->Bool
 |.non,.non=>true|.non,.int _=>true|.int _,.non=>true|.non,.bl _=>true|.bl _,.non=>true|.non,.str _=>true|.str _,.non=>true
 |.int _,.int _=>true|.bl _,.bl _=>true|.str _,.str _=>true|.byt _,.byt _=>true
 |.int _,.str _=>true|.str _,.int _=>true|.bl _,.str _=>true|.str _,.bl _=>true
 |_,_=>false
def rEq:R2:=fun x y H Q=>JX x y=true/\Q (.bl (decide (x=y))) H
def rNe:R2:=fun x y H Q=>JX x y=true/\Q (.bl (!decide (x=y))) H
theorem zZ{i j:Int}:decide (V.int i=V.int j)=(i==j):=by
 rw[Bool.eq_iff_iff]
 simp
theorem Hw{i j:Bool}:decide (V.bl i=V.bl j)=(i==j):=by
 rw[Bool.eq_iff_iff]
 simp
theorem zY{i j:Str}:decide (V.str i=V.str j)=(i==j):=by
 rw[Bool.eq_iff_iff]
 simp
theorem z6{i j:Array UInt8}:decide (V.byt i=V.byt j)=(i.toList==j.toList):=by
 rw[Bool.eq_iff_iff]
 cases i
 cases j
 simp
section
variable{X:Cx}{a b c:Expr}{ta tb tc:TE}{pos:Pos}
theorem aX{pins:List (Addr×Obj)}{σ:St}{H:Hp}{s:Shared}{Q:VK}{k k':Bool}(I:Inv X pins σ H s)(q:Q (.bl k) H)(e:k=k'):EP X pins σ Q (.bool k') s:=by
 subst e
 exact⟨.bl k,H,I,rfl,q⟩
theorem Yj:fB X (compareOp .Eq) rEq:=by
 intro pins s σ H x y v u Q I rx ry h
 obtain⟨hs,q⟩:=h
 cases x with
 |non=>
  cases rx
  cases y with
  |non=>cases ry;exact PySem.EqNone.eq_none_none (aX I q (by simp))
  |bl j=>cases ry;exact PySem.EqNone.eq_none_bool (aX I q (by simp))
  |int j=>obtain⟨t',rfl⟩:=ry;exact PySem.EqNone.eq_none_int (aX I q (by simp))
  |str j=>obtain⟨t',rfl⟩:=ry;exact PySem.EqNone.eq_none_str (aX I q (by simp))
  |_=>exact absurd (show false=true from hs) Bool.false_ne_true
 |bl i=>
  cases rx
  cases y with
  |non=>cases ry;exact PySem.EqNone.eq_bool_none (aX I q (by simp))
  |bl j=>cases ry;exact eq_bool (aX I q Hw)
  |str j=>obtain⟨t',rfl⟩:=ry;exact PySem.EqMixed.eq_bool_str (aX I q (by simp))
  |_=>exact absurd (show false=true from hs) Bool.false_ne_true
 |int i=>
  obtain⟨t,rfl⟩:=rx
  cases y with
  |non=>cases ry;exact PySem.EqNone.eq_int_none (aX I q (by simp))
  |int j=>obtain⟨t',rfl⟩:=ry;exact eq_int (aX I q zZ)
  |str j=>obtain⟨t',rfl⟩:=ry;exact PySem.EqMixed.eq_int_str (aX I q (by simp))
  |_=>exact absurd (show false=true from hs) Bool.false_ne_true
 |str i=>
  obtain⟨t,rfl⟩:=rx
  cases y with
  |non=>cases ry;exact PySem.EqNone.eq_str_none (aX I q (by simp))
  |bl j=>cases ry;exact PySem.EqMixed.eq_str_bool (aX I q (by simp))
  |int j=>obtain⟨t',rfl⟩:=ry;exact PySem.EqMixed.eq_str_int (aX I q (by simp))
  |str j=>obtain⟨t',rfl⟩:=ry;exact eq_str (aX I q zY)
  |_=>exact absurd (show false=true from hs) Bool.false_ne_true
 |byt i=>
  obtain⟨t,rfl⟩:=rx
  cases y with
  |byt j=>obtain⟨t',rfl⟩:=ry;exact PySem.W.eq_bytes (aX I q z6)
  |_=>exact absurd (show false=true from hs) Bool.false_ne_true
 |_=>cases y<;>exact absurd (show false=true from hs) Bool.false_ne_true
theorem Yd:fB X (compareOp .NotEq) rNe:=by
 intro pins s σ H x y v u Q I rx ry h
 obtain⟨hs,q⟩:=h
 cases x with
 |non=>
  cases rx
  cases y with
  |non=>cases ry;exact PySem.EqNone.ne_none_none (aX I q (by simp))
  |bl j=>cases ry;exact PySem.EqNone.ne_none_bool (aX I q (by simp))
  |int j=>obtain⟨t',rfl⟩:=ry;exact PySem.EqNone.ne_none_int (aX I q (by simp))
  |str j=>obtain⟨t',rfl⟩:=ry;exact PySem.EqNone.ne_none_str (aX I q (by simp))
  |_=>exact absurd (show false=true from hs) Bool.false_ne_true
 |bl i=>
  cases rx
  cases y with
  |non=>cases ry;exact PySem.EqNone.ne_bool_none (aX I q (by simp))
  |bl j=>cases ry;exact ne_bool (aX I q (congrArg not Hw))
  |str j=>obtain⟨t',rfl⟩:=ry;exact PySem.EqMixed.ne_bool_str (aX I q (by simp))
  |_=>exact absurd (show false=true from hs) Bool.false_ne_true
 |int i=>
  obtain⟨t,rfl⟩:=rx
  cases y with
  |non=>cases ry;exact PySem.EqNone.ne_int_none (aX I q (by simp))
  |int j=>obtain⟨t',rfl⟩:=ry;exact ne_int (aX I q (congrArg not zZ))
  |str j=>obtain⟨t',rfl⟩:=ry;exact PySem.EqMixed.ne_int_str (aX I q (by simp))
  |_=>exact absurd (show false=true from hs) Bool.false_ne_true
 |str i=>
  obtain⟨t,rfl⟩:=rx
  cases y with
  |non=>cases ry;exact PySem.EqNone.ne_str_none (aX I q (by simp))
  |bl j=>cases ry;exact PySem.EqMixed.ne_str_bool (aX I q (by simp))
  |int j=>obtain⟨t',rfl⟩:=ry;exact PySem.EqMixed.ne_str_int (aX I q (by simp))
  |str j=>obtain⟨t',rfl⟩:=ry;exact ne_str (aX I q (congrArg not zY))
  |_=>exact absurd (show false=true from hs) Bool.false_ne_true
 |byt i=>
  obtain⟨t,rfl⟩:=rx
  cases y with
  |byt j=>obtain⟨t',rfl⟩:=ry;exact PySem.W.ne_bytes (aX I q (congrArg not z6))
  |_=>exact absurd (show false=true from hs) Bool.false_ne_true
 |_=>cases y<;>exact absurd (show false=true from hs) Bool.false_ne_true
theorem Ye:fB X (compareOp .Lt) (Fo fun i j=>.bl (decide (i<j))):=K9 fun _ _ _ _ _ _ _ q=>lt_int q
theorem Yg:fB X (compareOp .LtE) (Fo fun i j=>.bl (decide (i<=j))):=K9 fun _ _ _ _ _ _ _ q=>le_int q
theorem Yh:fB X (compareOp .Gt) (Fo fun i j=>.bl (decide (j<i))):=K9 fun _ _ _ _ _ _ _ q=>gt_int q
theorem Yi:fB X (compareOp .GtE) (Fo fun i j=>.bl (decide (j<=i))):=K9 fun _ _ _ _ _ _ _ q=>ge_int q
theorem Bq:fB X (compareOp .In) (fun x y H Q=>∃i j,x=.str i/\y=.str j/\Q (.bl (!(Builtin.Str.occurrences j i 0 j.length 1).isEmpty)) H):=by
 intro pins s σ H x y v u Q I rx ry h
 obtain⟨i,j,rfl,rfl,q⟩:=h
 obtain⟨t,rfl⟩:=rx
 obtain⟨t',rfl⟩:=ry
 exact in_str (aX I q rfl)
theorem RZ:fB X (compareOp .Is) (fun x y H Q=>y=.non/\Q (.bl (decide (x=.non))) H):=by
 intro pins s σ H x y v u Q I rx ry h
 obtain⟨rfl,q⟩:=h
 cases ry
 refine is_none_gen (aX I q ?_)
 cases x<;>first
  |(cases rx;rfl)
  |(obtain⟨t,rfl⟩:=rx;rfl)
theorem KZ:fB X (compareOp .IsNot) (fun x y H Q=>y=.non/\Q (.bl (!decide (x=.non))) H):=by
 intro pins s σ H x y v u Q I rx ry h
 obtain⟨rfl,q⟩:=h
 cases ry
 refine isnot_none_gen (aX I q ?_)
 cases x<;>first
  |(cases rx;rfl)
  |(obtain⟨t,rfl⟩:=rx;rfl)
theorem fB.or{f:Value->Value->Sem Value}{r r':R2}(h:fB X f r)(h':fB X f r'):fB X f (fun x y H Q=>r x y H Q\/r' x y H Q):=by
 intro pins s σ H x y v u Q I rx ry q
 rcases q with q|q
 ·exact h pins s σ H x y v u Q I rx ry q
 ·exact h' pins s σ H x y v u Q I rx ry q
theorem KJ{op:CmpOp}{r:R2}(ho:fB X (compareOp op) r)(ha:PE X a ta)(hb:PE X b tb)(hm:behindInMarks op b=false):PE X (.Compare a [op] [b] pos) (Vm r ta tb):=by
 intro pins s σ H Q I h
 exact wpAny_Compare1 (Uz ha hb I h fun v u s2 x y H2 I2 rx ry q=>ho pins s2 σ H2 x y v u Q I2 rx ry q) hm
def Oa(t:TE):TT:=fun σ H Q=>t σ H fun x H'=>∃k,x=.bl k/\Q k H'
theorem Km{op:CmpOp}{r:R2}(ho:fB X (compareOp op) r)(ha:PE X a ta)(hb:PE X b tb)(hm:behindInMarks op b=false):PT X (.Compare a [op] [b] pos) (Oa (Vm r ta tb)):=by
 intro pins s σ H Q I h
 refine wpAny_isTrue_Compare1 (bV (ha pins s σ H _ I h) fun v s1⟨x,H1,I1,r1,q1⟩=>bV (hb pins s1 σ H1 _ I1 q1) fun u s2⟨y,H2,I2,r2,q2⟩=>
  bV (ho pins s2 σ H2 x y v u _ I2 r1 r2 q2) fun c s3⟨z,H3,I3,r3,k,e,q3⟩=>?_) hm
 subst e
 cases r3
 exact wpAny_truthy_bool ⟨H3,I3,q3⟩
def wW(r r':R2)(ta tb tc:TE):TE:=fun σ H Q=>ta σ H fun x H1=>tb σ H1 fun y H2=>r x y H2 fun z H3=>∃k,z=.bl k/\
 (if k=true then tc σ H3 fun w' H4=>r' y w' H4 Q else Q (.bl false) H3)
theorem Gd{op op':CmpOp}{r r':R2}(ho:fB X (compareOp op) r)(ho':fB X (compareOp op') r')(ha:PE X a ta)(hb:PE X b tb)(hc:PE X c tc)
  (hm:lastMarks [op,op'] [b,c]=false:=by with_unfolding_all rfl):PE X (.Compare a [op,op'] [b,c] pos) (wW r r' ta tb tc):=by
 intro pins s σ H Q I h
 refine Compare_chain (bV (ha pins s σ H _ I h) fun v s1⟨x,H1,I1,r1,q1⟩=>chain_link (bV (hb pins s1 σ H1 _ I1 q1) fun u s2⟨y,H2,I2,r2,q2⟩=>
  bV (ho pins s2 σ H2 x y v u _ I2 r1 r2 q2) fun d s3⟨z,H3,I3,r3,k,e,q3⟩=>?_)) hm
 subst e
 cases r3
 refine wpAny_truthy_bool ?_
 cases k with
 |false=>exact ite_ff ⟨.bl false,H3,I3,rfl,q3⟩
 |true=>exact ite_tt (chain_last (bV (hc pins s3 σ H3 _ I3 q3) fun w' s4⟨z',H4,I4,r4,q4⟩=>ho' pins s4 σ H4 y z' u w' Q I4 r2 r4 q4))
theorem Fv{op op':CmpOp}{r r':R2}(ho:fB X (compareOp op) r)(ho':fB X (compareOp op') r')(ha:PE X a ta)(hb:PE X b tb)(hc:PE X c tc)
  (hm:lastMarks [op,op'] [b,c]=false:=by with_unfolding_all rfl):PT X (.Compare a [op,op'] [b,c] pos) (Oa (wW r r' ta tb tc)):=by
 intro pins s σ H Q I h
 refine isTrue_chain (bV (ha pins s σ H _ I h) fun v s1⟨x,H1,I1,r1,q1⟩=>test_link (bV (hb pins s1 σ H1 _ I1 q1) fun u s2⟨y,H2,I2,r2,q2⟩=>
  bV (ho pins s2 σ H2 x y v u _ I2 r1 r2 q2) fun d s3⟨z,H3,I3,r3,k,e,q3⟩=>?_)) hm
 subst e
 cases r3
 refine wpAny_truthy_bool ?_
 cases k with
 |false=>
  obtain⟨k',e',q'⟩:=q3
  cases e'
  exact ite_ff ⟨H3,I3,q'⟩
 |true=>
  refine ite_tt (test_last (bV (hc pins s3 σ H3 _ I3 q3) fun w' s4⟨z',H4,I4,r4,q4⟩=>bV (ho' pins s4 σ H4 y z' u w' _ I4 r2 r4 q4) fun d' s5⟨z2,H5,I5,r5,k2,e2,q5⟩=>?_))
  subst e2
  cases r5
  exact wpAny_truthy_bool ⟨H5,I5,q5⟩
def Iu(K:PySem.W.Frag)(x:V)(H:Hp)(k:Bool):Prop:=
 match x with
 |.non=>k=false
 |.bl b=>k=b
 |.int i=>k=(i !=0)
 |.str y=>y.length<=sizeLine/\k=((y.length:Int) !=0)
 |.byt y=>y.size<=sizeLine/\k=((y.size:Int) !=0)
 |.ref p=>(∃xs,iU K H p xs/\k= !xs.isEmpty)\/(∃xs,iC K H p xs/\k= !xs.isEmpty)\/∃kvs,H p=some (.dK kvs)/\k= !kvs.isEmpty
 |_=>False
theorem xY{κ:Type}{kvs:List (κ×V)}{vs:List (κ×Value)}(r:KV kvs vs):(!vs.isEmpty)= !kvs.isEmpty:=by
 cases r<;>rfl
theorem o9{xs:List V}{its:List Value}(r:Vals xs its):(!its.toArray.isEmpty)= !xs.isEmpty:=by
 cases r<;>simp
theorem lK:(sizeLine:Nat)<2 ^63:=by rw[sizeLine_eq];decide
theorem Ea:adm X (fun x H Q=>∃k,Iu X.K x H k/\Q k H):=by
 intro pins s σ H x v Q I rx h
 obtain⟨k,e,q⟩:=h
 have hl:=lK
 have hs:sizeLine=16777216:=sizeLine_eq
 cases x with
 |non=>
  cases rx
  have e':k=false:=e
  subst e'
  exact truthy_none ⟨H,I,q⟩
 |bl b=>
  cases rx
  have e':k=b:=e
  subst e'
  exact wpAny_truthy_bool ⟨H,I,q⟩
 |int i=>
  obtain⟨t,rfl⟩:=rx
  have e':k=(i !=0):=e
  subst e'
  exact PySem.P.truthy_int ⟨H,I,q⟩
 |str y=>
  obtain⟨t,rfl⟩:=rx
  obtain⟨hy,e'⟩:y.length<=sizeLine/\k=((y.length:Int) !=0):=e
  subst e'
  exact PySem.P.truthy_str (by omega) ⟨H,I.tok _,q⟩
 |byt y=>
  obtain⟨t,rfl⟩:=rx
  obtain⟨hy,e'⟩:y.size<=sizeLine/\k=((y.size:Int) !=0):=e
  subst e'
  exact PySem.W.truthy_bytes (by omega) ⟨H,I.tok _,q⟩
 |ref p=>
  cases rx
  have e':(∃xs,iU X.K H p xs/\k= !xs.isEmpty)\/(∃xs,iC X.K H p xs/\k= !xs.isEmpty)\/∃kvs,H p=some (.dK kvs)/\k= !kvs.isEmpty:=e
  rcases e' with ⟨xs,hx,e'⟩|⟨xs,hx,e'⟩|⟨kvs,hx,e'⟩
  ·subst e'
   obtain⟨its,r,pl,hz⟩:=I.list hx
   have hlen:=r.length
   exact wpAny_truthy_list pl.isList (by simp only[List.size_toArray];omega) ⟨H,I.tok _,by rw[o9 r];exact q⟩
  ·subst e'
   obtain⟨its,r,pl,hz⟩:=I.tuple hx
   have hlen:=r.length
   exact truthy_tuple pl (by simp only[List.size_toArray];omega) ⟨H,I.tok _,by rw[o9 r];exact q⟩
  ·subst e'
   obtain⟨hz,hS,vs,r,m⟩:kvs.length<=sizeLine/\(p==sysModules)=false/\∃vs,KV kvs vs/\s.heap.DictOf (bL X.prog X.w) p vs:=I.hok p _ hx
   have hlen:kvs.length=vs.length:=Paired.length r
   exact wpAny_truthy_dict hS m (by omega) ⟨H,I.tok _,by rw[xY r];exact q⟩
 |_=>exact(show False from e).elim
theorem Ft(ha:PE X a ta)(he:∀whole,isTrue a X.env whole=(do let v<-whole;standAt a.pos;holding [v] (truthy v))):
  PT X a (fun σ H Q=>ta σ H fun x H'=>∃k,Iu X.K x H' k/\Q k H'):=by
 intro pins s σ H Q I h
 exact isTrue_plain (bV (ha pins s σ H _ I h) fun v s1⟨x,H1,I1,r1,q1⟩=>Ea pins s1 σ H1 x v Q I1 r1 q1) (he _)
theorem vals1{x:V}{us:List Value}(r:Vals [x] us):∃u,us=[u]/\RelV x u:=by
 cases r with
 |cons r1 r2=>cases r2;exact⟨_,rfl,r1⟩
theorem rR:eF X (.type "int") (fun xs H Q=>(∃i,xs=[.int i]/\Q (.int i) H)\/∃k,xs=[.bl k]/\Q (.int (if k then 1 else 0)) H):=by
 intro pins s σ H xs us Q I r h
 rcases h with ⟨i,rfl,q⟩|⟨k,rfl,q⟩
 ·obtain⟨u,rfl,t,rfl⟩:=vals1 r
  exact call_int_int ⟨.int i,H,I,⟨_,rfl⟩,q⟩
 ·obtain⟨u,rfl,r1⟩:=vals1 r
  cases r1
  exact call_int_bool ⟨.int (if k then 1 else 0),H,I.tok _,⟨_,rfl⟩,q⟩
def U4(K:PySem.W.Frag)(x:V)(H:Hp)(n:Nat):Prop:=
 match x with
 |.str y=>y.length<=sizeLine/\n=y.length
 |.byt y=>y.size<=sizeLine/\n=y.size
 |.ref p=>(∃xs,iU K H p xs/\n=xs.length)\/∃xs,iC K H p xs/\n=xs.length
 |_=>False
theorem HQ:eF X (.builtin "len") (fun xs H Q=>∃x n,xs=[x]/\U4 X.K x H n/\Q (.int n) H):=by
 intro pins s σ H xs us Q I r h
 obtain⟨x,n,rfl,e,q⟩:=h
 obtain⟨u,rfl,rx⟩:=vals1 r
 have hl:=lK
 have hs:sizeLine=16777216:=sizeLine_eq
 cases x with
 |str y=>
  obtain⟨t,rfl⟩:=rx
  obtain⟨hy,e'⟩:y.length<=sizeLine/\n=y.length:=e
  subst e'
  exact len_str (by omega) ⟨.int _,H,I.tok _,⟨_,rfl⟩,q⟩
 |byt y=>
  obtain⟨t,rfl⟩:=rx
  obtain⟨hy,e'⟩:y.size<=sizeLine/\n=y.size:=e
  subst e'
  exact PySem.W.len_bytes (by omega) ⟨.int _,H,I.tok _,⟨_,rfl⟩,q⟩
 |ref p=>
  cases rx
  have e':(∃xs,iU X.K H p xs/\n=xs.length)\/∃xs,iC X.K H p xs/\n=xs.length:=e
  rcases e' with ⟨xs,hx,e'⟩|⟨xs,hx,e'⟩
  ·subst e'
   obtain⟨its,r',pl,hz⟩:=I.list hx
   have hlen:=r'.length
   exact Calls.call_len_list pl.isList (by simp only[List.size_toArray];omega) ⟨.int xs.length,H,I.tok _,⟨_,by simp only[List.size_toArray];rw[hlen]⟩,q⟩
  ·subst e'
   obtain⟨its,r',pl,hz⟩:=I.tuple hx
   have hlen:=r'.length
   exact len_tuple pl (by simp only[List.size_toArray];omega) ⟨.int xs.length,H,I.tok _,⟨_,by simp only[List.size_toArray];rw[hlen]⟩,q⟩
 |_=>exact(show False from e).elim
end
end L2
namespace L2
open PySem PySem.Spec PyProof.Rows
section
variable{prog:Program}{w:World}{A:Around}{E:Value->Shared->Prop}{s:Shared}{K:PySem.W.Frag}{x dx C f:Addr}{mA:Str->Option Value}{name:Str}{v:Value}
end
theorem mW.some_of{v:V}{o:Option Value}(r:mW (some v) o):∃u,o=some u/\RelV v u:=by
 cases o with
 |none=>exact(show False from r).elim
 |some u=>exact⟨u,rfl,r⟩
section
variable{P:Program}{w:World}{H H':Hp}{h h':Heap}{a C dx:Addr}{fs fs':List (Str×V)}
end
section
variable{X:Cx}{pins:List (Addr×Obj)}{σ:St}{H:Hp}{s:Shared}{a C dx:Addr}{fs:List (Str×V)}{f:Str}{v:V}{A:Around}{E:Value->Shared->Prop}
end
section
variable{X:Cx}{o e value:Expr}{f:Str}{pos pos' tpos:Pos}{ta tv:TE}
end
section
variable{X:Cx}{pins:List (Addr×Obj)}{σ:St}{H:Hp}{s:Shared}{A:Around}{E:Value->Shared->Prop}{Q:Value->Shared->Prop}{c:Value}{b:Bool}
end
end L2
namespace L2
open PySem PySem.Spec PyProof.Rows
structure gD(k:Nat)(A:Around):Prop where
 hd:A.handled=none
 dp:A.depth+3*k+5<recursionLimit
 un:A.units+16*k+200<cLine
theorem gD.deeper{k:Nat}{A:Around}(r:gD (k+1) A)(env:Env):gD k (A.deeper env):=
 ⟨r.hd,by have:=r.dp;show A.depth+1+3*k+5<_;omega,by have:=r.un;show A.units+3+16*k+200<_;omega⟩
theorem gD.in1{k:Nat}{A:Around}(r:gD (k+1) A):gD k A.in1:=
 ⟨r.hd,by have:=r.dp;show A.depth+3*k+5<_;omega,by have:=r.un;show A.units+1+16*k+200<_;omega⟩
theorem gD.depth{k:Nat}{A:Around}(r:gD k A):A.depth<recursionLimit:=by have:=r.dp;omega
def WT:TA:=fun _ H Q=>Q [] H
def Em(ta:TE)(tr:TA):TA:=fun σ H Q=>ta σ H fun x H1=>tr σ H1 fun xs H2=>Q (x::xs) H2
section
variable{X:Cx}{e:Expr}{es:List Expr}{te:TE}{t:TA}{pos:Pos}
theorem dz:PA X [] WT:=fun _ _ _ _ H Q I h=>Calls.spliced_nil ⟨[],H,I,.nil,h⟩
theorem bC(ha:PE X e te)(hr:PA X es t)(hs:starEach (e::es) X.env=(false,eval e X.env)::starEach es X.env:=by rfl):PA X (e::es) (Em te t):=by
 intro pos pins s σ H Q I h
 rw[hs]
 show wpAny _ _ (spliced ((false,eval e X.env)::backTo pos (starEach es X.env))) _ _ s
 refine Calls.spliced_cons (bV (ha pins s σ H _ I h) fun u s1⟨x,H1,I1,r1,q1⟩=>?_)
 exact bV (hr pos pins s1 σ H1 _ I1 q1) fun us s2⟨xs,H2,I2,r2,q2⟩=>⟨x::xs,H2,I2,.cons r1 r2,q2⟩
def abB(t:TA):TE:=fun σ H Q=>t σ H fun xs H1=>xs.length<=sizeLine/\∀p,H1 p=none->Q (.ref p) (upd H1 p (.tup xs))
def abE(t:TA):TE:=fun σ H Q=>t σ H fun xs H1=>xs.length<=sizeLine/\∀p,H1 p=none->Q (.ref p) (upd H1 p (.lst xs))
theorem RD{x1}(h:PA X es t):PE X (.Tuple es x1 pos) (abB t):=by
 intro pins s σ H Q I hq
 refine wpAny_Tuple_spliced (bV (h pos pins s σ H _ I hq) fun us s1⟨xs,H1,I1,r,z,q⟩=>⟨by rw[<-r.length];exact z,?_⟩)
 have hf:H1 s1.heap.objs.size=none:=I1.hok.fresh (Nat.le_refl _)
 refine⟨.ref s1.heap.objs.size,upd H1 s1.heap.objs.size (.tup xs),I1.laid (t':=s1.toks) (fun b u e=>Heap.get?_push_of_some _ e) (Nat.le_refl _) ?_,rfl,q _ hf⟩
 exact⟨z,us,r,TupOk.new _ _⟩
theorem RK(h:PA X es t):PE X (.List es pos) (abE t):=by
 intro pins s σ H Q I hq
 refine wpAny_List_spliced (bV (h pos pins s σ H _ I hq) fun us s1⟨xs,H1,I1,r,z,q⟩=>⟨by rw[<-r.length];exact z,?_⟩)
 have hf:H1 s1.heap.objs.size=none:=I1.hok.fresh (Nat.le_refl _)
 refine⟨.ref s1.heap.objs.size,upd H1 s1.heap.objs.size (.lst xs),I1.laid (t':=s1.toks) (fun b u e=>Heap.get?_push_of_some _ e) (Nat.le_refl _) ?_,rfl,q _ hf⟩
 exact⟨z,us,0,r,Heap.get?_push_size _ rfl⟩
end
abbrev Sp:=List V->Hp->VK->XK->Prop
abbrev yL:=List Env->Hp->Shared->XK->Value->Shared->Prop
structure yI(P:Program)(w:World)(K:PySem.W.Frag)(mg:Str->Option Value)(base:Heap)(A:Around)(outer:List Env)(s:Shared)(H:Hp):Prop where
 frames:A.frames=some outer
 mod:Mod K mg base
 bs:∀b o,base.get? b=some o->s.heap.get? b=some o/\H b=none
 bsz:base.objs.size<=s.heap.objs.size
 jy:s.heap.FunFrames base outer
 frf:∀b∈frs outer,H b=none
 hok:iV P w H s.heap
 bare:AllBare s.gens
def CE(outer:List Env)(P:Program)(w:World)(H:Hp)(s:Shared)(Q:VK)(u:Value)(s':Shared):Prop:=
 ∃v H',s'.os=s.os/\AllBare s'.gens/\Un (frs outer) [] H H' s.heap s'.heap/\iV P w H' s'.heap/\RelV v u/\Q v H'
def CR(CX:yL)(outer:List Env)(P:Program)(w:World)(H:Hp)(s:Shared)(Q:VK)(E:XK)(r:Result)(s':Shared):Prop:=
 match r with
 |.ok (.ret u)=>CE outer P w H s Q u s'
 |.ok _=>False
 |.error e=>CX outer H s E e s'
structure fX(P:Program)(w:World)(K:PySem.W.Frag)(mg:Str->Option Value)(base:Heap)(CX:yL)(k:Nat)(f:Addr)(fd:FuncData)(ps:List Str)(sp:Sp):Prop where
 len:∀vs H Q E,sp vs H Q E->vs.length=ps.length
 run:∀(A:Around)(outer:List Env)(s:Shared)(H:Hp)(args:Args)(us:List Value)(vs:List V)(Q:VK)(E:XK),gD k A->yI P w K mg base A outer s H->BindsTo s fd args (ps.zip us)->Vals vs us->sp vs H Q E->
  codeAny (model P w) A (.call (.ref f) args) (CR CX outer P w H s Q E) s
theorem yI.in1{P:Program}{w:World}{K:PySem.W.Frag}{mg:Str->Option Value}{base:Heap}{A:Around}{outer:List Env}{s:Shared}{H:Hp}(e:yI P w K mg base A outer s H):
  yI P w K mg base A.in1 outer s H:=⟨e.frames,e.mod,e.bs,e.bsz,e.jy,e.frf,e.hok,e.bare⟩
section
variable{X:Cx}{pins:List (Addr×Obj)}{σ:St}{H:Hp}{s s':Shared}
theorem Inv.env0(I:Inv X pins σ H s):yI X.prog X.w X.K X.mg X.base X.A X.stack s H:=
 ⟨I.ok.frames,I.ok.mod,I.bs,Nat.le_trans I.ok.bsz I.sz,I.stack,I.mY,I.hok,I.bare⟩
theorem Inv.after{Q:VK}{u:Value}(I:Inv X pins σ H s)(h:CE X.stack X.prog X.w H s Q u s'):EP X pins σ Q u s':=by
 obtain⟨v,H',os,bare,un,hok,r,q⟩:=h
 obtain⟨hh,g,d,t,os'⟩:=s'
 obtain rfl:os'=s.os:=os
 exact⟨v,H',I.call (h':=hh) (g':=g) (d':=d) (t':=t) (ch:=[]) un hok bare (fun b z=>absurd z (by simp)),r,q⟩
end
def W3(sp:Sp)(dvs:List V)(E:XK)(t:TA):TE:=fun σ H Q=>t σ H fun vs H1=>sp (vs++dvs) H1 Q E
def Binds(K:PySem.W.Frag)(fd:FuncData)(ps:List Str)(ds:List Value):Prop:=
 ∀(s:Shared)(us:List Value),K.In s.heap->(us++ds).length=ps.length->BindsTo s fd ⟨us,[]⟩ (ps.zip (us++ds))
theorem Binds.all{K:PySem.W.Frag}{fd:FuncData}{ps:List Str}(h:∀us:List Value,us.length=ps.length->bindArgs fd ⟨us,[]⟩=pure (ps.zip us)):Binds K fd ps []:=fun s us _ hl=>by
 rw[List.append_nil]at hl⊢
 exact .of_eq (h us hl)
def yG(CX:yL)(X:Cx)(E:XK):Prop:=∀(pins:List (Addr×Obj))(σ:St)(H:Hp)(s:Shared)(e:Value)(s':Shared),Inv X pins σ H s->CX X.stack H s E e s'->X.xe e s'
section
variable{X:Cx}{CX:yL}{k:Nat}{f C:Addr}{fd:FuncData}{ps:List Str}{sp:Sp}{dvs:List V}{ds:List Value}{E:XK}{x m:Str}{p pos apos:Pos}{e o:Expr}{es:List Expr}{ta:TE}{t:TA}
theorem Rg{pins:List (Addr×Obj)}{σ:St}{H:Hp}{s:Shared}{Q:VK}{us:List Value}{vs:List V}(F:fX X.prog X.w X.K X.mg X.base CX k f fd ps sp)(hr:gD k X.A)(hb:Binds X.K fd ps ds)(hd:Vals dvs ds)(hx:yG CX X E)
  (I:Inv X pins σ H s)(r:Vals vs us)(h:sp (vs++dvs) H Q E):wpAny (model X.prog X.w) X.A (call (.ref f) us) (EP X pins σ Q) X.xe s:=by
 have r2:Vals (vs++dvs) (us++ds):=r.append hd
 have hl:(us++ds).length=ps.length:=by rw[<-r2.length];exact F.len _ _ _ _ h
 refine wpAny_call (codeAny_mono (F.run X.A X.stack s H ⟨us,[]⟩ (us++ds) (vs++dvs) Q E hr I.env0 (hb s us I.wO hl) r2 h) fun r s' hq=>?_)
 cases r with
 |error e=>exact hx pins σ H s e s' I hq
 |ok fl=>
  cases fl with
  |ret u=>exact I.after hq
  |next=>exact False.elim hq
  |brk=>exact False.elim hq
  |cont=>exact False.elim hq
theorem KN(F:fX X.prog X.w X.K X.mg X.base CX k f fd ps sp)(hr:gD k X.A)(hg:Gl X x)(hm:X.mg x=some (.ref f))(hk:PySem.W.keepIn X.K (.ref f)=true)(hb:Binds X.K fd ps ds)(hd:Vals dvs ds)(hx:yG CX X E)
  (ha:PA X (e::es) t)(hdb:(x==("__debug__":Str))=false:=by decide)(he:starEach (e::es) X.env=(false,eval e X.env)::starEach es X.env:=by rfl)(hpl:(backTo pos (starEach es X.env)).any (·.1)=false:=by rfl):
  PE X (.Call (.Name x p) (e::es) [] pos) (W3 sp dvs E t):=by
 intro pins s σ H Q I h
 refine wpAny_Call_Name_kw (jr I hg hm ?_ hdb)
 refine PySem.W.callWith_K (h₀:=X.base) I.ok.mod.kin hk (bV (ha pos pins s σ H _ I h) fun us s1⟨vs,H1,I1,r,q⟩=>⟨I1.wO,?_⟩) he hpl
 exact Rg F hr hb hd hx I1 r q
end
section
variable{X:Cx}{CX:yL}{k:Nat}{f C:Addr}{fd:FuncData}{ps ks:List Str}{sp:Sp}{E:XK}{x m:Str}{p pos apos kpos:Pos}{e o:Expr}{es:List Expr}{kws:List Keyword}{te ta:TE}{t tk:TA}{nm:Option Str}
variable{g:List Value->List Value->List Value}{gV:List V->List V->List V}
end
structure dR(N P:List Str)(sc:Scope):Prop where
 kind:sc.kind=.function
 co:sc.isCoroutine=false
 gen:sc.isGenerator=false
 nd:N.Nodup
 pre:N.take P.length=P
 par:∀x∈P,sc.names.lookup x=some .local\/sc.names.lookup x=some .cell
 nofree:∀y∈sc.names,y.2≠ .free
theorem rW{kindOf:Str->Option NameKind}{x:Str}:∀{binds:List (Str×Value)}{m:Str->Option Value},(∀v,(x,v)∉binds)->bindL kindOf binds m x=m x
 |[],_,_=>rfl
 |(n,v)::r,m,h=>by
  unfold bindL
  rw[rW fun w hw=>h w (List.mem_cons_of_mem _ hw)]
  split
  ·have:x≠n:=by rintro rfl;exact h v List.mem_cons_self
   simp[this]
  ·rfl
theorem rZ{kindOf:Str->Option NameKind}{x:Str}:∀{binds:List (Str×Value)}{m:Str->Option Value},(∀v,(x,v)∉binds)->bindC kindOf binds m x=m x
 |[],_,_=>rfl
 |(n,v)::r,m,h=>by
  unfold bindC
  rw[rZ fun w hw=>h w (List.mem_cons_of_mem _ hw)]
  split
  ·rfl
  ·have:x≠n:=by rintro rfl;exact h v List.mem_cons_self
   simp[this]
theorem rY{kindOf:Str->Option NameKind}{x:Str}{v:Value}:∀{P:List Str}{vs:List Value}{i:Nat}{m:Str->Option Value},P.Nodup->P[i]? =some x->vs[i]? =some v->kindOf x=some .local->
  bindL kindOf (P.zip vs) m x=some v
 |[],_,_,_,_,h,_,_=>by simp at h
 |_::_,[],_,_,_,_,h,_=>by simp at h
 |p::P,w::vs,0,m,nd,h1,h2,hk=>by
  simp at h1 h2;subst h1;subst h2
  show bindL kindOf ((p,w)::P.zip vs) m p=_
  unfold bindL
  rw[rW fun v hv=>(List.nodup_cons.mp nd).1 (List.of_mem_zip hv).1,if_pos hk]
  simp
 |p::P,w::vs,i+1,m,nd,h1,h2,hk=>by
  show bindL kindOf ((p,w)::P.zip vs) m x=_
  unfold bindL
  exact rY (i:=i) (List.nodup_cons.mp nd).2 (by simpa using h1) (by simpa using h2) hk
theorem su{kindOf:Str->Option NameKind}{x:Str}{v:Value}:∀{P:List Str}{vs:List Value}{i:Nat}{m:Str->Option Value},P.Nodup->P[i]? =some x->vs[i]? =some v->kindOf x≠some .local->
  bindC kindOf (P.zip vs) m x=some v
 |[],_,_,_,_,h,_,_=>by simp at h
 |_::_,[],_,_,_,_,h,_=>by simp at h
 |p::P,w::vs,0,m,nd,h1,h2,hk=>by
  simp at h1 h2;subst h1;subst h2
  show bindC kindOf ((p,w)::P.zip vs) m p=_
  unfold bindC
  rw[rZ fun v hv=>(List.nodup_cons.mp nd).1 (List.of_mem_zip hv).1,if_neg hk]
  simp
 |p::P,w::vs,i+1,m,nd,h1,h2,hk=>by
  show bindC kindOf ((p,w)::P.zip vs) m x=_
  unfold bindC
  exact su (i:=i) (List.nodup_cons.mp nd).2 (by simpa using h1) (by simpa using h2) hk
def start(N:List Str)(vs:List V):St:=vs.map some++List.replicate (N.length-vs.length) none
def gP(CX:yL)(P:Program)(w:World)(K:PySem.W.Frag)(mg:Str->Option Value)(base:Heap)(N:List Str)(qual:Str)(scope:Scope)(f:Addr)(cd:Value)(A:Around)(outer:List Env)(s:Shared)(H:Hp)(E:XK):Cx where
 prog:=P
 w:=w
 K:=K
 mg:=mg
 base:=base
 A:=A.deeper (envOfC qual scope s.heap.objs.size f cd)
 N:=N
 s₀:=s
 H₀:=H
 env:=envOfC qual scope s.heap.objs.size f cd
 outer:=outer
 stack:=envOfC qual scope s.heap.objs.size f cd::outer
 ex:=[]
 calm:=true
 fn:=fun _=>true
 pn:=[]
 xe:=fun e s'=>wpAny (model P w) (A.deeper (envOfC qual scope s.heap.objs.size f cd)) (leaving (envOfC qual scope s.heap.objs.size f cd) e) (fun _ s''=>CX outer H s E e s'') (fun e' s''=>CX outer H s E e' s'') s'
theorem wD{sc:Scope}{n:Nat}{x:Str}(h:sc.names.lookup x=some .cell):∃c,(cellsFrom n sc.names []).lookup x=some c:=by
 have q:=PySem.W.cellsFrom_some sc.names n [] (.inl h)
 exact Option.isSome_iff_exists.mp q
theorem BZ{CX:yL}{P:Program}{w:World}{K:PySem.W.Frag}{mg:Str->Option Value}{base:Heap}{N ps:List Str}{qual:Str}{scope:Scope}{f:Addr}{cd:Value}{A:Around}{outer:List Env}{s s1:Shared}{H:Hp}{E:XK}{us:List Value}{vs:List V}
  (S:dR N ps scope)(hd:A.handled=none)(e0:yI P w K mg base A outer s H)(hl:vs.length=ps.length)(r:Vals vs us)
  (x:InCallC s s.heap.objs.size (bindL (envOfC qual scope s.heap.objs.size f cd).kindOf (ps.zip us) fun _=>none) (cellsFrom (s.heap.objs.size+1) scope.names []) (bindC (envOfC qual scope s.heap.objs.size f cd).kindOf (ps.zip us) fun _=>none) s1):
  Inv (gP CX P w K mg base N qual scope f cd A outer s H E) [] (start N vs) H s1:=by
 have hpl:ps.length<=N.length:=by have:=congrArg List.length S.pre;rw[List.length_take]at this;omega
 obtain⟨h1,tk,rfl,hk⟩:=x.done
 have noA:∀b:Addr,b∉(gP CX P w K mg base N qual scope f cd A outer s H E).ex:=fun b z=>absurd (show b∈([]:List Addr)from z) (by simp)
 refine⟨⟨e0.mod,S.kind,rfl,rfl,Nat.le_refl _,fun y z c h1 h2=>?_,fun y hy=>?_,fun y c _ h=>?_,fun _=>hd,Around.frames_deeper e0.frames,.inr ⟨rfl,rfl⟩,fun b z=>absurd z (noA b),e0.bs,e0.bsz,fun b _ _=>noA b,fun b z=>absurd z (noA b),e0.jy,e0.frf⟩,
  rfl,e0.bare,Un.kept hk,⟨_,x.toInCall.ns,fun i y v h1 h2 h3=>?_⟩,fun y c h=>⟨_,x.cell y c h⟩,e0.hok.fresh (Nat.le_refl _),fun y c h=>?_,fun p hp=>absurd (show p∈([]:List (Addr×Obj))from hp) (by simp),e0.hok.kept hk,?_⟩
 ·exact name_of_addr x.apart (PySem.mem_of_lookup h1) (PySem.mem_of_lookup h2)
 ·have hy:scope.names.lookup y=some .cell\/scope.names.lookup y=some .free:=hy
  rcases hy with hy|hy
  ·exact wD hy
  ·exact absurd rfl (S.nofree _ (PySem.mem_of_lookup hy))
 ·exact Nat.le_of_lt (x.above y c (PySem.mem_of_lookup h))
 ·have hi:i<vs.length:=by
   unfold start at h2
   by_cases hi:i<vs.length
   ·exact hi
   ·rw[List.getElem?_append_right (by simpa using hi)]at h2
    rw[List.getElem?_replicate]at h2
    split at h2<;>cases h2
  have ha:vs[i]? =some v:=by
   unfold start at h2
   rw[List.getElem?_append_left (by simpa using hi),List.getElem?_map]at h2
   cases e:vs[i]? with
   |none=>rw[e]at h2;cases h2
   |some a=>rw[e]at h2;cases h2;rfl
  obtain⟨u,hu,rv⟩:=r.get ha
  have hp:ps[i]? =some y:=by
   rw[<-S.pre,List.getElem?_take_of_lt (by omega)];exact h1
  have ndP:ps.Nodup:=by rw[<-S.pre];exact S.nd.sublist (List.take_sublist _ _)
  refine⟨u,rv,?_⟩
  rcases S.par y (List.mem_of_getElem? hp)with k|k
  ·exact .inl ⟨k,rY ndP hp hu k⟩
  ·obtain⟨c,e⟩:=wD (n:=s.heap.objs.size+1) k
   refine .inr ⟨.inl k,c,e,?_⟩
   have q:=x.cell y c e
   rw[su ndP hp hu (by show scope.names.lookup y≠_;rw[k];decide)]at q
   exact q
 ·exact e0.hok.fresh (Nat.le_of_lt (x.above y c (PySem.mem_of_lookup h)))
 ·unfold start
  show _=N.length
  rw[List.length_append,List.length_map,List.length_replicate]
  omega
theorem PN{CX:yL}{P:Program}{w:World}{K:PySem.W.Frag}{mg:Str->Option Value}{base:Heap}{k:Nat}{f:Addr}{name qual:Str}{params:Arguments}{body:List Stmt}{scope:Scope}{dV kV doc pm cdv ct oc:Value}{an od:Option Addr}
  {osl:Array (Option Value)}{N ps:List Str}{sp:Sp}(lk:K.lookup f=some ⟨oc,od,.func (PySem.W.fnOf name qual params body scope dV kV doc pm an cdv ct),osl⟩)(hcd:PySem.W.codeIn K cdv qual=true)(S:dR N ps scope)
  (len:∀vs H Q E,sp vs H Q E->vs.length=ps.length)
  (hbody:∀(A:Around)(outer:List Env)(s:Shared)(H:Hp)(vs:List V)(Q:VK)(E:XK),gD k (A.deeper (envOfC qual scope s.heap.objs.size f cdv))->sp vs H Q E->
   ∃t,sG (gP CX P w K mg base N qual scope f cdv A outer s H E) body t/\t {nx:=fun _ H'=>Q .non H',rt:=Q} (start N vs) H):
  fX P w K mg base CX (k+1) f (PySem.W.fnOf name qual params body scope dV kV doc pm an cdv ct) ps sp:=by
 refine⟨len,fun A outer s H args us vs Q E hr e0 hb r hsp=>?_⟩
 have hl:=len _ _ _ _ hsp
 have KX:K.In s.heap:=e0.mod.kin.keeps fun b o e=>(e0.bs b o e).1
 have lim:s.heap.NoLimit:=e0.mod.nolimit.keeps fun b o e=>(e0.bs b o e).1
 have hkind:∀y∈ps.zip us,scope.names.lookup y.1=some .local\/(scope.names.lookup y.1=some .cell/\((cellsFrom (s.heap.objs.size+1) scope.names []).lookup y.1).isSome=true):=fun⟨n,v⟩hy=>by
  rcases S.par n (List.of_mem_zip hy).1 with q|q
  ·exact .inl q
  ·exact .inr ⟨q,PySem.W.cellsFrom_some _ _ _ (.inl q)⟩
 refine codeAny_call_function hr.depth (KX _ _ lk) rfl S.co S.gen rfl (PySem.W.codeRec_of KX hcd) (hb _ _ _ _ ?_)
 refine wpAny_newFunctionEnv_cells S.kind hkind fun env he s1 x=>?_
 subst he
 refine⟨lim.keeps x.toInCall.keep,codeAny_func ?_⟩
 obtain⟨t,ht,hq⟩:=hbody A outer s H vs Q E (hr.deeper _) hsp
 have I:Inv (gP CX P w K mg base N qual scope f cdv A outer s H E) [] (start N vs) H s1:=BZ S hr.hd e0 hl r x
 refine wpAny_mono (ht [] s1 (start N vs) H _ I hq) (fun fl s' hs=>?_) fun e s' hs=>hs
 have fin:∀{σ':St}{H':Hp}{v:V}{u:Value},Inv (gP CX P w K mg base N qual scope f cdv A outer s H E) [] σ' H' s'->RelV v u->Q v H'->CE outer P w H s Q u s':=
  fun{σ' H' v u}J rv q=>⟨v,H',J.os,J.bare,J.base,J.hok,rv,q⟩
 cases fl with
 |ret u=>
  obtain⟨v,σ',H',J,rv,q⟩:=hs
  exact fin J rv q
 |next=>
  obtain⟨σ',H',J,q⟩:=hs
  exact fin (v:=V.non) (u:=Value.none) J rfl q
 |brk=>
  obtain⟨_,_,_,q⟩:=hs
  exact False.elim q
 |cont=>
  obtain⟨_,_,_,q⟩:=hs
  exact False.elim q
end L2
namespace L2
open PySem PySem.Spec PyProof.Rows
section
variable{X:Cx}{x:Str}{p pos:Pos}{e:Expr}{es:List Expr}{t:TA}{id T:String}{r:List V->Hp->VK->Prop}
def tCB(r:List V->Hp->VK->Prop)(t:TA):TE:=fun σ H Q=>t σ H fun vs H1=>r vs H1 Q
theorem gH(hc:eF X (.builtin id) r)(hg:Gl X x)(hm:X.mg x=none)(hv:bootBuiltins x=some (.builtin id))(ha:PA X (e::es) t)(hn:x≠"__name__":=by decide)(hdb:(x==("__debug__":Str))=false:=by decide)
  (he:starEach (e::es) X.env=(false,eval e X.env)::starEach es X.env:=by rfl)(hpl:(backTo pos (starEach es X.env)).any (·.1)=false:=by rfl):PE X (.Call (.Name x p) (e::es) [] pos) (tCB r t):=by
 intro pins s σ H Q I h
 refine wpAny_Call_Name_kw (oV I hg hm hv ?_ hn hdb)
 exact PyProof.Rows.callWith_builtin1 (bV (ha pos pins s σ H _ I h) fun us s1⟨vs,H1,I1,r1,q1⟩=>hc pins s1 σ H1 vs us Q I1 r1 q1) he hpl
theorem jl(hc:eF X (.type T) r)(hg:Gl X x)(hm:X.mg x=none)(hv:bootBuiltins x=some (.type T))(ha:PA X (e::es) t)(hn:x≠"__name__":=by decide)(hdb:(x==("__debug__":Str))=false:=by decide)
  (he:starEach (e::es) X.env=(false,eval e X.env)::starEach es X.env:=by rfl)(hpl:(backTo pos (starEach es X.env)).any (·.1)=false:=by rfl):PE X (.Call (.Name x p) (e::es) [] pos) (tCB r t):=by
 intro pins s σ H Q I h
 refine wpAny_Call_Name_kw (oV I hg hm hv ?_ hn hdb)
 exact PyProof.Rows.callWith_type1 (bV (ha pos pins s σ H _ I h) fun us s1⟨vs,H1,I1,r1,q1⟩=>hc pins s1 σ H1 vs us Q I1 r1 q1) he hpl
end
end L2
namespace HT
open PySem PyProof.Rows
section
open PySem.SeqAt
open PySem.AutoSeq1 (wpAny_loadPart')
open PySem.MeetsSeq PySem.MeetsSeq2 PySem.MeetsSeq3
end
section
variable{prog:Program}{w:World}{A:Around}{E:Value->Shared->Prop}{s:Shared}
theorem MJ{t b:Addr}{vs ws:List Value}{Q:Value->Shared->Prop}(ht:IsTup s.heap t vs.toArray)(hb:IsTup s.heap b ws.toArray)(hv:vs≠[])
  (h1:ws=[]->Q (.ref t) s)(h2:ws≠[]->Q (.ref s.heap.objs.size) {s with heap:=s.heap.push {cls:=.type "tuple",data:=.seq (vs++ws).toArray}})
  (hsz:vs.length+ws.length<=sizeLine):wpAny (model prog w) A (binaryOp .Add (.ref t) (.ref b)) Q E s:=by
 obtain⟨⟨cls,dd,data,sl⟩,ho,hc,n,hd⟩:=id ht
 obtain⟨⟨cls2,dd2,data2,sl2⟩,ho2,hc2,n2,hd2⟩:=id hb
 simp only at hc hd hc2 hd2
 subst hc hd hc2 hd2
 have e:vs.toArray++ws.toArray=(vs++ws).toArray:=by simp
 by_cases hw:ws=[]
 ·exact concat_meets ⟨_,ho,rfl⟩ ⟨_,ho2,rfl⟩ noFill_tuple_add seq_tuple_add PySem.F.slot_tuple_add PySem.F.entry_tuple_add (PySem.F.args_tuple_add_2 _ _)
   (tuple_addW1 t b vs.toArray ws.toArray n n2 dd dd2 sl sl2 (by simpa using hv) (by simp[hw])) ⟨ho,ho2,h1 hw⟩
 ·refine concat_meets ⟨_,ho,rfl⟩ ⟨_,ho2,rfl⟩ noFill_tuple_add seq_tuple_add PySem.F.slot_tuple_add PySem.F.entry_tuple_add (PySem.F.args_tuple_add_2 _ _)
   (tuple_addW2 t b vs.toArray ws.toArray n n2 dd dd2 sl sl2 (by simpa using hv) (by simpa using hw) (by rw[List.size_toArray,List.size_toArray];exact hsz)) ⟨ho,ho2,?_⟩
  rw[e]
  exact h2 hw
def cR(n d:Nat):Option Int->Nat
 |none=>d
 |some v=>if v<0 then(v+(n:Int)).toNat else min v.toNat n
theorem jV(n d:Nat):cR n d none=d:=rfl
theorem Rf(n d:Nat)(hd:d<=n)(o:Option Int):cR n d o<=n:=by
 cases o with
 |none=>exact hd
 |some v=>
  show(if v<0 then(v+(n:Int)).toNat else min v.toNat n)<=n
  by_cases hv:v<0
  ·rw[if_pos hv];omega
  ·rw[if_neg hv];exact Nat.min_le_right _ _
theorem Aa(v:Int)(n d:Nat):(if v<0 then max (v+(n:Int)) 0 else min v (n:Int))=((cR n d (some v):Nat):Int):=by
 show(if v<0 then max (v+(n:Int)) 0 else min v (n:Int))=(((if v<0 then(v+(n:Int)).toNat else min v.toNat n):Nat):Int)
 by_cases hv:v<0
 ·simp only[if_pos hv];omega
 ·simp only[if_neg hv];omega
theorem yF(lo hi:Option Int)(n:Nat):Builtin.Slice.sliceAdjust lo hi 1 (n:Int)=(((cR n 0 lo:Nat):Int),((cR n n hi:Nat):Int)):=by
 have h1:¬((1:Int)<0):=by omega
 unfold Builtin.Slice.sliceAdjust
 simp only[h1,if_false]
 refine Prod.ext ?_ ?_
 ·cases lo with
  |none=>rfl
  |some v=>exact Aa v n 0
 ·cases hi with
  |none=>rfl
  |some v=>exact Aa v n n
theorem xJ(i j:Nat):Builtin.Slice.slicePlaces (i:Int) (j:Int) 1=j-i:=by
 unfold Builtin.Slice.slicePlaces
 have h1:(1:Int)>0:=by omega
 simp only[h1,if_true,Int.ediv_one]
 split<;>omega
theorem nZ{v:Value}{o:Option Int}{Q:Option Int->Shared->Prop}(p:IsPart v o)(h:Q o s):wpAny (model prog w) A (Builtin.Slice.slicePartIndex v) Q E s:=by
 cases p with
 |none=>exact slicePart_none h
 |int i t=>exact slicePart_int h
theorem gF{sl:Addr}{vl vu:Value}{lo hi:Option Int}{n:Nat}{Q:Int×Int×Nat->Shared->Prop}(hs:s.heap.IsSliceOf sl vl vu .none)(pl:IsPart vl lo)(pu:IsPart vu hi)
  (h:Q (((cR n 0 lo:Nat):Int),1,cR n n hi-cR n 0 lo) s):wpAny (model prog w) A (Builtin.Slice.sliceApplied (.ref sl) (pure (n:Int))) Q E s:=by
 obtain⟨os,hos,hcs,hds⟩:=id hs
 unfold Builtin.Slice.sliceApplied Builtin.Slice.sliceFields
 refine wpAny_bind (wpAny_bind (wpAny_field hos hds (x:=vl) rfl (wpAny_bind (wpAny_field hos hds (x:=vu) rfl (wpAny_bind (wpAny_field hos hds (x:=.none) rfl (wpAny_pure ?_)))))))
 refine wpAny_bind (slicePart_none ?_)
 show wpAny _ _ (if ((1:Int)==0)=true then _ else _) _ _ s
 rw[if_neg (by decide)]
 refine wpAny_bind (nZ pl (wpAny_bind (nZ pu (wpAny_bind (wpAny_pure ?_)))))
 show wpAny _ _ (match Builtin.Slice.sliceAdjust lo hi 1 (n:Int)with|(lo,hi)=>pure (lo,(1:Int),Builtin.Slice.slicePlaces lo hi 1)) _ _ s
 rw[yF lo hi n]
 show wpAny _ _ (pure (((cR n 0 lo:Nat):Int),(1:Int),Builtin.Slice.slicePlaces ((cR n 0 lo:Nat):Int) ((cR n n hi:Nat):Int) 1)) _ _ s
 rw[xJ]
 exact wpAny_pure h
theorem FP(xs:Array Value)(i k:Nat):((List.range k).filterMap fun(m:Nat)=>xs[((i:Int)+(m:Int)*1).toNat]?).toArray=((xs.toList.drop i).take k).toArray:=by
 have e:(fun(m:Nat)=>xs[((i:Int)+(m:Int)*1).toNat]?)=fun m=>xs[i+m]? :=by
  funext m
  have:((i:Int)+(m:Int)*1).toNat=i+m:=by omega
  rw[this]
 rw[e]
 have:=pick_run xs i k
 rw[List.filterMap_map]at this
 have e2:((fun x=>xs[x]?)∘fun x=>i+x)=fun m=>xs[i+m]? :=rfl
 rw[e2]at this
 rw[this]
theorem j7{t sl:Addr}{items:Array Value}{vl vu:Value}{lo hi:Option Int}{Q:Value->Shared->Prop}(ht:IsTup s.heap t items)(hs:s.heap.IsSliceOf sl vl vu .none)(pl:IsPart vl lo)(pu:IsPart vu hi)
  (hw:¬(cR items.size 0 lo=0/\cR items.size items.size hi=items.size))
  (h:Q (.ref s.heap.objs.size) {s with heap:=s.heap.push {cls:=.type "tuple",data:=.seq ((items.toList.drop (cR items.size 0 lo)).take (cR items.size items.size hi-cR items.size 0 lo)).toArray}})
  (hsz:items.size<=sizeLine):wpAny (model prog w) A (getItem (.ref t) (.ref sl)) Q E s:=by
 have htake:sizeOk (.seq ((items.toList.drop (cR items.size 0 lo)).take (cR items.size items.size hi-cR items.size 0 lo)).toArray):=by
  show((items.toList.drop (cR items.size 0 lo)).take (cR items.size items.size hi-cR items.size 0 lo)).toArray.size<=sizeLine
  rw[List.size_toArray,List.length_take,List.length_drop,Array.length_toList]
  omega
 have hj:cR items.size items.size hi<=items.size:=Rf _ _ (Nat.le_refl _) hi
 obtain⟨os,hos,hcs,hds⟩:=id hs
 have hTs:s.TypeIs (.ref sl) "slice":=⟨os,hos,hcs⟩
 unfold getItem
 try with_reducible refine wpAny_holding ?_
 first|refine wpAny_bind (wpAny_pure ?_)|skip
 refine wpAny_bind (wpAny_sequenceKey ht.typeIs (by decide) ?_)
 refine wpAny_bind (wpAny_callSpecial?_slot (name:=Str.ofString "__getitem__") ht.typeIs PyProof.Rows.slot_tuple_getitem
  (wpAny_call_entry PyProof.Rows.slot_tuple_getitem ht.typeIs entry_tuple_getitem ?_ (args_tuple_getitem _ _)))
 show wpAny _ _ (Builtin.Tuple.tupleItemsOf (.ref t)>>=_) _ _ s
 refine wpAny_bind (tupleItemsOf_ ht ?_)
 refine wpAny_bind (wpAny_typeOf hTs ?_)
 rw[if_pos (by decide)]
 refine wpAny_bind (gF hs pl pu ?_)
 have hno:¬((((cR items.size 0 lo:Nat):Int)==0&&(1:Int)==1&&(cR items.size items.size hi-cR items.size 0 lo)==items.size)=true):=by
  intro q
  rw[Bool.and_eq_true,Bool.and_eq_true]at q
  have q1:((cR items.size 0 lo:Nat):Int)=0:=eq_of_beq q.1.1
  have q2:cR items.size items.size hi-cR items.size 0 lo=items.size:=eq_of_beq q.2
  exact hw ⟨by omega,by omega⟩
 show wpAny _ _ (if (((cR items.size 0 lo:Nat):Int)==0&&(1:Int)==1&&(cR items.size items.size hi-cR items.size 0 lo)==items.size)=true then _ else _) _ _ s
 rw[if_neg hno,FP]
 first
  |exact wpAny_bind (m:=Builtin.Tuple.tupleExact _) (wpAny_newObj_type (wpAny_pure ⟨_,rfl,wpAny_pure h⟩) htake)
  |exact wpAny_bind (m:=Builtin.Tuple.tupleExact _) (wpAny_newObj_type (wpAny_bind (wpAny_pure (wpAny_pure ⟨_,rfl,wpAny_pure h⟩))) htake)
  |exact wpAny_bind (wpAny_bind (m:=Builtin.Tuple.tupleExact _) (wpAny_newObj_type (wpAny_pure (wpAny_pure ⟨_,rfl,wpAny_pure h⟩)) htake))
  |exact wpAny_bind (wpAny_bind (m:=Builtin.Tuple.tupleExact _) (wpAny_newObj_type (wpAny_pure ⟨_,rfl,wpAny_pure h⟩) htake))
end
end HT
namespace L2
open PySem PySem.Spec PyProof.Rows
abbrev TO:=St->Hp->(Option Int->Hp->Prop)->Prop
def PO(X:Cx)(e:Option Expr)(t:TO):Prop:=
 ∀(pins:List (Addr×Obj))(s:Shared)(σ:St)(H:Hp)(Q:Option Int->Hp->Prop),Inv X pins σ H s->t σ H Q->
  wpAny (model X.prog X.w) X.A (evalPart e X.env) (fun u s'=>∃o H',Inv X pins σ H' s'/\IsPart u o/\Q o H') X.xe s
def JH:TO:=fun _ H Q=>Q none H
def WP(t:TE):TO:=fun σ H Q=>t σ H fun x H1=>∃i,x=.int i/\Q (some i) H1
section
variable{X:Cx}{e:Expr}{te:TE}{lo hi:Option Expr}{tl th:TO}{pos p2:Pos}
theorem Ku:PO X none JH:=by
 intro pins s σ H Q I h
 rw[evalPart_none]
 exact wpAny_pure ⟨none,H,I,.none,h⟩
theorem Ks(h:PE X e te):PO X (some e) (WP te):=by
 intro pins s σ H Q I hw
 rw[evalPart_some]
 refine bV (h pins s σ H _ I hw) fun u s1⟨x,H1,I1,r1,q1⟩=>?_
 obtain⟨i,rfl,q⟩:=q1
 obtain⟨t,rfl⟩:=r1
 exact⟨some i,H1,I1,.int i t,q⟩
def Nf(X:Cx)(r:V->Option Int->Option Int->Hp->VK->Prop):Prop:=
 ∀(pins:List (Addr×Obj))(s:Shared)(σ:St)(H:Hp)(x:V)(v vl vu:Value)(lo hi:Option Int)(sl:Addr)(Q:VK),Inv X pins σ H s->RelV x v->s.heap.IsSliceOf sl vl vu .none->IsPart vl lo->IsPart vu hi->r x lo hi H Q->
  ∃T id,typeLookup (.type T) "__getitem__"=pure (some (.builtin id))/\s.TypeIs v T/\wpAny (model X.prog X.w) X.A (getItem v (.ref sl)) (EP X pins σ Q) X.xe s
theorem Nf.or{r r':V->Option Int->Option Int->Hp->VK->Prop}(h:Nf X r)(h':Nf X r'):Nf X (fun x lo hi H Q=>r x lo hi H Q\/r' x lo hi H Q):=by
 intro pins s σ H x v vl vu lo hi sl Q I rx hs pl pu q
 rcases q with q|q
 ·exact h pins s σ H x v vl vu lo hi sl Q I rx hs pl pu q
 ·exact h' pins s σ H x v vl vu lo hi sl Q I rx hs pl pu q
def tSl(r:V->Option Int->Option Int->Hp->VK->Prop)(te:TE)(tl th:TO):TE:=fun σ H Q=>te σ H fun x H1=>tl σ H1 fun l H2=>th σ H2 fun u H3=>r x l u H3 Q
theorem FZ{r:V->Option Int->Option Int->Hp->VK->Prop}(hr:Nf X r)(he:PE X e te)(hl:PO X lo tl)(hu:PO X hi th):PE X (.Subscript e (.Slice lo hi none p2) pos) (tSl r te tl th):=by
 intro pins s σ H Q I h
 refine Subscript_ (bV (he pins s σ H _ I h) fun v s1⟨x,H1,I1,r1,q1⟩=>?_)
 refine wpAny_Slice (bV (hl pins s1 σ H1 _ I1 q1) fun vl s2⟨l,H2,I2,pl,q2⟩=>bV (hu pins s2 σ H2 _ I2 q2) fun vu s3⟨u,H3,I3,pu,q3⟩=>?_)
 rw[evalPart_none]
 refine wpAny_pure ?_
 have I4:Inv X pins σ H3 {s3 with heap:=s3.heap.push {cls:=.type "slice",data:=.fields #[vl,vu,.none]}}:=I3.kept (t':=s3.toks) fun b ob q=>Heap.get?_push_of_some _ q
 obtain⟨T,id,hT,ht,hg⟩:=hr pins {s3 with heap:=s3.heap.push {cls:=.type "slice",data:=.fields #[vl,vu,.none]}} σ H3 x v vl vu l u s3.heap.objs.size Q I4 r1 (Heap.IsSliceOf.new ..) pl pu q3
 show wpAny (model X.prog X.w) X.A (subscriptTail e (.Slice lo hi none p2) v (.ref s3.heap.objs.size)) (EP X pins σ Q) X.xe {s3 with heap:=s3.heap.push {cls:=.type "slice",data:=.fields #[vl,vu,.none]}}
 exact tail_any (ops:=[.ref s3.heap.objs.size,v]) ht hT hg (by with_unfolding_all rfl)
def pH(xs:List V)(lo hi:Option Int):List V:=(xs.drop (HT.cR xs.length 0 lo)).take (HT.cR xs.length xs.length hi-HT.cR xs.length 0 lo)
theorem mq(xs:List V)(lo hi:Option Int):(pH xs lo hi).length<=xs.length:=by
 unfold pH
 rw[List.length_take,List.length_drop]
 omega
def XF(K:PySem.W.Frag):V->Option Int->Option Int->Hp->VK->Prop:=fun x lo hi H Q=>∃a xs,x=.ref a/\iC K H a xs/\
 ¬(HT.cR xs.length 0 lo=0/\HT.cR xs.length xs.length hi=xs.length)/\∀p,H p=none->Q (.ref p) (upd H p (.tup (pH xs lo hi)))
theorem Ra:Nf X (XF X.K):=by
 intro pins s σ H x v vl vu lo hi sl Q I rx hs pl pu h
 obtain⟨a,xs,rfl,hx,hw,q⟩:=h
 cases rx
 obtain⟨its,r,ht,hz⟩:=I.tuple hx
 have hlen:its.toArray.size=xs.length:=by rw[List.size_toArray];exact r.length.symm
 refine⟨"tuple",_,PyProof.Rows.slot_tuple_getitem.lookup,ht.typeIs,?_⟩
 refine HT.j7 ht hs pl pu (by rw[hlen];exact hw) ?_ (by rw[hlen];exact hz)
 rw[hlen]
 refine⟨.ref s.heap.objs.size,_,I.laid (t':=s.toks) (o:=.tup (pH xs lo hi)) (fun b ob q=>Heap.get?_push_of_some _ q) (Nat.le_refl _) ?_,rfl,q _ (I.hok.fresh (Nat.le_refl _))⟩
 exact⟨Nat.le_trans (mq xs lo hi) hz,_,(r.drop (HT.cR xs.length 0 lo)).take (HT.cR xs.length xs.length hi-HT.cR xs.length 0 lo),TupOk.new _ _⟩
def X3(K:PySem.W.Frag):R2:=fun x y H Q=>∃a b xs ys,x=.ref a/\y=.ref b/\iC K H a xs/\iC K H b ys/\xs≠[]/\xs.length+ys.length<=sizeLine/\
 (ys=[]->Q (.ref a) H)/\(ys≠[]->∀p,H p=none->Q (.ref p) (upd H p (.tup (xs++ys))))
theorem Vals.bj{xs:List V}{us:List Value}(r:Vals xs us):us=[]↔xs=[]:=by
 cases r with
 |nil=>simp
 |cons _ _=>simp
theorem K5:fB X (binaryOp .Add) (X3 X.K):=by
 intro pins s σ H x y v u Q I rx ry h
 obtain⟨a,b,xs,ys,rfl,rfl,ha,hb,hx,hz,q1,q2⟩:=h
 cases rx
 cases ry
 obtain⟨its,r1,p1,_⟩:=I.tuple ha
 obtain⟨its2,r2,p2,_⟩:=I.tuple hb
 refine HT.MJ p1 p2 (fun z=>hx (r1.bj.mp z)) (fun z=>⟨.ref a,H,I,rfl,q1 (r2.bj.mp z)⟩) (fun z=>?_) (by rw[<-r1.length,<-r2.length];exact hz)
 refine⟨.ref s.heap.objs.size,_,I.laid (t':=s.toks) (o:=.tup (xs++ys)) (fun b ob q=>Heap.get?_push_of_some _ q) (Nat.le_refl _) ?_,rfl,q2 (fun w=>z (r2.bj.mpr w)) _ (I.hok.fresh (Nat.le_refl _))⟩
 exact⟨by rw[List.length_append];exact hz,_,r1.append r2,TupOk.new _ _⟩
end
end L2
namespace L2
open PySem PySem.Spec PyProof.Rows
def Lz(n:Nat)(i:Int):Option Nat:=if 0<=i then(if i<n then some i.toNat else none)else if-(n:Int)<=i then some (i+n).toNat else none
def UJ{α:Type}(xs:List α)(i:Int):Option α:=(Lz xs.length i).bind fun j=>xs[j]?
theorem zK{n:Nat}{i:Int}{j:Nat}(h:Lz n i=some j):seqIndex? i n=some j/\j<n/\ -(n:Int)<=i/\i<n:=by
 unfold Lz at h
 by_cases h0:0<=i
 ·rw[if_pos h0]at h
  by_cases h1:i<n
  ·rw[if_pos h1]at h
   have e:i.toNat=j:=Option.some.inj h
   exact⟨by rw[seqIndex_of h0 h1,e],by omega,by omega,h1⟩
  ·rw[if_neg h1]at h;cases h
 ·rw[if_neg h0]at h
  by_cases h1: -(n:Int)<=i
  ·rw[if_pos h1]at h
   have e:(i+n).toNat=j:=Option.some.inj h
   exact⟨by rw[seqIndex_neg (by omega) h1,e],by omega,h1,by omega⟩
  ·rw[if_neg h1]at h;cases h
theorem uK{α:Type}{xs:List α}{i:Int}{v:α}(h:UJ xs i=some v):∃j,seqIndex? i xs.length=some j/\xs[j]? =some v/\j<xs.length/\ -(xs.length:Int)<=i/\i<xs.length:=by
 unfold UJ at h
 cases e:Lz xs.length i with
 |none=>rw[e]at h;cases h
 |some j=>
  rw[e]at h
  obtain⟨h1,h2,h3,h4⟩:=zK e
  exact⟨j,h1,h,h2,h3,h4⟩
def uL(b:Expr):Prop:=∀o i,subscripted b false o i=operate [o,i] (getItem o i)
def IV(X:Cx)(r:R2):Prop:=
 ∀(value slice:Expr)(pins:List (Addr×Obj))(s:Shared)(σ:St)(H:Hp)(x y:V)(v u:Value)(Q:VK),Inv X pins σ H s->RelV x v->RelV y u->r x y H Q->
  subscripted slice false v u=operate [v,u] (getItem v u)->wpAny (model X.prog X.w) X.A (subscriptTail value slice v u) (EP X pins σ Q) X.xe s
def Wh(X:Cx)(id:String)(r:V->List V->Hp->VK->Prop):Prop:=
 ∀(pins:List (Addr×Obj))(s:Shared)(σ:St)(H:Hp)(x:V)(xs:List V)(v:Value)(us:List Value)(Q:VK),Inv X pins σ H s->RelV x v->Vals xs us->r x xs H Q->
  wpAny (model X.prog X.w) X.A (call (.builtin id) (v::us)) (EP X pins σ Q) X.xe s
section
variable{X:Cx}{a b:Expr}{ta tb:TE}{pos:Pos}
theorem IV.or{r r':R2}(h:IV X r)(h':IV X r'):IV X (fun x y H Q=>r x y H Q\/r' x y H Q):=by
 intro value slice pins s σ H x y v u Q I rx ry q hs
 rcases q with q|q
 ·exact h value slice pins s σ H x y v u Q I rx ry q hs
 ·exact h' value slice pins s σ H x y v u Q I rx ry q hs
theorem OD{r:R2}(hr:IV X r)(ha:PE X a ta)(hb:PE X b tb)(hs:uL b):PE X (.Subscript a b pos) (Vm r ta tb):=by
 intro pins s σ H Q I h
 exact Subscript_ (Uz ha hb I h fun v u s2 x y H2 I2 rx ry q=>hr a b pins s2 σ H2 x y v u Q I2 rx ry q (hs _ _))
def Rq(K:PySem.W.Frag):R2:=fun x y H Q=>∃p xs i v,x=.ref p/\y=.int i/\iU K H p xs/\UJ xs i=some v/\Q v H
def Rp(K:PySem.W.Frag):R2:=fun x y H Q=>∃p xs i v,x=.ref p/\y=.int i/\iC K H p xs/\UJ xs i=some v/\Q v H
def XN:R2:=fun x y H Q=>∃z i c,x=.str z/\y=.int i/\z.length<=sizeLine/\UJ z.cps.toList i=some c/\Q (.str ⟨#[c]⟩) H
theorem zJ:IV X (Rq X.K):=by
 intro value slice pins s σ H x y v u Q I rx ry h hs
 obtain⟨p,xs,i,z,rfl,rfl,hq,he,q⟩:=h
 cases rx
 obtain⟨t,rfl⟩:=ry
 obtain⟨its,r,pl,hz⟩:=I.list hq
 obtain⟨j,h1,h2,h3,h4,h5⟩:=uK he
 obtain⟨w,ew,rw'⟩:=r.get h2
 have hl:=r.length
 have hn:=lK
 have fin:EP X pins σ Q w s:=⟨z,H,I,rw',q⟩
 by_cases h0:0<=i
 ·have hj:i.toNat=j:=by
   rw[seqIndex_of h0 h5]at h1
   exact Option.some.inj h1
  exact item_listR pl.isList h0 (by omega) (by rw[hj];simpa using ew) fin hs
 ·have hj:(i+(its.toArray.size:Int)).toNat=j:=by
   rw[seqIndex_neg (by omega) h4]at h1
   rw[List.size_toArray,<-hl]
   exact Option.some.inj h1
  exact subscriptTail_builtinR (x:=w) pl.isList.typeIs slot_list_getitem.lookup
   (wpAny_getItem_list_neg (Q:=fun r s'=>r=w/\EP X pins σ Q r s') pl.isList (by omega) (by rw[List.size_toArray]<;>omega) (by omega) (by rw[hj];simpa using ew) ⟨rfl,fin⟩) hs
theorem GZ:IV X (Rp X.K):=by
 intro value slice pins s σ H x y v u Q I rx ry h hs
 obtain⟨p,xs,i,z,rfl,rfl,hq,he,q⟩:=h
 cases rx
 obtain⟨t,rfl⟩:=ry
 obtain⟨its,r,pl,hz⟩:=I.tuple hq
 obtain⟨j,h1,h2,h3,h4,h5⟩:=uK he
 obtain⟨w,ew,rw'⟩:=r.get h2
 have hl:=r.length
 have hn:=lK
 have fin:EP X pins σ Q w s:=⟨z,H,I,rw',q⟩
 exact subscriptTail_builtinR (x:=w) pl.typeIs slot_tuple_getitem.lookup
  (getItem_tuple (j:=j) (Q:=fun r s'=>r=w/\EP X pins σ Q r s') pl (by omega) (by omega) (by rw[List.size_toArray,<-hl];exact h1) (by simpa using ew) ⟨rfl,fin⟩) hs
theorem Th:IV X XN:=by
 intro value slice pins s σ H x y v u Q I rx ry h hs
 obtain⟨z,i,c,rfl,rfl,hz,he,q⟩:=h
 obtain⟨t,rfl⟩:=rx
 obtain⟨t',rfl⟩:=ry
 obtain⟨j,h1,h2,h3,h4,h5⟩:=uK he
 have hl:z.cps.toList.length=z.length:=by simp[Str.length]
 rw[hl]at h1 h4 h5
 have hn:=lK
 exact tail_any (typeIs_str s z t) slot_str_getitem.lookup (getItem_str (c:=c) (by
  have e1:decide (i< -(2 ^63:Int))=false:=decide_eq_false (by omega)
  have e2:decide (i>=2 ^63)=false:=decide_eq_false (by omega)
  rw[e1,e2,Bool.or_false]) (by rw[h1];simpa using h2) ⟨.str ⟨#[c]⟩,H,I.tok _,⟨_,rfl⟩,q⟩) hs
def rIx(K:PySem.W.Frag):R2:=fun x y H Q=>Rq K x y H Q\/Rp K x y H Q\/XN x y H Q
theorem G3:IV X (rIx X.K):=zJ.or (GZ.or Th)
theorem xV(its:List Value)(n j:Nat)(u:Value):Obj.mapSeq (·.setIfInBounds j u) {cls:=.type "list",data:=.seq its.toArray n}={cls:=.type "list",data:=.seq (its.set j u).toArray n}:=by
 simp[Obj.mapSeq]
theorem Inv.lst{pins:List (Addr×Obj)}{σ:St}{H:Hp}{s:Shared}{p:Addr}{xs:List V}(I:Inv X pins σ H s)(h:H p=some (.lst xs)):
  ∃(its:List Value)(n:Nat),Vals xs its/\s.heap.get? p=some {cls:=.type "list",data:=.seq its.toArray n}/\xs.length<=sizeLine:=by
 obtain⟨z,its,n,r,e⟩:=I.hok p _ h
 exact⟨its,n,r,e,z⟩
theorem Inv.Ss{pins:List (Addr×Obj)}{σ:St}{H:Hp}{s:Shared}{p:Addr}{xs ys:List V}{its its':List Value}{n n':Nat}{f:Obj->Obj}(I:Inv X pins σ H s)(h:H p=some (.lst xs))
  (ho:s.heap.get? p=some {cls:=.type "list",data:=.seq its.toArray n})(hf:f {cls:=.type "list",data:=.seq its.toArray n}={cls:=.type "list",data:=.seq its'.toArray n'})(r:Vals ys its')(hz:ys.length<=sizeLine)(t:Nat):
  Inv X pins σ (upd H p (.lst ys)) {s with heap:=s.heap.update p f,toks:=t}:=by
 have e:(s.heap.update p f).get? p=some {cls:=.type "list",data:=.seq its'.toArray n'}:=by
  rw[Heap.get?_update_self f ho (by rw[hf]<;>rfl),hf]
 refine I.write (x:=p) (e:=p) (by rw[h];trivial) (.inl rfl) (fun b u hb q=>(Heap.get?_update_other _ _ (Ne.symm hb)).trans q) ⟨_,e⟩ ?_
 exact⟨hz,its',n',r,e⟩
def Oo:V->V->V->Hp->(Hp->Prop)->Prop:=fun o i v H Q=>∃p xs k j,o=.ref p/\i=.int k/\H p=some (.lst xs)/\Lz xs.length k=some j/\Q (upd H p (.lst (xs.set j v)))
theorem set_list:Nh X Oo:=by
 intro pins s σ H o i v ov iv u Q I ro ri rv h
 obtain⟨p,xs,k,j,rfl,rfl,hp,hj,q⟩:=h
 cases ro
 obtain⟨t,rfl⟩:=ri
 obtain⟨its,n,r,ho,hz⟩:=I.lst hp
 obtain⟨h1,h2,h3,h4⟩:=zK hj
 have hl:=r.length
 have hn:=lK
 have I':Inv X pins σ (upd H p (.lst (xs.set j v))) {s with heap:=s.heap.update p (Obj.mapSeq (·.setIfInBounds j u))}:=
  I.Ss hp ho (xV its n j u) (r.set rv j) (by rw[List.length_set];exact hz) s.toks
 by_cases h0:0<=k
 ·have hk:k.toNat=j:=by
   rw[seqIndex_of h0 h4]at h1
   exact Option.some.inj h1
  exact PySem.W.ki_setAt ho h0 (by omega) (by rw[List.size_toArray,<-hl];exact h4) (by rw[hk];exact⟨_,I',q⟩)
 ·have hk:(k+(its.toArray.size:Int)).toNat=j:=by
   rw[seqIndex_neg (by omega) h3]at h1
   rw[List.size_toArray,<-hl]
   exact Option.some.inj h1
  exact PySem.W.ki_setBack ho (by omega) (by rw[List.size_toArray,<-hl];exact h3) (by omega) (by rw[hk];exact⟨_,I',q⟩)
theorem sX(lo hi:Option Int)(n:Nat):(sliceBounds lo hi none n).1=((HT.cR n 0 lo:Nat):Int)/\(sliceBounds lo hi none n).2.1=((HT.cR n n hi:Nat):Int)/\(sliceBounds lo hi none n).2.2=1:=by
 refine⟨?_,?_,rfl⟩
 ·cases lo with
  |none=>simp[sliceBounds,HT.cR]
  |some i=>
   simp only[sliceBounds,HT.cR,Option.getD_none,show(1:Int)>0 by decide,if_true]
   by_cases h:i<0
   ·simp only[h,if_true]<;>omega
   ·simp only[h,if_false]<;>omega
 ·cases hi with
  |none=>simp[sliceBounds,HT.cR]
  |some i=>
   simp only[sliceBounds,HT.cR,Option.getD_none,show(1:Int)>0 by decide,if_true]
   by_cases h:i<0
   ·simp only[h,if_true]<;>omega
   ·simp only[h,if_false]<;>omega
theorem qd(its:List Value)(lo hi:Option Int):slicePick its.toArray lo hi none=((its.drop (HT.cR its.length 0 lo)).take (HT.cR its.length its.length hi-HT.cR its.length 0 lo)).toArray:=by
 obtain⟨h1,h2,h3⟩:=sX lo hi its.toArray.size
 unfold slicePick
 rw[h1,h2,h3]
 simp only[sliceRange_one,pick_run,List.size_toArray]<;>rfl
def XH(K:PySem.W.Frag):V->Option Int->Option Int->Hp->VK->Prop:=fun x lo hi H Q=>∃a xs,x=.ref a/\iU K H a xs/\∀p,H p=none->Q (.ref p) (upd H p (.lst (pH xs lo hi)))
theorem JP:Nf X (XH X.K):=by
 intro pins s σ H x v vl vu lo hi sl Q I rx hs pl pu h
 obtain⟨a,xs,rfl,hx,q⟩:=h
 cases rx
 obtain⟨its,r,ht,hz⟩:=I.list hx
 have hlen:=r.length
 refine⟨"list",_,slot_list_getitem.lookup,ht.isList.typeIs,?_⟩
 refine wpAny_getItem_list_slice ht.isList hs pl pu .none (by simp) ?_ (by rw[List.size_toArray]<;>omega)
 rw[qd,<-hlen]
 refine⟨.ref s.heap.objs.size,_,I.laid (t':=s.toks) (o:=.lst (pH xs lo hi)) (fun b ob q=>Heap.get?_push_of_some _ q) (Nat.le_refl _) ?_,rfl,q _ (I.hok.fresh (Nat.le_refl _))⟩
 exact⟨Nat.le_trans (mq xs lo hi) hz,_,0,(r.drop (HT.cR xs.length 0 lo)).take (HT.cR xs.length xs.length hi-HT.cR xs.length 0 lo),Heap.get?_push_size _ rfl⟩
def gk:V->Bool
 |.non=>true
 |.bl _=>true
 |.int _=>true
 |.str _=>true
 |_=>false
def Hs:V->V->Bool
 |.non,.non=>true
 |.bl a,.bl b=>a==b
 |.bl a,.int b=>(if a then 1 else 0)==b
 |.int a,.bl b=>a==(if b then 1 else 0)
 |.int a,.int b=>a==b
 |.str a,.str b=>a==b
 |_,_=>false
theorem Uq{A:Around}{s:Shared}{y x:V}{u v:Value}(ry:RelV y u)(rx:RelV x v)(fy:gk y=true)(fx:gk x=true):SeqAt.EqAt A s u v (Hs y x):=by
 cases y with
 |non=>
  cases ry
  cases x with
  |non=>cases rx;exact SeqAt.EqAt.same _
  |bl b=>cases rx;exact SeqAt.EqAt.none_bool b
  |int b=>obtain⟨t,rfl⟩:=rx;exact SeqAt.EqAt.none_int b t
  |str b=>obtain⟨t,rfl⟩:=rx;exact SeqAt.EqAt.none_str b t
  |_=>exact absurd (show false=true from fx) Bool.false_ne_true
 |bl a=>
  cases ry
  cases x with
  |non=>cases rx;exact SeqAt.EqAt.bool_none a
  |bl b=>cases rx;exact SeqAt.EqAt.bool_bool a b
  |int b=>obtain⟨t,rfl⟩:=rx;exact SeqAt.EqAt.bool_int a b t
  |str b=>obtain⟨t,rfl⟩:=rx;exact SeqAt.EqAt.bool_str a b t
  |_=>exact absurd (show false=true from fx) Bool.false_ne_true
 |int a=>
  obtain⟨t',rfl⟩:=ry
  cases x with
  |non=>cases rx;exact SeqAt.EqAt.int_none a t'
  |bl b=>cases rx;exact SeqAt.EqAt.int_bool a t' b
  |int b=>obtain⟨t,rfl⟩:=rx;exact SeqAt.EqAt.int_int a t' b t
  |str b=>obtain⟨t,rfl⟩:=rx;exact SeqAt.EqAt.int_str a t' b t
  |_=>exact absurd (show false=true from fx) Bool.false_ne_true
 |str a=>
  obtain⟨t',rfl⟩:=ry
  cases x with
  |non=>cases rx;exact SeqAt.EqAt.str_none a t'
  |bl b=>cases rx;exact SeqAt.EqAt.str_bool a t' b
  |int b=>obtain⟨t,rfl⟩:=rx;exact SeqAt.EqAt.str_int a t' b t
  |str b=>obtain⟨t,rfl⟩:=rx;exact SeqAt.EqAt.str_str a t' b t
  |_=>exact absurd (show false=true from fx) Bool.false_ne_true
 |_=>exact absurd (show false=true from fy) Bool.false_ne_true
def uP(x:V)(u:Value):Bool:=match u with
 |.none=>Hs .non x
 |.bool b=>Hs (.bl b) x
 |.int i _=>Hs (.int i) x
 |.str z _=>Hs (.str z) x
 |_=>false
theorem yh{x y:V}{u:Value}(r:RelV y u)(f:gk y=true):uP x u=Hs y x:=by
 cases y with
 |non=>cases r;rfl
 |bl b=>cases r;rfl
 |int i=>obtain⟨t,rfl⟩:=r;rfl
 |str z=>obtain⟨t,rfl⟩:=r;rfl
 |_=>exact absurd (show false=true from f) Bool.false_ne_true
theorem kO{x:V}:∀{xs:List V}{us:List Value},Vals xs us->xs.all gk=true->us.any (uP x)=xs.any fun y=>Hs y x
 |_,_,.nil=>fun _=>rfl
 |y::xs,u::us,.cons r t=>fun f=>by
  rw[List.all_cons,Bool.and_eq_true]at f
  rw[List.any_cons,List.any_cons,yh r f.1,kO t f.2]
theorem fP{A:Around}{s:Shared}{x:V}{v:Value}(rx:RelV x v)(fx:gk x=true):∀{xs:List V}{us:List Value},Vals xs us->xs.all gk=true->∀u∈us,SeqAt.EqAt A s u v (uP x u)
 |_,_,.nil=>fun _=>fun u hu=>by cases hu
 |y::xs,u::us,.cons r t=>fun f=>fun u' hu=>by
  rw[List.all_cons,Bool.and_eq_true]at f
  rcases List.mem_cons.mp hu with rfl|hu
  ·rw[yh r f.1];exact Uq r rx f.1 fx
  ·exact fP rx fx t f.2 u' hu
def inV(x:V)(xs:List V):Bool:=xs.any fun y=>Hs y x
def rIn(K:PySem.W.Frag)(neg:Bool):R2:=fun x y H Q=>∃p xs,y=.ref p/\(iU K H p xs\/iC K H p xs)/\gk x=true/\xs.all gk=true/\Q (.bl (if neg then !inV x xs else inV x xs)) H
theorem Br:fB X (compareOp .In) (rIn X.K false):=by
 intro pins s σ H x y v u Q I rx ry h
 obtain⟨p,xs,rfl,hq,fx,fs,q⟩:=h
 cases ry
 rcases hq with hq|hq
 ·obtain⟨its,r,pl,hz⟩:=I.list hq
  refine SeqAt.in_listAt (uP x) pl.isList (fun w hw=>fP rx fx r fs w (by simpa using hw)) ⟨.bl _,H,I,rfl,?_⟩
  rw[show its.toArray.any (uP x)=its.any (uP x) by simp,kO r fs]
  exact q
 ·obtain⟨its,r,pl,hz⟩:=I.tuple hq
  refine SeqAt.in_tupleAt (uP x) pl (fun w hw=>fP rx fx r fs w (by simpa using hw)) ⟨.bl _,H,I,rfl,?_⟩
  rw[show its.toArray.any (uP x)=its.any (uP x) by simp,kO r fs]
  exact q
theorem tV:fB X (compareOp .NotIn) (rIn X.K true):=by
 intro pins s σ H x y v u Q I rx ry h
 obtain⟨p,xs,rfl,hq,fx,fs,q⟩:=h
 cases ry
 rcases hq with hq|hq
 ·obtain⟨its,r,pl,hz⟩:=I.list hq
  refine SeqAt.notIn_listAt (uP x) pl.isList (fun w hw=>fP rx fx r fs w (by simpa using hw)) ⟨.bl _,H,I,rfl,?_⟩
  rw[show its.toArray.any (uP x)=its.any (uP x) by simp,kO r fs]
  exact q
 ·obtain⟨its,r,pl,hz⟩:=I.tuple hq
  refine SeqAt.notIn_tupleAt (uP x) pl (fun w hw=>fP rx fx r fs w (by simpa using hw)) ⟨.bl _,H,I,rfl,?_⟩
  rw[show its.toArray.any (uP x)=its.any (uP x) by simp,kO r fs]
  exact q
theorem uI:eF X (.type "list") (fun xs H Q=>∃p ys,xs=[.ref p]/\(iU X.K H p ys\/iC X.K H p ys)/\∀l,H l=none->Q (.ref l) (upd H l (.lst ys))):=by
 intro pins s σ H xs us Q I r h
 obtain⟨p,ys,rfl,hq,q⟩:=h
 obtain⟨u,rfl,rx⟩:=vals1 r
 cases rx
 have fin:∀(its:List Value),Vals ys its->ys.length<=sizeLine->∀(h':Heap)(c':Nat),(∀b o',s.heap.get? b=some o'->h'.get? b=some o')->
   h'.get? s.heap.objs.size=some {cls:=.type "list",dict:=none,data:=.seq its.toArray c',slots:= #[]}->EP X pins σ Q (.ref s.heap.objs.size) {s with heap:=h'}:=fun its r' hz h' c' kp e=>
  ⟨.ref s.heap.objs.size,_,I.laid (t':=s.toks) kp (Nat.le_refl _) (show bN X.prog X.w _ h' _ (.lst ys)from⟨hz,its,c',r',e⟩),rfl,q _ (I.hok.fresh (Nat.le_refl _))⟩
 rcases hq with hq|hq
 ·obtain⟨its,r',pl,hz⟩:=I.list hq
  have hlen:=r'.length
  obtain⟨o,ho,hc,n,hd⟩:=pl.isList
  exact call_list_seq p (.inl rfl) ho hc hd (fun h' c' kp e=>fin its r' hz h' c' kp e) (by simp only[List.size_toArray]<;>omega)
 ·obtain⟨its,r',pl,hz⟩:=I.tuple hq
  have hlen:=r'.length
  obtain⟨o,ho,hc,n,hd⟩:=pl
  exact call_list_seq p (.inr rfl) ho hc hd (fun h' c' kp e=>fin its r' hz h' c' kp e) (by simp only[List.size_toArray]<;>omega)
theorem qw:eF X (.type "tuple") (fun xs H Q=>∃p ys,xs=[.ref p]/\((iU X.K H p ys/\∀l,H l=none->Q (.ref l) (upd H l (.tup ys)))\/(iC X.K H p ys/\Q (.ref p) H))):=by
 intro pins s σ H xs us Q I r h
 obtain⟨p,ys,rfl,h⟩:=h
 obtain⟨u,rfl,rx⟩:=vals1 r
 cases rx
 rcases h with ⟨hq,q⟩|⟨hq,q⟩
 ·obtain⟨its,r',pl,hz⟩:=I.list hq
  have hlen:=r'.length
  refine call_tuple_list pl.isList (fun h' kp=>?_) (by simp only[List.size_toArray]<;>omega)
  have I1:Inv X pins σ H {s with heap:=h'}:=I.kept (t':=s.toks) kp
  have I2:Inv X pins σ (upd H h'.objs.size (.tup ys)) {s with heap:=h'.push {cls:=.type "tuple",data:=.seq its.toArray}}:=
   I1.laid (t':=s.toks) (fun b o e=>Heap.get?_push_of_some _ e) (Nat.le_refl _) (show bN X.prog X.w _ _ _ (.tup ys)from⟨hz,its,r',TupOk.new _ _⟩)
  exact⟨.ref h'.objs.size,_,I2,rfl,q _ (I1.hok.fresh (Nat.le_refl _))⟩
 ·obtain⟨its,r',pl,hz⟩:=I.tuple hq
  exact call_tuple_same pl ⟨.ref p,H,I,rfl,q⟩
def tyV(K:PySem.W.Frag)(T:String)(x:V)(H:Hp):Prop:=match x with
 |.str _=>T="str"
 |.int _=>T="int"
 |.ref p=>(T="list"/\∃xs,iU K H p xs)\/(T="tuple"/\∃o,K.lookup p=some o/\o.cls=.type "tuple"/\o.dict=none)\/
   (T="dict"/\((∃kvs,H p=some (.dK kvs))\/∃kvs,H p=some (.dT kvs)))\/(T="set"/\∃S n,H p=some (.set S n))
 |_=>False
theorem QM{pins:List (Addr×Obj)}{σ:St}{H:Hp}{s:Shared}{T:String}{x:V}{v:Value}(I:Inv X pins σ H s)(r:RelV x v)(ty:tyV X.K T x H):
  s.TypeIs v T/\∀a,v=.ref a->∃ob,s.heap.get? a=some ob/\ob.dict=none:=by
 cases x with
 |str z=>
  obtain⟨t,rfl⟩:=r
  cases (show T="str" from ty)
  exact⟨typeIs_str s z t,fun _ e=>nomatch e⟩
 |int i=>
  obtain⟨t,rfl⟩:=r
  cases (show T="int" from ty)
  exact⟨typeIs_int s i t,fun _ e=>nomatch e⟩
 |ref p=>
  cases r
  rcases ty with ⟨rfl,xs,hq⟩|⟨rfl,o,hk,hc,hd⟩|⟨rfl,hk⟩|⟨rfl,S,n,hk⟩
  ·obtain⟨its,_,pl,_⟩:=I.list hq
   refine⟨pl.isList.typeIs,fun a e=>?_⟩
   cases e
   obtain⟨o,n,e,c,hd,_⟩:=pl
   exact⟨o,e,hd⟩
  ·refine⟨⟨o,I.wO p o hk,hc⟩,fun a e=>?_⟩
   cases e
   exact⟨o,I.wO _ o hk,hd⟩
  ·have z:∃o,s.heap.get? p=some o/\o.ExactDict:=by
    rcases hk with ⟨kvs,hk⟩|⟨kvs,hk⟩
    ·obtain⟨_,_,_,_,o,_,_,e,ex,_⟩:=I.hok p _ hk
     exact⟨o,e,ex⟩
    ·obtain⟨_,_,_,_,o,_,_,e,ex,_⟩:=I.hok p _ hk
     exact⟨o,e,ex⟩
   obtain⟨o,e,ex⟩:=z
   refine⟨⟨o,e,ex.1⟩,fun a e2=>?_⟩
   cases e2
   exact⟨o,e,ex.2.1⟩
  ·obtain⟨o,_,_,_,e,ex,_⟩:=I.hok p _ hk
   refine⟨⟨o,e,ex.1⟩,fun a e2=>?_⟩
   cases e2
   exact⟨o,e,ex.2.1⟩
 |_=>exact False.elim ty
def tBM(K:PySem.W.Frag)(T:String)(r:V->List V->Hp->VK->Prop)(to:TE)(t:TA):TE:=fun σ H Q=>to σ H fun x H1=>tyV K T x H1/\t σ H1 fun xs H2=>r x xs H2 Q
variable{o e:Expr}{es:List Expr}{to:TE}{t:TA}{name:Str}{apos cpos:Pos}{T id:String}{r:V->List V->Hp->VK->Prop}
theorem X8(pa:PlainAttrs T)(slot:Slot T name id)(hty:typeOf (.builtin id)=pure (.type "method_descriptor"))(hm:Wh X id r)(ho:PE X o to)(ha:PA X (e::es) t)
  (hbase:attributeBase o name X.env (eval o X.env)=eval o X.env:=by rfl)
  (hfew:((backTo cpos (starEach (e::es) X.env)).all (fun x=> !x.1)&&(backToKw cpos (keywordEach [] X.env)).all (fun x=>x.1.isSome)
   &&decide ((e::es).length+([]:List Keyword).length+(if ([]:List Keyword).isEmpty then 0 else 1)<30))=true:=by rfl)
  (hline:(apos.endLine==cpos.line)=true:=by rfl)(hs:starEach (e::es) X.env=(false,eval e X.env)::starEach es X.env:=by rfl)(hplain:(backTo cpos (starEach es X.env)).any (·.1)=false:=by rfl):
  PE X (.Call (.Attribute o name apos) (e::es) [] cpos) (tBM X.K T r to t):=by
 intro pins s σ H Q I h
 refine wpAny_Call_method_late hbase hfew hline rfl (bV (ho pins s σ H _ I h) fun v s1⟨x,H1,I1,r1,ty,q1⟩=>?_)
 obtain⟨h1,h2⟩:=QM I1 r1 ty
 refine⟨T,id,pa,slot,hty,h1,h2,?_⟩
 have hA:=ha cpos pins s1 σ H1 _ I1 q1
 rw[hs]at hA⊢
 refine Calls.callWith_builtin (by show(false||(backTo cpos (starEach es X.env)).any (·.1))=false;rw[hplain]<;>rfl) (Calls.evalArgs_plain ?_)
 exact bV hA fun us s2⟨vs,H2,I2,r2,q2⟩=>hm pins s2 σ H2 x vs v us Q I2 r1 r2 q2
end
end L2
namespace L2
open PySem PySem.Spec PyProof.Rows
def MtM(X:Cx)(id:String)(r:V->List V->Hp->VK->Prop):Prop:=
 ∀(pins:List (Addr×Obj))(s:Shared)(σ:St)(H:Hp)(x:V)(xs:List V)(v:Value)(us:List Value)(Q:VK),Inv X pins σ H s->RelV x v->Vals xs us->r x xs H Q->
  wpAny (model X.prog X.w) X.A (call (.builtin id) (v::us)) (EP X pins σ Q) X.xe s
theorem Vals.one:∀{x:V}{us:List Value},Vals [x] us->∃u,us=[u]/\RelV x u
 |_,_,.cons r .nil=>⟨_,rfl,r⟩
theorem Vals.two:∀{x y:V}{us:List Value},Vals [x,y] us->∃u v,us=[u,v]/\RelV x u/\RelV y v
 |_,_,_,.cons r (.cons q .nil)=>⟨_,_,rfl,r,q⟩
theorem Vals.zero:∀{us:List Value},Vals [] us->us=[]
 |_,.nil=>rfl
theorem Vals.eraseIdx:∀{xs:List V}{us:List Value}(i:Nat),Vals xs us->Vals (xs.eraseIdx i) (us.eraseIdx i)
 |_,_,_,.nil=>.nil
 |_,_,0,.cons _ t=>t
 |_,_,i+1,.cons r t=>.cons r (Vals.eraseIdx i t)
theorem rA{α:Type}:∀(l:List α)(i:Nat),(l.eraseIdx i).length<=l.length
 |[],_=>Nat.le_refl _
 |_::_,0=>Nat.le_succ _
 |_::r,i+1=>Nat.succ_le_succ (rA r i)
section
variable{X:Cx}{pins:List (Addr×Obj)}{σ:St}{H:Hp}{s:Shared}{l b:Addr}{xs ys zs:List V}
theorem Inv.Sv{its its':List Value}{n:Nat}{f:Array Value->Array Value}{t':Nat}(I:Inv X pins σ H s)(hH:H l=some (.lst xs))
  (e:s.heap.get? l=some {cls:=.type "list",data:=.seq its.toArray n})(hf:f its.toArray=its'.toArray)(hv:Vals ys its')(hz:ys.length<=sizeLine):
  Inv X pins σ (upd H l (.lst ys)) {s with heap:=s.heap.update l (Obj.mapSeq f),toks:=t'}:=by
 have q:=PySem.IsL.update e f
 rw[hf]at q
 refine I.write (x:=l) (e:=l) (by rw[hH];exact trivial) (.inl rfl) (fun b' u hb hu=>(Heap.get?_update_other s.heap (Obj.mapSeq f) (Ne.symm hb)).trans hu) ⟨_,q⟩ ?_
 exact⟨hz,its',_,hv,q⟩
theorem Inv.acn{its:List Value}{t':Nat}(I:Inv X pins σ H s)(hv:Vals ys its)(hz:ys.length<=sizeLine):
  Inv X pins σ (upd H s.heap.objs.size (.lst ys)) {s with heap:=s.heap.push {cls:=.type "list",data:=.seq its.toArray},toks:=t'}:=
 I.laid (fun _ _ q=>Heap.get?_push_of_some _ q) (Nat.le_refl _) ⟨hz,its,0,hv,Heap.get?_push_size _ rfl⟩
theorem Inv.fresh(I:Inv X pins σ H s):H s.heap.objs.size=none:=I.hok.fresh (Nat.le_refl _)
theorem Inv.Su(I:Inv X pins σ H s)(hH:H l=some (.lst xs)):xs.length<=sizeLine/\∃(its:List Value)(n:Nat),Vals xs its/\xs.length=its.length/\s.heap.get? l=some {cls:=.type "list",data:=.seq its.toArray n}:=by
 obtain⟨z,its,n,r,e⟩:=I.hok l _ hH
 exact⟨z,its,n,r,r.length,e⟩
theorem Gh{n:Nat}(h:n<=sizeLine):Builtin.List.listTooLong n=false:=by
 unfold Builtin.List.listTooLong
 exact decide_eq_false (by omega)
end
section
variable{X:Cx}
def Kg:V->List V->Hp->VK->Prop:=fun x vs H Q=>∃l xs y,x=.ref l/\vs=[y]/\H l=some (.lst xs)/\xs.length<sizeLine/\Q .non (upd H l (.lst (xs++[y])))
theorem qW:MtM X "list.append" Kg:=by
 intro pins s σ H x vs v us Q I rx rv h
 obtain⟨l,xs,y,rfl,rfl,hH,hz,q⟩:=h
 cases rx
 obtain⟨u,rfl,ru⟩:=rv.one
 obtain⟨z,its,n,r,hl,e⟩:=I.Su hH
 refine call_meets F.slot_list_append ⟨_,e,rfl⟩ F.entry_list_append (F.args_list_append_2 _ _) (PySem.list_append l its.toArray n u (by rw[List.size_toArray];omega)) ⟨e,?_⟩
 refine⟨.non,_,I.Sv (its':=its++[u]) hH e (by simp) (r.append (.cons ru .nil)) ?_,rfl,q⟩
 rw[List.length_append,List.length_singleton]
 omega
def Rn:V->List V->Hp->VK->Prop:=fun x vs H Q=>∃l xs i k y,x=.ref l/\vs=[.int i]/\H l=some (.lst xs)/\ -(2 ^63)<=i/\i<2 ^63/\seqIndex? i xs.length=some k/\xs[k]? =some y/\Q y (upd H l (.lst (xs.eraseIdx k)))
theorem Gr:MtM X "list.pop" Rn:=by
 intro pins s σ H x vs v us Q I rx rv h
 obtain⟨l,xs,i,k,y,rfl,rfl,hH,h1,h2,hk,hy,q⟩:=h
 cases rx
 obtain⟨u,rfl,ru⟩:=rv.one
 obtain⟨t,rfl⟩:=ru
 obtain⟨z,its,n,r,hl,e⟩:=I.Su hH
 obtain⟨w,hw,rw'⟩:=r.get hy
 refine call_meets F.slot_list_pop ⟨_,e,rfl⟩ F.entry_list_pop (F.args_list_pop_2 _ _)
  (MeetsSeq.list_pop_at l its.toArray n i t k w (fitsIndex_both h1 h2) (by rw[List.size_toArray,<-hl];exact hk) (by rw[<-Array.getElem?_toList];exact hw) (by rw[List.size_toArray];omega)) ⟨e,?_⟩
 refine⟨y,_,I.Sv (its':=its.eraseIdx k) hH e ?_ (r.eraseIdx k) ?_,rw',q⟩
 ·show its.toArray.eraseIdxIfInBounds k=(its.eraseIdx k).toArray
  rw[List.eraseIdxIfInBounds_toArray]
 ·have:=rA xs k
  omega
end
section
variable{prog:Program}{w:World}{A:Around}{E:Value->Shared->Prop}{s:Shared}
end
section
variable{X:Cx}
end
end L2
namespace L2
open PySem PySem.Spec PyProof.Rows
section
variable{κ:Type}[DecidableEq κ]
def iZ(kvs:List (κ×V))(k:κ):Option V:=(kvs.find? fun kv=>decide (kv.1=k)).map (·.2)
def putK(kvs:List (κ×V))(k:κ)(v:V):List (κ×V):=
 if (kvs.any fun kv=>decide (kv.1=k))=true then kvs.map (fun kv=>if kv.1=k then(kv.1,v)else kv)else kvs++[(k,v)]
theorem iW{p:κ×V}{r:List (κ×V)}{k:κ}(e:p.1=k):iZ (p::r) k=some p.2:=by simp[iZ,List.find?_cons,e]
theorem iY{p:κ×V}{r:List (κ×V)}{k:κ}(e:¬p.1=k):iZ (p::r) k=iZ r k:=by simp[iZ,List.find?_cons,e]
theorem nG(k:κ):∀kvs:List (κ×V),(kvs.any fun kv=>decide (kv.1=k))=(iZ kvs k).isSome
 |[]=>rfl
 |p::r=>by
  rw[List.any_cons]
  by_cases e:p.1=k
  ·simp only[iW e,decide_eq_true e,Bool.true_or,Option.isSome_some]
  ·rw[iY e,decide_eq_false e,Bool.false_or];exact nG k r
theorem jd(kvs:List (κ×V))(k:κ)(v:V):(putK kvs k v).length<=kvs.length+1:=by
 unfold putK
 split
 ·rw[List.length_map];omega
 ·rw[List.length_append,List.length_cons,List.length_nil];omega
theorem mW.gM{o:Option V}{u:Option Value}(r:mW o u):o.isSome=u.isSome:=by
 cases o with
 |none=>cases u with
  |none=>rfl
  |some _=>exact(show False from r).elim
 |some _=>cases u with
  |none=>exact(show False from r).elim
  |some _=>rfl
theorem mW.getD{o:Option V}{u:Option Value}{d:V}{d':Value}(r:mW o u)(rd:RelV d d'):RelV (o.getD d) (u.getD d'):=by
 cases o with
 |none=>cases u with
  |none=>exact rd
  |some _=>exact(show False from r).elim
 |some _=>cases u with
  |none=>exact(show False from r).elim
  |some _=>exact r
theorem KV.val{kvs:List (κ×V)}{vs:List (κ×Value)}(r:KV kvs vs)(k:κ):mW (iZ kvs k) (valueAt vs k):=by
 unfold KV at r
 induction r with
 |nil=>exact True.intro
 | @cons p q ps qs h t ih=>
  obtain⟨h1,h2⟩:=h
  by_cases e:p.1=k
  ·have e':q.1=k:=h1.symm.trans e
   have b:valueAt (q::qs) k=some q.2:=by simp[valueAt,List.find?_cons,e']
   rw[iW e,b];exact h2
  ·have e':¬q.1=k:=fun z=>e (h1.trans z)
   have b:valueAt (q::qs) k=valueAt qs k:=by simp[valueAt,List.find?_cons,e']
   rw[iY e,b];exact ih
theorem KV.any{kvs:List (κ×V)}{vs:List (κ×Value)}(r:KV kvs vs)(k:κ):(kvs.any fun kv=>decide (kv.1=k))=vs.any fun kv=>decide (kv.1=k):=by
 unfold KV at r
 induction r with
 |nil=>rfl
 |cons h t ih=>rw[List.any_cons,List.any_cons,ih,h.1]
theorem KV.repl{kvs:List (κ×V)}{vs:List (κ×Value)}(r:KV kvs vs)(k:κ){y:V}{u:Value}(ry:RelV y u):
  KV (kvs.map fun kv=>if kv.1=k then(kv.1,y)else kv) (vs.map fun kv=>if kv.1=k then(kv.1,u)else kv):=by
 unfold KV at r⊢
 induction r with
 |nil=>exact .nil
 | @cons p q ps qs h t ih=>
  rw[List.map_cons,List.map_cons]
  refine .cons ?_ ih
  obtain⟨h1,h2⟩:=h
  by_cases e:p.1=k
  ·rw[if_pos e,if_pos (h1.symm.trans e)];exact⟨h1,ry⟩
  ·rw[if_neg e,if_neg (fun z=>e (h1.trans z))];exact⟨h1,h2⟩
theorem KV.put{kvs:List (κ×V)}{vs:List (κ×Value)}(r:KV kvs vs)(k:κ){y:V}{u:Value}(ry:RelV y u):KV (putK kvs k y) (stored vs k u):=by
 unfold putK stored
 rw[r.any k]
 by_cases e:(vs.any fun kv=>decide (kv.1=k))=true
 ·rw[if_pos e,if_pos e];exact r.repl k ry
 ·rw[if_neg e,if_neg e];exact Paired.snoc r ⟨rfl,ry⟩
theorem KV.keys{kvs:List (κ×V)}{vs:List (κ×Value)}(r:KV kvs vs):kvs.map (·.1)=vs.map (·.1):=by
 unfold KV at r
 induction r with
 |nil=>rfl
 |cons h t ih=>rw[List.map_cons,List.map_cons,ih,h.1]
theorem KV.length{kvs:List (κ×V)}{vs:List (κ×Value)}(r:KV kvs vs):kvs.length=vs.length:=Paired.length r
end
theorem rE{P:Program}{w:World}{k:Key}{u:Value}(r:RelV (kV k) u):(bL P w).is k u=true:=by
 cases k with
 |inl i=>obtain⟨t,e⟩:=(show∃t,u=Value.int i t from r);subst e;exact vP P w i t
 |inr x=>obtain⟨t,e⟩:=(show∃t,u=Value.str x t from r);subst e;exact vO P w x t
theorem rF{P:Program}{w:World}:∀{ks:List Key}{us:List Value},Vals (ks.map kV) us->ItemsAre (bL P w) ks us
 |[],_,r=>by rw[List.map_nil]at r;cases r;exact .nil
 |k::ks,_,r=>by
  rw[List.map_cons]at r
  cases r with
  |cons h t=>exact .cons (rE h) (rF t)
abbrev KT(H:Hp):List (List Key×V)->List (List Key×Addr×Value)->Prop:=Paired fun p q=>p.1=q.1/\H q.2.1=some (.tup (p.1.map kV))/\RelV p.2 q.2.2
theorem KT.val{H:Hp}{kvs:List (List Key×V)}{xs:List (List Key×Addr×Value)}(r:KT H kvs xs)(k:List Key):mW (iZ kvs k) ((atKey xs k).map (·.2)):=by
 induction r with
 |nil=>exact True.intro
 | @cons p q ps qs h t ih=>
  obtain⟨h1,_,h2⟩:=h
  by_cases e:p.1=k
  ·have e':q.1=k:=h1.symm.trans e
   have b:atKey (q::qs) k=some q.2:=by simp[atKey,List.find?_cons,e']
   rw[iW e,b];exact h2
  ·have e':¬q.1=k:=fun z=>e (h1.trans z)
   have b:atKey (q::qs) k=atKey qs k:=by simp[atKey,List.find?_cons,e']
   rw[iY e,b];exact ih
theorem KT.repl{H:Hp}{kvs:List (List Key×V)}{xs:List (List Key×Addr×Value)}(r:KT H kvs xs)(k:List Key){y:V}{u:Value}(ry:RelV y u):
  KT H (kvs.map fun kv=>if kv.1=k then(kv.1,y)else kv) (xs.map (putAt k u)):=by
 induction r with
 |nil=>exact .nil
 | @cons p q ps qs h t ih=>
  rw[List.map_cons,List.map_cons]
  refine .cons ?_ ih
  obtain⟨h1,h2,h3⟩:=h
  unfold putAt
  by_cases e:p.1=k
  ·rw[if_pos e,if_pos (h1.symm.trans e)];exact⟨h1,h2,ry⟩
  ·rw[if_neg e,if_neg (fun z=>e (h1.trans z))];exact⟨h1,h2,h3⟩
theorem KT.put{H:Hp}{kvs:List (List Key×V)}{xs:List (List Key×Addr×Value)}(r:KT H kvs xs)(k:List Key){b:Addr}{y:V}{u:Value}(hb:H b=some (.tup (k.map kV)))(ry:RelV y u):
  KT H (putK kvs k y) (storedH xs k b u):=by
 have e:(kvs.any fun kv=>decide (kv.1=k))=(atKey xs k).isSome:=by
  rw[nG,(r.val k).gM,Option.isSome_map]
 unfold putK storedH
 rw[e]
 by_cases q:(atKey xs k).isSome=true
 ·rw[if_pos q,if_pos q];exact r.repl k ry
 ·rw[if_neg q,if_neg q];exact Paired.snoc r ⟨rfl,hb,ry⟩
theorem KT.keeps{H H':Hp}{kvs:List (List Key×V)}{xs:List (List Key×Addr×Value)}(r:KT H kvs xs)(ht:∀b ys,H b=some (.tup ys)->H' b=some (.tup ys)):KT H' kvs xs:=
 Paired.Sq r fun _ _ z=>⟨z.1,ht _ _ z.2.1,z.2.2⟩
section
variable{P:Program}{w:World}{H:Hp}{h:Heap}{a:Addr}
theorem Oj{u:HO}(ok:iV P w H h)(e:Rd H a u):bN P w H h a u:=e.ok ok
theorem rN{kvs:List (Key×V)}(ok:iV P w H h)(e:Rd H a (.dK kvs)):kvs.length<=sizeLine/\(a==sysModules)=false/\∃vs,KV kvs vs/\h.DictOf (bL P w) a vs:=
 show bN P w H h a (.dK kvs)from Oj ok e
theorem PQ{kvs:List (Key×V)}(ok:iV P w H h)(e:H a=some (.dK kvs)):kvs.length<=sizeLine/\(a==sysModules)=false/\∃vs,KV kvs vs/\h.DictOf (bL P w) a vs:=rN ok (.inl e)
theorem oX{ks:List Key}(ok:iV P w H h)(e:H a=some (.tup (ks.map kV))):(tupleKind (bL P w)).is h ks a:=by
 obtain⟨_,its,r,o,h1,h2,_,n,h3⟩:=(show bN P w H h a (.tup (ks.map kV))from ok a _ e)
 exact⟨o,its.toArray,n,h1,h2,h3,by simpa using rF r⟩
theorem wz{kvs:List (List Key×V)}(ok:iV P w H h)(e:Rd H a (.dT kvs)):kvs.length<=sizeLine/\(a==sysModules)=false/\
  ∃xs,KT H kvs xs/\h.DictOfH (tupleKind (bL P w)) a xs:=by
 obtain⟨z,y,xs,r,o,es,ep,h1,h2,h3,h4,h5⟩:=(show bN P w H h a (.dT kvs)from Oj ok e)
 refine⟨z,y,xs,r,o,es,ep,h1,h2,h3,h4,fun x hx=>?_,h5⟩
 have all:∀{l:List (List Key×V)}{m:List (List Key×Addr×Value)},KT H l m->∀x∈m,(tupleKind (bL P w)).is h x.1 x.2.1:=by
  intro l m q
  induction q with
  |nil=>intro x hx;exact nomatch hx
  | @cons p q ps qs hq t ih=>
   intro x hx
   rcases List.mem_cons.mp hx with e|hx
   ·subst e
    exact oX ok (by rw[<-hq.1];exact hq.2.1)
   ·exact ih x hx
 exact all r x hx
theorem Zy{kvs:List (List Key×V)}(ok:iV P w H h)(e:H a=some (.dT kvs)):kvs.length<=sizeLine/\(a==sysModules)=false/\
  ∃xs,KT H kvs xs/\h.DictOfH (tupleKind (bL P w)) a xs:=wz ok (.inl e)
end
def uM(H:Hp)(a:Addr)(y:V)(r:Option V):Prop:=
 (∃kvs k,Rd H a (.dK kvs)/\y=kV k/\r=iZ kvs k)\/∃kvs k b,Rd H a (.dT kvs)/\y=.ref b/\H b=some (.tup (k.map kV))/\r=iZ kvs k
def yJ(H:Hp)(a:Addr)(y v:V)(H':Hp):Prop:=
 (∃kvs k,H a=some (.dK kvs)/\y=kV k/\kvs.length<sizeLine/\H'=upd H a (.dK (putK kvs k v)))\/
 ∃kvs k b,H a=some (.dT kvs)/\y=.ref b/\H b=some (.tup (k.map kV))/\kvs.length<sizeLine/\H'=upd H a (.dT (putK kvs k v))
theorem uM.k{H:Hp}{a:Addr}{kvs:List (Key×V)}{k:Key}(e:H a=some (.dK kvs)):uM H a (kV k) (iZ kvs k):=.inl ⟨kvs,k,.inl e,rfl,rfl⟩
theorem uM.t{H:Hp}{a b:Addr}{kvs:List (List Key×V)}{k:List Key}(e:H a=some (.dT kvs))(eb:H b=some (.tup (k.map kV))):uM H a (.ref b) (iZ kvs k):=.inr ⟨kvs,k,b,.inl e,rfl,eb,rfl⟩
theorem yJ.k{H:Hp}{a:Addr}{kvs:List (Key×V)}{k:Key}{v:V}(e:H a=some (.dK kvs))(hl:kvs.length<sizeLine):yJ H a (kV k) v (upd H a (.dK (putK kvs k v))):=.inl ⟨kvs,k,e,rfl,hl,rfl⟩
theorem yJ.t{H:Hp}{a b:Addr}{kvs:List (List Key×V)}{k:List Key}{v:V}(e:H a=some (.dT kvs))(eb:H b=some (.tup (k.map kV)))(hl:kvs.length<sizeLine):
  yJ H a (.ref b) v (upd H a (.dT (putK kvs k v))):=.inr ⟨kvs,k,b,e,rfl,eb,hl,rfl⟩
section
variable{X:Cx}{pins:List (Addr×Obj)}{σ:St}{H:Hp}{s:Shared}{a:Addr}{y v:V}{u r:Value}{o:Option V}{A:Around}{E:Value->Shared->Prop}
theorem Inv.big(I:Inv X pins σ H s):sysModules<s.heap.objs.size:=by
 have h:mainGlobals<s.heap.objs.size:=(I.mod.glob.keeps I.bk).lt
 exact Nat.lt_trans (by decide) h
theorem CK{Q:Value->Shared->Prop}(hu:A.units+1<cLine)(I:Inv X pins σ H s)(g:uM H a y (some v))(ry:RelV y u)(h:∀w' s',Inv X pins σ H s'->RelV v w'->Q w' s'):
  wpAny (model X.prog X.w) A (getItem (.ref a) u) Q E s:=by
 rcases g with ⟨kvs,k,e,ey,l⟩|⟨kvs,k,b,e,ey,eb,l⟩
 ·subst ey
  obtain⟨z,hd,vs,rel,dd⟩:=rN I.hok e
  obtain⟨w',hw,rw'⟩:=mW.some_of (v:=v) (o:=valueAt vs k) (by rw[l];exact rel.val k)
  exact wpAny_getItem_of (rE ry) dd.mapOf hw (h w' _ (I.tok _) rw')
 ·subst ey
  cases (show u=Value.ref b from ry)
  obtain⟨z,hd,xs,rel,dd⟩:=wz I.hok e
  obtain⟨w',hw,rw'⟩:=mW.some_of (v:=v) (o:=(atKey xs k).map (·.2)) (by rw[l];exact rel.val k)
  obtain⟨p,hp,hp2⟩:=Option.map_eq_some_iff.mp hw
  refine wpAny_getItem_heap (tupleKind_room_in1 hu) (oX I.hok eb) dd hp ?_
  rw[hp2]
  exact h w' _ (I.tok _) rw'
theorem adc{Q:Value->Shared->Prop}(hu:A.units+1<cLine)(I:Inv X pins σ H s)(g:uM H a y o)(ry:RelV y u)(h:∀s',Inv X pins σ H s'->Q (.bool o.isSome) s'):
  wpAny (model X.prog X.w) A (compareOp .In u (.ref a)) Q E s:=by
 rcases g with ⟨kvs,k,e,ey,l⟩|⟨kvs,k,b,e,ey,eb,l⟩
 ·subst ey
  obtain⟨z,hd,vs,rel,dd⟩:=rN I.hok e
  refine wpAny_in_of (rE ry) hd dd.mapOf ?_
  rw[<- (rel.val k).gM,<-l]
  exact h _ (I.tok _)
 ·subst ey
  cases (show u=Value.ref b from ry)
  obtain⟨z,hd,xs,rel,dd⟩:=wz I.hok e
  refine wpAny_in_heap (tupleKind_room_in1 hu) (oX I.hok eb) hd dd ?_
  have q:=(rel.val k).gM
  rw[Option.isSome_map]at q
  rw[<-q,<-l]
  exact h _ (I.tok _)
theorem My{Q:Value->Shared->Prop}(hu:A.units+1<cLine)(I:Inv X pins σ H s)(g:uM H a y o)(ry:RelV y u)(h:∀s',Inv X pins σ H s'->Q (.bool (!o.isSome)) s'):
  wpAny (model X.prog X.w) A (compareOp .NotIn u (.ref a)) Q E s:=by
 rcases g with ⟨kvs,k,e,ey,l⟩|⟨kvs,k,b,e,ey,eb,l⟩
 ·subst ey
  obtain⟨z,hd,vs,rel,dd⟩:=rN I.hok e
  refine wpAny_notIn_of (rE ry) hd dd.mapOf ?_
  rw[<- (rel.val k).gM,<-l]
  exact h _ (I.tok _)
 ·subst ey
  cases (show u=Value.ref b from ry)
  obtain⟨z,hd,xs,rel,dd⟩:=wz I.hok e
  refine wpAny_notIn_heap (tupleKind_room_in1 hu) (oX I.hok eb) hd dd ?_
  have q:=(rel.val k).gM
  rw[Option.isSome_map]at q
  rw[<-q,<-l]
  exact h _ (I.tok _)
theorem uz{h':Heap}{t':Nat}{ob:HO}(I:Inv X pins σ H s)(mu:Z3 (H a))(hs:Heap.SameBut a s.heap h')(he:∃q,h'.get? a=some q)(new:bN X.prog X.w (upd H a ob) h' a ob):
  Inv X pins σ (upd H a ob) {s with heap:=h',toks:=t'}:=
 I.write (x:=a) (e:=a) mu (.inl rfl) (fun b q hb z=>(hs.2 b hb).trans z) he new
theorem Ht{P:Program}{w:World}{H':Hp}{h':Heap}{kvs:List (Key×V)}{vs:List (Key×Value)}(z:kvs.length<=sizeLine)(hd:(a==sysModules)=false)(rel:KV kvs vs)(dd:h'.DictOf (bL P w) a vs):
  bN P w H' h' a (.dK kvs):=⟨z,hd,vs,rel,dd⟩
theorem CJ{H':Hp}{Q:Unit->Shared->Prop}(hu:A.units+1<cLine)(I:Inv X pins σ H s)(g:yJ H a y v H')(ry:RelV y u)(rv:RelV v r)(h:∀s',Inv X pins σ H' s'->Q () s'):
  wpAny (model X.prog X.w) A (setItem (.ref a) u r) Q E s:=by
 rcases g with ⟨kvs,k,e,ey,l,eH⟩|⟨kvs,k,b,e,ey,eb,l,eH⟩
 ·subst ey eH
  obtain⟨z,hd,vs,rel,dd⟩:=PQ I.hok e
  have hz:vs.length<=sizeLine:=by rw[<-rel.length];exact z
  have hl:(putK kvs k v).length<=sizeLine:=by have:=jd kvs k v;omega
  refine wpAny_setItem_pairs (hsz:=hz) (rE ry) dd fun h' dd' hs=>h _ ?_
  have he:∃q,h'.get? a=some q:=let ⟨q,_,_,hq,_⟩:=dd';⟨q,hq⟩
  exact uz I (by rw[e];exact True.intro) hs he (Ht hl hd (rel.put k rv) dd')
 ·subst ey eH
  cases (show u=Value.ref b from ry)
  obtain⟨z,hd,xs,rel,dd⟩:=Zy I.hok e
  have hz:xs.length<=sizeLine:=by rw[<-Paired.length rel];exact z
  have hl:(putK kvs k v).length<=sizeLine:=by have:=jd kvs k v;omega
  refine wpAny_setItem_heap (hsz:=hz) (tupleKind_room_in1 hu) (oX I.hok eb) dd fun h' dd' hs=>h _ ?_
  obtain⟨q,es,ep,hq,h2,h3,h4,_,h5⟩:=dd'
  refine uz I (by rw[e];exact True.intro) hs ⟨q,hq⟩ ⟨hl,hd,_,(rel.put k eb rv).keeps fun c ys ec=>?_,q,es,ep,hq,h2,h3,h4,h5⟩
  rw[az (Ys ec e (fun z=>nomatch z))]
  exact ec
end
section
variable{X:Cx}{pins:List (Addr×Obj)}{σ:St}{H:Hp}{s:Shared}{a:Addr}{kvs:List (Key×V)}{k:Key}{u:Value}{A:Around}{E:Value->Shared->Prop}
theorem Zz{Q:Value->Shared->Prop}(I:Inv X pins σ H s)(e:Rd H a (.dK kvs))(h:∀t s',Inv X pins σ H s'->Q (.int kvs.length t) s'):wpAny (model X.prog X.w) A (call (.builtin "len") [.ref a]) Q E s:=by
 obtain⟨z,hd,vs,rel,dd⟩:=rN I.hok e
 refine call_len_dict hd dd (by rw[<-rel.length];rw[sizeLine_eq]at z;omega) ?_
 rw[<-rel.length]
 exact h _ _ (I.tok _)
end
theorem wA{X:Cx}{pins:List (Addr×Obj)}{σ:St}{H:Hp}{s:Shared}{a:Addr}{y:V}{o:Option V}(I:Inv X pins σ H s)(g:uM H a y o):s.TypeIs (.ref a) "dict":=by
 rcases g with ⟨kvs,k,e,_,_⟩|⟨kvs,k,b,e,_,_,_⟩
 ·obtain⟨_,_,vs,_,dd⟩:=rN I.hok e
  exact dd.typeIs
 ·obtain⟨_,_,xs,_,dd⟩:=wz I.hok e
  exact dd.typeIs
section
variable{X:Cx}{o i e value:Expr}{pos pos' tpos:Pos}{td ty tv:TE}
end
theorem Hu{P:Program}{w:World}{H:Hp}(h:Heap)(hb:sysModules<h.objs.size):bN P w H (h.push {cls:=.type "dict",data:=.dict #[]}) h.objs.size (.dK []):=
 ⟨Nat.zero_le _,beq_eq_false_iff_ne.mpr (Ne.symm (Nat.ne_of_lt hb)),[],.nil,Heap.DictOf.new h⟩
section
variable{X:Cx}{pos:Pos}
end
structure M2(X:Cx)(o:Expr)(m:Str)(apos:Pos)(e f:Expr)(cpos:Pos):Prop where
 base:attributeBase o m X.env (eval o X.env)=eval o X.env
 few:((backTo cpos (starEach [e,f] X.env)).all (fun x=> !x.1)&&(backToKw cpos (keywordEach [] X.env)).all (fun x=>x.1.isSome)
  &&decide (([e,f]:List Expr).length+([]:List Keyword).length+(if ([]:List Keyword).isEmpty then 0 else 1)<30))=true
 line:(apos.endLine==cpos.line)=true
 trees:backTo cpos (starEach [e,f] X.env)=[(false,eval e X.env),(false,eval f X.env)]
section
variable{X:Cx}{pins:List (Addr×Obj)}{σ:St}{H:Hp}{s:Shared}{a:Addr}{y d:V}{u r:Value}{o:Option V}{A:Around}{E:Value->Shared->Prop}
end
section
variable{X:Cx}{o e f:Expr}{apos cpos:Pos}{td ty tx:TE}
end
section
variable{X:Cx}{pins:List (Addr×Obj)}{σ:St}{H:Hp}{s:Shared}{a:Addr}{kvs:List (Key×V)}{A:Around}{E:Value->Shared->Prop}
end
section
variable{X:Cx}{pins:List (Addr×Obj)}{σ:St}{H:Hp}{s:Shared}{a:Addr}{y:V}{u:Value}{A:Around}{E:Value->Shared->Prop}
end
end L2
namespace Att
open PySem PySem.W PySem.Calls PyProof.Rows
theorem mR{P:Params}{h:Heap}:∀(ns:List Int)(vs:List Value),WellAll P h vs (ns.map WData.int)->IntsAre vs ns:=by
 intro ns
 induction ns with
 |nil=>
  intro vs w
  rw[List.map_nil]at w
  cases w
  exact .nil
 |cons n ns ih=>
  intro vs w
  rw[List.map_cons]at w
  cases w with
  |cons a b=>
   cases a
   exact .cons _ _ (ih _ b)
theorem Bb{l:OpenLaw}{n:Nat}(hn:l.most=some n){P:Params}{h:Heap}{args:List WData}{vals:List Value}
  (hpre:l.row.toRowW.claim.pre args=true)(hwl:WellAll P h vals args):
  ∃a vs ns,vals=[Value.ref a]/\args=[WData.list (ns.map WData.int)]/\h.get? a=some {cls:=.type "list",data:=.seq vs.toArray}/\IntsAre vs ns/\ns.length<=n:=by
 have hsh:WShape.hasAll [] args [.list .int]=true:=(pre_splitW hpre).1
 have hc:l.pre.holds [] {args:=args}=true:=(pre_splitW hpre).2
 obtain⟨d,r,rfl,h1,h2⟩:=hasAllW_cons hsh
 obtain rfl:=hasAllW_nil h2
 obtain⟨xs,rfl,h3⟩:=hasW_list h1
 obtain⟨ns,rfl⟩:=items_int h3
 have hlen:ns.length<=n:=by
  unfold OpenLaw.pre at hc
  have h4:(WTm.not (.lt (.lit (.int (n:Int))) (.len (.arg 0)))).holds [] {args:=[.list (ns.map .int)]}=true:=by
   have h4:=(holds_andW hc).1
   rw[hn]at h4
   exact h4
  have h5:=condW_of h4 (w_not (w_lt w_lit (w_len_list (w_arg rfl))))
  rw[List.length_map]at h5
  refine Nat.le_of_not_lt fun q=>?_
  have q':(n:Int)< ((ns.length:Nat):Int):=by omega
  first
   |(rw[decide_eq_true q']at h5;exact absurd h5 (by decide))
   |(simp at h5;omega)
 cases hwl with
 |cons w1 w2=>
  cases w2
  cases w1 with
  |list ho hall=>exact⟨_,_,ns,rfl,rfl,ho,mR ns _ hall,hlen⟩
theorem Bm(l:OpenLaw)(args:List WData):l.row.toRowW.claim.post args (.bool true) args=true:=
 postW_of (r:=l.row.toRowW) (X:=(true==true))
  (show WShape.has [] (.bool true) .bool=true by first|rfl|decide|simp[WShape.has,WShape.arms,WShape.armsAll])
  (show(WTm.eq .res (.lit (.bool true))).value [] {args:=args,res:=some (.bool true),after:=args}=some (.bool (true==true))from w_eq_bool (w_res rfl) w_lit) rfl
theorem wJ{l:OpenLaw}{n:Nat}{q:Program}{loose:List Str}{XP:(Str->Option Value)->Heap->Prop}{YP:World->Heap->Prop}{d:DefRec}
  (hn:l.most=some n)(hdf:d.params.defaults=[])
  (call:∀(w:World)(s₀ s₁:Shared)(mg mb:Str->Option Value)(fa:Addr)(o:Obj)(pm cd doc:Value)(a:Addr)(vs:List Value)(ns:List Int),
   Ground q loose [] XP w s₀ mg mb s₁.heap->YP w s₁.heap->
   s₁.heap.get? fa=some o->o.data=.func (docDef d.name d.params d.body d.scope pm cd doc)->s₁.heap.CodeRec cd d.name->mg d.name=some (.ref fa)->
   s₁.heap.get? a=some {cls:=.type "list",data:=.seq vs.toArray}->IntsAre vs ns->ns.length<=n->s₁.gens= #[]->
   codeAny (model l.prog w) callerA (.call (.ref fa) ⟨[.ref a],[]⟩) (fun r s'=>r=.ok (.ret (.bool true))/\OldK s₁.heap s'.heap/\s'.os=s₁.os/\AllBare s'.gens) s₁):
  WalkO q loose XP YP l.row.toRowW d [] (fun f vs=>PySem.call f vs):=by
 intro w s₀ s₁ mg mb G Y fa o pm cd doc dV kV ho hd hcd hD hmg hg args vals as hpre hlay hrd hwl hlo
 obtain rfl:dV=.none:=Dflts.none hD hdf
 obtain rfl:kV=.none:=Dflts.noKw hD
 obtain⟨a,vs,ns,rfl,rfl,hobj,hints,hlen⟩:=Bb hn hpre hwl
 refine enter_call (codeAny_mono (call w s₀ s₁ mg mb fa o pm cd doc a vs ns G Y ho (fd_plain hd) hcd hmg hobj hints hlen hg) fun r s' hq=>?_)
 obtain⟨rfl,h2,h3,h4⟩:=hq
 exact⟨.inl ⟨.bool true,.bool true,[],rfl,fun _=>rfl,.bool true,Bm l _,fun _=>⟨List.Pairwise.nil,fun _ hm=>(nomatch hm)⟩⟩,h2,h3,h4⟩
section
variable{prog:Program}{w:World}{A:Around}{E:Value->Shared->Prop}{s:Shared}{K:Frag}
end
end Att
namespace L2
open PySem PySem.Spec PyProof.Rows
theorem qy:∀{vs:List Value}{ns:List Int},IntsAre vs ns->Vals (ns.map V.int) vs
 |_,_,.nil=>.nil
 |_,_,.cons n t h=>.cons ⟨t,rfl⟩ (qy h)
def Only(H:Hp):Prop:=∀b,H b=none\/∃o xs,H b=some (.frz o (.lst xs))
theorem Gx{P:Program}{w:World}{K:PySem.W.Frag}{mg mb:Str->Option Value}{CX:yL}{k:Nat}{fa a:Addr}{fd:FuncData}{x:Str}{sp:Sp}{s₁:Shared}{vs:List Value}{ns:List Int}
  (KX:K.In s₁.heap)(hns:s₁.heap.Ns mainGlobals mg)(hb:s₁.heap.Ns builtinsNs mb)(hbb:∀x:Str,x≠"__name__"->mb x=bootBuiltins x)(hlim:s₁.heap.NoLimit)(hg:s₁.gens= #[])
  (ha:s₁.heap.get? a=some {cls:=.type "list",data:=.seq vs.toArray})(hi:IntsAre vs ns)(hl:ns.length<=sizeLine)(hr:gD k callerA)
  (F:∀base:Heap,K.In base->base.Ns mainGlobals mg->fX P w K mg base CX k fa fd [x] sp)(hbind:∀(s:Shared)(u:Value),BindsTo s fd ⟨[u],[]⟩ [(x,u)])
  (hsp:∀H:Hp,Only H->iU K H a (ns.map V.int)->sp [.ref a] H (fun v _=>v=.bl true) fun _ _ _=>False)
  (hCX:∀H e s',CX [] H s₁ (fun _ _ _=>False) e s'->False):
  codeAny (model P w) callerA (.call (.ref fa) ⟨[.ref a],[]⟩) (fun r s'=>r=.ok (.ret (.bool true))/\OldK s₁.heap s'.heap/\s'.os=s₁.os/\AllBare s'.gens) s₁:=by
 have rv:=qy hi
 have lenV:=hi.length
 have core:∀H:Hp,Only H->iU K H a (ns.map V.int)->iV P w H s₁.heap->(∀b,H b≠none->b=a)->(H a≠none->K.lookup a=none)->
   codeAny (model P w) callerA (.call (.ref fa) ⟨[.ref a],[]⟩) (fun r s'=>r=.ok (.ret (.bool true))/\OldK s₁.heap s'.heap/\s'.os=s₁.os/\AllBare s'.gens) s₁:=by
  intro H hO hS hok hA hK
  have nC:∀{b:Addr}{o:Obj},s₁.heap.get? b=some o->H b=none->(uh s₁.heap H).get? b=some o:=fun e n=>Ha e n
  have noA:∀{b:Addr}{o:Obj}{es:Array DictEntry}{ep:Nat},s₁.heap.get? b=some o->o.data=.dict es ep->H b=none:=fun{b o es ep}e d=>by
   cases q:H b with
   |none=>rfl
   |some u=>
    have e':b=a:=hA b (by rw[q];simp)
    subst e'
    rw[ha]at e;cases e
    have d':Data.seq vs.toArray _=Data.dict es ep:=d
    cases d'
  have nsK:∀{b:Addr}{m:Str->Option Value},s₁.heap.Ns b m->(uh s₁.heap H).Ns b m:=fun{b m}⟨o,es,ep,e,d,r⟩=>⟨o,es,ep,nC e (noA e d),d,r⟩
  have hKb:K.In (uh s₁.heap H):=fun b o e=>nC (KX b o e) (by
   cases q:H b with
   |none=>rfl
   |some u=>
    have e':b=a:=hA b (by rw[q];simp)
    subst e'
    rw[hK (by rw[q];simp)]at e;cases e)
  have hM:Mod K mg (uh s₁.heap H):=⟨hKb,nsK hns,⟨mb,nsK hb,hbb⟩,let ⟨mc,h1,h2⟩:=hlim;⟨mc,nsK h1,h2⟩⟩
  have e0:yI P w K mg (uh s₁.heap H) callerA [] s₁ H:=⟨rfl,hM,fun b o e=>La e,Nat.le_of_eq (Cd _ _),trivial,fun b hb=>absurd (show b∈([]:List Addr)from hb) (by simp),hok,.of_eq hg⟩
  refine codeAny_mono ((F _ hKb (nsK hns)).run callerA [] s₁ H ⟨[.ref a],[]⟩ [.ref a] [.ref a] _ _ hr e0 (hbind s₁ (.ref a)) (.cons rfl .nil) (hsp H hO hS)) fun r s' h=>?_
  cases r with
  |error e=>exact(hCX H e s' h).elim
  |ok fl=>
   cases fl with
   |next=>exact False.elim h
   |brk=>exact False.elim h
   |cont=>exact False.elim h
   |ret u=>
    obtain⟨v,H',os,bare,un,hok',r',q⟩:=h
    have q':v=.bl true:=q
    subst q'
    obtain rfl:u=Value.bool true:=r'
    refine⟨rfl,OldK.of_keep fun b o e=>?_,os,bare⟩
    cases q:H b with
    |none=>exact un.keep b o e q (by intro z;exact absurd (show b∈([]:List Addr)from z) (by simp)) (by simp)
    |some u=>
     rcases hO b with z|⟨ob,xs,z⟩
     ·rw[q]at z;cases z
     ·have z2:=un.frzs b ob _ z
      obtain⟨e1,_⟩:=hok b _ z
      obtain⟨e2,_⟩:=hok' b _ z2
      rw[e]at e1;cases e1
      exact e2
 cases hk:K.lookup a with
 |some o=>
  have e:=KX a o hk
  rw[ha]at e
  cases e
  refine core (fun _=>none) (fun _=>.inl rfl) (.inr ⟨_,vs.toArray,_,hk,rfl,rfl,rfl,by rw[List.size_toArray,lenV];exact hl,by simpa using rv⟩) (fun b u z=>by have z':(none:Option HO)=some u:=z;cases z') (fun b z=>absurd rfl z) fun z=>absurd rfl z
 |none=>
  refine core (fun b=>if b=a then some (.frz {cls:=.type "list",data:=.seq vs.toArray} (.lst (ns.map V.int)))else none) (fun b=>?_) (.inl (.inr ⟨{cls:=.type "list",data:=.seq vs.toArray},if_pos rfl⟩)) (fun b u z=>?_) (fun b z=>?_) fun _=>hk
  ·by_cases hb:b=a
   ·exact .inr ⟨_,_,if_pos hb⟩
   ·exact .inl (if_neg hb)
  ·by_cases hb:b=a
   ·have z':=(if_pos hb).symm.trans z
    cases z'
    subst hb
    exact⟨ha,by rw[List.length_map];exact hl,vs,_,rv,ha⟩
   ·have z':=(if_neg hb).symm.trans z
    cases z'
  ·by_cases hb:b=a
   ·exact hb
   ·exact absurd (if_neg hb) z
end L2
namespace L2
open PySem PySem.Spec PyProof.Rows
theorem Jk{l:PySem.W.OpenLaw}{n k:Nat}{q:Program}{loose:List Str}{XP:(Str->Option Value)->Heap->Prop}{YP:World->Heap->Prop}{d:DefRec}{K:Params->PySem.W.Frag}{CX:World->yL}{sp:World->Sp}{x:Str}
  (hn:l.most=some n)(hn2:n<=sizeLine)(hdf:d.params.defaults=[])(hr:gD k callerA)
  (hY:∀(w:World)(h:Heap),YP w h->(K w.params).In h)
  (F:∀(w:World)(mg:Str->Option Value)(fa:Addr)(h:Heap),(K w.params).In h->h.Ns mainGlobals mg->mg d.name=some (.ref fa)->
   ∃fd:FuncData,(∀(s:Shared)(u:Value),BindsTo s fd ⟨[u],[]⟩ [(x,u)])/\
    ∀base:Heap,(K w.params).In base->base.Ns mainGlobals mg->fX l.prog w (K w.params) mg base (CX w) k fa fd [x] (sp w))
  (hsp:∀(w:World)(H:Hp)(a:Addr)(ns:List Int),ns.length<=n->Only H->iU (K w.params) H a (ns.map V.int)->sp w [.ref a] H (fun v _=>v=.bl true) fun _ _ _=>False)
  (hCX:∀(w:World)(H:Hp)(s:Shared)(e:Value)(s':Shared),CX w [] H s (fun _ _ _=>False) e s'->False):
  PySem.W.WalkO q loose XP YP l.row.toRowW d [] (fun f vs=>PySem.call f vs):=by
 refine Att.wJ hn hdf fun w s₀ s₁ mg mb fa o pm cd doc a vs ns G Y ho hd hcd hmg hobj hints hlen hg=>?_
 have KX:=hY w _ Y
 obtain⟨fd,hb,hF⟩:=F w mg fa _ KX G.T.g hmg
 exact Gx KX G.T.g G.T.b G.T.builtins G.T.nolimit hg hobj hints (Nat.le_trans hlen hn2) hr hF hb (fun H hO hS=>hsp w H a ns hlen hO hS) fun H e s'=>hCX w H s₁ e s'
end L2
namespace L2
open PySem PySem.Spec PyProof.Rows
def dg(s:Stmt):Arguments:=match s with
 |.FunctionDef _ a _ _ _ _ _ _ _ _=>a
 |_=>{posonlyargs:=[],args:=[],vararg:=none,kwonlyargs:=[],kw_defaults:=[],kwarg:=none,defaults:=[]}
def bW(s:Stmt):List Stmt:=match s with
 |.FunctionDef _ _ b _ _ _ _ _ _ _=>b
 |_=>[]
def aq(s:Stmt):Scope:=match s with
 |.FunctionDef _ _ _ _ _ _ sc _ _ _=>sc
 |_=>{kind:=.function,names:=[],isGenerator:=false,isCoroutine:=false}
abbrev wM:yL:=fun _ _ _ _ _ _=>False
abbrev E0:XK:=fun _ _ _=>False
theorem Yc{X:Cx}:yG wM X E0:=fun _ _ _ _ _ _ _ h=>h.elim
structure Nj(K:PySem.W.Frag)(x qual:Str)(st:Stmt)(f:Addr)(fd:FuncData):Prop where
 ex:∃(oc:Value)(od:Option Addr)(kV doc pm:Value)(an:Option Addr)(cdv ct:Value)(osl:Array (Option Value)),
  fd=PySem.W.fnOf x qual (dg st) (bW st) (aq st) .none kV doc pm an cdv ct/\K.lookup f=some ⟨oc,od,.func fd,osl⟩/\PySem.W.codeIn K cdv qual=true
 kp:PySem.W.keepIn K (.ref f)=true
section
variable{P:Program}{w:World}{K:PySem.W.Frag}{mg:Str->Option Value}{base:Heap}
theorem Nj.ok{x qual:Str}{st:Stmt}{f:Addr}{fd:FuncData}{N ps:List Str}{k:Nat}{sp:Sp}(F:Nj K x qual st f fd)(S:dR N ps (aq st))(len:∀vs H Q E,sp vs H Q E->vs.length=ps.length)
  (hbody:∀(cdv:Value)(A:Around)(outer:List Env)(s:Shared)(H:Hp)(vs:List V)(Q:VK)(E:XK),gD k (A.deeper (envOfC qual (aq st) s.heap.objs.size f cdv))->sp vs H Q E->
   ∃t,sG (gP wM P w K mg base N qual (aq st) f cdv A outer s H E).O1 (bW st) t/\t {nx:=fun _ H'=>Q .non H',rt:=Q} (start N vs) H):fX P w K mg base wM (k+1) f fd ps sp:=by
 obtain⟨oc,od,kV,doc,pm,an,cdv,ct,osl,rfl,lk,hcd⟩:=F.ex
 refine PN lk hcd S len fun A outer s H vs Q E hr hsp=>?_
 obtain⟨t,h,q⟩:=hbody cdv A outer s H vs Q E hr hsp
 exact⟨t,h.O1,q⟩
theorem Nj.binds{x qual:Str}{st:Stmt}{f:Addr}{fd:FuncData}{ps:List Str}(F:Nj K x qual st f fd)
  (h:∀(kV doc pm:Value)(an:Option Addr)(cdv ct:Value)(us:List Value),us.length=ps.length->bindArgs (PySem.W.fnOf x qual (dg st) (bW st) (aq st) .none kV doc pm an cdv ct) ⟨us,[]⟩=pure (ps.zip us)):Binds K fd ps []:=by
 obtain⟨oc,od,kV,doc,pm,an,cdv,ct,osl,rfl,lk,hcd⟩:=F.ex
 exact .all (h kV doc pm an cdv ct)
theorem Up{x qual:Str}{st:Stmt}{f:Addr}{oc:Value}{od an:Option Addr}{osl:Array (Option Value)}{kV doc pm cdv ct:Value}(l:K.lookup f=some ⟨oc,od,.func (PySem.W.fnOf x qual (dg st) (bW st) (aq st) .none kV doc pm an cdv ct),osl⟩)
  (c:PySem.W.codeIn K cdv qual=true)(k:PySem.W.keepIn K (.ref f)=true):Nj K x qual st f (PySem.W.fnOf x qual (dg st) (bW st) (aq st) .none kV doc pm an cdv ct):=⟨⟨oc,od,kV,doc,pm,an,cdv,ct,osl,rfl,l,c⟩,k⟩
end
theorem Az{n:Nat}(h:n<=1000):n<sizeLine:=Nat.lt_of_le_of_lt h (by decide)
section
variable{X:Cx}
end
def Dh(H H':Hp):Prop:=∀b o,H b=some o->H' b=some o
theorem Dh.trans{H H1 H2:Hp}(a:Dh H H1)(b:Dh H1 H2):Dh H H2:=fun c o h=>b c o (a c o h)
theorem Dh.free{H H':Hp}(e:Dh H H'){l:Addr}(h:H' l=Option.none):H l=Option.none:=by
 cases q:H l with
 |none=>rfl
 |some o=>
  rw[e l o q]at h
  cases h
end L2
end
section
namespace Mini
open PySem
inductive D where
 |non|bl (b:Bool)|int (i:Int)|str (x:Str)
 |tup (xs:List D)|lst (xs:List D)|dG (ks:List D) (vs:List D)
 deriving Inhabited
inductive Ob where
 |lst (xs:List D)|dct (ks vs:List D)
 deriving Inhabited
def Ob.d:Ob->D
 |.lst xs=>.lst xs
 |.dct ks vs=>.dG ks vs
inductive Sl where
 |un|val (d:D)|own (o:Ob)|bor (o:Ob)
 deriving Inhabited
abbrev Ev:=List Sl
inductive Rv where
 |val (d:D)|new (o:Ob)|ref (i:Nat)|tmp (o:Ob)
def Rv.jz:Rv->Option D
 |.val d=>some d
 |.new o=>some o.d
 |_=>none
def Rv.vm:Rv->Option Sl
 |.val d=>some (.val d)
 |.new o=>some (.own o)
 |_=>none
def aN:List Rv->Option (List D)
 |[]=>some []
 |r::rs=>r.jz.bind fun d=>(aN rs).map (d:: ·)
inductive Out(α:Type)where
 |ok (a:α) (σ:Ev)|exc (c:Nat) (σ:Ev)|bad
def Out.bind{α β:Type}:Out α->(α->Ev->Out β)->Out β
 |.ok a σ,f=>f a σ
 |.exc c σ,_=>.exc c σ
 |.bad,_=>.bad
def Out.ak{β:Type}:Out Rv->(D->Ev->Out β)->Out β
 |.ok (.val d) σ,f=>f d σ
 |.ok (.new o) σ,f=>f o.d σ
 |.ok _ _,_=>.bad
 |.exc c σ,_=>.exc c σ
 |.bad,_=>.bad
def Out.bR{β:Type}(tr:D->Option Bool)(r:Out Rv)(f:Bool->Ev->Out β):Out β:=
 r.ak fun d σ=>match tr d with|some b=>f b σ|none=>.bad
def Out.map{α β:Type}(g:α->β):Out α->Out β
 |.ok a σ=>.ok (g a) σ
 |.exc c σ=>.exc c σ
 |.bad=>.bad
def lift{α:Type}(σ:Ev):Option α->Out α
 |some a=>.ok a σ
 |none=>.bad
inductive Ji where
 |add|sub|mul|mod|fdiv|pow
 deriving DecidableEq
inductive Cm where
 |eq|ne|lt|le|gt|ge|isin|notin|je|notN
 deriving DecidableEq
inductive Ty where
 |tup|lst|str|bool|int|dG
 deriving DecidableEq
inductive Bi where
 |all|any|tuple|list|sorted|int|dict|len|copy
 deriving DecidableEq
inductive Tg where
 |name (i:Nat)|tup (is:List Nat)
inductive E where
 |var (i:Nat)|con (d:D)|glob (k:Nat)
 |nil|cons (h t:E)
 |tup (es:E)|lis (es:E)
 |op (o:Ji) (a b:E)|neg (a:E)|cmp (o:Cm) (a b:E)|chain (o₁ o₂:Cm) (a b c:E)
 |and (es:E)|or (es:E)|not (a:E)|ite (c a b:E)
 |idx (a i:E)|slc (a lo hi:E)|noneE
 |call (f:Nat) (args:E)|ref (i:Nat)|tmp (e:E)|rd (e:E)
 |isi (a:E) (t:Ty)|bi (b:Bi) (a:E)
 |range1 (a:E)|range2 (a b:E)|zip (a b:E)
 |count (a b:E)|popAt (i:Nat) (a:E)|index (a b:E)
 |get2 (d k x:E)|dsp (es:E)|tcall (f:Nat) (args:E) (hs:List (Nat×D))
 |comp (nl:Nat) (tg:Tg) (it:E) (cond:E) (elt:E)
inductive S where
 |nil|cons (h t:S)
 |set (i:Nat) (e:E)|setT (is:List Nat) (e:E)|setIx (i:Nat) (ix e:E)
 |expr (e:E)|append (i:Nat) (e:E)|extend (i:Nat) (e:E)|update (i:Nat) (e:E)
 |ret (e:E)|ite (c:E) (a b:S)
 |for_ (tg:Tg) (it:E) (b:S)|while_ (c:E) (b:S)
 |raise (c:Nat)|try_ (b:S) (c:Nat) (i:Nat) (h:S)|pass|brk|cont
def small(i:Int):Bool:=decide (-18446744073709551616<i/\i<18446744073709551616)
def qY(i:Int):Bool:=decide (-4611686018427387904<=i/\i<4611686018427387904)
def fits(n:Nat):Bool:=decide (n<=16777216)
def b2i(b:Bool):Int:=if b then 1 else 0
def ix?(n:Nat)(i:Int):Option Nat:=
 let j:=if i<0 then i+n else i
 if 0<=j/\j<n then some j.toNat else none
def at?(xs:List D)(i:Int):Option D:=(ix? xs.length i).bind fun k=>xs[k]?
def clip(n:Nat)(i:Int):Nat:=
 let j:=if i<0 then i+n else i
 if j<0 then 0 else if j>n then n else j.toNat
def cut(xs:List D)(lo hi:Option Int):List D:=
 let a:=match lo with|some i=>clip xs.length i|none=>0
 let b:=match hi with|some i=>clip xs.length i|none=>xs.length
 (xs.take b).drop a
mutual
def bZ:D->D->Bool
 |.non,.non=>true
 |.bl a,.bl b=>a==b
 |.bl a,.int j=>b2i a==j
 |.int i,.bl b=>i==b2i b
 |.int i,.int j=>i==j
 |.str x,.str y=>decide (x=y)
 |.tup xs,.tup ys=>mU xs ys
 |.lst xs,.lst ys=>mU xs ys
 |_,_=>false
def mU:List D->List D->Bool
 |[],[]=>true
 |x::xs,y::ys=>bZ x y&&mU xs ys
 |_,_=>false
end
mutual
def dep:D->Nat
 |.tup xs=>eZ xs+1
 |.lst xs=>eZ xs+1
 |_=>0
def eZ:List D->Nat
 |[]=>0
 |x::xs=>max (dep x) (eZ xs)
end
def sOk(x:Str):Bool:=x.cps.all fun c=>decide (c<128)
mutual
def nd:D->Bool
 |.str x=>sOk x
 |.tup xs=>iQ xs
 |.lst xs=>iQ xs
 |.dG _ _=>false
 |_=>true
def iQ:List D->Bool
 |[]=>true
 |x::xs=>nd x&&iQ xs
end
def flat:D->Bool
 |.non=>true
 |.bl _=>true
 |.int _=>true
 |.str _=>true
 |_=>false
def jj(a b:D):Bool:=(flat a&&flat b)||(nd a&&decide (dep a<=50)&&nd b)
def lN(a:D)(xs:List D):Bool:=(flat a&&xs.all flat)||(nd a&&decide (dep a<=50)&&iQ xs)
def cV(x:D):List D->Bool
 |[]=>false
 |y::ys=>bZ y x||cV x ys
def G8(x:D):List D->Nat
 |[]=>0
 |y::ys=>if bZ y x then 0 else G8 x ys+1
def eO(x:D):List D->Nat
 |[]=>0
 |y::ys=>(if bZ y x then 1 else 0)+eO x ys
def iK:List Bool->List Bool->Bool
 |[],[]=>false
 |[],_::_=>true
 |_::_,[]=>false
 |x::xs,y::ys=>if x=y then iK xs ys else(!x&&y)
def bools:List D->Option (List Bool)
 |[]=>some []
 |.bl b::r=>(bools r).map (b:: ·)
 |_=>none
def ltD:D->D->Option Bool
 |.int i,.int j=>some (decide (i<j))
 |.tup xs,.tup ys=>(bools xs).bind fun a=>(bools ys).map fun b=>iK a b
 |_,_=>none
def gR:D->Option Bool
 |.non=>some false
 |.bl b=>some b
 |.int i=>some (i !=0)
 |.tup xs=>some (!xs.isEmpty)
 |.lst xs=>some (!xs.isEmpty)
 |_=>none
def fG:Ty->D->Bool
 |.tup,.tup _=>true
 |.lst,.lst _=>true
 |.str,.str _=>true
 |.bool,.bl _=>true
 |.int,.int _=>true
 |.int,.bl _=>true
 |.dG,.dG _ _=>true
 |_,_=>false
def j4(k:D):List D->List D->Option D
 |k'::ks,v::vs=>if bZ k' k then some v else j4 k ks vs
 |_,_=>none
def keyOk:D->Bool
 |.str _=>true
 |.int _=>true
 |_=>false
def signs(x:Str):List D:=x.cps.toList.map fun c=>D.str ⟨#[c]⟩
def items:D->Option (List D)
 |.tup xs=>some xs
 |.lst xs=>some xs
 |.str x=>if fits x.length then some (signs x)else none
 |.dG ks _=>some ks
 |_=>none
def binop:Ji->D->D->Option Rv
 |.add,.int i,.int j=>some (.val (.int (i+j)))
 |.sub,.int i,.int j=>some (.val (.int (i-j)))
 |.mul,.int i,.int j=>if small i||small j then some (.val (.int (i*j)))else none
 |.mod,.int i,.int j=>if 0<j then some (.val (.int (i%j)))else none
 |.fdiv,.int i,.int j=>if 0<j/\j<1073741824 then some (.val (.int (i/j)))else none
 |.pow,.int i,.int j=>if 0<=j/\j<=64/\small i=true then some (.val (.int (i ^j.toNat)))else none
 |.add,.tup xs,.tup ys=>if fits (xs.length+ys.length)then some (.val (.tup (xs++ys)))else none
 |.add,.lst xs,.lst ys=>if fits (xs.length+ys.length)then some (.new (.lst (xs++ys)))else none
 |.mul,.tup [x],.int n=>if n=2\/n=8 then some (.val (.tup (List.replicate n.toNat x)))else none
 |_,_,_=>none
def o8:D->Bool
 |.non=>true
 |_=>false
def aC:Cm->D->D->Option Bool
 |.eq,a,b=>if jj a b then some (bZ a b)else none
 |.ne,a,b=>if jj a b then some (!bZ a b)else none
 |.lt,a,b=>ltD a b
 |.gt,.int i,.int j=>some (decide (j<i))
 |.le,.int i,.int j=>some (decide (i<=j))
 |.ge,.int i,.int j=>some (decide (j<=i))
 |.isin,a,.tup xs=>if lN a xs then some (cV a xs)else none
 |.isin,a,.lst xs=>if lN a xs then some (cV a xs)else none
 |.isin,a,.dG ks _=>if keyOk a then some (cV a ks)else none
 |.isin,.str x,.str y=>if x.length=1 then some (cV (.str x) (signs y))else none
 |.notin,a,.tup xs=>if lN a xs then some (!cV a xs)else none
 |.notin,a,.lst xs=>if lN a xs then some (!cV a xs)else none
 |.notin,a,.dG ks _=>if keyOk a then some (!cV a ks)else none
 |.je,a,.non=>some (o8 a)
 |.notN,a,.non=>some (!o8 a)
 |_,_,_=>none
def iH:List D->Option (List (List Bool))
 |[]=>some []
 |.tup ys::r=>match bools ys with
  |some (b::bs)=>(iH r).map ((b::bs):: ·)
  |_=>none
 |_=>none
def Bc{α:Type}(f:Nat->Nat->Option Bool):PySem.W.KasT α->Option α
 |.ret a=>some a
 |.ask i j k=>match f i j with
  |some b=>Bc f (k b)
  |none=>none
def M4(rs:List (List Bool))(i j:Nat):Option Bool:=(rs[i]?).bind fun a=>(rs[j]?).map fun b=>iK a b
def pA(xs:List D):List Nat->Option (List D)
 |[]=>some []
 |i::is=>(xs[i]?).bind fun d=>(pA xs is).map (d:: ·)
def nR:List D->Option (List Str)
 |[]=>some []
 |.str x::r=>(nR r).map (x:: ·)
 |_=>none
def M3(ss:List Str)(i j:Nat):Option Bool:=(ss[i]?).bind fun a=>(ss[j]?).map fun b=>decide (a.cps.toList<b.cps.toList)
def ZM(xs:List D):Option (Nat->Nat->Option Bool):=match iH xs with
 |some rs=>some (M4 rs)
 |none=>(nR xs).map M3
def lX(xs:List D):Option (List D):=
 if xs.length<2 then some xs
 else if xs.length<64 then(ZM xs).bind fun f=>(Bc f (PySem.W.kas_sort xs.length)).bind fun p=>if p.size=xs.length then pA xs p.toList else none
 else none
def yZ(k v:D):List D->List D->List D
 |k'::ks,v'::vs=>(if bZ k' k then v else v')::yZ k v ks vs
 |_,_=>[]
def putD(k v:D)(ks vs:List D):List D×List D:=if cV k ks then(ks,yZ k v ks vs)else(ks++[k],vs++[v])
def dictOf:List D->List D->List D->Option (List D×List D)
 |ks,vs,[]=>some (ks,vs)
 |ks,vs,.tup [k,v]::r=>if keyOk k then let p:=putD k v ks vs;dictOf p.1 p.2 r else none
 |_,_,_=>none
def aG:List D->List D->List D
 |x::xs,y::ys=>.tup [x,y]::aG xs ys
 |_,_=>[]
def bH(lo:Int):Nat->List D
 |0=>[]
 |n+1=>.int lo::bH (lo+1) n
def V2:Bi->List D->Option Rv
 |.all,xs=>(bools xs).map fun bs=>.val (.bl (bs.all id))
 |.any,xs=>(bools xs).map fun bs=>.val (.bl (bs.any id))
 |.tuple,xs=>some (.val (.tup xs))
 |.list,xs=>some (.new (.lst xs))
 |.sorted,xs=>(lX xs).map fun ys=>.new (.lst ys)
 |.dict,xs=>(dictOf [] [] xs).map fun p=>.new (.dct p.1 p.2)
 |.len,_=>none
 |.int,_=>none
 |.copy,_=>none
def E.au:E->Option Nat
 |.var i=>some i
 |_=>none
def oA(i:Nat)(σ:Ev):Out Rv:=
 match σ[i]? with
 |some (.val d)=>.ok (.val d) σ
 |some (.own o)=>.ok (.val o.d) (σ.set i (.val o.d))
 |_=>.bad
def aO(i:Nat)(σ:Ev):Option D:=
 match σ[i]? with
 |some (.val d)=>some d
 |some (.own o)=>some o.d
 |some (.bor o)=>some o.d
 |_=>none
def BK:D->Option Nat
 |.tup xs=>some xs.length
 |.lst xs=>some xs.length
 |.str x=>if fits x.length then some x.length else none
 |.dG ks _=>some ks.length
 |_=>none
def getD(d:D)(i:D):Option D:=
 match d,i with
 |.tup xs,.int i=>at? xs i
 |.lst xs,.int i=>at? xs i
 |.dG ks vs,k=>if keyOk k then j4 k ks vs else none
 |_,_=>none
def gn(d:D)(lo hi:Option Int):Option Rv:=
 match d with
 |.tup xs=>some (.val (.tup (cut xs lo hi)))
 |.lst xs=>some (.new (.lst (cut xs lo hi)))
 |_=>none
def b8(je:Bool)(d:D):Option (Option Int):=
 match je,d with
 |true,_=>some none
 |false,.int i=>some (some i)
 |_,_=>none
def E.je:E->Bool
 |.noneE=>true
 |_=>false
def bY(i:Nat)(s:Sl)(σ:Ev):Option Ev:=
 match σ[i]? with
 |some (.bor _)=>none
 |some _=>some (σ.set i s)
 |none=>none
def gq:List Nat->List D->Ev->Option Ev
 |[],[],σ=>some σ
 |i::is,d::ds,σ=>(bY i (.val d) σ).bind (gq is ds)
 |_,_,_=>none
def bA:Tg->D->Ev->Option Ev
 |.name i,d,σ=>bY i (.val d) σ
 |.tup is,.tup ds,σ=>gq is ds σ
 |_,_,_=>none
def bM(i:Nat)(f:Ob->Option Ob)(σ:Ev):Option Ev:=
 match σ[i]? with
 |some (.own o)=>(f o).map fun q=>σ.set i (.own q)
 |some (.bor o)=>(f o).map fun q=>σ.set i (.bor q)
 |_=>none
def mL(f:List D->Option (List D)):Ob->Option Ob
 |.lst xs=>(f xs).map .lst
 |_=>none
def tL(i v:D):Ob->Option Ob
 |.lst xs=>match i with
  |.int i=>(ix? xs.length i).map fun j=>.lst (xs.set j v)
  |_=>none
 |.dct ks vs=>if keyOk i&&fits (ks.length+1)then let p:=putD i v ks vs;some (.dct p.1 p.2)else none
inductive Res where
 |ok (r:Rv) (ps:List Sl)|exc (c:Nat) (ps:List Sl)|bad
structure Cf where
 fn:Nat->List Sl->Res
 gl:Nat->Option D
 turns:Nat
def ig(i:Nat):Rv->Bool
 |.ref j=>i==j
 |_=>false
def v6:Rv->Bool
 |.tmp _=>true
 |_=>false
def argv:Rv->Rv
 |.new o=>.val o.d
 |x=>x
def enter:List Rv->Ev->Option (List Sl)
 |[],_=>some []
 |.val d::as,σ=>(enter as σ).map (.val d:: ·)
 |.new _::_,_=>none
 |.tmp o::as,σ=>if as.any v6 then none else(enter as σ).map (.bor o:: ·)
 |.ref i::as,σ=>
  if as.any (ig i)then none else
  match σ[i]? with
  |some (.own o)=>(enter as σ).map (.bor o:: ·)
  |some (.bor o)=>(enter as σ).map (.bor o:: ·)
  |_=>none
def giveBack:List Rv->List Sl->Ev->Option Ev
 |[],[],σ=>some σ
 |.ref i::as,.bor o::ps,σ=>(bM i (fun _=>some o) σ).bind (giveBack as ps)
 |.ref _::_,_::_,_=>none
 |_::as,_::ps,σ=>giveBack as ps σ
 |_,_,_=>none
def pL(c:Cf)(f:Nat)(as:List Rv)(σ:Ev):Out Rv:=
 match enter as σ with
 |none=>.bad
 |some ps=>
  match c.fn f ps with
  |.ok r qs=>match giveBack as qs σ with|some σ'=>.ok r σ'|none=>.bad
  |_=>.bad
def gm(c:Cf)(f:Nat)(hs:List (Nat×D))(as:List Rv)(σ:Ev):Out Rv:=
 match enter as σ with
 |none=>.bad
 |some ps=>
  match c.fn f ps with
  |.ok r qs=>match giveBack as qs σ with|some σ'=>.ok r σ'|none=>.bad
  |.exc k qs=>match hs.lookup k,giveBack as qs σ with|some w,some σ'=>.ok (.val w) σ'|_,_=>.bad
  |.bad=>.bad
def aK(tg:Tg)(cond elt:Ev->Out Rv):List D->List D->Ev->Out (List D)
 |[],acc,σ=>.ok acc σ
 |x::xs,acc,σ=>
  match bA tg x σ with
  |none=>.bad
  |some σ₁=>(cond σ₁).bR gR fun b σ₂=>
   if b then(elt σ₂).ak fun d σ₃=>aK tg cond elt xs (acc++[d]) σ₃
   else aK tg cond elt xs acc σ₂
def cu:Option D->Bool
 |some (.lst _)=>true
 |_=>false
def fQ:D->Option (List D)
 |.lst xs=>some xs
 |_=>none
def oG(k:Nat)(y:D)(σ:Ev):Out Rv:=
 match y,aO k σ with
 |.int i,some (.lst xs)=>if !fits xs.length then .bad else match ix? xs.length i with
  |some j=>match xs[j]?,bM k (mL fun xs=>some (xs.eraseIdx j)) σ with
   |some d,some σ'=>.ok (.val d) σ'
   |_,_=>.bad
  |none=>.bad
 |_,_=>.bad
def uD(x y:D):Option Rv:=
 match x with
 |.tup xs=>if flat y&&xs.all flat then some (.val (.int (eO y xs)))else none
 |.lst xs=>if flat y&&xs.all flat then some (.val (.int (eO y xs)))else none
 |_=>none
def LR(x y:D):Option Rv:=
 match x with
 |.lst xs=>if flat y&&xs.all flat&&cV y xs then some (.val (.int (G8 y xs)))else none
 |_=>none
def zO(d k x:D):Option D:=
 match d with
 |.dG ks vs=>if keyOk k then some ((j4 k ks vs).getD x)else none
 |_=>none
def pairUp:List D->Option (List D)
 |[]=>some []
 |k::v::r=>(pairUp r).map (.tup [k,v]:: ·)
 |_=>none
def Mv(ds:List D):Option Rv:=if ds.length<=30&& !ds.isEmpty then(pairUp ds).bind fun ps=>(dictOf [] [] ps).map fun p=>.new (.dct p.1 p.2)else none
def mj:Option D->Bool
 |some (.dG _ _)=>true
 |_=>false
def xT:List D->List D->List D->List D->List D×List D
 |ks,vs,k::r,v::q=>xT (putD k v ks vs).1 (putD k v ks vs).2 r q
 |ks,vs,_,_=>(ks,vs)
def JC(x:D):Ob->Option Ob
 |.dct ks vs=>match x with
  |.dG r q=>if fits (ks.length+r.length)then some (.dct (xT ks vs r q).1 (xT ks vs r q).2)else none
  |_=>none
 |_=>none
def bw:D->Option (List D)
 |.tup xs=>some xs
 |.lst xs=>some xs
 |_=>none
def b1(b:Bi)(x:D):Option Rv:=
 match b with
 |.len=>(BK x).map fun n=>.val (.int n)
 |.int=>match x with|.bl b=>some (.val (.int (b2i b)))|.int i=>some (.val (.int i))|_=>none
 |.sorted=>(fQ x).bind (V2 .sorted)
 |.copy=>match x with|.dG ks vs=>some (.new (.dct ks vs))|_=>none
 |b=>(bw x).bind (V2 b)
mutual
def ev(c:Cf):E->Ev->Out Rv
 |.var i,σ=>oA i σ
 |.con d,σ=>.ok (.val d) σ
 |.glob k,σ=>match c.gl k with|some d=>.ok (.val d) σ|none=>.bad
 |.tup es,σ=>(evs c es σ).bind fun rs σ=>lift σ ((aN rs).bind fun ds=>if fits ds.length then some (.val (.tup ds))else none)
 |.lis es,σ=>(evs c es σ).bind fun rs σ=>lift σ ((aN rs).bind fun ds=>if fits ds.length then some (.new (.lst ds))else none)
 |.op o a b,σ=>(ev c a σ).ak fun x σ=>(ev c b σ).ak fun y σ=>lift σ (binop o x y)
 |.neg a,σ=>(ev c a σ).ak fun x σ=>lift σ (match x with|.int i=>some (.val (.int (-i)))|_=>none)
 |.cmp o a b,σ=>(ev c a σ).ak fun x σ=>match b.au with
  |some k=>lift σ ((aO k σ).bind fun d=>(aC o x d).map fun q=>.val (.bl q))
  |none=>(ev c b σ).ak fun y σ=>lift σ ((aC o x y).map fun q=>.val (.bl q))
 |.chain o₁ o₂ a b d,σ=>(ev c a σ).ak fun x σ=>(ev c b σ).ak fun y σ=>(lift σ (aC o₁ x y)).bind fun q σ=>
   if q then(ev c d σ).ak fun z σ=>lift σ ((aC o₂ y z).map fun q=>.val (.bl q))else .ok (.val (.bl false)) σ
 |.and es,σ=>eV c es σ
 |.or es,σ=>ji c es σ
 |.not a,σ=>(ev c a σ).bR gR fun b σ=>.ok (.val (.bl (!b))) σ
 |.ite t a b,σ=>(ev c t σ).bR gR fun q σ=>if q then ev c a σ else ev c b σ
 |.idx a i,σ=>match a.au with
  |some k=>if (aO k σ).isNone then .bad else(ev c i σ).ak fun y σ=>lift σ ((aO k σ).bind fun d=>(getD d y).map Rv.val)
  |none=>(ev c a σ).ak fun x σ=>(ev c i σ).ak fun y σ=>lift σ ((getD x y).map Rv.val)
 |.slc a lo hi,σ=>(ev c a σ).ak fun x σ=>(ev c lo σ).ak fun l σ=>match b8 lo.je l with
  |none=>.bad
  |some l=>(ev c hi σ).ak fun h σ=>lift σ ((b8 hi.je h).bind fun h=>gn x l h)
 |.noneE,σ=>.ok (.val .non) σ
 |.call f as,σ=>(evs c as σ).bind fun as σ=>pL c f as σ
 |.ref i,σ=>match σ[i]? with
  |some (.own _)=>.ok (.ref i) σ
  |some (.bor _)=>.ok (.ref i) σ
  |_=>.bad
 |.rd e,σ=>ev c e σ
 |.tmp e,σ=>(ev c e σ).bind fun x σ=>lift σ (match x with|.new o=>some (.tmp o)|_=>none)
 |.isi a t,σ=>(ev c a σ).ak fun x σ=>.ok (.val (.bl (fG t x))) σ
 |.bi b a,σ=>match a.au with
  |some k=>lift σ ((aO k σ).bind fun d=>b1 b d)
  |none=>(ev c a σ).ak fun x σ=>lift σ (b1 b x)
 |.range1 a,σ=>(ev c a σ).ak fun x σ=>lift σ (match x with|.int n=>if fits n.toNat&&qY n then some (.val (.lst (bH 0 n.toNat)))else none|_=>none)
 |.range2 a b,σ=>(ev c a σ).ak fun x σ=>(ev c b σ).ak fun y σ=>lift σ (match x,y with|.int m,.int n=>if fits (n-m).toNat&&qY m&&qY n then some (.val (.lst (bH m (n-m).toNat)))else none|_,_=>none)
 |.zip a b,σ=>(ev c a σ).ak fun x σ=>(ev c b σ).ak fun y σ=>lift σ ((bw x).bind fun xs=>(bw y).map fun ys=>.val (.lst (aG xs ys)))
 |.count a b,σ=>(ev c a σ).ak fun x σ=>if (bw x).isNone then .bad else(ev c b σ).ak fun y σ=>lift σ (uD x y)
 |.popAt k a,σ=>if !cu (aO k σ)then .bad else(ev c a σ).ak fun y σ=>oG k y σ
 |.index a b,σ=>(ev c a σ).ak fun x σ=>if (fQ x).isNone then .bad else(ev c b σ).ak fun y σ=>lift σ (LR x y)
 |.get2 d k x,σ=>(ev c d σ).ak fun y σ=>if !mj (some y)then .bad else(ev c k σ).ak fun k σ=>(ev c x σ).ak fun x σ=>lift σ ((zO y k x).map Rv.val)
 |.dsp es,σ=>(evs c es σ).bind fun rs σ=>lift σ ((aN rs).bind Mv)
 |.tcall f as hs,σ=>(evs c as σ).bind fun as σ=>gm c f hs as σ
 |.comp nl tg it cond elt,σ=>(ev c it σ).ak fun x σ=>match items x with
  |some xs=>match aK tg (ev c cond) (ev c elt) xs [] (List.replicate nl .un++σ)with
   |.ok ys τ=>.ok (.new (.lst ys)) (τ.drop nl)
   |_=>.bad
  |none=>.bad
 |.nil,_=>.bad
 |.cons _ _,_=>.bad
def eV(c:Cf):E->Ev->Out Rv
 |.cons h t,σ=>match t with
  |.nil=>ev c h σ
  |t=>(ev c h σ).ak fun x σ=>match x with|.bl true=>eV c t σ|.bl false=>.ok (.val (.bl false)) σ|_=>.bad
 |_,_=>.bad
def ji(c:Cf):E->Ev->Out Rv
 |.cons h t,σ=>match t with
  |.nil=>ev c h σ
  |t=>(ev c h σ).ak fun x σ=>match x with|.bl true=>.ok (.val (.bl true)) σ|.bl false=>ji c t σ|_=>.bad
 |_,_=>.bad
def evs(c:Cf):E->Ev->Out (List Rv)
 |.nil,σ=>.ok [] σ
 |.cons h t,σ=>(ev c h σ).bind fun x σ=>(evs c t σ).bind fun xs σ=>.ok (argv x::xs) σ
 |_,_=>.bad
end
inductive Fl where
 |next (σ:Ev)|ret (r:Rv) (σ:Ev)|brk (σ:Ev)|cont (σ:Ev)|exc (k:Nat) (σ:Ev)|bad
def Out.fl{α:Type}:Out α->(α->Ev->Fl)->Fl
 |.ok a σ,f=>f a σ
 |.exc k σ,_=>.exc k σ
 |.bad,_=>.bad
def Out.iT:Out Rv->(D->Ev->Fl)->Fl
 |.ok (.val d) σ,f=>f d σ
 |.ok (.new o) σ,f=>f o.d σ
 |.ok _ _,_=>.bad
 |.exc k σ,_=>.exc k σ
 |.bad,_=>.bad
def Out.Dl(r:Out Rv)(f:Bool->Ev->Fl):Fl:=r.iT fun d σ=>match gR d with|some b=>f b σ|none=>.bad
def lA:Rv->Ev->Fl
 |.val d,σ=>.ret (.val d) σ
 |.new o,σ=>.ret (.new o) σ
 |_,_=>.bad
def Fl.seq:Fl->(Ev->Fl)->Fl
 |.next σ,f=>f σ
 |r,_=>r
def Fl.turn:Fl->(Ev->Fl)->Fl
 |.next σ,f=>f σ
 |.cont σ,f=>f σ
 |.brk σ,_=>.next σ
 |r,_=>r
def aZ(tg:Tg)(b:Ev->Fl):List D->Ev->Fl
 |[],σ=>.next σ
 |x::xs,σ=>match bA tg x σ with
  |none=>.bad
  |some σ₁=>(b σ₁).turn (aZ tg b xs)
def cg(t:Ev->Out Rv)(b:Ev->Fl):Nat->Ev->Fl
 |0,_=>.bad
 |n+1,σ=>(t σ).Dl fun q σ=>if q then(b σ).turn (cg t b n)else .next σ
def mO:Option Ev->Fl
 |some σ=>.next σ
 |none=>.bad
def ex(c:Cf):S->Ev->Fl
 |.nil,σ=>.next σ
 |.cons h t,σ=>(ex c h σ).seq (ex c t)
 |.pass,σ=>.next σ
 |.brk,σ=>.brk σ
 |.cont,σ=>.cont σ
 |.set i e,σ=>(ev c e σ).fl fun x σ=>mO (x.vm.bind fun s=>bY i s σ)
 |.setT is e,σ=>(ev c e σ).iT fun x σ=>mO (bA (.tup is) x σ)
 |.setIx k ix e,σ=>(ev c e σ).iT fun x σ=>if (aO k σ).isNone then .bad else(ev c ix σ).iT fun y σ=>mO (bM k (tL y x) σ)
 |.expr e,σ=>(ev c e σ).iT fun _ σ=>.next σ
 |.append k e,σ=>if !cu (aO k σ)then .bad else(ev c e σ).iT fun x σ=>mO (bM k (mL fun xs=>if fits (xs.length+1)then some (xs++[x])else none) σ)
 |.extend k e,σ=>if !cu (aO k σ)then .bad else(ev c e σ).iT fun x σ=>mO ((fQ x).bind fun ys=>bM k (mL fun xs=>if fits (xs.length+ys.length)then some (xs++ys)else none) σ)
 |.update k e,σ=>if !mj (aO k σ)then .bad else(ev c e σ).iT fun x σ=>mO (bM k (JC x) σ)
 |.ret e,σ=>match e.au with
  |some i=>match σ[i]? with
   |some (.own o)=>.ret (.new o) (σ.set i .un)
   |_=>(ev c e σ).fl lA
  |none=>(ev c e σ).fl lA
 |.ite t a b,σ=>(ev c t σ).Dl fun q σ=>if q then ex c a σ else ex c b σ
 |.for_ tg it b,σ=>(ev c it σ).iT fun x σ=>match items x with
  |some xs=>aZ tg (ex c b) xs σ
  |none=>.bad
 |.while_ t b,σ=>cg (ev c t) (ex c b) c.turns σ
 |.raise k,σ=>.exc k σ
 |.try_ _ _ _ _,_=>.bad
structure Fn where
 pars:Nat
 names:Nat
 body:S
def dZ(c:Cf)(f:Fn)(ps:List Sl):Res:=
 if ps.length=f.pars then
  match ex c f.body (ps++List.replicate (f.names-f.pars) .un)with
  |.next σ=>.ok (.val .non) (σ.take f.pars)
  |.ret r σ=>.ok r (σ.take f.pars)
  |.exc k σ=>.exc k (σ.take f.pars)
  |_=>.bad
 else .bad
structure Pg where
 fns:List Fn
 gl:Nat->Option D
 turns:Nat
def Pg.fn(p:Pg):Nat->Nat->List Sl->Res
 |0,_,_=>.bad
 |n+1,f,ps=>match p.fns[f]? with
  |some g=>dZ ⟨p.fn n,p.gl,p.turns⟩ g ps
  |none=>.bad
def Pg.cf(p:Pg)(n:Nat):Cf:=⟨p.fn n,p.gl,p.turns⟩
end Mini
end
section
namespace Mini
open PySem
theorem v_0(c:Cf)(i σ):ev c (.var i) σ=oA i σ:=rfl
theorem v_1(c:Cf)(d σ):ev c (.con d) σ=.ok (.val d) σ:=rfl
theorem Wr(c:Cf)(k σ):ev c (.glob k) σ=match c.gl k with|some d=>.ok (.val d) σ|none=>.bad:=rfl
theorem v_3(c:Cf)(es σ):ev c (.tup es) σ=(evs c es σ).bind fun rs σ=>lift σ ((aN rs).bind fun ds=>if fits ds.length then some (.val (.tup ds))else none):=rfl
theorem v_4(c:Cf)(es σ):ev c (.lis es) σ=(evs c es σ).bind fun rs σ=>lift σ ((aN rs).bind fun ds=>if fits ds.length then some (.new (.lst ds))else none):=rfl
theorem Wq(c:Cf)(o a b σ):ev c (.op o a b) σ=(ev c a σ).ak fun x σ=>(ev c b σ).ak fun y σ=>lift σ (binop o x y):=rfl
theorem v_6(c:Cf)(a σ):ev c (.neg a) σ=(ev c a σ).ak fun x σ=>lift σ (match x with|.int i=>some (.val (.int (-i)))|_=>none):=rfl
theorem Vh(c:Cf)(o a b σ):ev c (.cmp o a b) σ=(ev c a σ).ak fun x σ=>match b.au with
  |some k=>lift σ ((aO k σ).bind fun d=>(aC o x d).map fun q=>.val (.bl q))
  |none=>(ev c b σ).ak fun y σ=>lift σ ((aC o x y).map fun q=>.val (.bl q)):=rfl
theorem Wo(c:Cf)(o₁ o₂ a b d σ):ev c (.chain o₁ o₂ a b d) σ=(ev c a σ).ak fun x σ=>(ev c b σ).ak fun y σ=>(lift σ (aC o₁ x y)).bind fun q σ=>
   if q then(ev c d σ).ak fun z σ=>lift σ ((aC o₂ y z).map fun q=>.val (.bl q))else .ok (.val (.bl false)) σ:=rfl
theorem Js(c:Cf)(es σ):ev c (.and es) σ=eV c es σ:=rfl
theorem sO(c:Cf)(es σ):ev c (.or es) σ=ji c es σ:=rfl
theorem DN(c:Cf)(a σ):ev c (.not a) σ=(ev c a σ).bR gR fun b σ=>.ok (.val (.bl (!b))) σ:=rfl
theorem DK(c:Cf)(t a b σ):ev c (.ite t a b) σ=(ev c t σ).bR gR fun q σ=>if q then ev c a σ else ev c b σ:=rfl
theorem Am(c:Cf)(a i σ):ev c (.idx a i) σ=match a.au with
  |some k=>if (aO k σ).isNone then .bad else(ev c i σ).ak fun y σ=>lift σ ((aO k σ).bind fun d=>(getD d y).map Rv.val)
  |none=>(ev c a σ).ak fun x σ=>(ev c i σ).ak fun y σ=>lift σ ((getD x y).map Rv.val):=rfl
theorem JB(c:Cf)(a lo hi σ):ev c (.slc a lo hi) σ=(ev c a σ).ak fun x σ=>(ev c lo σ).ak fun l σ=>match b8 lo.je l with
  |none=>.bad
  |some l=>(ev c hi σ).ak fun h σ=>lift σ ((b8 hi.je h).bind fun h=>gn x l h):=rfl
theorem QK(c:Cf)(σ):ev c .noneE σ=.ok (.val .non) σ:=rfl
theorem Jz(c:Cf)(f as σ):ev c (.call f as) σ=(evs c as σ).bind fun as σ=>pL c f as σ:=rfl
theorem DG(c:Cf)(i σ):ev c (.ref i) σ=match σ[i]? with
  |some (.own _)=>.ok (.ref i) σ
  |some (.bor _)=>.ok (.ref i) σ
  |_=>.bad:=rfl
theorem Dz(c:Cf)(e σ):ev c (.rd e) σ=ev c e σ:=rfl
theorem Jy(c:Cf)(e σ):ev c (.tmp e) σ=(ev c e σ).bind fun x σ=>lift σ (match x with|.new o=>some (.tmp o)|_=>none):=rfl
theorem Jx(c:Cf)(a t σ):ev c (.isi a t) σ=(ev c a σ).ak fun x σ=>.ok (.val (.bl (fG t x))) σ:=rfl
theorem sJ(c:Cf)(b a σ):ev c (.bi b a) σ=match a.au with
  |some k=>lift σ ((aO k σ).bind fun d=>b1 b d)
  |none=>(ev c a σ).ak fun x σ=>lift σ (b1 b x):=rfl
theorem Jw(c:Cf)(a σ):ev c (.range1 a) σ=(ev c a σ).ak fun x σ=>lift σ (match x with|.int n=>if fits n.toNat&&qY n then some (.val (.lst (bH 0 n.toNat)))else none|_=>none):=rfl
theorem QJ(c:Cf)(a b σ):ev c (.range2 a b) σ=(ev c a σ).ak fun x σ=>(ev c b σ).ak fun y σ=>lift σ (match x,y with|.int m,.int n=>if fits (n-m).toNat&&qY m&&qY n then some (.val (.lst (bH m (n-m).toNat)))else none|_,_=>none):=rfl
theorem Jv(c:Cf)(a b σ):ev c (.zip a b) σ=(ev c a σ).ak fun x σ=>(ev c b σ).ak fun y σ=>lift σ ((bw x).bind fun xs=>(bw y).map fun ys=>.val (.lst (aG xs ys))):=rfl
theorem Ju(c:Cf)(a b σ):ev c (.count a b) σ=(ev c a σ).ak fun x σ=>if (bw x).isNone then .bad else(ev c b σ).ak fun y σ=>lift σ (uD x y):=rfl
theorem Jt(c:Cf)(k a σ):ev c (.popAt k a) σ=if !cu (aO k σ)then .bad else(ev c a σ).ak fun y σ=>oG k y σ:=rfl
theorem kY(c:Cf)(nl tg it cond elt σ):ev c (.comp nl tg it cond elt) σ=(ev c it σ).ak fun x σ=>match items x with
  |some xs=>match aK tg (ev c cond) (ev c elt) xs [] (List.replicate nl .un++σ)with
   |.ok ys τ=>.ok (.new (.lst ys)) (τ.drop nl)
   |_=>.bad
  |none=>.bad:=rfl
theorem aeV(c:Cf)(a b σ):ev c (.index a b) σ=(ev c a σ).ak fun x σ=>if (fQ x).isNone then .bad else(ev c b σ).ak fun y σ=>lift σ (LR x y):=rfl
theorem aeU(c:Cf)(d k x σ):ev c (.get2 d k x) σ=(ev c d σ).ak fun y σ=>if !mj (some y)then .bad else(ev c k σ).ak fun k σ=>(ev c x σ).ak fun x σ=>lift σ ((zO y k x).map Rv.val):=rfl
theorem aeT(c:Cf)(es σ):ev c (.dsp es) σ=(evs c es σ).bind fun rs σ=>lift σ ((aN rs).bind Mv):=rfl
theorem abx(c:Cf)(f as hs σ):ev c (.tcall f as hs) σ=(evs c as σ).bind fun as σ=>gm c f hs as σ:=rfl
theorem x_0(c:Cf)(σ):ex c .nil σ=.next σ:=rfl
theorem x_1(c:Cf)(h t σ):ex c (.cons h t) σ=(ex c h σ).seq (ex c t):=rfl
theorem x_2(c:Cf)(σ):ex c .pass σ=.next σ:=rfl
theorem x_3(c:Cf)(σ):ex c .brk σ=.brk σ:=rfl
theorem x_4(c:Cf)(σ):ex c .cont σ=.cont σ:=rfl
theorem x_5(c:Cf)(i e σ):ex c (.set i e) σ=(ev c e σ).fl fun x σ=>mO (x.vm.bind fun s=>bY i s σ):=rfl
theorem x_6(c:Cf)(is e σ):ex c (.setT is e) σ=(ev c e σ).iT fun x σ=>mO (bA (.tup is) x σ):=rfl
theorem x_7(c:Cf)(k ix e σ):ex c (.setIx k ix e) σ=(ev c e σ).iT fun x σ=>if (aO k σ).isNone then .bad else(ev c ix σ).iT fun y σ=>mO (bM k (tL y x) σ):=rfl
theorem x_8(c:Cf)(e σ):ex c (.expr e) σ=(ev c e σ).iT fun _ σ=>.next σ:=rfl
theorem x_9(c:Cf)(k e σ):ex c (.append k e) σ=if !cu (aO k σ)then .bad else(ev c e σ).iT fun x σ=>mO (bM k (mL fun xs=>if fits (xs.length+1)then some (xs++[x])else none) σ):=rfl
theorem abv(c:Cf)(k e σ):ex c (.extend k e) σ=if !cu (aO k σ)then .bad else(ev c e σ).iT fun x σ=>mO ((fQ x).bind fun ys=>bM k (mL fun xs=>if fits (xs.length+ys.length)then some (xs++ys)else none) σ):=rfl
theorem uT(c:Cf)(e σ):ex c (.ret e) σ=match e.au with
  |some i=>match σ[i]? with
   |some (.own o)=>.ret (.new o) (σ.set i .un)
   |_=>(ev c e σ).fl lA
  |none=>(ev c e σ).fl lA:=rfl
theorem abu(c:Cf)(t a b σ):ex c (.ite t a b) σ=(ev c t σ).Dl fun q σ=>if q then ex c a σ else ex c b σ:=rfl
theorem Wj(c:Cf)(tg it b σ):ex c (.for_ tg it b) σ=(ev c it σ).iT fun x σ=>match items x with
  |some xs=>aZ tg (ex c b) xs σ
  |none=>.bad:=rfl
theorem abt(c:Cf)(t b σ):ex c (.while_ t b) σ=cg (ev c t) (ex c b) c.turns σ:=rfl
theorem Qo(c:Cf)(k σ):ex c (.raise k) σ=.exc k σ:=rfl
theorem aeS(c:Cf)(k e σ):ex c (.update k e) σ=if !mj (aO k σ)then .bad else(ev c e σ).iT fun x σ=>mO (bM k (JC x) σ):=rfl
theorem afA(i j):bZ (.int i) (.int j)=(i==j):=rfl
theorem afz(x y):bZ (.str x) (.str y)=decide (x=y):=rfl
theorem afy(a b):bZ (.bl a) (.bl b)=(a==b):=rfl
theorem afx(a j):bZ (.bl a) (.int j)=(b2i a==j):=rfl
theorem afw(i b):bZ (.int i) (.bl b)=(i==b2i b):=rfl
theorem afv(xs ys):bZ (.tup xs) (.tup ys)=mU xs ys:=rfl
theorem afu(xs ys):bZ (.lst xs) (.lst ys)=mU xs ys:=rfl
theorem aft:bZ .non .non=true:=rfl
theorem afs(a):bZ .non (.bl a)=false:=rfl
theorem afr(i):bZ .non (.int i)=false:=rfl
theorem adK(x):bZ .non (.str x)=false:=rfl
theorem adJ(a):bZ (.bl a) .non=false:=rfl
theorem adI(a x):bZ (.bl a) (.str x)=false:=rfl
theorem adH(i):bZ (.int i) .non=false:=rfl
theorem adG(i x):bZ (.int i) (.str x)=false:=rfl
theorem adF(x):bZ (.str x) .non=false:=rfl
theorem adE(x a):bZ (.str x) (.bl a)=false:=rfl
theorem adD(x i):bZ (.str x) (.int i)=false:=rfl
theorem agG(a b):aC .eq a b=if jj a b then some (bZ a b)else none:=rfl
theorem agF(a b):aC .ne a b=if jj a b then some (!bZ a b)else none:=rfl
theorem agE(a b):aC .lt a b=ltD a b:=rfl
end Mini
end
section
namespace Mini
open PySem L2
def I8(K:PySem.W.Frag)(H:Hp)(a:Addr)(xs:List V):Prop:=
 (∃o,H a=some (.frz o (.lst xs)))\/
  ∃(o:Obj)(its:Array Value)(n:Nat),K.lookup a=some o/\o.cls=.type "list"/\o.dict=none/\o.data=.seq its n/\its.size<=sizeLine/\Vals xs its.toList
theorem I8.sq{K:PySem.W.Frag}{H:Hp}{a:Addr}{xs:List V}(h:I8 K H a xs):iU K H a xs:=by
 rcases h with ⟨o,h⟩|h
 ·exact .inl (.inr ⟨o,h⟩)
 ·exact .inr h
def cH:Key->D
 |.inl i=>.int i
 |.inr x=>.str x
mutual
def bh(K:PySem.W.Frag)(H:Hp):D->V->Prop
 |.non,v=>v=.non
 |.bl b,v=>v=.bl b
 |.int i,v=>v=.int i
 |.str x,v=>v=.str x
 |.tup ds,v=>∃a vs,v=.ref a/\iC K H a vs/\ao K H ds vs
 |.lst ds,v=>∃a vs,v=.ref a/\I8 K H a vs/\ao K H ds vs
 |.dG ks ds,v=>∃a o kvs,v=.ref a/\H a=some (.frz o (.dK kvs))/\ks=kvs.map (fun p=>cH p.1)/\ao K H ds (kvs.map (·.2))
def ao(K:PySem.W.Frag)(H:Hp):List D->List V->Prop
 |[],vs=>vs=[]
 |d::ds,vs=>∃v r,vs=v::r/\bh K H d v/\ao K H ds r
end
structure bU(H H':Hp):Prop where
 tups:∀b xs,H b=some (.tup xs)->H' b=some (.tup xs)
 frzs:∀b o u,H b=some (.frz o u)->H' b=some (.frz o u)
theorem bU.refl(H:Hp):bU H H:=⟨fun _ _ h=>h,fun _ _ _ h=>h⟩
theorem bU.trans{H H1 H2:Hp}(a:bU H H1)(b:bU H1 H2):bU H H2:=⟨fun c xs h=>b.tups c xs (a.tups c xs h),fun c o u h=>b.frzs c o u (a.frzs c o u h)⟩
section
variable{K:PySem.W.Frag}{H H':Hp}{a:Addr}
theorem bU.Q8(p:bU H H'){xs:List V}(h:iC K H a xs):iC K H' a xs:=by
 rcases h with (h|⟨o,h⟩)|h
 ·exact .inl (.inl (p.tups _ _ h))
 ·exact .inl (.inr ⟨o,p.frzs _ _ _ h⟩)
 ·exact .inr h
theorem bU.Dj(p:bU H H'){xs:List V}(h:I8 K H a xs):I8 K H' a xs:=by
 rcases h with ⟨o,h⟩|h
 ·exact .inl ⟨o,p.frzs _ _ _ h⟩
 ·exact .inr h
mutual
theorem bh.mono(p:bU H H'):∀{d:D}{v:V},bh K H d v->bh K H' d v
 |.non,_,h=>h
 |.bl _,_,h=>h
 |.int _,_,h=>h
 |.str _,_,h=>h
 |.tup ds,v,h=>by
  unfold bh at h⊢
  obtain⟨a,vs,e,s,l⟩:=h
  exact⟨a,vs,e,p.Q8 s,ao.mono p l⟩
 |.lst ds,v,h=>by
  unfold bh at h⊢
  obtain⟨a,vs,e,s,l⟩:=h
  exact⟨a,vs,e,p.Dj s,ao.mono p l⟩
 |.dG ks ds,v,h=>by
  unfold bh at h⊢
  obtain⟨a,o,kvs,e,s,k,l⟩:=h
  exact⟨a,o,kvs,e,p.frzs _ _ _ s,k,ao.mono p l⟩
theorem ao.mono(p:bU H H'):∀{ds:List D}{vs:List V},ao K H ds vs->ao K H' ds vs
 |[],_,h=>by unfold ao at h⊢;exact h
 |d::ds,vs,h=>by
  unfold ao at h⊢
  obtain⟨v,r,e,s,l⟩:=h
  exact⟨v,r,e,bh.mono p s,ao.mono p l⟩
end
theorem ao.bj{vs:List V}:ao K H [] vs↔vs=[]:=by unfold ao;exact Iff.rfl
theorem ao.aW{d:D}{ds:List D}{vs:List V}:ao K H (d::ds) vs↔ ∃v r,vs=v::r/\bh K H d v/\ao K H ds r:=by
 constructor
 ·intro h;unfold ao at h;exact h
 ·intro h;unfold ao;exact h
theorem ao.eE{d:D}{ds:List D}{v:V}{vs:List V}(h:bh K H d v)(t:ao K H ds vs):ao K H (d::ds) (v::vs):=ao.aW.mpr ⟨v,vs,rfl,h,t⟩
theorem ao.jc:ao K H [] []:=ao.bj.mpr rfl
theorem ao.length:∀{ds:List D}{vs:List V},ao K H ds vs->ds.length=vs.length
 |[],_,h=>by rw[ao.bj.mp h];rfl
 |d::ds,vs,h=>by
  obtain⟨v,r,rfl,_,t⟩:=ao.aW.mp h
  simp[ao.length t]
theorem ao.get:∀{ds:List D}{vs:List V}{i:Nat}{d:D},ao K H ds vs->ds[i]? =some d->∃v,vs[i]? =some v/\bh K H d v
 |[],_,_,_,_,e=>by simp at e
 |d::ds,vs,i,d',h,e=>by
  obtain⟨v,r,rfl,hd,t⟩:=ao.aW.mp h
  cases i with
  |zero=>simp at e;subst e;exact⟨v,rfl,hd⟩
  |succ i=>obtain⟨w,q,z⟩:=ao.get (i:=i) t (by simpa using e);exact⟨w,by simpa using q,z⟩
theorem ao.append:∀{ds es:List D}{vs ws:List V},ao K H ds vs->ao K H es ws->ao K H (ds++es) (vs++ws)
 |[],_,_,_,h,t=>by rw[ao.bj.mp h];exact t
 |d::ds,es,vs,ws,h,t=>by
  obtain⟨v,r,rfl,hd,q⟩:=ao.aW.mp h
  exact ao.eE hd (ao.append q t)
theorem ao.take:∀{ds:List D}{vs:List V}(n:Nat),ao K H ds vs->ao K H (ds.take n) (vs.take n)
 |_,_,0=>fun _=>ao.jc
 |[],_,_+1=>fun h=>by rw[ao.bj.mp h];exact ao.jc
 |d::ds,vs,n+1=>fun h=>by
  obtain⟨v,r,rfl,hd,q⟩:=ao.aW.mp h
  exact ao.eE hd (ao.take n q)
theorem ao.drop:∀{ds:List D}{vs:List V}(n:Nat),ao K H ds vs->ao K H (ds.drop n) (vs.drop n)
 |_,_,0=>fun h=>h
 |[],_,_+1=>fun h=>by rw[ao.bj.mp h];exact ao.jc
 |d::ds,vs,n+1=>fun h=>by
  obtain⟨v,r,rfl,hd,q⟩:=ao.aW.mp h
  exact ao.drop n q
theorem ao.eraseIdx:∀{ds:List D}{vs:List V}(n:Nat),ao K H ds vs->ao K H (ds.eraseIdx n) (vs.eraseIdx n)
 |[],_,_=>fun h=>by rw[ao.bj.mp h];exact ao.jc
 |d::ds,vs,0=>fun h=>by
  obtain⟨v,r,rfl,hd,q⟩:=ao.aW.mp h
  exact q
 |d::ds,vs,n+1=>fun h=>by
  obtain⟨v,r,rfl,hd,q⟩:=ao.aW.mp h
  exact ao.eE hd (ao.eraseIdx n q)
theorem ao.set{d:D}{v:V}(hd:bh K H d v):∀{ds:List D}{vs:List V}(n:Nat),ao K H ds vs->ao K H (ds.set n d) (vs.set n v)
 |[],_,_=>fun h=>by rw[ao.bj.mp h];exact ao.jc
 |e::ds,vs,0=>fun h=>by
  obtain⟨w,r,rfl,he,q⟩:=ao.aW.mp h
  exact ao.eE hd q
 |e::ds,vs,n+1=>fun h=>by
  obtain⟨w,r,rfl,he,q⟩:=ao.aW.mp h
  exact ao.eE he (ao.set hd n q)
end
def isOwn:Sl->Option Ob
 |.own o=>some o
 |.bor o=>some o
 |_=>none
def Dm(K:PySem.W.Frag)(H:Hp):Ob->HO->Prop
 |.lst xs,u=>∃vs,u=.lst vs/\ao K H xs vs
 |.dct ks ds,u=>∃kvs,u=.dK kvs/\ks=kvs.map (fun p=>cH p.1)/\ao K H ds (kvs.map (·.2))
theorem Dm.mono{K:PySem.W.Frag}{H H':Hp}(p:bU H H'):∀{o:Ob}{u:HO},Dm K H o u->Dm K H' o u
 |.lst _,_,⟨vs,e,l⟩=>⟨vs,e,l.mono p⟩
 |.dct _ _,_,⟨kvs,e,k,l⟩=>⟨kvs,e,k,l.mono p⟩
structure Qk(u:HO):Prop where
 tup:∀xs,u≠ .tup xs
 frz:∀q w,u≠ .frz q w
 tbl:∀ps,u≠ .tbl ps
 own:∀x,u≠ .own x
theorem Dm.qR{K:PySem.W.Frag}{H:Hp}:∀{o:Ob}{u:HO},Dm K H o u->Qk u
 |.lst _,_,⟨vs,e,_⟩=>by
  subst e
  constructor
  all_goals (intros;intro z;cases z)
 |.dct _ _,_,⟨kvs,e,_⟩=>by
  subst e
  constructor
  all_goals (intros;intro z;cases z)
def jA(K:PySem.W.Frag)(H:Hp)(o:Ob)(a:Addr):Prop:=∃u,H a=some u/\Dm K H o u
def Ng(K:PySem.W.Frag)(H:Hp):Sl->Option V->Prop
 |.un,_=>True
 |.val d,o=>∃v,o=some v/\bh K H d v
 |.own q,o=>∃a,o=some (.ref a)/\jA K H q a
 |.bor q,o=>∃a,o=some (.ref a)/\jA K H q a
def aB(env:Ev)(σ:St)(i:Nat)(a:Addr):Prop:=(∃s xs,env[i]? =some s/\isOwn s=some xs)/\σ[i]? =some (some (.ref a))
structure Sat(K:PySem.W.Frag)(env:Ev)(σ:St)(H:Hp):Prop where
 len:env.length=σ.length
 sl:∀(i:Nat)s,env[i]? =some s->Ng K H s (σ[i]?).join
 ne:∀(i j:Nat)a,aB env σ i a->aB env σ j a->i=j
structure Nx(K:PySem.W.Frag)(env:Ev)(σ:St)(H:Hp)(env':Ev)(H':Hp):Prop where
 eY:Sat K env' σ H'
 sub:∀(i:Nat)a,aB env' σ i a->aB env σ i a
 pers:bU H H'
 keep:∀b u,H b=some u->(∀i,¬aB env σ i b)->H' b=some u
 dom:∀b,H' b=none->H b=none
 bors:∀(i:Nat)xs,env[i]? =some (.bor xs)->∃ys,env'[i]? =some (.bor ys)
section
variable{K:PySem.W.Frag}{env env1 env2:Ev}{σ:St}{H H1 H2:Hp}
theorem Nx.refl(h:Sat K env σ H):Nx K env σ H env H:=⟨h,fun _ _ z=>z,bU.refl H,fun _ _ z _=>z,fun _ z=>z,fun _ xs e=>⟨xs,e⟩⟩
theorem Nx.trans(a:Nx K env σ H env1 H1)(b:Nx K env1 σ H1 env2 H2):Nx K env σ H env2 H2:=
 ⟨b.eY,fun i c z=>a.sub i c (b.sub i c z),a.pers.trans b.pers,fun c vs z n=>b.keep c vs (a.keep c vs z n) fun i w=>n i (a.sub i c w),fun c z=>a.dom c (b.dom c z),fun i xs e=>let ⟨ys,e1⟩:=a.bors i xs e;b.bors i ys e1⟩
theorem Sat.own(h:Sat K env σ H){i:Nat}{a:Addr}(o:aB env σ i a):∃q,jA K H q a:=by
 obtain⟨⟨s,xs,e1,e2⟩,e3⟩:=o
 have q:=h.sl i s e1
 rw[e3]at q
 cases s with
 |un=>simp[isOwn]at e2
 |val d=>simp[isOwn]at e2
 |own ys=>obtain⟨b,e,z⟩:=q;cases e;exact⟨ys,z⟩
 |bor ys=>obtain⟨b,e,z⟩:=q;cases e;exact⟨ys,z⟩
theorem Sat.lE(h:Sat K env σ H){a:Addr}(hn:H a=none)(i:Nat):¬aB env σ i a:=fun o=>by
 obtain⟨q,u,z,_⟩:=h.own o
 rw[hn]at z;cases z
end
def fY(K:PySem.W.Frag)(σ:St)(H₀ H:Hp):Rv->V->Prop
 |.val d,v=>bh K H d v
 |.new q,v=>∃a,v=.ref a/\jA K H q a/\H₀ a=none
 |.tmp q,v=>∃a,v=.ref a/\jA K H q a/\H₀ a=none
 |.ref i,v=>σ[i]? =some (some v)
abbrev Wi:=Nat->Ev->St->Hp->Prop
def tM(K:PySem.W.Frag)(W:Wi)(env:Ev)(r:Out Rv):TE:=fun σ H Q=>Sat K env σ H/\match r with
 |.ok x env'=>∀v H',Nx K env σ H env' H'->fY K σ H H' x v->Q v H'
 |.exc c env'=>∀H',Nx K env σ H env' H'->W c env' σ H'
 |.bad=>False
def tD(K:PySem.W.Frag)(W:Wi)(env:Ev)(r:Out Rv):TE:=fun σ H Q=>Sat K env σ H/\match r with
 |.ok (.val d) env'=>∀v H',Nx K env σ H env' H'->bh K H' d v->Q v H'
 |.ok (.new q) env'=>∀v H',Nx K env σ H env' H'->bh K H' q.d v->Q v H'
 |.ok _ _=>False
 |.exc c env'=>∀H',Nx K env σ H env' H'->W c env' σ H'
 |.bad=>False
def tT(K:PySem.W.Frag)(W:Wi)(env:Ev)(r:Out Rv):TT:=fun σ H Q=>Sat K env σ H/\match r with
 |.ok x env'=>∃d b,x.jz=some d/\gR d=some b/\∀H',Nx K env σ H env' H'->Q b H'
 |.exc c env'=>∀H',Nx K env σ H env' H'->W c env' σ H'
 |.bad=>False
theorem PE.imp{X:Cx}{e:Expr}{t t':TE}(h:PE X e t)(i:∀σ H Q,t' σ H Q->t σ H Q):PE X e t':=fun pins s σ H Q I q=>h pins s σ H Q I (i σ H Q q)
theorem PT.imp{X:Cx}{e:Expr}{t t':TT}(h:PT X e t)(i:∀σ H Q,t' σ H Q->t σ H Q):PT X e t':=fun pins s σ H Q I q=>h pins s σ H Q I (i σ H Q q)
theorem _root_.L2.bN.there{P:Program}{w:World}{H:Hp}{h:Heap}{a:Addr}{o:HO}(x:bN P w H h a o):∃u,h.get? a=some u:=by
 cases o with
 |lst xs=>obtain⟨_,_,_,_,e⟩:=x;exact⟨_,e⟩
 |tup xs=>obtain⟨_,_,_,p⟩:=x;obtain⟨o,e,_⟩:=p;exact⟨_,e⟩
 |dK kvs=>obtain⟨_,_,_,_,o,_,_,e,_⟩:=x;exact⟨_,e⟩
 |dT kvs=>obtain⟨_,_,_,_,o,_,_,e,_⟩:=x;exact⟨_,e⟩
 |set S n=>obtain⟨o,_,_,_,e,_⟩:=x;exact⟨_,e⟩
 |ins C dx fs=>obtain⟨_,_,_,e,_⟩:=x;exact⟨_,e⟩
 |own y=>obtain⟨_,e⟩:=x;exact⟨_,e⟩
 |xd fs=>obtain⟨_,⟨_,_,_,e,_⟩,_⟩:=x;exact⟨_,e⟩
 |rng lo hi=>obtain⟨_,_,_,e⟩:=x;exact⟨_,e⟩
 |frz ob u=>obtain⟨e,_⟩:=x;exact⟨_,e⟩
 |tbl ps=>exact⟨_,show h.get? a=some _ from x⟩
 |met f y=>exact⟨_,show h.get? a=some _ from x⟩
 |ext φ=>obtain⟨_,⟨_,e⟩,_⟩:=x;exact⟨_,e⟩
theorem Inv.freeze{X:Cx}{pins:List (Addr×Obj)}{σ:St}{H:Hp}{s:Shared}{a:Addr}{u:HO}(I:Inv X pins σ H s)(h:H a=some u)(hu:Qk u):
  ∃o,Inv X pins σ (upd H a (.frz o u)) s:=by
 obtain⟨o,ho⟩:=(I.hok a _ h).there
 refine⟨o,?_⟩
 have ne:∀b w,H b=some w->w≠u->b≠a:=fun b w q n z=>by subst z;rw[h]at q;cases q;exact n rfl
 have stay:∀b w,b≠a->H b=some w->upd H a (.frz o u) b=some w:=fun b w n q=>by rw[az n];exact q
 have hok:iV X.prog X.w (upd H a (.frz o u)) s.heap:=fun b w q=>by
  have st:∀c v,bN X.prog X.w H s.heap c v->bN X.prog X.w (upd H a (.frz o u)) s.heap c v:=fun c v z=>
   z.stay (fun c v _ q=>q) (fun e q=>stay e _ (ne e _ q (hu.own c).symm) q) fun e xs q=>stay e _ (ne e _ q (hu.tup xs).symm) q
  by_cases hb:b=a
  ·subst hb
   rw[aQ]at q
   cases q
   exact⟨ho,st _ _ (I.hok b _ h)⟩
  ·rw[az hb]at q
   exact st _ _ (I.hok b w q)
 have J:=I.step (h':=s.heap) (H':=upd H a (.frz o u)) (g':=s.gens) (t':=s.toks) (d':=s.drawn) (ch:=[]) (fun _ z=>nomatch z)
  (fun b o _ _ _ q _=>q) (fun b o _ _ _ q _=>⟨o.slots,q⟩) (fun b o _ q n=>by
   have hb:b≠a:=fun z=>by subst z;rw[h]at n;cases n
   rw[az hb];exact n) (fun b o _ q=>⟨o,q⟩)
  (fun b xs q=>stay b _ (ne b _ q (hu.tup xs).symm) q) (fun b o w q=>stay b _ (ne b _ q (hu.frz o w).symm) q) (fun b ps q=>⟨#[],by rw[stay b _ (ne b _ q (hu.tbl ps).symm) q];simp⟩) (fun m q=>q) hok I.bare
 exact J
section
variable{K:PySem.W.Frag}{env:Ev}{σ:St}{H H1:Hp}{a:Addr}{u:HO}{o:Obj}{q:Ob}
theorem gb(h:H a=some u)(hu:Qk u):bU H (upd H a (.frz o u)):=by
 refine⟨fun b xs q=>?_,fun b o' w q=>?_⟩
 ·rw[az (fun z=>by subst z;rw[h]at q;cases q;exact hu.tup xs rfl)];exact q
 ·rw[az (fun z=>by subst z;rw[h]at q;cases q;exact hu.frz o' w rfl)];exact q
theorem Dm.den{H':Hp}(h:Dm K H' q u)(e:H' a=some (.frz o u)):bh K H' q.d (.ref a):=by
 cases q with
 |lst xs=>
  obtain⟨vs,rfl,l⟩:=h
  show bh K H' (.lst xs) (.ref a)
  unfold bh
  exact⟨a,vs,rfl,.inl ⟨o,e⟩,l⟩
 |dct ks ds=>
  obtain⟨kvs,rfl,k,l⟩:=h
  show bh K H' (.dG ks ds) (.ref a)
  unfold bh
  exact⟨a,o,kvs,rfl,e,k,l⟩
theorem Ng.keep{H':Hp}{sl:Sl}{v:Option V}(p:bU H H')(h:Ng K H sl v)(k:∀b u,isOwn sl≠none->v=some (.ref b)->H b=some u->H' b=some u):Ng K H' sl v:=by
 cases sl with
 |un=>trivial
 |val d=>obtain⟨v,e1,e2⟩:=h;exact⟨v,e1,e2.mono p⟩
 |own q=>
  obtain⟨b,e1,w,e2,e3⟩:=h
  exact⟨b,e1,w,k b w (by simp[isOwn]) e1 e2,e3.mono p⟩
 |bor q=>
  obtain⟨b,e1,w,e2,e3⟩:=h
  exact⟨b,e1,w,k b w (by simp[isOwn]) e1 e2,e3.mono p⟩
theorem tU{i:Nat}{sl:Sl}{b:Addr}(e:env[i]? =some sl)(ho:isOwn sl≠none)(ev:(σ[i]?).join=some (.ref b)):aB env σ i b:=by
 refine⟨?_,?_⟩
 ·cases q:isOwn sl with
  |none=>exact absurd q ho
  |some o=>exact⟨sl,o,e,q⟩
 ·cases w:σ[i]? with
  |none=>rw[w]at ev;cases ev
  |some y=>rw[w]at ev;simp at ev;rw[ev]
theorem Sat.keep{H':Hp}(S:Sat K env σ H)(p:bU H H')(k:∀i b u,aB env σ i b->H b=some u->H' b=some u):Sat K env σ H':=
 ⟨S.len,fun i sl e=>(S.sl i sl e).keep p fun b u ho ev hb=>k i b u (tU e ho ev) hb,S.ne⟩
theorem Sat.freeze(S:Sat K env σ H)(h:H a=some u)(hu:Qk u)(no:∀i,¬aB env σ i a):Sat K env σ (upd H a (.frz o u)):=
 S.keep (gb h hu) fun i b w ow hb=>by
  have nb:b≠a:=fun z=>by subst z;exact no i ow
  rw[az nb];exact hb
end
theorem FT{X:Cx}{W:Wi}{e:Expr}{env:Ev}{r:Out Rv}(h:PE X e (tM X.K W env r)):PE X e (tD X.K W env r):=by
 intro pins s σ H Q I q
 obtain⟨S,q⟩:=q
 cases r with
 |bad=>exact q.elim
 |exc c env'=>exact h pins s σ H Q I ⟨S,q⟩
 |ok x env'=>
  cases x with
  |val d=>exact h pins s σ H Q I ⟨S,q⟩
  |ref i=>exact False.elim q
  |tmp xs=>exact False.elim q
  |new xs=>
   refine bV (h pins s σ H (fun v H'=>Nx X.K env σ H env' H'/\fY X.K σ H H' (.new xs) v) I ⟨S,fun v H' n k=>⟨n,k⟩⟩) fun u s1⟨v,H1,I1,r1,N,k⟩=>?_
   obtain⟨a,rfl,⟨u,ha,hl⟩,h0⟩:=k
   have hu:=hl.qR
   obtain⟨o,I2⟩:=Inv.freeze I1 ha hu
   have no:∀i,¬aB env' σ i a:=fun i z=>S.lE h0 i (N.sub i a z)
   have p:=gb (o:=o) ha hu
   refine⟨.ref a,_,I2,r1,q (.ref a) _ ⟨N.eY.freeze ha hu no,N.sub,N.pers.trans p,fun b ws z n=>?_,fun b z=>?_,N.bors⟩ ((hl.mono p).den aQ)⟩
   ·rw[az (fun w=>by subst w;rw[h0]at z;cases z)];exact N.keep b ws z n
   ·refine N.dom b ?_
    by_cases hb:b=a
    ·subst hb;rw[aQ]at z;cases z
    ·rw[az hb]at z;exact z
end Mini
end
section
namespace Mini
open PySem L2
theorem fY.weaken{K:PySem.W.Frag}{σ:St}{H0 H1 H:Hp}{x:Rv}{v:V}(h:fY K σ H1 H x v)(d:∀b,H1 b=none->H0 b=none):fY K σ H0 H x v:=by
 cases x with
 |val d=>exact h
 |ref i=>exact h
 |new xs=>obtain⟨a,e,p,z⟩:=h;exact⟨a,e,p,d a z⟩
 |tmp xs=>obtain⟨a,e,p,z⟩:=h;exact⟨a,e,p,d a z⟩
section
variable{K:PySem.W.Frag}{W:Wi}{env:Ev}{σ:St}{H:Hp}{Q:VK}
theorem Oe{env1:Ev}{H1:Hp}{r:Out Rv}(S:tM K W env r σ H Q)(N:Nx K env σ H env1 H1):tM K W env1 r σ H1 Q:=by
 obtain⟨_,h⟩:=S
 refine⟨N.eY,?_⟩
 cases r with
 |bad=>exact h
 |exc c env2=>exact fun H' N'=>h H' (N.trans N')
 |ok x env2=>exact fun v H' N' z=>h v H' (N.trans N') (z.weaken N.dom)
theorem aR{r:Out Rv}{f:D->Ev->Out Rv}{R:VK}(h:tM K W env (r.ak f) σ H Q)
  (k:∀d env1 v H1,Nx K env σ H env1 H1->bh K H1 d v->tM K W env1 (f d env1) σ H1 Q->R v H1):tD K W env r σ H R:=by
 have step:∀d env1,r.ak f=f d env1->∀v H1,Nx K env σ H env1 H1->bh K H1 d v->R v H1:=fun d env1 e v H1 N D=>by
  rw[e]at h
  exact k d env1 v H1 N D (Oe h N)
 obtain⟨S,h⟩:=h
 refine⟨S,?_⟩
 cases r with
 |bad=>exact h
 |exc c env1=>exact h
 |ok x env1=>
  cases x with
  |val d=>exact fun v H1 N D=>step d env1 rfl v H1 N D
  |new xs=>exact fun v H1 N D=>step xs.d env1 rfl v H1 N D
  |ref i=>exact h
  |tmp xs=>exact h
theorem uZ{r:Out Rv}{f:Bool->Ev->Out Rv}{R:Bool->Hp->Prop}(h:tM K W env (r.bR gR f) σ H Q)
  (k:∀b env1 H1,Nx K env σ H env1 H1->tM K W env1 (f b env1) σ H1 Q->R b H1):tT K W env r σ H R:=by
 have step:∀d env1 x,x.jz=some d->r=.ok x env1->∃b,gR d=some b/\∀H1,Nx K env σ H env1 H1->R b H1:=fun d env1 x ex er=>by
  subst er
  cases q:gR d with
  |none=>
   cases x with
   |val d'=>cases ex;simp only[Out.bR,Out.ak,q]at h;exact h.2.elim
   |new xs=>cases ex;simp only[Out.bR,Out.ak,q]at h;exact h.2.elim
   |ref i=>cases ex
   |tmp xs=>cases ex
  |some b=>
   refine⟨b,rfl,fun H1 N=>k b env1 H1 N (Oe ?_ N)⟩
   cases x with
   |val d'=>cases ex;simp only[Out.bR,Out.ak,q]at h;exact h
   |new xs=>cases ex;simp only[Out.bR,Out.ak,q]at h;exact h
   |ref i=>cases ex
   |tmp xs=>cases ex
 refine⟨h.1,?_⟩
 cases r with
 |bad=>exact h.2
 |exc c env1=>exact h.2
 |ok x env1=>
  cases x with
  |val d=>obtain⟨b,e,q⟩:=step d env1 _ rfl rfl;exact⟨d,b,rfl,e,q⟩
  |new xs=>obtain⟨b,e,q⟩:=step xs.d env1 _ rfl rfl;exact⟨xs.d,b,rfl,e,q⟩
  |ref i=>exact h.2.elim
  |tmp xs=>exact h.2.elim
theorem cL{o:Option Rv}(h:tM K W env (lift env o) σ H Q):∃z,o=some z/\Sat K env σ H/\∀v H',Nx K env σ H env H'->fY K σ H H' z v->Q v H':=by
 obtain⟨S,h⟩:=h
 cases o with
 |none=>exact h.elim
 |some z=>exact⟨z,rfl,S,h⟩
theorem dI{d:D}{v:V}(h:tM K W env (.ok (.val d) env) σ H Q)(e:bh K H d v):Q v H:=h.2 v H (Nx.refl h.1) e
theorem Nx.laid{p:Addr}{o:HO}(S:Sat K env σ H)(hp:H p=none):Nx K env σ H env (upd H p o):=by
 have ne:∀b u,H b=some u->b≠p:=fun b u q z=>by subst z;rw[hp]at q;cases q
 have pe:bU H (upd H p o):=⟨fun b xs q=>by rw[az (ne b _ q)];exact q,fun b o' u q=>by rw[az (ne b _ q)];exact q⟩
 refine⟨S.keep pe fun i b u _ q=>by rw[az (ne b _ q)];exact q,fun _ _ z=>z,pe,fun b vs q _=>by rw[az (ne b _ q)];exact q,fun b q=>?_,fun _ xs e=>⟨xs,e⟩⟩
 ·by_cases hb:b=p
  ·subst hb;exact hp
  ·rw[az hb]at q;exact q
end
def GE(X:Cx)(W:Wi)(c:Cf)(m:E)(e:Expr):Prop:=∀env,PE X e (tM X.K W env (ev c m env))
def aD(X:Cx)(W:Wi)(c:Cf)(m:E):TE:=fun σ H Q=>∃env,tD X.K W env (ev c m env) σ H Q
def aT(X:Cx)(W:Wi)(c:Cf)(m:E):TT:=fun σ H Q=>∃env,tT X.K W env (ev c m env) σ H Q
def GT(X:Cx)(W:Wi)(c:Cf)(m:E)(e:Expr):Prop:=PT X e (aT X W c m)
section
variable{X:Cx}{W:Wi}{c:Cf}{m m1 m2 m3:E}{e a b:Expr}{pos:Pos}
theorem GE.d(h:GE X W c m e):PE X e (aD X W c m):=fun pins s σ H Q I⟨env,q⟩=>FT (h env) pins s σ H Q I q
theorem bh.gR{K:PySem.W.Frag}{H:Hp}{x:D}{v:V}{k:Bool}(h:bh K H x v)(e:gR x=some k):Iu K v H k:=by
 cases x with
 |non=>cases h;simp[Mini.gR]at e;subst e;rfl
 |bl b=>cases h;simp[Mini.gR]at e;subst e;rfl
 |int i=>cases h;simp[Mini.gR]at e;subst e;rfl
 |str y=>simp[Mini.gR]at e
 |tup xs=>
  unfold bh at h
  obtain⟨p,vs,rfl,hq,l⟩:=h
  have e':(!xs.isEmpty)=k:=Option.some.inj e
  refine .inr (.inl ⟨vs,hq,?_⟩)
  have:=l.length
  rw[<-e']
  cases xs<;>cases vs<;>simp_all
 |lst xs=>
  unfold bh at h
  obtain⟨p,vs,rfl,hq,l⟩:=h
  have e':(!xs.isEmpty)=k:=Option.some.inj e
  refine .inl ⟨vs,hq.sq,?_⟩
  have:=l.length
  rw[<-e']
  cases xs<;>cases vs<;>simp_all
 |dG ks vs=>simp[Mini.gR]at e
theorem vf{K:PySem.W.Frag}{env:Ev}{r:Out Rv}{σ:St}{H:Hp}{Q:Bool->Hp->Prop}(h:tT K W env r σ H Q):tD K W env r σ H (fun v H'=>∃k,Iu K v H' k/\Q k H'):=by
 obtain⟨S,h⟩:=h
 refine⟨S,?_⟩
 cases r with
 |bad=>exact h
 |exc c env1=>exact h
 |ok x env1=>
  obtain⟨d,b,e1,e2,q⟩:=h
  cases x with
  |val d'=>cases e1;exact fun v H' N D=>⟨b,D.gR e2,q H' N⟩
  |new xs=>cases e1;exact fun v H' N D=>⟨b,D.gR e2,q H' N⟩
  |ref i=>cases e1
  |tmp xs=>cases e1
theorem GE.t(h:GE X W c m e)(he:∀whole,isTrue e X.env whole=(do let v<-whole;standAt e.pos;holding [v] (truthy v))):GT X W c m e:=
 PT.imp (Ft h.d he) fun σ H Q⟨env,q⟩=>⟨env,vf q⟩
def Bs:D->Const->Bool
 |.non,.none=>true
 |.bl b,.bool b'=>b==b'
 |.int i,.int j=>i==j
 |.str x,.str y=>decide (x=y)
 |_,_=>false
theorem Uk{x:D}{k:Const}{i:Nat}(h:Bs x k=true):GE X W c (.con x) (.Constant k i pos):=by
 intro env
 cases x with
 |non=>cases k<;>first|exact PE.imp RJ (fun σ H Q q=>dI q rfl)|simp[Bs]at h
 |bl y=>cases k<;>first|(simp[Bs]at h;subst h;exact PE.imp Yb (fun σ H Q q=>dI q rfl))|simp[Bs]at h
 |int y=>cases k<;>first|(simp[Bs]at h;subst h;exact PE.imp RL (fun σ H Q q=>dI q rfl))|simp[Bs]at h
 |str y=>cases k<;>first|(simp[Bs]at h;subst h;exact PE.imp FW (fun σ H Q q=>dI q rfl))|simp[Bs]at h
 |tup _=>cases k<;>simp[Bs]at h
 |lst _=>cases k<;>simp[Bs]at h
 |dG _ _=>cases k<;>simp[Bs]at h
theorem bJ{σ:St}{i:Nat}{v:V}(h:(σ[i]?).join=some v):σ[i]? =some (some v):=by
 cases w:σ[i]? with
 |none=>rw[w]at h;cases h
 |some y=>rw[w]at h;simp at h;rw[h]
theorem Nx.give{K:PySem.W.Frag}{env:Ev}{σ:St}{H:Hp}{i:Nat}{q:Ob}{a:Addr}{u:HO}{o:Obj}(S:Sat K env σ H)(e:env[i]? =some (.own q))(es:σ[i]? =some (some (.ref a)))
  (ha:H a=some u)(l:Dm K H q u):Nx K env σ H (env.set i (.val q.d)) (upd H a (.frz o u)):=by
 have hu:=l.qR
 have p:=gb (o:=o) ha hu
 have oa:aB env σ i a:=⟨⟨_,q,e,rfl⟩,es⟩
 have hi:i<env.length:=(List.getElem?_eq_some_iff.mp e).1
 have sub:∀j b,aB (env.set i (.val q.d)) σ j b->aB env σ j b/\j≠i:=fun j b z=>by
  obtain⟨⟨s,ys,e1,e2⟩,e3⟩:=z
  by_cases hj:i=j
  ·subst hj;rw[List.getElem?_set_self hi]at e1;cases e1;simp[isOwn]at e2
  ·rw[List.getElem?_set_ne hj]at e1;exact⟨⟨⟨s,ys,e1,e2⟩,e3⟩,fun z=>hj z.symm⟩
 have ne:∀j b,aB env σ j b->j≠i->b≠a:=fun j b z hj q=>hj (S.ne j i a (q▸z) oa)
 refine⟨⟨by simpa using S.len,fun j s ej=>?_,fun j k b z w=>S.ne j k b (sub j b z).1 (sub k b w).1⟩,fun j b z=>(sub j b z).1,p,fun b ws q n=>?_,fun b q=>?_,fun j ys ej=>?_⟩
 ·by_cases hj:i=j
  ·subst hj
   rw[List.getElem?_set_self hi]at ej
   cases ej
   exact⟨.ref a,by rw[es];rfl,(l.mono p).den aQ⟩
  ·rw[List.getElem?_set_ne hj]at ej
   refine(S.sl j s ej).keep p fun b w ho ev hb=>?_
   rw[az (ne j b (tU ej ho ev) fun z=>hj z.symm)];exact hb
 ·rw[az (fun z=>by subst z;exact n i oa)];exact q
 ·by_cases hb:b=a
  ·subst hb;rw[aQ]at q;cases q
  ·rw[az hb]at q;exact q
 ·by_cases hj:i=j
  ·subst hj;rw[e]at ej;cases ej
  ·exact⟨ys,by rw[List.getElem?_set_ne hj];exact ej⟩
theorem T6{i:Nat}{x:Str}(hN:X.N[i]? =some x)(hv:UW X.env.scope x)(hd:(x==("__debug__":Str))=false)(hcd:(x==("__classdict__":Str))=false):GE X W c (.var i) (.Name x pos):=by
 intro env pins s σ H Q I q
 have B:=xK (X:=X) (pos:=pos) hN hv hd hcd
 simp only[v_0,oA]at q
 cases e:env[i]? with
 |none=>rw[e]at q;exact q.2.elim
 |some sl=>
  rw[e]at q
  cases sl with
  |un=>exact q.2.elim
  |bor xs=>exact q.2.elim
  |val d=>
   obtain⟨v,e1,e2⟩:=q.1.sl i _ e
   exact B pins s σ H Q I ⟨v,bJ e1,dI q e2⟩
  |own xs=>
   obtain⟨a,e1,w,e2,e3⟩:=q.1.sl i _ e
   refine bV (B pins s σ H (fun v H'=>v=.ref a/\H'=H) I ⟨.ref a,bJ e1,rfl,rfl⟩) fun u s1⟨v,H1,I1,r1,k1,k2⟩=>?_
   subst k1 k2
   obtain⟨o,I2⟩:=Inv.freeze I1 e2 e3.qR
   exact⟨.ref a,_,I2,r1,q.2 _ _ (Nx.give q.1 e (bJ e1) e2 e3) ((e3.mono (gb e2 e3.qR)).den aQ)⟩
end
end Mini
end
section
namespace Mini
open PySem L2
theorem lF:fillsNumberSlot (.type "tuple") "mul"=pure false:=
 fillsNumberSlot_seq (id:="tuple.__mul__") (r:=some (.builtin "tuple.__rmul__")) PySem.F.slot_tuple_mul.lookup (by decide+kernel) (by rw[typeLookup_type,builtinLookup_eq_fast];kernel_rfl) (by decide+kernel)
theorem sZ:seqRepeat? (.type "tuple")=pure (some (.builtin "tuple.__mul__")):=by
 unfold seqRepeat?
 rw[seqSlot_of (T:="tuple") (name:="__mul__") (id:="tuple.__mul__") PySem.F.slot_tuple_mul.lookup (by decide+kernel),seqSlot_of (T:="tuple") (name:="__rmul__") (id:="tuple.__rmul__") (by rw[typeLookup_type,builtinLookup_eq_fast];kernel_rfl) (by decide+kernel)]
 rfl
theorem ph(a:Int)(t:Tok)(l:Addr)(items:Array Value)(n:Nat)(d:Option Addr)(sl:Array (Option Value)):
  Meets (Builtin.«int.__rmul__» ⟨[.int a t,.ref l],[]⟩) (fun _ R s=>s.heap.get? l=some {cls:=.type "tuple",dict:=d,data:=.seq items n,slots:=sl}/\R (.ok (.ret Value.notImplemented)) s):=
 .of_wp fun prog w A R s h=>by obtain⟨hp,g,d,tk,os⟩:=s;obtain⟨hl,h⟩:=h;wp_walk;exact⟨_,rfl,h⟩
theorem wU(l:Addr)(v:Value)(n:Nat)(d:Option Addr)(sl:Array (Option Value))(x:Int)(u:Tok)(h2:x=2\/x=8):
  Meets (Builtin.«tuple.__mul__» ⟨[.ref l,.int x u],[]⟩) (fun _ R s=>s.heap.get? l=some {cls:=.type "tuple",dict:=d,data:=.seq #[v] n,slots:=sl}/\R (.ok (.ret (Value.ref s.heap.objs.size))) {s with heap:=s.heap.push {cls:=Value.type "tuple",data:=Data.seq (List.replicate x.toNat v).toArray}}):=
 .of_wp fun prog w A R s h=>by
  obtain⟨hp,g,d,tk,os⟩:=s;obtain⟨hl,h⟩:=h
  rcases h2 with rfl|rfl
  ·wp_walk;exact⟨_,rfl,h⟩
  ·wp_walk;exact⟨_,rfl,h⟩
section
variable{X:Cx}
def Ot(K:PySem.W.Frag):R2:=fun x y H Q=>∃a v n,x=.ref a/\y=.int n/\(n=2\/n=8)/\iC K H a [v]/\∀p,H p=none->Q (.ref p) (upd H p (.tup (List.replicate n.toNat v)))
theorem qx{v:V}{u:Value}(r:RelV v u):∀n,Vals (List.replicate n v) (List.replicate n u)
 |0=>.nil
 |n+1=>.cons r (qx r n)
theorem KY:fB X (binaryOp .Mult) (Ot X.K):=by
 intro pins s σ H x y v u Q I rx ry h
 obtain⟨a,w,n,rfl,rfl,hn,ha,q⟩:=h
 cases rx
 obtain⟨tk,rfl⟩:=ry
 obtain⟨its,r1,p1,_⟩:=I.tuple ha
 obtain⟨⟨cls,dd,data,sl⟩,ho,hc,m,hd⟩:=id p1
 simp only at hc hd
 subst hc hd
 cases r1 with
 |cons rw rr=>
  cases rr
  rename_i u0
  have hz:(List.replicate n.toNat w).length<=sizeLine:=by rw[List.length_replicate];rcases hn with rfl|rfl<;>decide
  refine wpAny_binaryOp_repeat_ref (T:="tuple") (U:="int") (by decide) ⟨_,ho,rfl⟩ (fun s'=>typeIs_int s' n tk) lF F.fills_int_mul F.slot_int_rmul sZ F.slot_int_index.lookup
   (call_meets F.slot_int_rmul (typeIs_int s n tk) F.entry_int_rmul (F.args_int_rmul_2 _ _) (ph n tk a _ m dd sl) ⟨ho,rfl,⟨_,ho,rfl⟩,?_⟩)
  refine call_meets PySem.F.slot_tuple_mul ⟨_,ho,rfl⟩ PySem.F.entry_tuple_mul (PySem.F.args_tuple_mul_2 _ _) (wU a u0 m dd sl n tk hn) ⟨ho,?_⟩
  exact⟨.ref _,_,I.laid (o:=.tup (List.replicate n.toNat w)) (t':=s.toks) (fun _ _ q=>Heap.get?_push_of_some _ q) (Nat.le_refl _) ⟨hz,_,qx rw _,TupOk.new _ _⟩,rfl,q _ I.fresh⟩
end
end Mini
end
section
namespace Mini
open PySem L2
def gQ(K:PySem.W.Frag)(σ:St)(H₀ H:Hp):List Rv->List V->Prop
 |[],vs=>vs=[]
 |x::xs,vs=>∃v r,vs=v::r/\fY K σ H₀ H x v/\gQ K σ H₀ H xs r
def WX(K:PySem.W.Frag)(W:Wi)(env:Ev)(r:Out (List Rv)):TA:=fun σ H Q=>Sat K env σ H/\match r with
 |.ok xs env'=>∀vs H',Nx K env σ H env' H'->gQ K σ H H' xs vs->Q vs H'
 |.exc c env'=>∀H',Nx K env σ H env' H'->W c env' σ H'
 |.bad=>False
def tA(K:PySem.W.Frag)(W:Wi)(env:Ev)(r:Out Rv):TE:=fun σ H Q=>Sat K env σ H/\match r with
 |.ok x env'=>∀v H',Nx K env σ H env' H'->fY K σ H H' (argv x) v->Q v H'
 |.exc c env'=>∀H',Nx K env σ H env' H'->W c env' σ H'
 |.bad=>False
def GA(X:Cx)(W:Wi)(c:Cf)(m:E)(es:List Expr):Prop:=∀env,PA X es (WX X.K W env (evs c m env))
theorem fY.on{K:PySem.W.Frag}{env env1 env2:Ev}{σ:St}{H H1 H2:Hp}{x:Rv}{v:V}(S:Sat K env σ H)(N:Nx K env σ H env1 H1)(N2:Nx K env1 σ H1 env2 H2)(h:fY K σ H H1 x v):fY K σ H H2 x v:=by
 have no:∀a,H a=none->∀i,¬aB env1 σ i a:=fun a h0 i z=>S.lE h0 i (N.sub i a z)
 cases x with
 |val d=>exact bh.mono N2.pers h
 |ref i=>exact h
 |new xs=>obtain⟨a,e,⟨u,p,l⟩,z⟩:=h;exact⟨a,e,⟨u,N2.keep a u p (no a z),l.mono N2.pers⟩,z⟩
 |tmp xs=>obtain⟨a,e,⟨u,p,l⟩,z⟩:=h;exact⟨a,e,⟨u,N2.keep a u p (no a z),l.mono N2.pers⟩,z⟩
theorem jZ{K:PySem.W.Frag}{env:Ev}{σ:St}{H:Hp}{p:Addr}{xs:List D}{vs:List V}(S:Sat K env σ H)(l:ao K H xs vs)(hp:H p=none):fY K σ H (upd H p (.lst vs)) (.new (.lst xs)) (.ref p):=
 ⟨p,rfl,⟨_,aQ,vs,rfl,l.mono (Nx.laid (o:=.lst vs) S hp).pers⟩,hp⟩
theorem gQ.weaken{K:PySem.W.Frag}{σ:St}{H0 H1 H:Hp}:∀{xs:List Rv}{vs:List V},gQ K σ H1 H xs vs->(∀b,H1 b=none->H0 b=none)->gQ K σ H0 H xs vs
 |[],_,h,_=>h
 |x::xs,vs,h,d=>by
  obtain⟨v,r,e,h1,h2⟩:=h
  exact⟨v,r,e,h1.weaken d,gQ.weaken h2 d⟩
section
variable{X:Cx}{W:Wi}{c:Cf}{m m1 m2 m3:E}{e a b:Expr}{es:List Expr}{pos:Pos}
theorem PA.imp{t t':TA}(h:PA X es t)(i:∀σ H Q,t' σ H Q->t σ H Q):PA X es t':=fun p pins s σ H Q I q=>h p pins s σ H Q I (i σ H Q q)
theorem GE.ag(h:GE X W c m e)(env:Ev):PE X e (tA X.K W env (ev c m env)):=by
 intro pins s σ H Q I q
 obtain⟨S,q⟩:=q
 cases r:ev c m env with
 |bad=>rw[r]at q;exact q.elim
 |exc k env'=>rw[r]at q;exact h env pins s σ H Q I ⟨S,by rw[r];exact q⟩
 |ok x env'=>
  rw[r]at q
  cases x with
  |new xs=>exact FT (h env) pins s σ H Q I ⟨S,by rw[r];exact q⟩
  |val d=>exact h env pins s σ H Q I ⟨S,by rw[r];exact q⟩
  |ref i=>exact h env pins s σ H Q I ⟨S,by rw[r];exact q⟩
  |tmp xs=>exact h env pins s σ H Q I ⟨S,by rw[r];exact q⟩
theorem yf:GA X W c .nil []:=fun env=>PA.imp dz fun σ H Q q=>by
 obtain⟨S,q⟩:=q
 simp only[evs]at q
 exact q [] H (Nx.refl S) rfl
theorem m8(h:GE X W c m1 e)(t:GA X W c m2 es)(hs:starEach (e::es) X.env=(false,eval e X.env)::starEach es X.env):GA X W c (.cons m1 m2) (e::es):=by
 intro env
 have B:PA X (e::es) (Em (fun σ H Q=>∃env,tA X.K W env (ev c m1 env) σ H Q) (fun σ H Q=>∃env,WX X.K W env (evs c m2 env) σ H Q)):=
  bC (fun pins s σ H Q I⟨env,q⟩=>h.ag env pins s σ H Q I q) (fun p pins s σ H Q I⟨env,q⟩=>t env p pins s σ H Q I q) hs
 refine PA.imp B fun σ H Q q=>?_
 obtain⟨S,q⟩:=q
 refine⟨env,S,?_⟩
 simp only[evs]at q
 cases r:ev c m1 env with
 |bad=>rw[r]at q;exact q.elim
 |exc k env1=>rw[r]at q;exact q
 |ok x env1=>
  rw[r]at q
  intro v H1 N1 k1
  refine⟨env1,N1.eY,?_⟩
  simp only[Out.bind]at q
  cases r2:evs c m2 env1 with
  |bad=>rw[r2]at q;exact q.elim
  |exc k env2=>rw[r2]at q;exact fun H2 N2=>q H2 (N1.trans N2)
  |ok xs env2=>
   rw[r2]at q
   intro vs H2 N2 k2
   exact q (v::vs) H2 (N1.trans N2) ⟨v,vs,rfl,k1.on S N1 N2,k2.weaken N1.dom⟩
theorem gQ.ds{K:PySem.W.Frag}{σ:St}{H₀ H:Hp}:∀{xs:List Rv}{vs:List V}{ds:List D},gQ K σ H₀ H (xs.map argv) vs->aN xs=some ds->ao K H ds vs
 |[],vs,ds,h,e=>by
  simp[aN]at e
  subst e
  cases h
  exact ao.jc
 |x::xs,vs,ds,h,e=>by
  obtain⟨v,r,rfl,h1,h2⟩:=h
  cases x with
  |ref i=>simp[aN,Rv.jz]at e
  |tmp ys=>simp[aN,Rv.jz]at e
  |val d=>
   simp[aN,Rv.jz]at e
   obtain⟨ds',e1,e2⟩:=e
   subst e2
   exact ao.eE h1 (gQ.ds h2 e1)
  |new ys=>
   simp[aN,Rv.jz]at e
   obtain⟨ds',e1,e2⟩:=e
   subst e2
   exact ao.eE h1 (gQ.ds h2 e1)
theorem Hq:∀(m:E)(env:Ev){xs:List Rv}{env':Ev},evs c m env=.ok xs env'->xs.map argv=xs:=by
 have aa:∀x:Rv,argv (argv x)=argv x:=fun x=>by cases x<;>rfl
 intro m
 induction m with
 |nil=>intro env xs env' h;simp only[evs]at h;cases h;rfl
 |cons h t _ ih=>
  intro env xs env' q
  simp only[evs]at q
  cases r:ev c h env with
  |bad=>rw[r]at q;cases q
  |exc k e1=>rw[r]at q;cases q
  |ok x e1=>
   rw[r]at q
   simp only[Out.bind]at q
   cases r2:evs c t e1 with
   |bad=>rw[r2]at q;cases q
   |exc k e2=>rw[r2]at q;cases q
   |ok ys e2=>
    rw[r2]at q
    cases q
    rw[List.map_cons,aa,ih e1 r2]
 |_=>intro env xs env' h;simp only[evs]at h;cases h
theorem dM{n:Nat}(h:fits n=true):n<=sizeLine:=by
 rw[sizeLine_eq]
 simpa[fits]using h
theorem uY{K:PySem.W.Frag}{env:Ev}{σ:St}{H:Hp}{Q:VK}{f:List D->Option Rv}{R:List V->Hp->Prop}
  (h:tM K W env ((evs c m env).bind fun rs σ=>lift σ ((aN rs).bind f)) σ H Q)
  (k:∀env1 H1 ds vs z,Nx K env σ H env1 H1->ao K H1 ds vs->f ds=some z->(∀v H',Nx K env1 σ H1 env1 H'->fY K σ H1 H' z v->Q v H')->R vs H1):WX K W env (evs c m env) σ H R:=by
 obtain⟨S,q⟩:=h
 refine⟨S,?_⟩
 cases r:evs c m env with
 |bad=>rw[r]at q;exact q.elim
 |exc k env1=>rw[r]at q;exact q
 |ok xs env1=>
  rw[r]at q
  simp only[Out.bind]at q
  intro vs H1 N1 k1
  cases e:aN xs with
  |none=>rw[e]at q;exact q.elim
  |some ds=>
   rw[e]at q
   simp only[Option.bind]at q
   cases e2:f ds with
   |none=>rw[e2]at q;exact q.elim
   |some z=>
    rw[e2]at q
    have k2:=k1
    rw[<-Hq m env r]at k2
    exact k env1 H1 ds vs z N1 (gQ.ds k2 e) e2 fun v H' N' w=>q v H' (N1.trans N') (w.weaken N1.dom)
theorem T8{k:Nat}(h:GA X W c m es):GE X W c (.tup m) (.Tuple es k pos):=by
 intro env
 refine PE.imp (RD (h env)) fun σ H Q q=>?_
 simp only[v_3]at q
 refine uY q fun env1 H1 ds vs z N1 l e q=>?_
 split at e
 ·rename_i hf
  cases e
  have hl:=l.length
  refine⟨by rw[<-hl];exact dM hf,fun p hp=>q _ _ (Nx.laid N1.eY hp) ?_⟩
  show bh _ _ _ _
  unfold bh
  exact⟨p,vs,rfl,.inl (.inl aQ),l.mono (Nx.laid (o:=.tup vs) N1.eY hp).pers⟩
 ·cases e
theorem Ug(h:GA X W c m es):GE X W c (.lis m) (.List es pos):=by
 intro env
 refine PE.imp (RK (h env)) fun σ H Q q=>?_
 simp only[v_4]at q
 refine uY q fun env1 H1 ds vs z N1 l e q=>?_
 split at e
 ·rename_i hf
  cases e
  have hl:=l.length
  exact⟨by rw[<-hl];exact dM hf,fun p hp=>q _ _ (Nx.laid N1.eY hp) (jZ N1.eY l hp)⟩
 ·cases e
def Qi(X:Cx)(r:R2)(f:D->D->Option Rv):Prop:=
 ∀(env:Ev)(σ:St)(H:Hp)(x y:D)(z:Rv)(v u:V)(Q:VK),Sat X.K env σ H->bh X.K H x v->bh X.K H y u->f x y=some z->(∀w H',Nx X.K env σ H env H'->fY X.K σ H H' z w->Q w H')->r v u H Q
theorem Qi.bin{r:R2}{f:D->D->Option Rv}(R:Qi X r f)(h:PE X e (Vm r (aD X W c m1) (aD X W c m2))):
  ∀env,PE X e (tM X.K W env ((ev c m1 env).ak fun x σ=>(ev c m2 σ).ak fun y σ=>lift σ (f x y))):=fun env=>
 PE.imp h fun σ H Q q=>⟨env,aR q fun d env1 v H1 N1 D1 q1=>⟨env1,aR q1 fun d2 env2 v2 H2 N2 D2 q2=>by
  obtain⟨z,ez,S,q3⟩:=cL q2
  exact R env2 σ H2 d d2 z v v2 Q S (D1.mono N2.pers) D2 ez q3⟩⟩
def Yk:Ji->Operator
 |.add=>.Add
 |.sub=>.Sub
 |.mul=>.Mult
 |.mod=>.Mod
 |.fdiv=>.FloorDiv
 |.pow=>.Pow
theorem bh.int_inv{K:PySem.W.Frag}{H:Hp}{i:Int}{v:V}(h:bh K H (.int i) v):v=.int i:=h
def Ox(K:PySem.W.Frag):R2:=fun x y H Q=>∃a b xs ys,x=.ref a/\y=.ref b/\iC K H a xs/\iC K H b ys/\xs.length+ys.length<=sizeLine/\
 (xs=[]->Q (.ref b) H)/\(xs≠[]->ys=[]->Q (.ref a) H)/\(xs≠[]->ys≠[]->∀p,H p=none->Q (.ref p) (upd H p (.tup (xs++ys))))
theorem K7:fB X (binaryOp .Add) (Ox X.K):=by
 intro pins s σ H x y v u Q I rx ry h
 obtain⟨a,b,xs,ys,rfl,rfl,ha,hb,hz,q0,q1,q2⟩:=h
 by_cases hx:xs=[]
 ·cases rx
  cases ry
  obtain⟨its,r1,p1,_⟩:=I.tuple ha
  obtain⟨its2,r2,p2,_⟩:=I.tuple hb
  obtain⟨⟨cls,dd,data,sl⟩,ho,hc,n,hd⟩:=id p1
  obtain⟨⟨cls2,dd2,data2,sl2⟩,ho2,hc2,n2,hd2⟩:=id p2
  simp only at hc hd hc2 hd2
  subst hc hd hc2 hd2
  have e0:its.toArray.isEmpty=true:=by
   have:its=[]:=r1.bj.mpr hx
   rw[this];rfl
  exact concat_meets ⟨_,ho,rfl⟩ ⟨_,ho2,rfl⟩ noFill_tuple_add seq_tuple_add PySem.F.slot_tuple_add PySem.F.entry_tuple_add (PySem.F.args_tuple_add_2 _ _)
   (PyProof.Rows.tuple_addW0 a b its.toArray its2.toArray n n2 dd dd2 sl sl2 e0) ⟨ho,ho2,⟨.ref b,H,I,rfl,q0 hx⟩⟩
 ·exact K5 pins s σ H _ _ v u Q I rx ry ⟨a,b,xs,ys,rfl,rfl,ha,hb,hx,hz,q1 hx,q2 hx⟩
def Ow(K:PySem.W.Frag):R2:=fun x y H Q=>∃l b xs zs,x=.ref l/\y=.ref b/\iU K H l xs/\iU K H b zs/\xs.length+zs.length<=sizeLine/\∀p,H p=none->Q (.ref p) (upd H p (.lst (xs++zs)))
theorem K6:fB X (binaryOp .Add) (Ow X.K):=by
 intro pins s σ H x y v u Q I rx ry h
 obtain⟨l,b,xs,zs,rfl,rfl,hH,hB,hz,q⟩:=h
 cases rx
 cases ry
 obtain⟨its,r1,pl,_⟩:=I.list hH
 obtain⟨its2,r2,pl2,_⟩:=I.list hB
 obtain⟨⟨cls,dd,data,sl⟩,n,ho,hc,_,hd⟩:=id pl
 obtain⟨⟨cls2,dd2,data2,sl2⟩,n2,ho2,hc2,_,hd2⟩:=id pl2
 simp only at hc hd hc2 hd2
 subst hc hd hc2 hd2
 have hl:=r1.length
 have hl2:=r2.length
 have ea:its.toArray++its2.toArray=(its++its2).toArray:=by simp
 refine concat_meets ⟨_,ho,rfl⟩ ⟨_,ho2,rfl⟩ noFill_list_add seq_list_add F.slot_list_add F.entry_list_add (F.args_list_add_2 _ _) (PyProof.Rows.list_addW l b its.toArray its2.toArray n n2 dd dd2 sl sl2 (by rw[List.size_toArray,List.size_toArray];omega)) ⟨ho,ho2,?_⟩
 rw[ea]
 exact⟨.ref _,_,I.acn (t':=s.toks) (r1.append r2) (by rw[List.length_append];omega),rfl,q _ I.fresh⟩
def Oz(K:PySem.W.Frag):R2:=fun x y H Q=>Fo (fun i j=>.int (i+j)) x y H Q\/Ox K x y H Q\/Ow K x y H Q
theorem K8:fB X (binaryOp .Add) (Oz X.K):=R4.or (K7.or K6)
theorem bQ{K:PySem.W.Frag}{H:Hp}{ds:List D}{v:V}(h:bh K H (.tup ds) v):∃a vs,v=.ref a/\iC K H a vs/\ao K H ds vs:=by unfold bh at h;exact h
theorem cP{K:PySem.W.Frag}{H:Hp}{ds:List D}{v:V}(h:bh K H (.lst ds) v):∃a vs,v=.ref a/\I8 K H a vs/\ao K H ds vs:=by unfold bh at h;exact h
theorem cX{K:PySem.W.Frag}{H:Hp}{ds:List D}{a:Addr}{vs:List V}(h:iC K H a vs)(l:ao K H ds vs):bh K H (.tup ds) (.ref a):=by unfold bh;exact⟨a,vs,rfl,h,l⟩
theorem nW{i:Int}(h:small i=true): -(2 ^64)<i/\i<2 ^64:=by
 simp only[small,decide_eq_true_eq]at h
 exact⟨by omega,by omega⟩
theorem J8:Qi X (Oz X.K) (binop .add):=by
 intro env σ H x y z v u Q S Dx Dy e q
 cases x with
 |int i=>
  cases y with
  |int j=>cases e;exact .inl ⟨i,j,Dx,Dy,q _ H (Nx.refl S) rfl⟩
  |_=>cases e
 |tup xs=>
  cases y with
  |tup ys=>
   unfold binop at e;dsimp only at e
   split at e
   ·rename_i hf
    cases e
    obtain⟨a,vs,rfl,ha,la⟩:=bQ Dx
    obtain⟨b,ws,rfl,hb,lb⟩:=bQ Dy
    refine .inr (.inl ⟨a,b,vs,ws,rfl,rfl,ha,hb,by rw[<-la.length,<-lb.length];exact dM hf,fun e0=>?_,fun _ e0=>?_,fun _ _ p hp=>?_⟩)
    ·subst e0
     have:xs=[]:=by have:=la.length;cases xs<;>simp_all
     subst this
     exact q _ H (Nx.refl S) (cX hb lb)
    ·subst e0
     have:ys=[]:=by have:=lb.length;cases ys<;>simp_all
     subst this
     exact q _ H (Nx.refl S) (by rw[List.append_nil];exact cX ha la)
    ·have N:=Nx.laid (o:=.tup (vs++ws)) S hp
     exact q _ _ N (cX (.inl (.inl aQ)) ((la.append lb).mono N.pers))
   ·cases e
  |_=>cases e
 |lst xs=>
  cases y with
  |lst ys=>
   unfold binop at e;dsimp only at e
   split at e
   ·rename_i hf
    cases e
    obtain⟨a,vs,rfl,ha,la⟩:=cP Dx
    obtain⟨b,ws,rfl,hb,lb⟩:=cP Dy
    refine .inr (.inr ⟨a,b,vs,ws,rfl,rfl,ha.sq,hb.sq,by rw[<-la.length,<-lb.length];exact dM hf,fun p hp=>?_⟩)
    have N:=Nx.laid (o:=.lst (vs++ws)) S hp
    exact q _ _ N (jZ S (la.append lb) hp)
   ·cases e
  |_=>cases e
 |_=>cases y<;>cases e
theorem km{o:Ji}(ho:o≠ .add)(hm:o≠ .mul){x y:D}{z:Rv}(e:binop o x y=some z):(∃i,x=.int i)/\∃j,y=.int j:=by
 cases x with
 |int i=>exact⟨⟨i,rfl⟩,by cases y with
  |int j=>exact⟨j,rfl⟩
  |_=>cases o<;>cases e⟩
 |tup _=>cases o<;>first|exact absurd rfl ho|exact absurd rfl hm|cases e
 |lst _=>cases o<;>first|exact absurd rfl ho|cases e
 |_=>cases o<;>cases e
theorem J0:Qi X (Fo fun i j=>.int (i-j)) (binop .sub):=by
 intro env σ H x y z v u Q S Dx Dy e q
 obtain⟨⟨i,rfl⟩,j,rfl⟩:=km (by intro h;cases h) (by intro h;cases h) e
 cases e
 exact⟨_,_,Dx,Dy,q _ H (Nx.refl S) rfl⟩
def Ou(K:PySem.W.Frag):R2:=fun x y H Q=>rI Nk (fun i j=>.int (i*j)) x y H Q\/Ot K x y H Q
theorem K1:fB X (binaryOp .Mult) (Ou X.K):=RV.or KY
theorem zW{K:PySem.W.Frag}{H:Hp}{d:D}{v:V}(h:bh K H d v):∀n,ao K H (List.replicate n d) (List.replicate n v)
 |0=>by unfold ao;rfl
 |n+1=>by unfold ao;exact⟨_,_,rfl,h,zW h n⟩
theorem J2:Qi X (Ou X.K) (binop .mul):=by
 intro env σ H x y z v u Q S Dx Dy e q
 cases x with
 |int i=>
  cases y with
  |int j=>
   unfold binop at e;dsimp only at e
   split at e
   ·rename_i hs
    cases e
    simp only[Bool.or_eq_true]at hs
    exact .inl ⟨i,j,Dx,Dy,hs.imp nW nW,q _ H (Nx.refl S) rfl⟩
   ·cases e
  |_=>cases e
 |tup xs=>
  cases xs with
  |nil=>cases y<;>cases e
  |cons x xs=>
   cases xs with
   |nil=>
    cases y with
    |int n=>
     unfold binop at e;dsimp only at e
     split at e
     ·rename_i hn
      cases e
      obtain⟨a,vs,rfl,ha,la⟩:=bQ Dx
      obtain⟨v0,rfl⟩:=List.length_eq_one_iff.mp la.length.symm
      refine .inr ⟨a,v0,n,rfl,bh.int_inv Dy,hn,ha,fun p hp=>?_⟩
      have N:=Nx.laid (o:=.tup (List.replicate n.toNat v0)) S hp
      have d0:bh X.K H x v0:=by unfold ao at la;obtain⟨_,_,z,h,_⟩:=la;cases z;exact h
      exact q _ _ N (cX (.inl (.inl aQ)) (zW (d0.mono N.pers) _))
     ·cases e
    |_=>cases e
   |cons=>cases y<;>cases e
 |_=>cases y<;>cases e
theorem J3:Qi X (rI (fun _ j=>0<j) fun i j=>.int (i%j)) (binop .mod):=by
 intro env σ H x y z v u Q S Dx Dy e q
 obtain⟨⟨i,rfl⟩,j,rfl⟩:=km (by intro h;cases h) (by intro h;cases h) e
 unfold binop at e;dsimp only at e
 split at e
 ·rename_i hs
  cases e
  exact⟨i,j,Dx,Dy,hs,q _ H (Nx.refl S) rfl⟩
 ·cases e
theorem EY:Qi X (rI Z7 fun i j=>.int (i/j)) (binop .fdiv):=by
 intro env σ H x y z v u Q S Dx Dy e q
 obtain⟨⟨i,rfl⟩,j,rfl⟩:=km (by intro h;cases h) (by intro h;cases h) e
 unfold binop at e;dsimp only at e
 split at e
 ·rename_i hs
  cases e
  exact⟨i,j,Dx,Dy,hs,q _ H (Nx.refl S) rfl⟩
 ·cases e
theorem J1:Qi X (rI Z6 fun i j=>.int (i ^j.toNat)) (binop .pow):=by
 intro env σ H x y z v u Q S Dx Dy e q
 obtain⟨⟨i,rfl⟩,j,rfl⟩:=km (by intro h;cases h) (by intro h;cases h) e
 unfold binop at e;dsimp only at e
 split at e
 ·rename_i hs
  cases e
  have h1:=nW hs.2.2
  exact⟨i,j,Dx,Dy,⟨hs.1,by omega,by omega⟩,q _ H (Nx.refl S) rfl⟩
 ·cases e
theorem Zm{o:Ji}(ha:GE X W c m1 a)(hb:GE X W c m2 b):GE X W c (.op o m1 m2) (.BinOp a (Yk o) b pos):=by
 intro env
 simp only[Wq]
 cases o with
 |add=>exact J8.bin (oJ K8 ha.d hb.d) env
 |sub=>exact J0.bin (oJ RP ha.d hb.d) env
 |mul=>exact J2.bin (oJ K1 ha.d hb.d) env
 |mod=>exact J3.bin (oJ RW ha.d hb.d) env
 |fdiv=>exact EY.bin (oJ K4 ha.d hb.d) env
 |pow=>exact J1.bin (oJ RQ ha.d hb.d) env
theorem Ue(ha:GE X W c m1 a):GE X W c (.neg m1) (.UnaryOp .USub a pos):=by
 intro env
 refine PE.imp (X6 QL ha.d) fun σ H Q q=>?_
 simp only[v_6]at q
 refine⟨env,aR q fun d env1 v H1 N1 D1 q1=>?_⟩
 obtain⟨z,ez,S,q3⟩:=cL q1
 cases d<;>first
  |(cases ez;done)
  |(cases ez;exact⟨_,D1,q3 _ H1 (Nx.refl S) rfl⟩)
end
end Mini
end
section
namespace Mini
open PySem L2
mutual
def py:D->PyData
 |.non=>.none
 |.bl b=>.bool b
 |.int i=>.int i
 |.str x=>.str x
 |.tup xs=>.tuple (vG xs)
 |.lst xs=>.list (vG xs)
 |.dG _ _=>.none
def vG:List D->List PyData
 |[]=>[]
 |x::xs=>py x::vG xs
end
mutual
theorem ut:∀a b:D,nd a=true->nd b=true->PyData.eqv (py a) (py b)=bZ a b
 |.dG _ _,_=>fun h _=>by simp[nd]at h
 |.non,.dG _ _=>fun _ h=>by simp[nd]at h
 |.bl _,.dG _ _=>fun _ h=>by simp[nd]at h
 |.int _,.dG _ _=>fun _ h=>by simp[nd]at h
 |.str _,.dG _ _=>fun _ h=>by simp[nd]at h
 |.tup _,.dG _ _=>fun _ h=>by simp[nd]at h
 |.lst _,.dG _ _=>fun _ h=>by simp[nd]at h
 |.tup xs,.tup ys=>fun h h'=>by simp only[py,PyData.eqv,bZ];exact ur xs ys (by simpa[nd]using h) (by simpa[nd]using h')
 |.lst xs,.lst ys=>fun h h'=>by simp only[py,PyData.eqv,bZ];exact ur xs ys (by simpa[nd]using h) (by simpa[nd]using h')
 |.non,.non=>fun _ _=>rfl
 |.non,.bl _=>fun _ _=>rfl
 |.non,.int _=>fun _ _=>rfl
 |.non,.str _=>fun _ _=>rfl
 |.non,.tup _=>fun _ _=>rfl
 |.non,.lst _=>fun _ _=>rfl
 |.bl _,.non=>fun _ _=>rfl
 |.bl _,.bl _=>fun _ _=>rfl
 |.bl a,.int j=>fun _ _=>rfl
 |.bl _,.str _=>fun _ _=>rfl
 |.bl _,.tup _=>fun _ _=>rfl
 |.bl _,.lst _=>fun _ _=>rfl
 |.int _,.non=>fun _ _=>rfl
 |.int i,.bl b=>fun _ _=>rfl
 |.int _,.int _=>fun _ _=>rfl
 |.int _,.str _=>fun _ _=>rfl
 |.int _,.tup _=>fun _ _=>rfl
 |.int _,.lst _=>fun _ _=>rfl
 |.str _,.non=>fun _ _=>rfl
 |.str _,.bl _=>fun _ _=>rfl
 |.str _,.int _=>fun _ _=>rfl
 |.str x,.str y=>fun _ _=>by simp only[py,PyData.eqv,bZ];rw[Bool.beq_eq_decide_eq]
 |.str _,.tup _=>fun _ _=>rfl
 |.str _,.lst _=>fun _ _=>rfl
 |.tup _,.non=>fun _ _=>rfl
 |.tup _,.bl _=>fun _ _=>rfl
 |.tup _,.int _=>fun _ _=>rfl
 |.tup _,.str _=>fun _ _=>rfl
 |.tup _,.lst _=>fun _ _=>rfl
 |.lst _,.non=>fun _ _=>rfl
 |.lst _,.bl _=>fun _ _=>rfl
 |.lst _,.int _=>fun _ _=>rfl
 |.lst _,.str _=>fun _ _=>rfl
 |.lst _,.tup _=>fun _ _=>rfl
theorem ur:∀xs ys:List D,iQ xs=true->iQ ys=true->PyData.eqvAll (vG xs) (vG ys)=mU xs ys
 |[],[]=>fun _ _=>rfl
 |[],_::_=>fun _ _=>rfl
 |_::_,[]=>fun _ _=>rfl
 |x::xs,y::ys=>fun h h'=>by
  simp only[iQ,Bool.and_eq_true]at h h'
  simp only[vG,PyData.eqvAll,mU]
  rw[ut x y h.1 h'.1,ur xs ys h.2 h'.2]
end
theorem Eo{x:Str}(h:sOk x=true):PyData.strOk x=true:=by
 unfold sOk at h
 unfold PyData.strOk
 rw[Array.all_eq_true]at h⊢
 intro i hi
 have:=h i hi
 simp only[decide_eq_true_eq]at this⊢
 omega
mutual
theorem ir:∀a:D,nd a=true->(py a).canLay0=true
 |.non=>fun _=>rfl
 |.bl _=>fun _=>rfl
 |.int _=>fun _=>rfl
 |.str x=>fun h=>Eo h
 |.tup xs=>fun h=>by simp only[py,PyData.canLay0];exact ik xs (by simpa[nd]using h)
 |.lst xs=>fun h=>by simp only[py,PyData.canLay0];exact ik xs (by simpa[nd]using h)
 |.dG _ _=>fun h=>by simp[nd]at h
theorem ik:∀xs:List D,iQ xs=true->PyData.canLayAll0 (vG xs)=true
 |[]=>fun _=>rfl
 |x::xs=>fun h=>by
  simp only[iQ,Bool.and_eq_true]at h
  simp only[vG,PyData.canLayAll0,Bool.and_eq_true]
  exact⟨ir x h.1,ik xs h.2⟩
end
mutual
theorem ux:∀a:D,nd a=true->(py a).depth=dep a
 |.non=>fun _=>rfl
 |.bl _=>fun _=>rfl
 |.int _=>fun _=>rfl
 |.str _=>fun _=>rfl
 |.tup xs=>fun h=>by simp only[py,PyData.depth,dep];rw[uw xs (by simpa[nd]using h)]
 |.lst xs=>fun h=>by simp only[py,PyData.depth,dep];rw[uw xs (by simpa[nd]using h)]
 |.dG _ _=>fun h=>by simp[nd]at h
theorem uw:∀xs:List D,iQ xs=true->PyData.depthAll (vG xs)=eZ xs
 |[]=>fun _=>rfl
 |x::xs=>fun h=>by
  simp only[iQ,Bool.and_eq_true]at h
  simp only[vG,PyData.depthAll,eZ]
  rw[ux x h.1,uw xs h.2]
end
def dF(K:PySem.W.Frag)(H:Hp)(d:D)(v:V):Prop:=bh K H d v\/∃q a,d=Ob.d q/\v=.ref a/\jA K H q a
section
variable{X:Cx}{pins:List (Addr×Obj)}{s:Shared}{σ:St}{H:Hp}
mutual
theorem bh.reads(I:Inv X pins σ H s):∀{d:D}{v:V}{u:Value},nd d=true->bh X.K H d v->RelV v u->∃as,Reads s.heap u (py d) as
 |.non,v,u,_,h,r=>by cases h;cases r;exact⟨_,.none⟩
 |.bl b,v,u,_,h,r=>by cases h;cases r;exact⟨_,.bool b⟩
 |.int i,v,u,_,h,r=>by cases h;obtain⟨t,rfl⟩:=r;exact⟨_,.int i t⟩
 |.str x,v,u,_,h,r=>by cases h;obtain⟨t,rfl⟩:=r;exact⟨_,.str x t⟩
 |.tup ds,v,u,hn,h,r=>by
  obtain⟨a,vs,rfl,hq,l⟩:=bQ h
  cases r
  obtain⟨its,rv,⟨o,e,c,n,dt⟩,_⟩:=I.tuple hq
  obtain⟨as,q⟩:=ao.reads I (by simpa[nd]using hn) l rv
  exact⟨as,by rw[py];exact .tuple e c dt (by simpa using q)⟩
 |.lst ds,v,u,hn,h,r=>by
  obtain⟨a,vs,rfl,hq,l⟩:=cP h
  cases r
  obtain⟨its,rv,⟨o,n,e,c,_,dt⟩,_⟩:=I.list hq.sq
  obtain⟨as,q⟩:=ao.reads I (by simpa[nd]using hn) l rv
  exact⟨a::as,by rw[py];exact .list e c dt (by simpa using q)⟩
 |.dG _ _,_,_,h,_,_=>by simp[nd]at h
theorem ao.reads(I:Inv X pins σ H s):∀{ds:List D}{vs:List V}{us:List Value},iQ ds=true->ao X.K H ds vs->Vals vs us->∃as,ReadsAll s.heap us (vG ds) as
 |[],vs,us,_,h,r=>by rw[ao.bj.mp h]at r;cases r;exact⟨_,.nil⟩
 |d::ds,vs,us,hn,h,r=>by
  obtain⟨v,rs,rfl,h1,h2⟩:=ao.aW.mp h
  simp only[iQ,Bool.and_eq_true]at hn
  cases r with
  |cons r1 r2=>
   obtain⟨as,q1⟩:=bh.reads I hn.1 h1 r1
   obtain⟨bs,q2⟩:=ao.reads I hn.2 h2 r2
   exact⟨as++bs,.cons q1 q2⟩
end
theorem dF.reads(I:Inv X pins σ H s){d:D}{v:V}{u:Value}(hn:nd d=true)(h:dF X.K H d v)(r:RelV v u):∃as,Reads s.heap u (py d) as:=by
 rcases h with h|⟨q,a,rfl,rfl,u',ha,hq⟩
 ·exact bh.reads I hn h r
 ·cases r
  cases q with
  |dct ks ds=>simp[Ob.d,nd]at hn
  |lst ds=>
  obtain⟨vs,rfl,l⟩:=hq
  obtain⟨its,rv,⟨o,n,e,c,_,dt⟩,_⟩:=I.list (.inl (.inl ha))
  obtain⟨as,q⟩:=ao.reads I (by simpa[Ob.d,nd]using hn) l rv
  exact⟨a::as,by rw[Ob.d,py];exact .list e c dt (by simpa using q)⟩
end
end Mini
end
section
namespace Mini
open PySem L2
section
variable{X:Cx}{W:Wi}{c:Cf}{m m1 m2 m3:E}{e a b:Expr}{pos:Pos}
theorem dF.flat{K:PySem.W.Frag}{H:Hp}{x:D}{v:V}(h:dF K H x v)(f:flat x=true):bh K H x v:=by
 rcases h with h|⟨q,a,rfl,_⟩
 ·exact h
 ·cases q<;>simp[Ob.d,Mini.flat]at f
theorem zQ{x:D}(f:flat x=true)(hs:∀y,x≠ .str y):nd x=true/\dep x=0:=by
 cases x<;>simp_all[flat,nd,dep]
def acb(K:PySem.W.Frag):R2:=fun x y H Q=>∃p q,dF K H p x/\dF K H q y/\jj p q=true/\Q (.bl (bZ p q)) H
def ab8(K:PySem.W.Frag):R2:=fun x y H Q=>∃p q,dF K H p x/\dF K H q y/\jj p q=true/\Q (.bl (!bZ p q)) H
theorem zV{K:PySem.W.Frag}{H:Hp}{p q:D}{x y:V}(Dp:bh K H p x)(Dq:bh K H q y)(fp:flat p=true)(fq:flat q=true)(hs:(∃z,p=.str z)\/∃z,q=.str z):JX x y=true/\decide (x=y)=bZ p q:=by
 cases p<;>cases q<;>simp_all[flat]<;>(cases Dp;cases Dq;unfold JX bZ;simp)
theorem zT{u:Nat}{p q:D}(hu:u+60<cLine)(hp:nd p=true)(hq:nd q=true)(hd:dep p<=50):u+min (py p).depth (py q).depth<cLine:=by
 rw[ux p hp,ux q hq]
 have:min (dep p) (dep q)<=dep p:=Nat.min_le_left _ _
 omega
theorem pG{p q:D}(h:jj p q=true):(nd p=true/\nd q=true/\dep p<=50)\/(flat p=true/\flat q=true/\((∃z,p=.str z)\/∃z,q=.str z)):=by
 simp only[jj,Bool.or_eq_true,Bool.and_eq_true,decide_eq_true_eq]at h
 rcases h with ⟨h1,h2⟩|⟨⟨h1,h2⟩,h3⟩
 ·by_cases hs:(∃z,p=.str z)\/∃z,q=.str z
  ·exact .inr ⟨h1,h2,hs⟩
  ·have n1:∀y,p≠ .str y:=fun y e=>hs (.inl ⟨y,e⟩)
   have n2:∀y,q≠ .str y:=fun y e=>hs (.inr ⟨y,e⟩)
   have k1:=zQ h1 n1
   have k2:=zQ h2 n2
   exact .inl ⟨k1.1,k2.1,by omega⟩
 ·exact .inl ⟨h1,h3,h2⟩
theorem R3(hu:X.A.units+60<cLine):fB X (compareOp .Eq) (acb X.K):=by
 intro pins s σ H x y v u Q I rx ry h
 obtain⟨p,q,Dp,Dq,ok,k⟩:=h
 rcases pG ok with ⟨h1,h2,h3⟩|⟨h1,h2,h3⟩
 ·obtain⟨as,ra⟩:=Dp.reads I h1 rx
  obtain⟨bs,rb⟩:=Dq.reads I h2 ry
  exact SeqAt.compareEq_reads ra rb (ir p h1) (ir q h2) (zT hu h1 h2 h3) (by rw[ut p q h1 h2];exact⟨.bl _,H,I,rfl,k⟩)
 ·obtain⟨e1,e2⟩:=zV (Dp.flat h1) (Dq.flat h2) h1 h2 h3
  exact Yj pins s σ H x y v u Q I rx ry ⟨e1,by rw[e2];exact k⟩
theorem RT(hu:X.A.units+60<cLine):fB X (compareOp .NotEq) (ab8 X.K):=by
 intro pins s σ H x y v u Q I rx ry h
 obtain⟨p,q,Dp,Dq,ok,k⟩:=h
 rcases pG ok with ⟨h1,h2,h3⟩|⟨h1,h2,h3⟩
 ·obtain⟨as,ra⟩:=Dp.reads I h1 rx
  obtain⟨bs,rb⟩:=Dq.reads I h2 ry
  exact SeqAt.compareNe_reads ra rb (ir p h1) (ir q h2) (zT hu h1 h2 h3) (by rw[ut p q h1 h2];exact⟨.bl _,H,I,rfl,k⟩)
 ·obtain⟨e1,e2⟩:=zV (Dp.flat h1) (Dq.flat h2) h1 h2 h3
  exact Yd pins s σ H x y v u Q I rx ry ⟨e1,by rw[e2];exact k⟩
theorem ug{K:PySem.W.Frag}{H:Hp}{p:D}{x:V}(Dp:bh K H p x)(fp:flat p=true):∀{ds:List D}{vs:List V},ao K H ds vs->ds.all flat=true->vs.all gk=true/\inV x vs=cV p ds
 |[],vs,h,_=>by rw[ao.bj.mp h];exact⟨rfl,rfl⟩
 |d::ds,vs,h,f=>by
  obtain⟨v,r,rfl,h1,h2⟩:=ao.aW.mp h
  rw[List.all_cons,Bool.and_eq_true]at f
  obtain⟨k1,k2⟩:=ug Dp fp h2 f.2
  have fv:gk v=true/\Hs v x=bZ d p:=by
   obtain⟨f1,_⟩:=f
   cases d<;>cases p<;>simp_all[flat]<;>(cases h1;cases Dp;first|exact⟨rfl,rfl⟩|(refine⟨rfl,?_⟩;simp[Hs,bZ];try (rw[Bool.beq_eq_decide_eq])))
  refine⟨by rw[List.all_cons,fv.1,k1];rfl,?_⟩
  unfold inV at k2⊢
  rw[List.any_cons,fv.2,k2]
  rfl
theorem pY{p:D}(hp:nd p=true):∀{ds:List D},iQ ds=true->((vG ds).any fun y=>PyData.eqv y (py p))=cV p ds
 |[]=>fun _=>rfl
 |d::ds=>fun h=>by
  simp only[iQ,Bool.and_eq_true]at h
  rw[vG,List.any_cons,ut d p h.1 hp,pY hp h.2]
  rfl
def Iw(K:PySem.W.Frag)(H:Hp)(xs:List D)(y:V):Prop:=∃a vs,y=.ref a/\(iU K H a vs\/iC K H a vs)/\ao K H xs vs
def XS(K:PySem.W.Frag)(neg:Bool):R2:=fun x y H Q=>∃p xs,bh K H p x/\Iw K H xs y/\lN p xs=true/\Q (.bl (if neg then !cV p xs else cV p xs)) H
theorem m5{u:Nat}{p:D}{xs:List D}(hu:u+60<cLine)(hp:nd p=true)(hd:dep p<=50):u+1+min (PyData.depthAll (vG xs)) (py p).depth<cLine:=by
 rw[ux p hp]
 have:min (PyData.depthAll (vG xs)) (dep p)<=dep p:=Nat.min_le_right _ _
 omega
theorem Iw.reads{pins:List (Addr×Obj)}{s:Shared}{σ:St}{H:Hp}{xs:List D}{y:V}{u:Value}(I:Inv X pins σ H s)(h:Iw X.K H xs y)(hn:iQ xs=true)(r:RelV y u):
  ∃as,Reads s.heap u (.list (vG xs)) as\/Reads s.heap u (.tuple (vG xs)) as:=by
 obtain⟨a,vs,rfl,hq,l⟩:=h
 cases r
 rcases hq with hq|hq
 ·obtain⟨its,rv,⟨o,n,e,c,_,dt⟩,_⟩:=I.list hq
  obtain⟨as,q⟩:=ao.reads I hn l rv
  exact⟨a::as,.inl (.list e c dt (by simpa using q))⟩
 ·obtain⟨its,rv,⟨o,e,c,n,dt⟩,_⟩:=I.tuple hq
  obtain⟨as,q⟩:=ao.reads I hn l rv
  exact⟨as,.inr (.tuple e c dt (by simpa using q))⟩
theorem R0(hu:X.A.units+60<cLine):fB X (compareOp .In) (XS X.K false):=by
 intro pins s σ H x y v u Q I rx ry h
 obtain⟨p,xs,Dp,hS,ok,k⟩:=h
 simp only[lN,Bool.or_eq_true,Bool.and_eq_true,decide_eq_true_eq]at ok
 rcases ok with ⟨h1,h2⟩|⟨⟨h1,h2⟩,h3⟩
 ·obtain⟨a,vs,rfl,hq,l⟩:=hS
  obtain⟨k1,k2⟩:=ug Dp h1 l h2
  have fx:gk x=true:=by cases p<;>simp_all[flat]<;>(cases Dp;rfl)
  exact Br pins s σ H x _ v u Q I rx ry ⟨a,vs,rfl,hq,fx,k1,by simpa[k2]using k⟩
 ·obtain⟨bs,rb⟩:=bh.reads I h1 Dp rx
  obtain⟨as,ra|ra⟩:=hS.reads I h3 ry
  ·exact SeqAt.in_list_reads ra rb (ik xs h3) (ir p h1) (m5 hu h1 h2) (by rw[pY h1 h3];exact⟨.bl _,H,I,rfl,k⟩)
  ·exact SeqAt.in_tuple_reads ra rb (ik xs h3) (ir p h1) (m5 hu h1 h2) (by rw[pY h1 h3];exact⟨.bl _,H,I,rfl,k⟩)
theorem Bp(hu:X.A.units+60<cLine):fB X (compareOp .NotIn) (XS X.K true):=by
 intro pins s σ H x y v u Q I rx ry h
 obtain⟨p,xs,Dp,hS,ok,k⟩:=h
 simp only[lN,Bool.or_eq_true,Bool.and_eq_true,decide_eq_true_eq]at ok
 rcases ok with ⟨h1,h2⟩|⟨⟨h1,h2⟩,h3⟩
 ·obtain⟨a,vs,rfl,hq,l⟩:=hS
  obtain⟨k1,k2⟩:=ug Dp h1 l h2
  have fx:gk x=true:=by cases p<;>simp_all[flat]<;>(cases Dp;rfl)
  exact tV pins s σ H x _ v u Q I rx ry ⟨a,vs,rfl,hq,fx,k1,by simpa[k2]using k⟩
 ·obtain⟨bs,rb⟩:=bh.reads I h1 Dp rx
  obtain⟨as,ra|ra⟩:=hS.reads I h3 ry
  ·exact SeqAt.notIn_list_reads ra rb (ik xs h3) (ir p h1) (m5 hu h1 h2) (by rw[pY h1 h3];exact⟨.bl _,H,I,rfl,k⟩)
  ·exact SeqAt.notIn_tuple_reads ra rb (ik xs h3) (ir p h1) (m5 hu h1 h2) (by rw[pY h1 h3];exact⟨.bl _,H,I,rfl,k⟩)
end
end Mini
end
section
namespace Mini
open PySem L2
structure Gives(K:PySem.W.Frag)(J:It)(xs:List D)(H:Hp):Prop where
 go:∀H1,bU H H1->∀(i:Nat)d,xs[i]? =some d->J.go i H1
 yld:∀H1,bU H H1->∀(i:Nat)d,xs[i]? =some d->∀x H2,J.yld i H1 x H2->bh K H2 d x/\(H2=H1\/∃p vs,H1 p=none/\H2=upd H1 p (.tup vs))
 stop:∀H1,bU H H1->∀(i:Nat),xs.length<=i->J.stop i H1
 len:xs.length<=sizeLine
def tI(K:PySem.W.Frag)(W:Wi)(env:Ev)(r:Out Rv):TI:=fun σ H R=>Sat K env σ H/\match r with
 |.ok x env'=>∃d xs,x.jz=some d/\items d=some xs/\∀J H',Nx K env σ H env' H'->Gives K J xs H'->R J H'
 |.exc c env'=>∀H',Nx K env σ H env' H'->W c env' σ H'
 |.bad=>False
def GI(X:Cx)(W:Wi)(c:Cf)(m:E)(tg e:Expr):Prop:=∀env,PI X tg e (tI X.K W env (ev c m env))
section
variable{prog:Program}{w:World}{A:Around}{R:Result->Shared->Prop}{s:Shared}
theorem uB{elt target iter:Expr}{ifs:List Expr}{scope:Scope}{pos:Pos}{it acc:Value}{env:Env}(I:Nat->Shared->Prop)
  (turn:∀n s,I n s->wpAny (model prog w) A (pyNext it) (fun r s₁=>match r with
   |none=>R (.ok .next) s₁
   |some v=>wpAny (model prog w) A (letOwnedTupleGo target it v) (fun _ s₁'=>wpAny (model prog w) A (assign target env v) (fun _ s₂=>
     wpAny (model prog w) A (forIn ifs true fun c r=>if r=true then do let ok<-isTrue c env (eval c env);pure (ForInStep.yield ok)else pure (ForInStep.yield r)) (fun ok s₃=>
      if ok=true then wpAny (model prog w) A (eval elt env) (fun x s₄=>
       wpAny (model prog w) A (call (.builtin "list.append") [acc,x]) (fun _ s₅=>∃m,m<n/\I m s₅) (fun _ _=>False) s₄) (fun _ _=>False) s₃
      else∃m,m<n/\I m s₃) (fun _ _=>False) s₂) (fun _ _=>False) s₁') (fun _ _=>False) s₁) (fun _ _=>False) s)
  (n:Nat)(h:I n s):
  codeAny (model prog w) A (.compLoop (.ListComp elt [⟨target,iter,ifs,0⟩] scope pos) 0 it acc env) R s:=by
 refine codeAny_loop rfl I (fun n s hI=>?_) n h
 show wpAny _ A ((compTurn (.ListComp elt [⟨target,iter,ifs,0⟩] scope pos) 0 it acc env).onRaise (fun x=>do noteFrame x env;theTreesLotGoes x)) _ _ s
 refine wpAny_noted ?_
 rw[compTurn_list]
 refine wpAny_bind (wpAny_standAt (wpAny_bind (wpAny_mono (turn n s hI) (fun r s₁ h₁=>?_) fun _ _ h'=>h'.elim)))
 cases r with
 |none=>exact wpAny_pure h₁
 |some v=>
  refine wpAny_bind (wpAny_mono h₁ (fun _ s₁' h₁'=>?_) fun _ _ h'=>h'.elim)
  refine wpAny_bind (wpAny_mono h₁' (fun _ s₂ h₂=>wpAny_bind (wpAny_mono h₂ (fun ok s₃ h₃=>?_) fun _ _ h'=>h'.elim)) fun _ _ h'=>h'.elim)
  cases ok with
  |false=>exact wpAny_pure ⟨rfl,h₃⟩
  |true=>
   exact wpAny_bind (wpAny_bind (wpAny_mono h₃ (fun x s₄ h₄=>wpAny_bind (wpAny_mono h₄ (fun _ s₅ h₅=>wpAny_pure (wpAny_pure ⟨rfl,h₅⟩)) fun _ _ h'=>h'.elim)) fun _ _ h'=>h'.elim))
end
def blk(X:Cx)(scope:Scope)(cl:List (Str×Addr))(N:List Str)(fp:List Addr)(s₀:Shared)(H₀:Hp):Cx where
 prog:=X.prog
 w:=X.w
 K:=X.K
 mg:=X.mg
 base:=X.base
 A:=X.A
 N:=N
 s₀:=s₀
 H₀:=H₀
 env:=compEnvC scope cl s₀.heap.objs.size X.env
 outer:=X.stack
 stack:=X.stack
 ex:=fp
 fn:=fun _=>false
 calm:=X.calm
 pn:=[]
 xe:=fun _ _=>False
def bu(tgs N:List Str):List Str:=tgs++N.map fun x=>if tgs.contains x then(".":Str)++x else x
structure Dg(sc inner:Scope)(tgs N:List Str):Prop where
 kind:inner.kind=.function
 nd:(bu tgs N).Nodup
 loc:∀x,inner.names.lookup x=some .local->x∈tgs\/x=(".0":Str)
 locs:∀x∈inner.names,x.2=.local->inner.names.lookup x.1=some .local
 tg:∀x∈tgs,inner.names.lookup x=some .local
 nocell:∀x∈inner.names,x.2≠ .cell
 fre:∀x∈inner.names,x.2=.free->sc.names.lookup x.1=some .cell\/sc.names.lookup x.1=some .free
 dot:∀x∈N,tgs.contains x=true->inner.names.lookup ((".":Str)++x)=none
 dot0:(".0":Str)∉N
structure Jb(scope:Scope)(env:Env)(cl:List (Str×Addr)):Prop where
 eq:closureFor scope env=pure cl
 to:∀x c,cl.lookup x=some c->env.cells.lookup x=some c
 has:∀x,scope.names.lookup x=some .free->∃c,cl.lookup x=some c
theorem bz{env:Env}:∀{names:List (Str×NameKind)}{x:Str}{k:NameKind},
  (names.map fun(n,k)=>if (k==NameKind.free&&env.scope.kind== .function&&env.kindOf n==some .cell)then(n,NameKind.cell)else(n,k)).lookup x=some k->
   names.lookup x=some k\/(k=.cell/\names.lookup x=some .free)
 |[],_,_,h=>by simp at h
 |(n,k')::r,x,k,h=>by
  have ih:=@bz env r x k
  rw[List.map_cons]at h
  cases hx:x==n with
  |true=>
   by_cases hc:(k'==NameKind.free&&env.scope.kind== .function&&env.kindOf n==some .cell)=true
   ·simp only[hc,if_true,List.lookup_cons,hx]at h
    cases h
    simp only[Bool.and_eq_true,beq_iff_eq]at hc
    exact .inr ⟨rfl,by simp[List.lookup_cons,hx,hc.1.1]⟩
   ·simp only[eq_false_of_ne_true hc,Bool.false_eq_true,if_false,List.lookup_cons,hx]at h
    exact .inl (by simpa[List.lookup_cons,hx]using h)
  |false=>
   have h':(r.map fun(n,k)=>if (k==NameKind.free&&env.scope.kind== .function&&env.kindOf n==some .cell)then(n,NameKind.cell)else(n,k)).lookup x=some k:=by
    by_cases hc:(k'==NameKind.free&&env.scope.kind== .function&&env.kindOf n==some .cell)=true
    ·simpa only[hc,if_true,List.lookup_cons,hx]using h
    ·simpa only[eq_false_of_ne_true hc,Bool.false_eq_true,if_false,List.lookup_cons,hx]using h
   rcases ih h' with q|⟨q1,q2⟩
   ·exact .inl (by simpa[List.lookup_cons,hx]using q)
   ·exact .inr ⟨q1,by simpa[List.lookup_cons,hx]using q2⟩
theorem HW{X:Cx}{scope:Scope}{cl:List (Str×Addr)}{tgs:List Str}{fp:List Addr}{pins:List (Addr×Obj)}{σ:St}{H:Hp}{s:Shared}
  (I:Inv X pins σ H s)(sc:Dg X.env.scope scope tgs X.N)(co:Jb scope X.env cl)(hf:∀b∈fp,iD X pins H b)(hlt:∀b∈fp,b<s.heap.objs.size):
  (blk X scope cl (bu tgs X.N) fp s H).Ok where
 mod:=I.ok.mod
 kind:=sc.kind
 glob:=I.ok.glob
 blt:=I.ok.blt
 above:=Nat.le_refl _
 inj:=fun x y c h1 h2=>I.ok.inj x y c (co.to x c h1) (co.to y c h2)
 has:=fun x h=>by
  have z:scope.names.lookup x=some .free:=by
   rcases h with h|h
   ·rcases bz (env:=X.env) h with q|⟨_,q⟩
    ·exact absurd rfl (sc.nocell (x,.cell) (PySem.mem_of_lookup q))
    ·exact q
   ·rcases bz (env:=X.env) h with q|⟨q,_⟩
    ·exact q
    ·cases q
  exact co.has x z
 cab:=fun x c h=>by cases h
 hd:=I.ok.hd
 frames:=I.ok.frames
 stk:=.inl rfl
 exf:=fun b hb=>⟨Nat.ne_of_lt (hlt b hb),fun x c h=>(hf b hb).2.2.2.2.1 x c (co.to x c h)⟩
 bs:=I.bs
 bsz:=Nat.le_trans I.ok.bsz I.sz
 noex:=fun b o e hb=>by
  have e':X.base.get? b=some o:=e
  rcases (hf b hb).2.2.2.1 with z|z
  ·exact I.ok.noex b o e z
  ·have h2:=Heap.lt_size e'
   exact absurd (Nat.lt_of_lt_of_le h2 (Nat.le_trans I.ok.bsz z)) (Nat.lt_irrefl _)
 exfs:=fun b hb hs=>by
  obtain⟨_,h1,h2,_⟩:=hf b hb
  rcases List.mem_cons.mp (I.wY b hs)with z|z
  ·exact h1 z
  ·exact h2 z
 jy:=I.stack
 frf:=I.mY
theorem MN{X:Cx}{scope:Scope}{cl:List (Str×Addr)}{tgs:List Str}{fp:List Addr}{pins:List (Addr×Obj)}{σ:St}{H:Hp}{s:Shared}{h':Heap}{t:Nat}
  (I:Inv X pins σ H s)(sc:Dg X.env.scope scope tgs X.N)(co:Jb scope X.env cl)(hf:∀b∈fp,iD X pins H b)(hlt:∀b∈fp,b<s.heap.objs.size)
  (hn:h'.Ns s.heap.objs.size fun _=>none)(hk:∀b o,s.heap.get? b=some o->h'.get? b=some o):
  Inv (blk X scope cl (bu tgs X.N) fp s H) [] (List.replicate tgs.length none++σ) H {s with heap:=h',toks:=t}:=by
 have cellK:∀c v,s.heap.IsCell c v->h'.IsCell c v:=fun c v⟨o,e,d⟩=>⟨o,hk c o e,d⟩
 refine⟨HW I sc co hf hlt,rfl,I.bare,Un.kept hk,⟨_,hn,fun i x v e1 e2 e3=>?_⟩,fun x c e=>?_,I.hok.fresh (Nat.le_refl _),fun x c e=>I.freeC x c (co.to x c e),fun p hp=>absurd (show p∈([]:List (Addr×Obj))from hp) (by simp),I.hok.kept hk,?_⟩
 ·--an outer name that is seen within
  have hi:tgs.length<=i:=by
   refine Nat.le_of_not_lt fun q=>?_
   rw[List.getElem?_append_left (by simpa using q),List.getElem?_replicate]at e2
   split at e2<;>cases e2
  rw[List.getElem?_append_right (by simpa using hi)]at e2
  simp only[List.length_replicate]at e2
  have e1':(bu tgs X.N)[i]? =some x:=e1
  unfold bu at e1'
  rw[List.getElem?_append_right hi,List.getElem?_map]at e1'
  cases ey:X.N[i-tgs.length]? with
  |none=>rw[ey]at e1';cases e1'
  |some y=>
   rw[ey]at e1'
   have e1'':(if tgs.contains y=true then(".":Str)++y else y)=x:=Option.some.inj e1'
   have e3':(relabel scope X.env).names.lookup x=some .local\/(relabel scope X.env).names.lookup x=some .cell\/(relabel scope X.env).names.lookup x=some .free:=e3
   by_cases hy:tgs.contains y=true
   ·rw[if_pos hy]at e1''
    subst e1''
    have no:=sc.dot y (List.mem_of_getElem? ey) hy
    rcases e3' with q|q|q
    ·rcases bz (env:=X.env) q with z|⟨z,_⟩
     ·rw[no]at z;cases z
     ·cases z
    ·rcases bz (env:=X.env) q with z|⟨_,z⟩
     ·rw[no]at z;cases z
     ·rw[no]at z;cases z
    ·rcases bz (env:=X.env) q with z|⟨z,_⟩
     ·rw[no]at z;cases z
     ·cases z
   ·rw[if_neg hy]at e1''
    subst e1''
    have fr:scope.names.lookup y=some .free:=by
     rcases e3' with q|q|q
     ·rcases bz (env:=X.env) q with z|⟨z,_⟩
      ·rcases sc.loc y z with w|w
       ·exact absurd (by simpa using w) hy
       ·exact absurd (w▸List.mem_of_getElem? ey) sc.dot0
      ·cases z
     ·rcases bz (env:=X.env) q with z|⟨_,z⟩
      ·exact absurd rfl (sc.nocell (y,.cell) (PySem.mem_of_lookup z))
      ·exact z
     ·rcases bz (env:=X.env) q with z|⟨z,_⟩
      ·exact z
      ·cases z
    have ou:=sc.fre (y,.free) (PySem.mem_of_lookup fr) rfl
    obtain⟨m,hm,hl⟩:=I.loc
    obtain⟨u,r,l⟩:=hl _ y v ey e2 (.inr ou)
    obtain⟨c,hc⟩:=co.has y fr
    refine⟨u,r,.inr ⟨?_,c,hc,?_⟩⟩
    ·have z:(relabel scope X.env).names.lookup y=some .local\/(relabel scope X.env).names.lookup y=some .cell\/(relabel scope X.env).names.lookup y=some .free:=e3'
     rcases z with z|z|z
     ·rcases bz (env:=X.env) z with w|⟨w,_⟩
      ·rw[fr]at w;cases w
      ·cases w
     ·exact .inl z
     ·exact .inr z
    ·rcases l with ⟨k,_⟩|⟨_,c',hc',z⟩
     ·have k':X.env.scope.names.lookup y=some .local:=k
      rcases ou with w|w
      ·rw[k']at w;cases w
      ·rw[k']at w;cases w
     ·rw[co.to y c hc]at hc'
      cases hc'
      exact cellK c _ z
 ·obtain⟨v,z⟩:=I.cell x c (co.to x c e)
  exact⟨v,cellK c v z⟩
 ·show(List.replicate tgs.length none++σ).length=(bu tgs X.N).length
  unfold bu
  simp only[List.length_append,List.length_replicate,List.length_map,I.len]
end Mini
namespace Mini
open PySem L2
def slots:Tg->List Nat
 |.name i=>[i]
 |.tup is=>is
structure iJ(K:PySem.W.Frag)(tg:Tg)(env:Ev)(σ:St)(env':Ev)(σ':St)(H:Hp):Prop where
 eY:Sat K env' σ' H
 same:∀(i:Nat),i∉slots tg->env'[i]? =env[i]? /\σ'[i]? =σ[i]?
 vals:∀(i:Nat),i∈slots tg->∃d,env'[i]? =some (.val d)
 bors:∀(i:Nat)xs,env[i]? =some (.bor xs)->i∉slots tg
 len:σ'.length=σ.length
def tG(K:PySem.W.Frag)(tg:Tg):TG:=fun v σ H Q=>∃env d env',Sat K env σ H/\bh K H d v/\bA tg d env=some env'/\∀σ',iJ K tg env σ env' σ' H->Q σ' H
def GG(X:Cx)(tg:Tg)(e:Expr):Prop:=PG X e (tG X.K tg)
section
variable{K:PySem.W.Frag}{tg:Tg}{env env':Ev}{σ σ':St}{H:Hp}
theorem iJ.sub(h:iJ K tg env σ env' σ' H){i:Nat}{a:Addr}(o:aB env' σ' i a):aB env σ i a:=by
 obtain⟨⟨s,xs,e1,e2⟩,e3⟩:=o
 by_cases hi:i∈slots tg
 ·obtain⟨d,e⟩:=h.vals i hi
  rw[e]at e1;cases e1;cases e2
 ·obtain⟨q1,q2⟩:=h.same i hi
  exact⟨⟨s,xs,by rw[<-q1];exact e1,e2⟩,by rw[<-q2];exact e3⟩
theorem n8{i:Nat}{s:Sl}(h:bY i s env=some env'):env'=env.set i s/\i<env.length/\∀xs,env[i]? ≠some (.bor xs):=by
 unfold bY at h
 cases e:env[i]? with
 |none=>rw[e]at h;cases h
 |some t=>
  rw[e]at h
  have hi:=(List.getElem?_eq_some_iff.mp e).1
  cases t with
  |bor xs=>cases h
  |un=>cases h;exact⟨rfl,hi,fun xs q=>by cases q⟩
  |val d=>cases h;exact⟨rfl,hi,fun xs q=>by cases q⟩
  |own ys=>cases h;exact⟨rfl,hi,fun xs q=>by cases q⟩
theorem Sat.put{i:Nat}{d:D}{v:V}(S:Sat K env σ H)(hi:i<env.length)(hd:bh K H d v):Sat K (env.set i (.val d)) (σ.set i (some v)) H:=by
 have hi':i<σ.length:=by rw[<-S.len];exact hi
 have own:∀j a,aB (env.set i (.val d)) (σ.set i (some v)) j a->aB env σ j a:=fun j a⟨⟨s,xs,e1,e2⟩,e3⟩=>by
  by_cases hj:i=j
  ·subst hj;rw[List.getElem?_set_self hi]at e1;cases e1;cases e2
  ·rw[List.getElem?_set_ne hj]at e1 e3;exact⟨⟨s,xs,e1,e2⟩,e3⟩
 refine⟨by simpa using S.len,fun j s e=>?_,fun j k a h1 h2=>S.ne j k a (own j a h1) (own k a h2)⟩
 by_cases hj:i=j
 ·subst hj
  rw[List.getElem?_set_self hi]at e
  cases e
  rw[List.getElem?_set_self hi']
  exact⟨v,rfl,hd⟩
 ·rw[List.getElem?_set_ne hj]at e⊢
  exact S.sl j s e
theorem JQ{i:Nat}{d:D}{v:V}(S:Sat K env σ H)(hd:bh K H d v)(h:bY i (.val d) env=some env'):iJ K (.name i) env σ env' (σ.set i (some v)) H:=by
 obtain⟨rfl,hi,hb⟩:=n8 h
 refine⟨S.put hi hd,fun j hj=>?_,fun j hj=>?_,fun j xs e hj=>?_,by simp⟩
 ·have:i≠j:=fun z=>hj (by simp[slots,z])
  exact⟨List.getElem?_set_ne this,List.getElem?_set_ne this⟩
 ·have e:j=i:=by simpa[slots]using hj
  subst e
  exact⟨d,List.getElem?_set_self hi⟩
 ·have e':j=i:=by simpa[slots]using hj
  subst e'
  exact hb xs e
end
section
variable{X:Cx}{pos:Pos}
theorem um{i:Nat}{x:Str}(hN:X.N.Nodup)(hi:X.N[i]? =some x)(hx:Loc X.env.scope x)(hf:X.fn x=true\/X.env.scope.names.lookup x=some .local):GG X (.name i) (.Name x pos):=by
 intro pins s σ H v u Q I r q
 obtain⟨env,d,env',S,hd,e,k⟩:=q
 exact Ky hN hi hx hf pins s σ H v u Q I r (k _ (JQ S hd e))
def gh(sc:Scope)(N:List Str):List Nat->List Expr->Bool
 |[],[]=>true
 |i::is,.Name x _::es=>(N[i]? ==some x)&&(sc.names.lookup x==some .local)&&gh sc N is es
 |_,_=>false
inductive pZ(X:Cx):List Nat->List Expr->Prop
 |nil:pZ X [] []
 |cons {i:Nat} {is:List Nat} {x:Str} {p:Pos} {es:List Expr}:X.N[i]? =some x->Loc X.env.scope x->(X.fn x=true\/X.env.scope.names.lookup x=some .local)->pZ X is es->pZ X (i::is) (.Name x p::es)
theorem Gj:∀{is:List Nat}{es:List Expr},gh X.env.scope X.N is es=true->pZ X is es
 |[],[]=>fun _=>.nil
 |[],_::_=>fun h=>by simp[gh]at h
 |_::_,[]=>fun h=>by simp[gh]at h
 |i::is,e::es=>fun h=>by
  cases e with
  |Name x p=>
   simp only[gh,Bool.and_eq_true,beq_iff_eq]at h
   exact .cons h.1.1 (.inl h.1.2) (.inr h.1.2) (Gj h.2)
  |_=>simp[gh]at h
theorem wg(hN:X.N.Nodup):∀(is:List Nat)(es:List Expr),pZ X is es->
  Z2 X es (fun vs σ H Q=>∃env ds env',Sat X.K env σ H/\ao X.K H ds vs/\gq is ds env=some env'/\∀σ',iJ X.K (.tup is) env σ env' σ' H->Q σ' H)
 |[],[],_=>fun pins s σ H vs us Q I r⟨env,ds,env',S,l,e,k⟩=>by
  cases ds with
  |nil=>
   cases e
   refine Kw pins s σ H vs us Q I r ⟨ao.bj.mp l,k σ ⟨S,fun i _=>⟨rfl,rfl⟩,fun i hi=>?_,fun i xs _=>?_,rfl⟩⟩
   ·simp[slots]at hi
   ·simp[slots]
  |cons d ds=>cases e
 |i::is,_,.cons (x:=x) (p:=p) (es:=es) h1 h2 h3 h4=>by
   have ih:=wg hN is es h4
   have one:GG X (.name i) (.Name x p):=um hN h1 h2 h3
   intro pins s σ H vs us Q I r q
   refine FQ (X:=X) one ih (by rfl) pins s σ H vs us Q I r ?_
   obtain⟨env,ds,env',S,l,e,k⟩:=q
   cases ds with
   |nil=>cases e
   |cons d ds=>
    obtain⟨v,vr,rfl,hd,l'⟩:=ao.aW.mp l
    have e':(bY i (.val d) env).bind (gq is ds)=some env':=e
    cases e1:bY i (.val d) env with
    |none=>rw[e1]at e';cases e'
    |some env1=>
     rw[e1]at e'
     refine⟨v,vr,rfl,env,d,env1,S,hd,e1,fun σ1 s1=>⟨env1,ds,env',s1.eY,l',e',fun σ2 s2=>k σ2 ⟨s2.eY,fun j hj=>?_,fun j hj=>?_,fun j xs q hj=>?_,s2.len.trans s1.len⟩⟩⟩
     ·have h1:j∉slots (.name i):=fun z=>hj (by simp[slots]at z⊢;exact .inl z)
      have h2:j∉slots (.tup is):=fun z=>hj (by simp[slots]at z⊢;exact .inr z)
      exact⟨(s2.same j h2).1.trans (s1.same j h1).1,(s2.same j h2).2.trans (s1.same j h1).2⟩
     ·by_cases h2:j∈slots (.tup is)
      ·exact s2.vals j h2
      ·have h1:j∈slots (.name i):=by simp[slots]at hj h2⊢;exact hj.resolve_right h2
       obtain⟨d',q⟩:=s1.vals j h1
       exact⟨d',(s2.same j h2).1.trans q⟩
     ·by_cases h1:j∈slots (.name i)
      ·exact s1.bors j xs q h1
      ·have h2:j∈slots (.tup is):=by simp[slots]at hj h1⊢;exact hj.resolve_left h1
       exact s2.bors j xs ((s1.same j h1).1.trans q) h2
theorem yd{is:List Nat}{es:List Expr}{k:Nat}(hN:X.N.Nodup)(hc:X.calm=true)(h:pZ X is es)(hl:(assignEach es X.env).length=is.length)(hst:(assignEach es X.env).findIdx? (·.1)=none):GG X (.tup is) (.Tuple es k pos):=by
 intro pins s σ H v u Q I r q
 obtain⟨env,d,env',S,hd,e,k⟩:=q
 cases d with
 |tup ds=>
  obtain⟨a,vs,rfl,hq,l⟩:=bQ hd
  refine Rz (n:=is.length) hc (wg hN is es h) hl hst pins s σ H _ u Q I r ⟨a,vs,rfl,hq,?_,env,ds,env',S,l,e,k⟩
  have lens:∀(is:List Nat)(ds:List D)(env env':Ev),gq is ds env=some env'->ds.length=is.length:=by
   intro is
   induction is with
   |nil=>intro ds env env' e;cases ds with|nil=>rfl|cons _ _=>cases e
   |cons i is ih=>
    intro ds env env' e
    cases ds with
    |nil=>cases e
    |cons d ds=>
     have e':(bY i (.val d) env).bind (gq is ds)=some env':=e
     cases e1:bY i (.val d) env with
     |none=>rw[e1]at e';cases e'
     |some env1=>rw[e1]at e';simp[ih ds env1 env' e']
  rw[<-l.length]
  exact lens is ds env env' e
 |_=>cases e
end
end Mini
end
section
namespace Mini
open PySem L2
def W0:Wi:=fun _ _ _ _=>False
theorem Sat.lay{K:PySem.W.Frag}{env:Ev}{σ:St}{H H2:Hp}(S:Sat K env σ H)(h:H2=H\/∃p vs,H p=none/\H2=upd H p (.tup vs)):Nx K env σ H env H2:=by
 rcases h with rfl|⟨p,vs,hp,rfl⟩
 ·exact Nx.refl S
 ·exact Nx.laid S hp
theorem oK{env:Ev}{σ:St}{nl i:Nat}{a:Addr}:aB (env.drop nl) (σ.drop nl) i a↔aB env σ (nl+i) a:=by
 unfold aB
 rw[List.getElem?_drop,List.getElem?_drop]
theorem Sat.drop{K:PySem.W.Frag}{env:Ev}{σ:St}{H:Hp}{nl:Nat}(S:Sat K env σ H):Sat K (env.drop nl) (σ.drop nl) H:=by
 refine⟨by rw[List.length_drop,List.length_drop,S.len],fun i s e=>?_,fun i j a h1 h2=>?_⟩
 ·rw[List.getElem?_drop]at e⊢
  exact S.sl _ s e
 ·have:=S.ne _ _ a (oK.mp h1) (oK.mp h2)
  omega
theorem gJ{env:Ev}{σ:St}{nl:Nat}{i:Nat}{a:Addr}(h:aB (List.replicate nl .un++env) (List.replicate nl none++σ) i a):∃j,i=nl+j/\aB env σ j a:=by
 obtain⟨⟨s,xs,e1,e2⟩,e3⟩:=h
 by_cases hi:i<nl
 ·rw[List.getElem?_append_left (by simpa using hi),List.getElem?_replicate,if_pos hi]at e1
  cases e1;cases e2
 ·refine⟨i-nl,by omega,?_⟩
  rw[List.getElem?_append_right (by simp;omega)]at e1 e3
  simp only[List.length_replicate]at e1 e3
  exact⟨⟨s,xs,e1,e2⟩,e3⟩
theorem Sat.front{K:PySem.W.Frag}{env:Ev}{σ:St}{H:Hp}(S:Sat K env σ H)(nl:Nat):Sat K (List.replicate nl .un++env) (List.replicate nl none++σ) H:=by
 refine⟨by simp[S.len],fun i s e=>?_,fun i j a h1 h2=>?_⟩
 ·by_cases hi:i<nl
  ·rw[List.getElem?_append_left (by simpa using hi),List.getElem?_replicate,if_pos hi]at e
   cases e;trivial
  ·rw[List.getElem?_append_right (by simp;omega)]at e⊢
   simp only[List.length_replicate]at e⊢
   exact S.sl _ s e
 ·obtain⟨i',rfl,o1⟩:=gJ h1
  obtain⟨j',rfl,o2⟩:=gJ h2
  rw[S.ne i' j' a o1 o2]
structure wN(X:Cx)(c:Cf)(scope:Scope)(tgs:List Str)(tg:Tg)(cond elt:E)(tgE eltE:Expr)(ifs:List Expr):Prop where
 sc:Dg X.env.scope scope tgs X.N
 small:∀i∈slots tg,i<tgs.length
 tgt:∀cl fp s₀ H₀,(blk X scope cl (bu tgs X.N) fp s₀ H₀).Ok->GG (blk X scope cl (bu tgs X.N) fp s₀ H₀) tg tgE
 tests:(ifs=[]/\cond=.con (.bl true))\/∃ce,ifs=[ce]/\∀cl fp s₀ H₀,(blk X scope cl (bu tgs X.N) fp s₀ H₀).Ok->GT (blk X scope cl (bu tgs X.N) fp s₀ H₀) W0 c cond ce
 elts:∀cl fp s₀ H₀,(blk X scope cl (bu tgs X.N) fp s₀ H₀).Ok->GE (blk X scope cl (bu tgs X.N) fp s₀ H₀) W0 c elt eltE
structure LI(X:Cx)(c:Cf)(tg:Tg)(cond elt:E)(xs ys:List D)(τ env0:Ev)(σ σ0:St)(H3:Hp)(D:Addr)(nl i:Nat)(acc:List Mini.D)(vs:List V)(τ1:Ev)(σ1:St)(H1:Hp):Prop where
 le:i<=xs.length
 go:aK tg (ev c cond) (ev c elt) (xs.drop i) acc τ1=.ok ys τ
 eY:Sat X.K τ1 σ1 H1
 out:σ1.drop nl=σ
 acl:acc.length<=i
 cur:H1 D=some (.lst vs)
 den:ao X.K H1 acc vs
 sub:∀k a,aB τ1 σ1 k a->aB env0 σ0 k a
 pers:bU H3 H1
 keep:∀b u,H3 b=some u->b≠D->(∀k,¬aB env0 σ0 k b)->H1 b=some u
 dom:∀b,H1 b=none->H3 b=none
 bors:∀(k:Nat)ws,env0[k]? =some (.bor ws)->∃ws',τ1[k]? =some (.bor ws')
section
variable{X:Cx}{c:Cf}{tg:Tg}{cond elt:E}{xs ys:List D}{τ env0:Ev}{σ σ0:St}{H3:Hp}{D:Addr}{nl i:Nat}{acc:List Mini.D}{vs:List V}{τ1 τ2:Ev}{σ1 σ2:St}{H1 H2:Hp}
theorem LI.no(L:LI X c tg cond elt xs ys τ env0 σ σ0 H3 D nl i acc vs τ1 σ1 H1)(hD:∀k,¬aB env0 σ0 k D):∀k,¬aB τ1 σ1 k D:=fun k z=>hD k (L.sub k D z)
end
structure Ch(K:PySem.W.Frag)(env:Ev)(σ:St)(H:Hp)(env':Ev)(σ':St)(H':Hp):Prop where
 eY:Sat K env' σ' H'
 sub:∀(i:Nat)a,aB env' σ' i a->aB env σ i a
 pers:bU H H'
 keep:∀b u,H b=some u->(∀i,¬aB env σ i b)->H' b=some u
 dom:∀b,H' b=none->H b=none
 bors:∀(i:Nat)xs,env[i]? =some (.bor xs)->∃ys,env'[i]? =some (.bor ys)
section
variable{K:PySem.W.Frag}{env env1 env2:Ev}{σ σ1 σ2:St}{H H1 H2:Hp}
theorem Nx.ch(N:Nx K env σ H env1 H1):Ch K env σ H env1 σ H1:=⟨N.eY,N.sub,N.pers,N.keep,N.dom,N.bors⟩
theorem iJ.ch{tg:Tg}(h:iJ K tg env σ env1 σ1 H):Ch K env σ H env1 σ1 H:=⟨h.eY,fun _ _ z=>h.sub z,bU.refl H,fun _ _ z _=>z,fun _ z=>z,fun i xs e=>⟨xs,(h.same i (h.bors i xs e)).1.trans e⟩⟩
theorem Ch.trans(a:Ch K env σ H env1 σ1 H1)(b:Ch K env1 σ1 H1 env2 σ2 H2):Ch K env σ H env2 σ2 H2:=
 ⟨b.eY,fun i c z=>a.sub i c (b.sub i c z),a.pers.trans b.pers,fun c vs z n=>b.keep c vs (a.keep c vs z n) fun i w=>n i (a.sub i c w),fun c z=>a.dom c (b.dom c z),fun i xs e=>let ⟨ys,e1⟩:=a.bors i xs e;b.bors i ys e1⟩
end
theorem iJ.out{K:PySem.W.Frag}{tg:Tg}{env env1:Ev}{σ σ1:St}{H:Hp}{nl:Nat}(h:iJ K tg env σ env1 σ1 H)(hs:∀i∈slots tg,i<nl):σ1.drop nl=σ.drop nl:=by
 apply List.ext_getElem?
 intro i
 rw[List.getElem?_drop,List.getElem?_drop]
 exact(h.same (nl+i) fun z=>by have:=hs _ z;omega).2
section
variable{X:Cx}{c:Cf}{tg:Tg}{cond elt:E}{xs ys:List D}{τ env0:Ev}{σ σ0:St}{H3:Hp}{D:Addr}{nl i:Nat}{acc acc':List Mini.D}{vs:List V}{τ1 τ2:Ev}{σ1 σ2:St}{H1 H2:Hp}
theorem LI.skip(L:LI X c tg cond elt xs ys τ env0 σ σ0 H3 D nl i acc vs τ1 σ1 H1)(hD:∀k,¬aB env0 σ0 k D)(C:Ch X.K τ1 σ1 H1 τ2 σ2 H2)(hi:i<xs.length)(ho:σ2.drop nl=σ)
  (go:aK tg (ev c cond) (ev c elt) (xs.drop (i+1)) acc τ2=.ok ys τ):LI X c tg cond elt xs ys τ env0 σ σ0 H3 D nl (i+1) acc vs τ2 σ2 H2 where
 le:=hi
 go:=go
 eY:=C.eY
 out:=ho
 acl:=Nat.le_succ_of_le L.acl
 cur:=C.keep D _ L.cur (L.no hD)
 den:=L.den.mono C.pers
 sub:=fun k a z=>L.sub k a (C.sub k a z)
 pers:=L.pers.trans C.pers
 keep:=fun b ws z n1 n2=>C.keep b ws (L.keep b ws z n1 n2) fun k o=>n2 k (L.sub k b o)
 dom:=fun b z=>L.dom b (C.dom b z)
 bors:=fun k ws e=>let ⟨w1,e1⟩:=L.bors k ws e;C.bors k w1 e1
theorem LI.push{d:Mini.D}{v:V}(L:LI X c tg cond elt xs ys τ env0 σ σ0 H3 D nl i acc vs τ1 σ1 H1)(hD:∀k,¬aB env0 σ0 k D)(C:Ch X.K τ1 σ1 H1 τ2 σ2 H2)(hi:i<xs.length)(ho:σ2.drop nl=σ)
  (go:aK tg (ev c cond) (ev c elt) (xs.drop (i+1)) (acc++[d]) τ2=.ok ys τ)(hd:bh X.K H2 d v):LI X c tg cond elt xs ys τ env0 σ σ0 H3 D nl (i+1) (acc++[d]) (vs++[v]) τ2 σ2 (upd H2 D (.lst (vs++[v]))):=by
 have cur:=C.keep D _ L.cur (L.no hD)
 have ne:∀b u,H2 b=some u->(∀ws,u≠ .lst ws)->b≠D:=fun b u q n z=>by subst z;rw[cur]at q;cases q;exact n vs rfl
 have p:bU H2 (upd H2 D (.lst (vs++[v]))):=⟨fun b ws q=>by rw[az (ne b _ q (by intro ws z;cases z))];exact q,fun b o u q=>by rw[az (ne b _ q (by intro ws z;cases z))];exact q⟩
 have no2:∀k,¬aB τ2 σ2 k D:=fun k z=>L.no hD k (C.sub k D z)
 refine⟨hi,go,C.eY.keep p fun k b u ow hb=>?_,ho,by rw[List.length_append];exact Nat.succ_le_succ L.acl,aQ,((L.den.mono C.pers).append (ao.eE hd ao.jc)).mono p,fun k a z=>L.sub k a (C.sub k a z),
  (L.pers.trans C.pers).trans p,fun b ws z n1 n2=>?_,fun b z=>L.dom b (C.dom b ?_),fun k ws e=>let ⟨w1,e1⟩:=L.bors k ws e;C.bors k w1 e1⟩
 ·have nb:b≠D:=fun z=>by subst z;exact no2 k ow
  rw[az nb];exact hb
 ·rw[az n1]
  exact C.keep b ws (L.keep b ws z n1 n2) fun k o=>n2 k (L.sub k b o)
 ·by_cases hb:b=D
  ·subst hb;rw[aQ]at z;cases z
  ·rw[az hb]at z;exact z
end
theorem rM{α:Type}{xs:List α}{i:Nat}{d:α}(h:xs[i]? =some d):xs.drop i=d::xs.drop (i+1):=by
 obtain⟨hi,e⟩:=List.getElem?_eq_some_iff.mp h
 rw[List.drop_eq_getElem_cons hi,e]
theorem rP{X:Cx}{c:Cf}{scope:Scope}{tgs:List Str}{tg:Tg}{cond elt:E}{tgE iterE eltE:Expr}{ifs:List Expr}{pos:Pos}{cl:List (Str×Addr)}
  {pins:List (Addr×Obj)}{σ:St}{H:Hp}{s:Shared}{env τ:Ev}{J:It}{fp:List Addr}{it:Addr}{tn:Nat->Heap->Prop}{xs ys:List D}{RR:Value->Addr->Result->Shared->Prop}{E:Value->Shared->Prop}
  (B:wN X c scope tgs tg cond elt tgE eltE ifs)(hc:X.calm=true)(co:Jb scope X.env cl)
  (I:Inv X pins σ H s)(S:Sat X.K env σ H)(T:Turn X.prog X.w X.K tgE J fp it tn)(t0:tn 0 s.heap)(hf:∀b∈fp,iD X pins H b)(G:Gives X.K J xs H)
  (hgo:aK tg (ev c cond) (ev c elt) xs [] (List.replicate tgs.length .un++env)=.ok ys τ)
  (hRR:∀(D C:Addr)(s':Shared)(H':Hp)(vs:List V)(m:Str->Option Value),Inv X pins σ H' s'->Nx X.K env σ H (τ.drop tgs.length) H'->H' D=some (.lst vs)->ao X.K H' ys vs->H D=none->
   s'.heap.Ns C m->iD X pins H' C->RR (.ref D) C (.ok .next) s'):
  wpAny (model X.prog X.w) X.A (newList []) (fun acc s₃=>wpAny (model X.prog X.w) X.A (newFunctionEnv scope X.env.globals cl [] X.env.qual none .none (some X.env)) (fun cenv s₄=>
   codeAny (model X.prog X.w) X.A (.compStart (.ListComp eltE [⟨tgE,iterE,ifs,0⟩] scope pos) 0 (.ref it) acc {cenv with scope:=relabel scope X.env}) (RR acc cenv.locals) s₄) E s₃) E s:=by
 have hlt:∀b∈fp,b<s.heap.objs.size:=fun b hb=>by
  obtain⟨o,e,_⟩:=T.obj 0 _ t0 b hb
  exact Heap.lt_size e
 refine wpAny_newObj_type (wpAny_newFunctionEnv B.sc.nocell (by intro y hy;simp at hy) (fun h₁ hns₁ hsb₁=>?_) B.sc.kind)
 dsimp only at hns₁ hsb₁⊢
 generalize hDd:s.heap.objs.size=D at*
 have hDn:H D=none:=by rw[<-hDd];exact I.hok.fresh (Nat.le_refl _)
 have I3:Inv X pins σ (upd H D (.lst [])) {s with heap:=s.heap.push {cls:=.type "list",dict:=none,data:=.seq ([]:List Value).toArray}}:=by
  have:=I.laid (a:=s.heap.objs.size) (o:=.lst []) (t':=s.toks) (h':=s.heap.push {cls:=.type "list",dict:=none,data:=.seq ([]:List Value).toArray}) (fun b o e=>Heap.get?_push_of_some _ e) (Nat.le_refl _) ⟨Nat.zero_le _,[],0,.nil,Heap.get?_push_size _ rfl⟩
  rw[hDd]at this
  exact this
 obtain⟨s3,hs3⟩:∃s3:Shared,s3={s with heap:=s.heap.push {cls:=.type "list",dict:=none,data:=.seq ([]:List Value).toArray}}:=⟨_,rfl⟩
 rw[<-hs3]at I3
 have hs3h:s.heap.push {cls:=.type "list",dict:=none,data:=.seq ([]:List Value).toArray}=s3.heap:=by rw[hs3]
 rw[hs3h]at hns₁ hsb₁⊢
 have hsz:s3.heap.objs.size=D+1:=by rw[<-hs3h,Heap.size_push,hDd]
 have hk3:∀b o,s3.heap.get? b=some o->h₁.get? b=some o:=fun b o e=>hsb₁.extBut b o (Nat.ne_of_lt (Heap.lt_size e)) (Heap.get?_push_of_some _ e)
 have hk:∀b o,s.heap.get? b=some o->s3.heap.get? b=some o:=fun b o e=>by rw[<-hs3h];exact Heap.get?_push_of_some _ e
 have hf3:∀b∈fp,iD X pins (upd H D (.lst [])) b:=fun b hb=>⟨by
  rw[az (Nat.ne_of_lt (hlt b hb))];exact(hf b hb).1,(hf b hb).2⟩
 have hlt3:∀b∈fp,b<s3.heap.objs.size:=fun b hb=>Nat.lt_of_lt_of_le (hlt b hb) (by rw[hsz];exact Nat.le_succ _)
 have N3:Nx X.K env σ H env (upd H D (.lst [])):=Nx.laid S hDn
 generalize hH3:upd H D (.lst [])=H3 at I3 hf3 N3
 have hD3:H3 D=some (.lst []):=by rw[<-hH3];exact aQ
 have noD:∀k,¬aB (List.replicate tgs.length .un++env) (List.replicate tgs.length none++σ) k D:=fun k z=>by
  obtain⟨j,_,o⟩:=gJ z
  obtain⟨_,_,q,_⟩:=S.own o
  rw[hDn]at q;cases q
 have ok':(blk X scope cl (bu tgs X.N) fp s3 H3).Ok:=HW I3 B.sc co hf3 hlt3
 have hns':h₁.Ns s3.heap.objs.size fun _=>none:=by simpa using hns₁
 have fpk:∀{H1:Hp},(∀b∈fp,H1 b=none)->∀b∈fp,iD (blk X scope cl (bu tgs X.N) fp s3 H3) [] H1 b:=fun{H1}hn b hb=>
  ⟨hn b hb,(ok'.exf b hb).1,ok'.exfs b hb,.inl hb,fun x q e=>(ok'.exf b hb).2 x q e,fun p hp=>absurd (show p∈([]:List (Addr×Obj))from hp) (by simp)⟩
 have loop:∀s4:Shared,s4={s with heap:=h₁,toks:=s.toks+([]:List (Str×Value)).length}->
   codeAny (model X.prog X.w) X.A (.compLoop (.ListComp eltE [⟨tgE,iterE,ifs,0⟩] scope pos) 0 (.ref it) (.ref D) (compEnvC scope cl s3.heap.objs.size X.env)) (RR (.ref D) s3.heap.objs.size) s4:=by
  rintro s4 rfl
  have I4:Inv (blk X scope cl (bu tgs X.N) fp s3 H3) [] (List.replicate tgs.length none++σ) H3 {s with heap:=h₁,toks:=s.toks+([]:List (Str×Value)).length}:=by
   have:=MN (t:=s.toks+([]:List (Str×Value)).length) I3 B.sc co hf3 hlt3 hns' hk3
   rw[hs3]at this⊢
   exact this
  refine uB (fun n s'=>∃i acc vs τ1 σ1 H1,n=xs.length-i/\Inv (blk X scope cl (bu tgs X.N) fp s3 H3) [] σ1 H1 s'/\tn i s'.heap/\(∀b∈fp,H1 b=none)/\
   LI X c tg cond elt xs ys τ (List.replicate tgs.length .un++env) σ (List.replicate tgs.length none++σ) H3 D tgs.length i acc vs τ1 σ1 H1) ?_ xs.length ?_
  ·rintro n s1 ⟨i,acc,vs,τ1,σ1,H1,rfl,I1,t1,f1,L⟩
   by_cases hi:i<xs.length
   ·--one more turn
    obtain⟨d,hd⟩:∃d,xs[i]? =some d:=⟨xs[i],by simp[hi]⟩
    have q0:=L.go
    rw[rM hd,aK]at q0
    cases hset:bA tg d τ1 with
    |none=>rw[hset]at q0;cases q0
    |some τ2=>
     rw[hset]at q0
     simp only at q0
     have p1:bU H H1:=N3.pers.trans L.pers
     refine bV (T.item (blk X scope cl (bu tgs X.N) fp s3 H3) rfl rfl rfl hc i [] s1 σ1 H1 _ I1 (fpk f1) t1 (G.go H1 p1 i d hd)) fun r s2⟨u,hr,h2⟩=>?_
     subst hr
     refine bV h2 fun _ s3'⟨x,H2,I2,r2,y2,t2,f2⟩=>?_
     obtain⟨Dx,lay⟩:=G.yld H1 p1 i d hd x H2 y2
     have N2:=L.eY.lay lay
     have D2:H2 D=some (.lst vs):=N2.keep D _ L.cur (L.no noD)
     have I2':=I2.pinned (fpk f2) (T.obj _ _ t2)
     refine bV (B.tgt cl fp s3 H3 ok' _ s3' σ1 H2 x u (fun σ2 H'=>H'=H2/\iJ X.K tg τ1 σ1 τ2 σ2 H2) I2' r2 ⟨τ1,d,τ2,N2.eY,Dx,hset,fun σ2 st=>⟨rfl,st⟩⟩) fun _ s4'⟨σ2,H2',I3',hH,st⟩=>?_
     subst hH
     have ho:σ2.drop tgs.length=σ:=(st.out B.small).trans L.out
     have C2:Ch X.K τ1 σ1 H1 τ2 σ2 H2':=N2.ch.trans st.ch
     have again:∀{s7:Shared}{H7:Hp}{acc':List Mini.D}{vs':List V}{τ7:Ev},Inv (blk X scope cl (bu tgs X.N) fp s3 H3) ([]++lD fp s3'.heap) σ2 H7 s7->
       LI X c tg cond elt xs ys τ (List.replicate tgs.length .un++env) σ (List.replicate tgs.length none++σ) H3 D tgs.length (i+1) acc' vs' τ7 σ2 H7->
       ∃k,k<xs.length-i/\∃i acc vs τ1 σ1 H1,k=xs.length-i/\Inv (blk X scope cl (bu tgs X.N) fp s3 H3) [] σ1 H1 s7/\tn i s7.heap/\(∀b∈fp,H1 b=none)/\
        LI X c tg cond elt xs ys τ (List.replicate tgs.length .un++env) σ (List.replicate tgs.length none++σ) H3 D tgs.length i acc vs τ1 σ1 H1:=fun{s7 H7 acc' vs' τ7}I7 L7=>by
      refine⟨xs.length- (i+1),by omega,i+1,acc',vs',τ7,σ2,H7,rfl,I7.jR,T.keep _ _ _ t2 fun b hb o e=>(I7.pin (b,o) (List.mem_append_right _ (List.mem_append_right _ (ie hb e)))).1,fun b hb=>?_,L7⟩
      obtain⟨o,e,_⟩:=T.obj _ _ t2 b hb
      exact(I7.pin (b,o) (List.mem_append_right _ (List.mem_append_right _ (ie hb e)))).2.1
     obtain⟨xc,dc,bc,τ3,e1,e2,e3,q1⟩:∃xc dc bc τ3,ev c cond τ2=.ok xc τ3/\xc.jz=some dc/\gR dc=some bc/\
       (if bc then(ev c elt τ3).ak fun d σ₃=>aK tg (ev c cond) (ev c elt) (xs.drop (i+1)) (acc++[d]) σ₃ else aK tg (ev c cond) (ev c elt) (xs.drop (i+1)) acc τ3)=.ok ys τ:=by
      cases r:ev c cond τ2 with
      |bad=>rw[r]at q0;cases q0
      |exc k τ3=>rw[r]at q0;cases q0
      |ok xc τ3=>
       rw[r]at q0
       cases xc with
       |ref k=>cases q0
       |tmp zs=>cases q0
       |val dc=>
        simp only[Out.bR,Out.ak]at q0
        cases q:gR dc with
        |none=>rw[q]at q0;cases q0
        |some bc=>rw[q]at q0;exact⟨_,dc,bc,τ3,rfl,rfl,q,q0⟩
       |new zs=>
        simp only[Out.bR,Out.ak]at q0
        cases q:gR zs.d with
        |none=>rw[q]at q0;cases q0
        |some bc=>rw[q]at q0;exact⟨_,zs.d,bc,τ3,rfl,rfl,q,q0⟩
     have after:∀(s5:Shared)(H5:Hp),Inv (blk X scope cl (bu tgs X.N) fp s3 H3) ([]++lD fp s3'.heap) σ2 H5 s5->Nx X.K τ2 σ2 H2' τ3 H5->
       (if bc=true then wpAny (model X.prog X.w) X.A (eval eltE (compEnvC scope cl s3.heap.objs.size X.env)) (fun x s₄=>
        wpAny (model X.prog X.w) X.A (call (.builtin "list.append") [.ref D,x]) (fun _ s₅=>∃m,m<xs.length-i/\∃i acc vs τ1 σ1 H1,m=xs.length-i/\Inv (blk X scope cl (bu tgs X.N) fp s3 H3) [] σ1 H1 s₅/\tn i s₅.heap/\(∀b∈fp,H1 b=none)/\
        LI X c tg cond elt xs ys τ (List.replicate tgs.length .un++env) σ (List.replicate tgs.length none++σ) H3 D tgs.length i acc vs τ1 σ1 H1) (fun _ _=>False) s₄) (fun _ _=>False) s5
       else∃m,m<xs.length-i/\∃i acc vs τ1 σ1 H1,m=xs.length-i/\Inv (blk X scope cl (bu tgs X.N) fp s3 H3) [] σ1 H1 s5/\tn i s5.heap/\(∀b∈fp,H1 b=none)/\
        LI X c tg cond elt xs ys τ (List.replicate tgs.length .un++env) σ (List.replicate tgs.length none++σ) H3 D tgs.length i acc vs τ1 σ1 H1):=fun s5 H5 I5 N5=>by
      have C5:=C2.trans N5.ch
      cases bc with
      |false=>
       rw[if_neg Bool.false_ne_true]at q1⊢
       exact again I5 (L.skip noD C5 hi ho q1)
      |true=>
       rw[if_pos rfl]at q1⊢
       obtain⟨xe,de,τ4,e4,e5,q2⟩:∃xe de τ4,ev c elt τ3=.ok xe τ4/\xe.jz=some de/\aK tg (ev c cond) (ev c elt) (xs.drop (i+1)) (acc++[de]) τ4=.ok ys τ:=by
        cases r:ev c elt τ3 with
        |bad=>rw[r]at q1;cases q1
        |exc k τ3=>rw[r]at q1;cases q1
        |ok xe τ4=>
         rw[r]at q1
         cases xe with
         |ref k=>cases q1
         |tmp zs=>cases q1
         |val de=>exact⟨_,de,τ4,rfl,rfl,q1⟩
         |new zs=>exact⟨_,zs.d,τ4,rfl,rfl,q1⟩
       refine bV ((B.elts cl fp s3 H3 ok').d _ s5 σ2 H5 (fun v H6=>Nx X.K τ3 σ2 H5 τ4 H6/\bh X.K H6 de v) I5 ⟨τ3,N5.eY,?_⟩) fun u s6⟨v,H6,I6,r6,N6,D6⟩=>?_
       ·rw[e4]
        cases xe with
        |ref k=>cases e5
        |tmp zs=>cases e5
        |val d'=>cases e5;exact fun v H' N Dv=>⟨N,Dv⟩
        |new zs=>cases e5;exact fun v H' N Dv=>⟨N,Dv⟩
       ·have C6:=C5.trans N6.ch
        have cur:=C6.keep D _ L.cur (L.no noD)
        have lenv:vs.length<sizeLine:=by
         have h1:=L.den.length
         have h2:=L.acl
         have h3:=G.len
         omega
        refine bV (qW (X:=blk X scope cl (bu tgs X.N) fp s3 H3) _ s6 σ2 H6 (.ref D) [v] (.ref D) [u] (fun _ H7=>H7=upd H6 D (.lst (vs++[v]))) I6 rfl (.cons r6 .nil) ⟨D,vs,v,rfl,rfl,cur,lenv,rfl⟩) fun _ s7⟨_,H7,I7,_,e7⟩=>?_
        subst e7
        exact again I7 (L.push noD C6 hi ho q2 D6)
     rcases B.tests with ⟨ei,ec⟩|⟨ce,ei,hC⟩
     ·subst ei ec
      simp only[v_0,v_1,Wr,v_3,v_4,Wq,v_6,Vh,Wo,Js,sO,DN,DK,Am,JB,QK,Jz,DG,Dz,Jy,Jx,sJ,Jw,QJ,Jv,Ju,Jt,kY]at e1
      cases e1
      cases e2
      cases e3
      exact wpAny_pure (after s4' H2' I3' (Nx.refl st.eY))
     ·subst ei
      refine wpAny_tests_one (bV (hC cl fp s3 H3 ok' _ s4' σ2 H2' (fun k H'=>k=bc/\Nx X.K τ2 σ2 H2' τ3 H') I3' ⟨τ2,st.eY,by rw[e1];exact⟨dc,bc,e2,e3,fun H' N=>⟨rfl,N⟩⟩⟩) fun k s5⟨H5,I5,hk',N5⟩=>?_)
      subst hk'
      exact after s5 H5 I5 N5
   ·--the end
    have e:i=xs.length:=Nat.le_antisymm L.le (Nat.le_of_not_lt hi)
    have q0:=L.go
    rw[e,List.drop_length,aK]at q0
    cases q0
    refine bV (T.done (blk X scope cl (bu tgs X.N) fp s3 H3) rfl rfl rfl hc i [] s1 σ1 H1 _ I1 (fpk f1) t1 (G.stop H1 (N3.pers.trans L.pers) i (by omega))) fun r s2⟨hr,I2⟩=>?_
    subst hr
    obtain⟨m,hm,_⟩:=I2.loc
    have IX:Inv X pins σ H1 s2:=Inv.call' I3 I2.os I2.base I2.hok I2.bare fun b hb=>⟨(hf3 b hb).2.2.2.1,(hf3 b hb).2.1,(hf3 b hb).2.2.2.2.1,(hf3 b hb).2.2.2.2.2⟩
    refine hRR D s3.heap.objs.size s2 H1 vs m IX ⟨?_,fun k a z=>?_,N3.pers.trans L.pers,fun b ws z w=>?_,fun b z=>N3.dom b (L.dom b z),fun k ws z=>?_⟩ L.cur L.den hDn hm (I3.yg (Nat.le_refl _) I2.free)
    ·have:=L.eY.drop (nl:=tgs.length)
     rw[L.out]at this
     exact this
    ·have z':aB (τ.drop tgs.length) (σ1.drop tgs.length) k a:=by rw[L.out];exact z
     obtain⟨j,ej,o⟩:=gJ (L.sub _ a (oK.mp z'))
     have:k=j:=by omega
     subst this
     exact o
    ·refine L.keep b ws (N3.keep b ws z w) (fun q=>?_) fun k o=>?_
     ·subst q;rw[hDn]at z;cases z
     ·obtain⟨j,_,o'⟩:=gJ o
      exact w j o'
    ·obtain⟨ws',q⟩:=L.bors (tgs.length+k) ws (by rw[List.getElem?_append_right (by simp)];simpa using z)
     exact⟨ws',by rw[List.getElem?_drop];exact q⟩
  ·refine⟨0,[],[],_,_,H3,rfl,I4,T.keep _ _ _ t0 fun b _ o e=>hk3 b o (hk b o e),fun b hb=>(hf3 b hb).1,⟨Nat.zero_le _,hgo,N3.eY.front _,by simp,Nat.le_refl _,hD3,ao.jc,fun _ _ z=>z,bU.refl _,fun _ _ z _ _=>z,fun _ z=>z,fun _ ws z=>⟨ws,z⟩⟩⟩
 exact codeAny_compStart_list (loop _ rfl) (T.self _ 0 _ _ _ (T.keep _ _ _ t0 fun b _ o e=>hk3 b o (hk b o e)) (loop _ rfl))
end Mini
end
section
namespace Mini
open PySem L2
section
variable{X:Cx}{W:Wi}{c:Cf}{m m1 m2 m3:E}{e a b:Expr}{es:List Expr}{pos:Pos}
def dO:Cm->CmpOp
 |.eq=>.Eq
 |.ne=>.NotEq
 |.lt=>.Lt
 |.le=>.LtE
 |.gt=>.Gt
 |.ge=>.GtE
 |.isin=>.In
 |.notin=>.NotIn
 |.je=>.Is
 |.notN=>.IsNot
def gC(X:Cx)(op:CmpOp)(f:D->D->Option Bool):Prop:=
 ∃r,fB X (compareOp op) r/\∀(H:Hp)(x y:D)(k:Bool)(v u:V)(Q:VK),bh X.K H x v->dF X.K H y u->f x y=some k->Q (.bl k) H->r v u H Q
theorem dF.int{K:PySem.W.Frag}{H:Hp}{i:Int}{v:V}(h:dF K H (.int i) v):v=.int i:=by
 rcases h with h|⟨o,a,q,_⟩
 ·exact h
 ·cases o<;>cases q
theorem xn{op:CmpOp}{g:Int->Int->Bool}{f:D->D->Option Bool}(ho:fB X (compareOp op) (Fo fun i j=>.bl (g i j)))(hf:∀x y k,f x y=some k->∃i j,x=.int i/\y=.int j/\k=g i j):gC X op f:=
 ⟨_,ho,fun H x y k v u Q Dx Dy e q=>by
  obtain⟨i,j,rfl,rfl,rfl⟩:=hf x y k e
  exact⟨i,j,Dx,Dy.int,q⟩⟩
theorem XC(hu:X.A.units+60<cLine):gC X .Eq (aC .eq):=⟨_,R3 hu,fun H x y k v u Q Dx Dy e q=>by
 unfold aC at e;dsimp only at e
 split at e
 ·rename_i h;cases e;exact⟨x,y,.inl Dx,Dy,h,q⟩
 ·cases e⟩
theorem Xu(hu:X.A.units+60<cLine):gC X .NotEq (aC .ne):=⟨_,RT hu,fun H x y k v u Q Dx Dy e q=>by
 unfold aC at e;dsimp only at e
 split at e
 ·rename_i h;cases e;exact⟨x,y,.inl Dx,Dy,h,q⟩
 ·cases e⟩
theorem Xw:gC X .LtE (aC .le):=xn Yg fun x y k e=>by
 cases x<;>cases y<;>(unfold aC at e;simp at e)
 exact⟨_,_,rfl,rfl,e.symm⟩
theorem Xz:gC X .GtE (aC .ge):=xn Yi fun x y k e=>by
 cases x<;>cases y<;>(unfold aC at e;simp at e)
 exact⟨_,_,rfl,rfl,e.symm⟩
theorem dF.JT{K:PySem.W.Frag}{H:Hp}{xs:List D}{v:V}(h:dF K H (.tup xs) v):Iw K H xs v:=by
 rcases h with h|⟨o,a,q,_⟩
 ·obtain⟨a,vs,rfl,hq,l⟩:=bQ h
  exact⟨a,vs,rfl,.inr hq,l⟩
 ·cases o<;>cases q
theorem dF.Eu{K:PySem.W.Frag}{H:Hp}{xs:List D}{v:V}(h:dF K H (.lst xs) v):Iw K H xs v:=by
 rcases h with h|⟨o,a,q,rfl,u,ha,hq⟩
 ·obtain⟨a,vs,rfl,hq,l⟩:=cP h
  exact⟨a,vs,rfl,.inl hq.sq,l⟩
 ·cases o<;>cases q
  obtain⟨vs,rfl,l⟩:=hq
  exact⟨a,vs,rfl,.inl (.inl (.inl ha)),l⟩
theorem dF.str{K:PySem.W.Frag}{H:Hp}{x:Str}{v:V}(h:dF K H (.str x) v):v=.str x:=by
 rcases h with h|⟨o,a,q,_⟩
 ·exact h
 ·cases o<;>cases q
theorem G9(x y:Str)(h:x.length=1):(!(Builtin.Str.occurrences y x 0 y.length 1).isEmpty)=cV (.str x) (signs y):=by
 obtain⟨cps⟩:=x
 obtain⟨l⟩:=cps
 have hl:l.length=1:=h
 match l,hl with
 |[k],_=>
  have:=PySem.StrLaws.found_one y k
  rw[this]
  unfold signs
  generalize y.cps.toList=cs
  induction cs with
  |nil=>rfl
  |cons z zs ih=>
   rw[List.map_cons]
   show decide (k∈z::zs)=(bZ (.str ⟨#[z]⟩) (.str ⟨#[k]⟩)||cV (.str ⟨#[k]⟩) (zs.map fun c=>.str ⟨#[c]⟩))
   rw[<-ih]
   have e:bZ (.str ⟨#[z]⟩) (.str ⟨#[k]⟩)=decide (k=z):=by
    simp only[bZ]
    by_cases q:k=z
    ·subst q;simp
    ·have q':¬z=k:=fun e=>q e.symm
     simp[q,q']
   rw[e]
   by_cases q:k=z
   ·simp[q]
   ·simp[q]
theorem kW{kvs:List (Key×V)}(k:Key):(iZ kvs k).isSome=cV (cH k) (kvs.map fun p=>cH p.1):=by
 induction kvs with
 |nil=>rfl
 |cons p r ih=>
  obtain⟨k',v⟩:=p
  show _=(bZ (cH k') (cH k)||cV (cH k) (r.map fun p=>cH p.1))
  rw[<-ih]
  have e:bZ (cH k') (cH k)=decide (k'=k):=by
   cases k'<;>cases k<;>simp[cH,bZ,Bool.beq_eq_decide_eq]
  rw[e]
  by_cases q:k'=k
  ·subst q;simp[iW]
  ·simp[q,iY]
theorem gK{x:D}(h:keyOk x=true):∃k:Key,x=cH k:=by
 cases x<;>simp[keyOk]at h
 ·exact⟨.inl _,rfl⟩
 ·exact⟨.inr _,rfl⟩
theorem j9{K:PySem.W.Frag}{H:Hp}{k:Key}{v:V}(h:bh K H (cH k) v):v=kV k:=by
 cases k<;>exact h
def Fj(neg:Bool):R2:=fun x y H Q=>∃a k kvs,y=.ref a/\x=kV k/\Rd H a (.dK kvs)/\Q (.bl (if neg then !(iZ kvs k).isSome else(iZ kvs k).isSome)) H
theorem Gf(hu:X.A.units+1<cLine):fB X (compareOp .In) (Fj false):=by
 intro pins s σ H x y v u Q I rx ry h
 obtain⟨a,k,kvs,rfl,rfl,hd,q⟩:=h
 cases ry
 exact adc hu I (.inl ⟨kvs,k,hd,rfl,rfl⟩) rx fun s3 I3=>⟨.bl _,H,I3,rfl,q⟩
theorem vJ(hu:X.A.units+1<cLine):fB X (compareOp .NotIn) (Fj true):=by
 intro pins s σ H x y v u Q I rx ry h
 obtain⟨a,k,kvs,rfl,rfl,hd,q⟩:=h
 cases ry
 exact My hu I (.inl ⟨kvs,k,hd,rfl,rfl⟩) rx fun s3 I3=>⟨.bl _,H,I3,rfl,q⟩
theorem uy{K:PySem.W.Frag}{H:Hp}{ks ds:List D}{v:V}(h:dF K H (.dG ks ds) v):∃a kvs,v=.ref a/\Rd H a (.dK kvs)/\ks=kvs.map (fun p=>cH p.1)/\ao K H ds (kvs.map (·.2)):=by
 rcases h with h|⟨o,a,q,rfl,u,ha,hq⟩
 ·unfold bh at h;obtain⟨a,o,kvs,e,r,k⟩:=h;exact⟨a,kvs,e,.inr ⟨o,r⟩,k⟩
 ·cases o<;>cases q
  obtain⟨kvs,rfl,k,l⟩:=hq
  exact⟨a,kvs,rfl,.inl ha,k,l⟩
theorem Xx(hu:X.A.units+60<cLine):gC X .In (aC .isin):=
 ⟨_,(R0 hu).or ((Gf (by omega)).or Bq),fun H x y k v u Q Dx Dy e q=>by
  cases y with
  |tup xs=>
   unfold aC at e;dsimp only at e
   split at e
   ·rename_i h;cases e;exact .inl ⟨x,xs,Dx,Dy.JT,h,q⟩
   ·cases e
  |lst xs=>
   unfold aC at e;dsimp only at e
   split at e
   ·rename_i h;cases e;exact .inl ⟨x,xs,Dx,Dy.Eu,h,q⟩
   ·cases e
  |dG ks vs=>
   unfold aC at e;dsimp only at e
   split at e
   ·rename_i h
    cases e
    obtain⟨k,rfl⟩:=gK h
    obtain⟨a,kvs,rfl,ha,rfl,l⟩:=uy Dy
    exact .inr (.inl ⟨a,k,kvs,rfl,j9 Dx,ha,by simpa[kW]using q⟩)
   ·cases e
  |str y=>
   cases x with
   |str x=>
    unfold aC at e;dsimp only at e
    split at e
    ·rename_i h;cases e;exact .inr (.inr ⟨x,y,Dx,Dy.str,by rw[G9 x y h];exact q⟩)
    ·cases e
   |_=>unfold aC at e;simp at e
  |_=>unfold aC at e;simp at e⟩
theorem Fe(hu:X.A.units+60<cLine):gC X .NotIn (aC .notin):=
 ⟨_,(Bp hu).or (vJ (by omega)),fun H x y k v u Q Dx Dy e q=>by
  cases y with
  |tup xs=>
   unfold aC at e;dsimp only at e
   split at e
   ·rename_i h;cases e;exact .inl ⟨x,xs,Dx,Dy.JT,h,q⟩
   ·cases e
  |lst xs=>
   unfold aC at e;dsimp only at e
   split at e
   ·rename_i h;cases e;exact .inl ⟨x,xs,Dx,Dy.Eu,h,q⟩
   ·cases e
  |dG ks vs=>
   unfold aC at e;dsimp only at e
   split at e
   ·rename_i h
    cases e
    obtain⟨k,rfl⟩:=gK h
    obtain⟨a,kvs,rfl,ha,rfl,l⟩:=uy Dy
    exact .inr ⟨a,k,kvs,rfl,j9 Dx,ha,by simpa[kW]using q⟩
   ·cases e
  |_=>unfold aC at e;simp at e⟩
end
section
open PySem.SeqAt
open PySem.AutoSeq1 (wpAny_loadPart')
open PySem.MeetsSeq PySem.MeetsSeq2 PySem.MeetsSeq3
inductive BoolsAre:List Value->List Bool->Prop
 |nil:BoolsAre [] []
 |cons (b:Bool) {vs:List Value} {bs:List Bool}:BoolsAre vs bs->BoolsAre (.bool b::vs) (b::bs)
theorem BoolsAre.length{vs:List Value}{bs:List Bool}(h:BoolsAre vs bs):vs.length=bs.length:=by
 induction h with
 |nil=>rfl
 |cons b _ ih=>simp[ih]
theorem rz(x y:Bool)(xs ys:List Bool):iK (x::xs) (y::ys)=if x=y then iK xs ys else(!x&&y):=rfl
theorem zx:iK [] []=false:=rfl
theorem zy(y:Bool)(ys:List Bool):iK [] (y::ys)=true:=rfl
theorem zA(x:Bool)(xs:List Bool):iK (x::xs) []=false:=rfl
theorem qP(A:Around)(s:Shared)(a c:Bool)(prog:Program)(w:World)(E:Value->Shared->Prop)(Q:Value->Shared->Prop)(h:Q (.bool (!a&&c)) s):
  wpAny (model prog w) A (richCompare .Lt (.bool a) (.bool c)) Q E s:=
 (PyProof.Rows.lt_bool (by cases a<;>cases c<;>exact h):wpAny (model prog w) A (compareOp .Lt (.bool a) (.bool c)) Q E s)
theorem nM(l b:Addr)(items items2:Array Value)(n n2:Nat)(dd dd2:Option Addr)(sl sl2:Array (Option Value))(ns ms:List Bool)(hi:BoolsAre items.toList ns)(hj:BoolsAre items2.toList ms):
  Meets (Builtin.«tuple.__lt__» ⟨[.ref l,.ref b],[]⟩)
   (fun _ R s=>s.heap.get? l=some {cls:=.type "tuple",dict:=dd,data:=.seq items n,slots:=sl}/\s.heap.get? b=some {cls:=.type "tuple",dict:=dd2,data:=.seq items2 n2,slots:=sl2}/\
    R (.ok (.ret (.bool (iK ns ms)))) s):=
 .of_wp fun prog w A R s h=>by
  obtain⟨hp,g,d,tk,os⟩:=s;obtain⟨hl,hb,h⟩:=h
  have f2:=AutoSeq1.sub_tuple_tuple
  have z1:items.size=ns.length:=by rw[<-hi.length];simp
  have z2:items2.size=ms.length:=by rw[<-hj.length];simp
  wp_walk using wpAny_loadPart' hl,wpAny_loadPart' hb,wpAny_forIn_list _ (fun rest b s'=>b.1=none/\s'=⟨hp,g,d,tk,os⟩/\∃(vs ws:List Value)(ns' ms':List Bool),rest=vs.zip ws/\
   BoolsAre vs ns'/\BoolsAre ws ms'/\ns'.length+items2.size=ms'.length+items.size/\R (.ok (.ret (.bool (iK ns' ms')))) ⟨hp,g,d,tk,os⟩) _
  case turn=>
   rintro ⟨y,x⟩ rest b s' ⟨hb',rfl,vs,ws,ns',ms',hz,hvi,hwi,hlen,hR⟩
   cases hvi with
   |nil=>rw[List.zip_nil_left]at hz;cases hz
   |cons a hvi'=>
    cases hwi with
    |nil=>rw[List.zip_nil_right]at hz;cases hz
    |cons c hwi'=>
     rw[List.zip_cons_cons]at hz
     injection hz with hyx hrest
     injection hyx with hy hx
     subst hy hx
     rw[rz]at hR
     simp only[List.length_cons]at hlen
     have he:=SeqAt.EqAt.bool_bool (A:=A.in1) (s:=⟨hp,g,d,tk,os⟩) a c
     refine wpAny_bind (he prog w _ _ ?_)
     by_cases hac:a=c
     ·subst hac
      rw[if_pos rfl]at hR
      rw[beq_self_eq_true]
      wp_walk
      exact⟨rfl,rfl,_,_,_,_,hrest,hvi',hwi',by omega,hR⟩
     ·rw[if_neg hac]at hR
      rw[beq_eq_false_iff_ne.mpr hac]
      have hri:=qP A.in1 ⟨hp,g,d,tk,os⟩ a c prog w
      wp_walk using hri
      exact⟨_,rfl,by simpa using hR⟩
  case fin=>
   rintro ⟨b1,b2⟩ s' ⟨hb',rfl,vs,ws,ns',ms',hz,hvi,hwi,hlen,hR⟩
   simp only at hb'
   subst hb'
   have hv:iK ns' ms'=decide (items.size<items2.size):=by
    cases hvi with
    |nil=>
     cases hwi with
     |nil=>
      simp only[List.length_nil]at hlen
      rw[zx]
      exact(decide_eq_false (by omega)).symm
     |cons c hw=>
      simp only[List.length_nil,List.length_cons]at hlen
      rw[zy]
      exact(decide_eq_true (by omega)).symm
    |cons a hv=>
     cases hwi with
     |nil=>
      simp only[List.length_nil,List.length_cons]at hlen
      rw[zA]
      exact(decide_eq_false (by omega)).symm
     |cons c hw=>
      rw[List.zip_cons_cons]at hz
      cases hz
   rw[hv]at hR
   wp_walk
   exact⟨_,rfl,by simpa[Builtin.Tuple.tupleCompareSizes]using hR⟩
  case h=>
   exact⟨rfl,rfl,items.toList,items2.toList,ns,ms,rfl,hi,hj,by omega,h⟩
end
end Mini
end
section
namespace Mini
open PySem L2
theorem fJ{K:PySem.W.Frag}{H:Hp}:∀{ds:List D}{vs:List V}{us:List Value}{bs:List Bool},bools ds=some bs->ao K H ds vs->Vals vs us->BoolsAre us bs
 |[],vs,us,bs,e,l,r=>by
  cases e
  rw[ao.bj.mp l]at r
  cases r
  exact .nil
 |d::ds,vs,us,bs,e,l,r=>by
  obtain⟨v,w,rfl,h1,h2⟩:=ao.aW.mp l
  cases d with
  |bl b=>
   simp only[bools,Option.map_eq_some_iff]at e
   obtain⟨bs',e1,rfl⟩:=e
   cases h1
   cases r with
   |cons r1 r2=>cases r1;exact .cons b (fJ e1 h2 r2)
  |_=>cases e
section
variable{X:Cx}{W:Wi}{c:Cf}{m m1 m2 m3:E}{e a b:Expr}{es:List Expr}{pos:Pos}
def ab9(K:PySem.W.Frag):R2:=fun x y H Q=>∃xs ys bs cs,bh K H (.tup xs) x/\bh K H (.tup ys) y/\bools xs=some bs/\bools ys=some cs/\Q (.bl (iK bs cs)) H
theorem RX(hu:X.A.units<cLine):fB X (compareOp .Lt) (ab9 X.K):=by
 intro pins s σ H x y v u Q I rx ry h
 obtain⟨xs,ys,bs,cs,Dx,Dy,e1,e2,q⟩:=h
 obtain⟨a,vs,rfl,ha,la⟩:=bQ Dx
 obtain⟨b,ws,rfl,hb,lb⟩:=bQ Dy
 cases rx
 cases ry
 obtain⟨its,r1,p1,_⟩:=I.tuple ha
 obtain⟨its2,r2,p2,_⟩:=I.tuple hb
 obtain⟨⟨cls,dd,data,sl⟩,ho,hc,n,hd⟩:=id p1
 obtain⟨⟨cls2,dd2,data2,sl2⟩,ho2,hc2,n2,hd2⟩:=id p2
 simp only at hc hd hc2 hd2
 subst hc hd hc2 hd2
 exact richCompare_meets_room (op:=.Lt) ⟨_,ho,rfl⟩ ⟨_,ho2,rfl⟩ PySem.F.slot_tuple_lt PySem.F.entry_tuple_lt (PySem.F.args_tuple_lt_2 _ _)
  (nM a b its.toArray its2.toArray n n2 dd dd2 sl sl2 bs cs (by simpa using fJ e1 la r1) (by simpa using fJ e2 lb r2))
  ⟨ho,ho2,show Value.bool (iK bs cs)≠Value.notImplemented/\EP X pins σ Q (.bool (iK bs cs)) s from⟨(fun x=>nomatch x),⟨.bl _,H,I,rfl,q⟩⟩⟩ hu
theorem dF.tup{K:PySem.W.Frag}{H:Hp}{xs:List D}{v:V}(h:dF K H (.tup xs) v):bh K H (.tup xs) v:=by
 rcases h with h|⟨o,a,q,_⟩
 ·exact h
 ·cases o<;>cases q
theorem Xv(hu:X.A.units+60<cLine):gC X .Lt (aC .lt):=
 ⟨_,Ye.or (RX (by omega)),fun H x y k v u Q Dx Dy e q=>by
  cases x with
  |int i=>
   cases y with
   |int j=>cases e;exact .inl ⟨i,j,Dx,Dy.int,q⟩
   |_=>cases e
  |tup xs=>
   cases y with
   |tup ys=>
    unfold aC at e;dsimp only[ltD]at e
    cases e1:bools xs with
    |none=>rw[e1]at e;cases e
    |some bs=>
     cases e2:bools ys with
     |none=>rw[e1,e2]at e;cases e
     |some cs=>
      rw[e1,e2]at e
      cases e
      exact .inr ⟨xs,ys,bs,cs,Dx,Dy.tup,e1,e2,q⟩
   |_=>cases e
  |_=>cases y<;>cases e⟩
theorem Xy:gC X .Gt (aC .gt):=xn Yh fun x y k e=>by
 cases x<;>cases y<;>(unfold aC at e;simp at e)
 exact⟨_,_,rfl,rfl,e.symm⟩
theorem zX{K:PySem.W.Frag}{H:Hp}{d:D}{v:V}(h:bh K H d v):decide (v=.non)=o8 d:=by
 cases d<;>unfold bh at h<;>first
  |(obtain⟨a,_,rfl,_⟩:=h;rfl)
  |(obtain⟨a,_,_,rfl,_⟩:=h;rfl)
  |(subst h;rfl)
theorem Rk:gC X .Is (aC .je):=⟨_,RZ,fun H x y k v u Q Dx Dy e q=>by
 cases y<;>(unfold aC at e;dsimp only at e;cases e)
 rcases Dy with h|⟨o,a,z,_⟩
 ·exact⟨h,by rw[zX Dx];exact q⟩
 ·cases o<;>cases z⟩
theorem Kc:gC X .IsNot (aC .notN):=⟨_,KZ,fun H x y k v u Q Dx Dy e q=>by
 cases y<;>(unfold aC at e;dsimp only at e;cases e)
 rcases Dy with h|⟨o,a,z,_⟩
 ·exact⟨h,by rw[zX Dx];exact q⟩
 ·cases o<;>cases z⟩
theorem lB(hu:X.A.units+60<cLine)(o:Cm):gC X (dO o) (aC o):=by
 cases o with
 |eq=>exact XC hu
 |ne=>exact Xu hu
 |lt=>exact Xv hu
 |le=>exact Xw
 |gt=>exact Xy
 |ge=>exact Xz
 |isin=>exact Xx hu
 |notin=>exact Fe hu
 |je=>exact Rk
 |notN=>exact Kc
theorem eU{K:PySem.W.Frag}{env:Ev}{σ:St}{H:Hp}{k:Nat}{d:D}(S:Sat K env σ H)(h:aO k env=some d):∃v,σ[k]? =some (some v)/\dF K H d v:=by
 unfold aO at h
 cases e:env[k]? with
 |none=>rw[e]at h;cases h
 |some s=>
  rw[e]at h
  have q:=S.sl k s e
  cases s with
  |un=>cases h
  |val d'=>cases h;obtain⟨v,e1,e2⟩:=q;exact⟨v,bJ e1,.inl e2⟩
  |own xs=>cases h;obtain⟨a,e1,e2⟩:=q;exact⟨.ref a,bJ e1,.inr ⟨xs,a,rfl,rfl,e2⟩⟩
  |bor xs=>cases h;obtain⟨a,e1,e2⟩:=q;exact⟨.ref a,bJ e1,.inr ⟨xs,a,rfl,rfl,e2⟩⟩
structure fZ(X:Cx)(i:Nat)(x:Str):Prop where
 at_:X.N[i]? =some x
 vis:UW X.env.scope x
 nd:(x==("__debug__":Str))=false
 nc:(x==("__classdict__":Str))=false
theorem fZ.pe{i:Nat}{x:Str}(h:fZ X i x):PE X (.Name x pos) (Av i):=xK h.at_ h.vis h.nd h.nc
theorem fZ.ge{i:Nat}{x:Str}(h:fZ X i x):GE X W c (.var i) (.Name x pos):=T6 h.at_ h.vis h.nd h.nc
theorem z9{o:Cm}(R:gC X (dO o) (aC o))(hb:GE X W c m2 b)(hv:∀k,m2.au=some k->∃x p,b=.Name x p/\fZ X k x):
  ∃r tb,fB X (compareOp (dO o)) r/\PE X b tb/\∀env σ H Q,tM X.K W env (ev c (.cmp o m1 m2) env) σ H Q->Vm r (aD X W c m1) tb σ H Q:=by
 obtain⟨r,ho,rule⟩:=R
 cases q:m2.au with
 |some k=>
  obtain⟨x,p,rfl,nm⟩:=hv k q
  refine⟨r,Av k,ho,nm.pe,fun env σ H Q h=>?_⟩
  simp only[Vh,q]at h
  refine⟨env,aR h fun d env1 v H1 N1 D1 h1=>?_⟩
  obtain⟨z,ez,S,q3⟩:=cL h1
  cases e1:aO k env1 with
  |none=>rw[e1]at ez;cases ez
  |some d2=>
   rw[e1]at ez
   simp only[Option.bind]at ez
   obtain⟨u,eu,D2⟩:=eU S e1
   cases e2:aC o d d2 with
   |none=>rw[e2]at ez;cases ez
   |some k2=>
    rw[e2]at ez
    cases ez
    exact⟨u,eu,rule H1 d d2 k2 v u Q D1 D2 e2 (q3 _ H1 (Nx.refl S) rfl)⟩
 |none=>
  refine⟨r,aD X W c m2,ho,hb.d,fun env σ H Q h=>?_⟩
  simp only[Vh,q]at h
  refine⟨env,aR h fun d env1 v H1 N1 D1 h1=>⟨env1,aR h1 fun d2 env2 u H2 N2 D2 h2=>?_⟩⟩
  obtain⟨z,ez,S,q3⟩:=cL h2
  cases e2:aC o d d2 with
  |none=>rw[e2]at ez;cases ez
  |some k2=>
   rw[e2]at ez
   cases ez
   exact rule H2 d d2 k2 v u Q (D1.mono N2.pers) (.inl D2) e2 (q3 _ H2 (Nx.refl S) rfl)
theorem Ul{o:Cm}(R:gC X (dO o) (aC o))(ha:GE X W c m1 a)(hb:GE X W c m2 b)(hv:∀k,m2.au=some k->∃x p,b=.Name x p/\fZ X k x)
  (hm:behindInMarks (dO o) b=false):GE X W c (.cmp o m1 m2) (.Compare a [dO o] [b] pos):=by
 intro env
 obtain⟨r,tb,ho,pb,imp⟩:=z9 (m1:=m1) R hb hv
 exact PE.imp (KJ ho ha.d pb hm) fun σ H Q h=>imp env σ H Q h
theorem uW{K:PySem.W.Frag}{env:Ev}{r:Out Rv}{σ:St}{H:Hp}{Q:Bool->Hp->Prop}(h:tT K W env r σ H Q)(hb:∀x env',r=.ok x env'->∃b,x=.val (.bl b)):
  tM K W env r σ H (fun v H'=>∃k,v=.bl k/\Q k H'):=by
 obtain⟨S,h⟩:=h
 refine⟨S,?_⟩
 cases r with
 |bad=>exact h
 |exc c env1=>exact h
 |ok x env1=>
  obtain⟨b,rfl⟩:=hb x env1 rfl
  obtain⟨d,k,e1,e2,q⟩:=h
  cases e1
  cases e2
  exact fun v H' N z=>⟨b,z,q H' N⟩
theorem jq{env env':Ev}{o:Option Bool}{x:Rv}(h:lift env (o.map fun q=>Rv.val (.bl q))=.ok x env'):∃b,x=.val (.bl b):=by
 cases o with
 |none=>cases h
 |some b=>cases h;exact⟨b,rfl⟩
theorem wy{o:Cm}{env env':Ev}{x:Rv}(h:ev c (.cmp o m1 m2) env=.ok x env'):∃b,x=.val (.bl b):=by
 simp only[Vh]at h
 cases r:ev c m1 env with
 |bad=>rw[r]at h;cases h
 |exc k env1=>rw[r]at h;cases h
 |ok x1 env1=>
  rw[r]at h
  have go:∀d,(match m2.au with
    |some k=>lift env1 ((aO k env1).bind fun d'=>(aC o d d').map fun q=>Rv.val (.bl q))
    |none=>(ev c m2 env1).ak fun y σ=>lift σ ((aC o d y).map fun q=>Rv.val (.bl q)))=.ok x env'->∃b,x=.val (.bl b):=fun d h=>by
   cases q:m2.au with
   |some k=>
    simp only[q]at h
    cases e:aO k env1 with
    |none=>simp only[e,Option.bind]at h;cases h
    |some d'=>simp only[e,Option.bind]at h;exact jq h
   |none=>
    simp only[q]at h
    cases r2:ev c m2 env1 with
    |bad=>rw[r2]at h;cases h
    |exc k env2=>rw[r2]at h;cases h
    |ok x2 env2=>
     rw[r2]at h
     cases x2 with
     |val d2=>exact jq h
     |new xs=>exact jq h
     |ref i=>cases h
     |tmp xs=>cases h
  cases x1 with
  |val d=>exact go d h
  |new xs=>exact go xs.d h
  |ref i=>cases h
  |tmp xs=>cases h
theorem TJ{o:Cm}(R:gC X (dO o) (aC o))(ha:GE X W c m1 a)(hb:GE X W c m2 b)(hv:∀k,m2.au=some k->∃x p,b=.Name x p/\fZ X k x)
  (hm:behindInMarks (dO o) b=false):GT X W c (.cmp o m1 m2) (.Compare a [dO o] [b] pos):=by
 obtain⟨r,tb,ho,pb,imp⟩:=z9 (m1:=m1) R hb hv
 exact PT.imp (Km ho ha.d pb hm) fun σ H Q⟨env,h⟩=>imp env σ H _ (uW h fun x env' e=>wy e)
theorem rQ{o₁ o₂:Cm}(R1:gC X (dO o₁) (aC o₁))(R2:gC X (dO o₂) (aC o₂)):
  ∃r r',fB X (compareOp (dO o₁)) r/\fB X (compareOp (dO o₂)) r'/\∀env σ H Q,tM X.K W env (ev c (.chain o₁ o₂ m1 m2 m3) env) σ H Q->wW r r' (aD X W c m1) (aD X W c m2) (aD X W c m3) σ H Q:=by
 obtain⟨r,ho,rule⟩:=R1
 obtain⟨r',ho',rule'⟩:=R2
 refine⟨r,r',ho,ho',fun env σ H Q h=>?_⟩
 simp only[Wo]at h
 refine⟨env,aR h fun d env1 v H1 N1 D1 h1=>⟨env1,aR h1 fun d2 env2 u H2 N2 D2 h2=>?_⟩⟩
 cases e2:aC o₁ d d2 with
 |none=>rw[e2]at h2;exact h2.2.elim
 |some k=>
  rw[e2]at h2
  simp only[lift,Out.bind]at h2
  refine rule H2 d d2 k v u _ (D1.mono N2.pers) (.inl D2) e2 ⟨k,rfl,?_⟩
  cases k with
  |false=>
   rw[if_neg Bool.false_ne_true]at h2⊢
   exact dI h2 rfl
  |true=>
   rw[if_pos rfl]at h2⊢
   refine⟨env2,aR h2 fun d3 env3 w H3 N3 D3 h3=>?_⟩
   obtain⟨z,ez,S,q3⟩:=cL h3
   cases e3:aC o₂ d2 d3 with
   |none=>rw[e3]at ez;cases ez
   |some k2=>
    rw[e3]at ez
    cases ez
    exact rule' H3 d2 d3 k2 u w Q (D2.mono N3.pers) (.inl D3) e3 (q3 _ H3 (Nx.refl S) rfl)
theorem qt{o₁ o₂:Cm}{env env':Ev}{x:Rv}(h:ev c (.chain o₁ o₂ m1 m2 m3) env=.ok x env'):∃b,x=.val (.bl b):=by
 have val:∀{r:Out Rv}{f:D->Ev->Out Rv},r.ak f=.ok x env'->∃d σ,f d σ=.ok x env':=fun{r f}q=>by
  cases r with
  |bad=>cases q
  |exc k e1=>cases q
  |ok y e1=>
   cases y with
   |val d=>exact⟨d,e1,q⟩
   |new xs=>exact⟨_,e1,q⟩
   |ref i=>cases q
   |tmp xs=>cases q
 simp only[Wo]at h
 obtain⟨d1,σ1,h⟩:=val h
 obtain⟨d2,σ2,h⟩:=val h
 cases e:aC o₁ d1 d2 with
 |none=>rw[e]at h;cases h
 |some k=>
  rw[e]at h
  simp only[lift,Out.bind]at h
  cases k with
  |false=>cases h;exact⟨false,rfl⟩
  |true=>
   rw[if_pos rfl]at h
   obtain⟨d3,σ3,h⟩:=val h
   exact jq h
theorem Hl{o₁ o₂:Cm}{d:Expr}(R1:gC X (dO o₁) (aC o₁))(R2:gC X (dO o₂) (aC o₂))(ha:GE X W c m1 a)(hb:GE X W c m2 b)(hd:GE X W c m3 d)(hm:lastMarks [dO o₁,dO o₂] [b,d]=false):
  GE X W c (.chain o₁ o₂ m1 m2 m3) (.Compare a [dO o₁,dO o₂] [b,d] pos):=by
 obtain⟨r,r',ho,ho',imp⟩:=rQ (W:=W) (c:=c) (m1:=m1) (m2:=m2) (m3:=m3) R1 R2
 exact fun env=>PE.imp (Gd ho ho' ha.d hb.d hd.d hm) fun σ H Q h=>imp env σ H Q h
theorem Hd{o₁ o₂:Cm}{d:Expr}(R1:gC X (dO o₁) (aC o₁))(R2:gC X (dO o₂) (aC o₂))(ha:GE X W c m1 a)(hb:GE X W c m2 b)(hd:GE X W c m3 d)(hm:lastMarks [dO o₁,dO o₂] [b,d]=false):
  GT X W c (.chain o₁ o₂ m1 m2 m3) (.Compare a [dO o₁,dO o₂] [b,d] pos):=by
 obtain⟨r,r',ho,ho',imp⟩:=rQ (W:=W) (c:=c) (m1:=m1) (m2:=m2) (m3:=m3) R1 R2
 exact PT.imp (Fv ho ho' ha.d hb.d hd.d hm) fun σ H Q⟨env,h⟩=>imp env σ H _ (uW h fun x env' e=>qt e)
def WR(K:PySem.W.Frag)(ta:TE):TE:=fun σ H Q=>ta σ H fun x H1=>∃k,Iu K x H1 k/\Q (.bl (!k)) H1
theorem KC{ta:TE}(ha:PE X a ta):PE X (.UnaryOp .Not a pos) (WR X.K ta):=by
 intro pins s σ H Q I h
 refine PyProof.Rows.UnaryOp_ (bV (ha pins s σ H _ I h) fun v s1⟨x,H1,I1,r1,k,t,q1⟩=>?_)
 exact PyProof.Rows.not_of (bV (Ea pins s1 σ H1 x v (fun b H'=>Q (.bl (!b)) H') I1 r1 ⟨k,t,q1⟩) fun b s2⟨H2,I2,q2⟩=>⟨.bl (!b),H2,I2,rfl,q2⟩)
theorem Ud(ha:GE X W c m1 a):GE X W c (.not m1) (.UnaryOp .Not a pos):=fun env=>
 PE.imp (KC ha.d) fun σ H Q q=>⟨env,vf (uZ (f:=fun b σ=>.ok (.val (.bl (!b))) σ) (R:=fun k H1=>Q (.bl (!k)) H1) (by simpa only[DN]using q) fun k env1 H1 N q1=>dI (d:=.bl (!k)) q1 rfl)⟩
theorem Tz(ha:GT X W c m1 a):GT X W c (.not m1) (.UnaryOp .Not a pos):=by
 refine PT.imp (Rw ha) fun σ H Q⟨env,q⟩=>⟨env,q.1,?_⟩
 have q2:=q.2
 simp only[DN]at q2
 cases r:ev c m1 env with
 |bad=>rw[r]at q2;exact q2
 |exc k env1=>rw[r]at q2;exact q2
 |ok x env1=>
  rw[r]at q2
  have go:∀d,x.jz=some d->(match (match gR d with|some b=>Out.ok (Rv.val (.bl (!b))) env1|none=>.bad)with
    |.ok x env'=>∃d b,x.jz=some d/\gR d=some b/\∀H',Nx X.K env σ H env' H'->Q b H'
    |.exc c env'=>∀H',Nx X.K env σ H env' H'->W c env' σ H'
    |.bad=>False)->∃d b,x.jz=some d/\gR d=some b/\∀H',Nx X.K env σ H env1 H'->Q (!b) H':=fun d ed z=>by
   cases t:gR d with
   |none=>rw[t]at z;exact z.elim
   |some b=>
    rw[t]at z
    obtain⟨d',b',e1,e2,z⟩:=z
    cases e1
    cases e2
    exact⟨d,b,ed,t,z⟩
  cases x with
  |val d=>exact go d rfl q2
  |new o=>exact go o.d rfl q2
  |ref i=>exact q2.elim
  |tmp xs=>exact q2.elim
theorem Ms(ha:GE X W c m1 a):GE X W c (.and (.cons m1 .nil)) (.BoolOp .And [a] pos):=fun env=>by
 have:=xM (X:=X) (op:=.And) (pos:=pos) (ha env)
 simpa only[Js,eV]using this
theorem Uc(ha:GE X W c m1 a):GE X W c (.or (.cons m1 .nil)) (.BoolOp .Or [a] pos):=fun env=>by
 have:=xM (X:=X) (op:=.Or) (pos:=pos) (ha env)
 simpa only[sO,ji]using this
end
end Mini
end
section
namespace Mini
open PySem L2
def aM(X:Cx)(W:Wi)(c:Cf)(m:E):TE:=fun σ H Q=>∃env,tM X.K W env (ev c m env) σ H Q
theorem Oc{K:PySem.W.Frag}{W:Wi}{env env1:Ev}{σ:St}{H H1:Hp}{r:Out Rv}{Q:Bool->Hp->Prop}(h:tT K W env r σ H Q)(N:Nx K env σ H env1 H1):tT K W env1 r σ H1 Q:=by
 obtain⟨_,h⟩:=h
 refine⟨N.eY,?_⟩
 cases r with
 |bad=>exact h
 |exc c env2=>exact fun H' N'=>h H' (N.trans N')
 |ok x env2=>
  obtain⟨d,b,e1,e2,q⟩:=h
  exact⟨d,b,e1,e2,fun H' N'=>q H' (N.trans N')⟩
section
variable{X:Cx}{W:Wi}{c:Cf}{m m1 m2 m3:E}{e a b:Expr}{es rest:List Expr}{pos:Pos}
theorem GE.am(h:GE X W c m e):PE X e (aM X W c m):=fun pins s σ H Q I⟨env,q⟩=>h env pins s σ H Q I q
theorem Um(ha:GE X W c m1 a)(hb:GE X W c (.and (.cons m2 m3)) (.BoolOp .And (b::rest) pos)):GE X W c (.and (.cons m1 (.cons m2 m3))) (.BoolOp .And (a::b::rest) pos):=by
 intro env
 refine PE.imp (xN ha.d hb.am) fun σ H Q q=>?_
 simp only[Js,eV]at q
 refine⟨env,aR q fun d env1 v H1 N1 D1 q1=>?_⟩
 cases d with
 |bl k=>
  refine⟨k,D1,?_⟩
  cases k with
  |true=>rw[if_pos rfl];exact⟨env1,by simpa only[Js,eV]using q1⟩
  |false=>rw[if_neg Bool.false_ne_true];exact dI q1 rfl
 |_=>exact q1.2.elim
theorem Zk(ha:GE X W c m1 a)(hb:GE X W c (.or (.cons m2 m3)) (.BoolOp .Or (b::rest) pos)):GE X W c (.or (.cons m1 (.cons m2 m3))) (.BoolOp .Or (a::b::rest) pos):=by
 intro env
 refine PE.imp (X7 ha.d hb.am) fun σ H Q q=>?_
 simp only[sO,ji]at q
 refine⟨env,aR q fun d env1 v H1 N1 D1 q1=>?_⟩
 cases d with
 |bl k=>
  refine⟨k,D1,?_⟩
  cases k with
  |true=>rw[if_pos rfl];exact dI q1 rfl
  |false=>rw[if_neg Bool.false_ne_true];exact⟨env1,by simpa only[sO,ji]using q1⟩
 |_=>exact q1.2.elim
def GW(X:Cx)(W:Wi)(c:Cf)(m:E)(e:Expr):Prop:=PW X e (aT X W c m)
theorem PW.imp{t t':TT}(h:PW X e t)(i:∀σ H Q,t' σ H Q->t σ H Q):PW X e t':=fun wh pins s σ H Q I q=>h wh pins s σ H Q I (i σ H Q q)
theorem GW.t(h:GW X W c m e):GT X W c m e:=PW.pt h
theorem uX{K:PySem.W.Frag}{env:Ev}{r:Out Rv}{σ:St}{H:Hp}{Q R:Bool->Hp->Prop}{f:D->Ev->Out Rv}(h:tT K W env (r.ak f) σ H Q)
  (hf:∀d env1,(∀k,d≠ .bl k)->f d env1=.bad)
  (k:∀b env1 H1,Nx K env σ H env1 H1->tT K W env1 (f (.bl b) env1) σ H1 Q->R b H1):tT K W env r σ H R:=by
 have step:∀d env1 x,x.jz=some d->r=.ok x env1->∃b,gR d=some b/\∀H1,Nx K env σ H env1 H1->R b H1:=fun d env1 x ex er=>by
  subst er
  have h':tT K W env (f d env1) σ H Q:=by
   cases x with
   |val d'=>cases ex;exact h
   |new xs=>cases ex;exact h
   |ref i=>cases ex
   |tmp xs=>cases ex
  by_cases hb:∃b,d=.bl b
  ·obtain⟨b,rfl⟩:=hb
   exact⟨b,rfl,fun H1 N=>k b env1 H1 N (Oc h' N)⟩
  ·rw[hf d env1 fun b e=>hb ⟨b,e⟩]at h'
   exact h'.2.elim
 refine⟨h.1,?_⟩
 cases r with
 |bad=>exact h.2
 |exc c env1=>exact h.2
 |ok x env1=>
  cases x with
  |val d=>obtain⟨b,e,q⟩:=step d env1 _ rfl rfl;exact⟨d,b,rfl,e,q⟩
  |new xs=>obtain⟨b,e,q⟩:=step (xs.d) env1 _ rfl rfl;exact⟨xs.d,b,rfl,e,q⟩
  |ref i=>exact h.2.elim
  |tmp xs=>exact h.2.elim
theorem Mf(ha:GT X W c m1 a):GW X W c (.and (.cons m1 .nil)) (.BoolOp .And [a] pos):=PW.imp (Kl ha) fun σ H Q⟨env,q⟩=>⟨env,by simpa only[Js,eV]using q⟩
theorem Tw(ha:GT X W c m1 a):GW X W c (.or (.cons m1 .nil)) (.BoolOp .Or [a] pos):=PW.imp (Rt ha) fun σ H Q⟨env,q⟩=>⟨env,by simpa only[sO,ji]using q⟩
theorem TQ(ha:GT X W c m1 a)(hb:GW X W c (.and (.cons m2 m3)) (.BoolOp .And (b::rest) pos)):GW X W c (.and (.cons m1 (.cons m2 m3))) (.BoolOp .And (a::b::rest) pos):=by
 refine PW.imp (Ru ha hb) fun σ H Q⟨env,q⟩=>⟨env,?_⟩
 simp only[Js,eV]at q
 refine uX q (fun d env1 hd=>?_) fun k env1 H1 N q1=>?_
 ·cases d with
  |bl k=>exact absurd rfl (hd k)
  |_=>rfl
 ·cases k with
  |true=>rw[if_pos rfl];exact⟨env1,by simpa only[Js,eV]using q1⟩
  |false=>
   rw[if_neg Bool.false_ne_true]
   obtain⟨d,k',e1,e2,q3⟩:=q1.2
   cases e1
   cases e2
   exact q3 H1 (Nx.refl q1.1)
theorem Zh(ha:GT X W c m1 a)(hb:GW X W c (.or (.cons m2 m3)) (.BoolOp .Or (b::rest) pos)):GW X W c (.or (.cons m1 (.cons m2 m3))) (.BoolOp .Or (a::b::rest) pos):=by
 refine PW.imp (X4 ha hb) fun σ H Q⟨env,q⟩=>⟨env,?_⟩
 simp only[sO,ji]at q
 refine uX q (fun d env1 hd=>?_) fun k env1 H1 N q1=>?_
 ·cases d with
  |bl k=>exact absurd rfl (hd k)
  |_=>rfl
 ·cases k with
  |false=>rw[if_neg Bool.false_ne_true];exact⟨env1,by simpa only[sO,ji]using q1⟩
  |true=>
   rw[if_pos rfl]
   obtain⟨d,k',e1,e2,q3⟩:=q1.2
   cases e1
   cases e2
   exact q3 H1 (Nx.refl q1.1)
theorem Uh{t:Expr}(ht:GT X W c m1 t)(ha:GE X W c m2 a)(hb:GE X W c m3 b):GE X W c (.ite m1 m2 m3) (.IfExp t a b pos):=by
 intro env
 refine PE.imp (Gb ht ha.am hb.am) fun σ H Q q=>?_
 simp only[DK]at q
 refine⟨env,uZ q fun k env1 H1 N q1=>?_⟩
 cases k with
 |true=>rw[if_pos rfl]at q1⊢;exact⟨env1,q1⟩
 |false=>rw[if_neg Bool.false_ne_true]at q1⊢;exact⟨env1,q1⟩
theorem yD{xs:List D}{i:Int}{d:D}{K:PySem.W.Frag}{H:Hp}{vs:List V}(h:at? xs i=some d)(l:ao K H xs vs):∃v,UJ vs i=some v/\bh K H d v:=by
 unfold at? at h
 cases e:ix? xs.length i with
 |none=>rw[e]at h;cases h
 |some j=>
  rw[e]at h
  obtain⟨v,q1,q2⟩:=l.get (show xs[j]? =some d from h)
  refine⟨v,?_,q2⟩
  have hl:=l.length
  unfold UJ
  have:Lz vs.length i=some j:=by
   unfold ix? at e
   unfold Lz
   rw[<-hl]
   by_cases h0:i<0
   ·simp only[h0,if_true]at e
    split at e
    ·rename_i hc
     cases e
     rw[if_neg (by omega),if_pos (by omega)]
    ·cases e
   ·simp only[h0,if_false]at e
    split at e
    ·rename_i hc
     cases e
     rw[if_pos (by omega),if_pos (by omega)]
    ·cases e
  rw[this]
  exact q1
theorem rm{K:PySem.W.Frag}{H:Hp}(k:Key):∀{kvs:List (Key×V)}{ds:List D}{d:D},j4 (cH k) (kvs.map fun p=>cH p.1) ds=some d->ao K H ds (kvs.map (·.2))->∃v,iZ kvs k=some v/\bh K H d v
 |[],ds,d,h,_=>by cases h
 |(k',v)::r,ds,d,h,l=>by
  rw[List.map_cons]at h l
  cases ds with
  |nil=>obtain⟨⟩:=ao.bj.mp l
  |cons d' ds=>
   obtain⟨w,ws,e,h1,h2⟩:=ao.aW.mp l
   cases e
   have e:bZ (cH k') (cH k)=decide (k'=k):=by
    cases k'<;>cases k<;>simp[cH,bZ,Bool.beq_eq_decide_eq]
   simp only[j4,e]at h
   by_cases q:k'=k
   ·simp only[q,decide_true,if_true]at h
    cases h
    exact⟨v,iW q,h1⟩
   ·simp only[q,decide_false,Bool.false_eq_true,if_false]at h
    obtain⟨u,q1,q2⟩:=rm k h h2
    exact⟨u,by rw[iY q];exact q1,q2⟩
def XQ:R2:=fun x y H Q=>∃a k kvs v,x=.ref a/\y=kV k/\Rd H a (.dK kvs)/\iZ kvs k=some v/\Q v H
theorem Tj(hu:X.A.units+1<cLine):IV X XQ:=by
 intro value slice pins s σ H x y v u Q I rx ry h hs
 obtain⟨a,k,kvs,w,rfl,rfl,hd,hv,q⟩:=h
 cases rx
 have g:uM H a (kV k) (some w):=.inl ⟨kvs,k,hd,rfl,hv.symm⟩
 exact PyProof.Rows.tail_any (wA I g) PySem.F.slot_dict_getitem.lookup (CK hu I g ry fun w' s3 I3 rw'=>⟨w,H,I3,rw',q⟩) hs
def XR(K:PySem.W.Frag):R2:=fun x y H Q=>Rq K x y H Q\/Rp K x y H Q\/XQ x y H Q
theorem G4(hu:X.A.units+1<cLine):IV X (XR X.K):=zJ.or (GZ.or (Tj hu))
theorem rK{K:PySem.W.Frag}{H:Hp}{d y z:D}{v u:V}{Q:VK}(D1:dF K H d v)(D2:bh K H y u)(e:getD d y=some z)(q:∀w,bh K H z w->Q w H):XR K v u H Q:=by
 cases d with
 |tup xs=>
  cases y with
  |int i=>
   obtain⟨a,vs,rfl,hq,l⟩:=bQ D1.tup
   obtain⟨w,e1,e2⟩:=yD e l
   exact .inr (.inl ⟨a,vs,i,w,rfl,D2,hq,e1,q w e2⟩)
  |_=>cases e
 |lst xs=>
  cases y with
  |int i=>
   obtain⟨a,vs,rfl,hq,l⟩:=D1.Eu
   rcases hq with hq|hq
   ·obtain⟨w,e1,e2⟩:=yD e l
    exact .inl ⟨a,vs,i,w,rfl,D2,hq,e1,q w e2⟩
   ·obtain⟨w,e1,e2⟩:=yD e l
    exact .inr (.inl ⟨a,vs,i,w,rfl,D2,hq,e1,q w e2⟩)
  |_=>cases e
 |dG ks ds=>
  have e':(if keyOk y=true then j4 y ks ds else none)=some z:=by cases y<;>exact e
  split at e'
  ·rename_i hk
   obtain⟨k,rfl⟩:=gK hk
   obtain⟨a,kvs,rfl,ha,rfl,l⟩:=uy D1
   obtain⟨w,e1,e2⟩:=rm k e' l
   exact .inr (.inr ⟨a,k,kvs,w,rfl,j9 D2,ha,e1,q w e2⟩)
  ·cases e'
 |_=>cases y<;>cases e
theorem Uj(hu:X.A.units+1<cLine)(ha:GE X W c m1 a)(hb:GE X W c m2 b)(hv:∀k,m1.au=some k->∃x p,a=.Name x p/\fZ X k x)(hs:uL b):GE X W c (.idx m1 m2) (.Subscript a b pos):=by
 intro env
 cases q:m1.au with
 |some k=>
  obtain⟨x,p,rfl,nm⟩:=hv k q
  refine PE.imp (OD (G4 hu) nm.pe hb.d hs) fun σ H Q h=>?_
  simp only[Am,q]at h
  cases e0:aO k env with
  |none=>rw[e0]at h;exact h.2.elim
  |some d0=>
   rw[e0]at h
   simp only[Option.isNone_some,Bool.false_eq_true,if_false]at h
   obtain⟨u,eu,_⟩:=eU h.1 e0
   refine⟨u,eu,env,aR h fun d env1 v H1 N1 D1 h1=>?_⟩
   obtain⟨z,ez,S,q3⟩:=cL h1
   cases e1:aO k env1 with
   |none=>rw[e1]at ez;cases ez
   |some d2=>
    rw[e1]at ez
    simp only[Option.bind]at ez
    obtain⟨u',eu',D2⟩:=eU S e1
    rw[eu]at eu'
    cases eu'
    cases e2:getD d2 d with
    |none=>rw[e2]at ez;cases ez
    |some w=>
     rw[e2]at ez
     cases ez
     exact rK D2 D1 e2 fun w' hw=>q3 w' H1 (Nx.refl S) hw
 |none=>
  refine PE.imp (OD (G4 hu) ha.d hb.d hs) fun σ H Q h=>?_
  simp only[Am,q]at h
  refine⟨env,aR h fun d env1 v H1 N1 D1 h1=>⟨env1,aR h1 fun d2 env2 u H2 N2 D2 h2=>?_⟩⟩
  obtain⟨z,ez,S,q3⟩:=cL h2
  cases e2:getD d d2 with
  |none=>rw[e2]at ez;cases ez
  |some w=>
   rw[e2]at ez
   cases ez
   exact rK (.inl (D1.mono N2.pers)) D2 e2 fun w' hw=>q3 w' H2 (Nx.refl S) hw
end
end Mini
end
section
namespace Mini
open PySem L2
structure Nz(K:PySem.W.Frag)(env:Ev)(σ:St)(H:Hp)(env':Ev)(σ':St)(H':Hp):Prop where
 eY:Sat K env' σ' H'
 sub:∀(i:Nat)a,aB env' σ' i a->aB env σ i a\/H a=none
 pers:bU H H'
 keep:∀b u,H b=some u->(∀i,¬aB env σ i b)->H' b=some u
 dom:∀b,H' b=none->H b=none
 bors:∀(i:Nat)xs,env[i]? =some (.bor xs)->(∃ys,env'[i]? =some (.bor ys))/\σ'[i]? =σ[i]?
section
variable{K:PySem.W.Frag}{env env1 env2:Ev}{σ σ1 σ2:St}{H H1 H2:Hp}
theorem Nx.z(N:Nx K env σ H env1 H1):Nz K env σ H env1 σ H1:=⟨N.eY,fun i a z=>.inl (N.sub i a z),N.pers,N.keep,N.dom,fun i xs e=>⟨N.bors i xs e,rfl⟩⟩
theorem Nz.refl(S:Sat K env σ H):Nz K env σ H env σ H:=(Nx.refl S).z
theorem Nz.trans(a:Nz K env σ H env1 σ1 H1)(b:Nz K env1 σ1 H1 env2 σ2 H2):Nz K env σ H env2 σ2 H2 where
 eY:=b.eY
 sub:=fun i c z=>by
  rcases b.sub i c z with q|q
  ·exact a.sub i c q
  ·exact .inr (a.dom c q)
 pers:=a.pers.trans b.pers
 keep:=fun c vs z n=>b.keep c vs (a.keep c vs z n) fun i w=>by
  rcases a.sub i c w with q|q
  ·exact n i q
  ·rw[q]at z;cases z
 dom:=fun c z=>a.dom c (b.dom c z)
 bors:=fun i xs e=>by
  obtain⟨⟨ys,e1⟩,s1⟩:=a.bors i xs e
  obtain⟨q,s2⟩:=b.bors i ys e1
  exact⟨q,s2.trans s1⟩
def Iz(K:PySem.W.Frag)(env:Ev)(σ:St)(H H':Hp):Rv->V->Prop
 |.val d,v=>bh K H' d v
 |.new q,v=>∃a,v=.ref a/\jA K H' q a/\(H a=none\/∃(i:Nat)(ys:Ob),env[i]? =some (.own ys)/\σ[i]? =some (some (.ref a)))
 |_,_=>False
theorem Iz.back{r:Rv}{v:V}(N:Nz K env σ H env1 σ1 H1)(h:Iz K env1 σ1 H1 H2 r v):Iz K env σ H H2 r v:=by
 cases r with
 |val d=>exact h
 |new xs=>
  obtain⟨a,e,p,z⟩:=h
  refine⟨a,e,p,?_⟩
  rcases z with z|⟨i,ys,z1,z2⟩
  ·exact .inl (N.dom a z)
  ·rcases N.sub i a ⟨⟨_,ys,z1,rfl⟩,z2⟩with ⟨⟨s,xs',q1,q2⟩,q3⟩|q
   ·cases s with
    |own w=>exact .inr ⟨i,w,q1,q3⟩
    |bor w=>
     obtain⟨⟨w',q⟩,_⟩:=N.bors i w q1
     rw[z1]at q;cases q
    |un=>cases q2
    |val d=>cases q2
   ·exact .inl q
 |ref i=>exact h.elim
 |tmp xs=>exact h.elim
end
def tS(K:PySem.W.Frag)(W:Wi)(env:Ev)(f:Fl):TS:=fun D σ H=>Sat K env σ H/\match f with
 |.next env'=>∀σ' H',Nz K env σ H env' σ' H'->D.nx σ' H'
 |.ret r env'=>∀v σ' H',Nz K env σ H env' σ' H'->Iz K env σ H H' r v->D.rt v H'
 |.brk env'=>∀σ' H',Nz K env σ H env' σ' H'->D.bk σ' H'
 |.cont env'=>∀σ' H',Nz K env σ H env' σ' H'->D.ct σ' H'
 |.exc c env'=>∀σ' H',Nz K env σ H env' σ' H'->W c env' σ' H'
 |.bad=>False
def GS(X:Cx)(W:Wi)(c:Cf)(m:S)(st:Stmt):Prop:=∀env,PS X st (tS X.K W env (ex c m env))
def IW(X:Cx)(W:Wi)(c:Cf)(m:S)(st:List Stmt):Prop:=∀env,sG X st (tS X.K W env (ex c m env))
section
variable{X:Cx}{W:Wi}{c:Cf}{m m1 m2:S}{st:Stmt}{sts:List Stmt}{e:Expr}{pos:Pos}
theorem PS.imp{t t':TS}(h:PS X st t)(i:∀D σ H,t' D σ H->t D σ H):PS X st t':=fun pins s σ H D I q=>h pins s σ H D I (i D σ H q)
theorem sG.imp{t t':TS}(h:sG X sts t)(i:∀D σ H,t' D σ H->t D σ H):sG X sts t':=fun pins s σ H D I q=>h pins s σ H D I (i D σ H q)
theorem nQ{K:PySem.W.Frag}{env env1:Ev}{σ σ1:St}{H H1:Hp}{f:Fl}{D:Ends}(h:tS K W env f D σ H)(N:Nz K env σ H env1 σ1 H1):tS K W env1 f D σ1 H1:=by
 obtain⟨_,h⟩:=h
 refine⟨N.eY,?_⟩
 cases f with
 |next env2=>exact fun σ' H' N'=>h σ' H' (N.trans N')
 |ret r env2=>exact fun v σ' H' N' k=>h v σ' H' (N.trans N') (k.back N)
 |brk env2=>exact fun σ' H' N'=>h σ' H' (N.trans N')
 |cont env2=>exact fun σ' H' N'=>h σ' H' (N.trans N')
 |exc k env2=>exact fun σ' H' N'=>h σ' H' (N.trans N')
 |bad=>exact h
theorem zN:IW X W c .nil []:=fun env=>sG.imp Kp fun D σ H q=>by
 simp only[x_0]at q
 exact q.2 σ H (Nz.refl q.1)
theorem v9(h:GS X W c m1 st)(t:IW X W c m2 sts):IW X W c (.cons m1 m2) (st::sts):=by
 intro env
 have B:sG X (st::sts) (WL (fun D σ H=>∃env,tS X.K W env (ex c m1 env) D σ H) (fun D σ H=>∃env,tS X.K W env (ex c m2 env) D σ H)):=
  Fw (fun pins s σ H D I⟨env,q⟩=>h env pins s σ H D I q) (fun pins s σ H D I⟨env,q⟩=>t env pins s σ H D I q)
 refine sG.imp B fun D σ H q=>?_
 simp only[x_1]at q
 refine⟨env,q.1,?_⟩
 cases r:ex c m1 env with
 |next env1=>
  rw[r]at q
  exact fun σ1 H1 N1=>⟨env1,nQ q N1⟩
 |_=>rw[r]at q;exact q.2
theorem lq{K:PySem.W.Frag}{env:Ev}{σ:St}{H:Hp}{D:Ends}{r:Out Rv}{f:Mini.D->Ev->Fl}{R:VK}(h:tS K W env (r.iT f) D σ H)
  (k:∀d env1 v H1,Nx K env σ H env1 H1->bh K H1 d v->tS K W env1 (f d env1) D σ H1->R v H1):tD K W env r σ H R:=by
 have step:∀d env1,r.iT f=f d env1->∀v H1,Nx K env σ H env1 H1->bh K H1 d v->R v H1:=fun d env1 e v H1 N Dv=>by
  rw[e]at h
  exact k d env1 v H1 N Dv (nQ h N.z)
 obtain⟨S,h⟩:=h
 refine⟨S,?_⟩
 cases r with
 |bad=>exact h
 |exc c env1=>exact fun H' N=>h σ H' N.z
 |ok x env1=>
  cases x with
  |val d=>exact fun v H1 N Dv=>step d env1 rfl v H1 N Dv
  |new xs=>exact fun v H1 N Dv=>step xs.d env1 rfl v H1 N Dv
  |ref i=>exact h
  |tmp xs=>exact h
theorem El{K:PySem.W.Frag}{env:Ev}{σ:St}{H:Hp}{D:Ends}{r:Out Rv}{f:Bool->Ev->Fl}{R:Bool->Hp->Prop}(h:tS K W env (r.Dl f) D σ H)
  (k:∀b env1 H1,Nx K env σ H env1 H1->tS K W env1 (f b env1) D σ H1->R b H1):tT K W env r σ H R:=by
 have step:∀d env1 x,x.jz=some d->r=.ok x env1->∃b,gR d=some b/\∀H1,Nx K env σ H env1 H1->R b H1:=fun d env1 x ex er=>by
  subst er
  cases q:gR d with
  |none=>
   cases x with
   |val d'=>cases ex;simp only[Out.Dl,Out.iT,q]at h;exact h.2.elim
   |new xs=>cases ex;simp only[Out.Dl,Out.iT,q]at h;exact h.2.elim
   |ref i=>cases ex
   |tmp xs=>cases ex
  |some b=>
   refine⟨b,rfl,fun H1 N=>k b env1 H1 N (nQ ?_ N.z)⟩
   cases x with
   |val d'=>cases ex;simp only[Out.Dl,Out.iT,q]at h;exact h
   |new xs=>cases ex;simp only[Out.Dl,Out.iT,q]at h;exact h
   |ref i=>cases ex
   |tmp xs=>cases ex
 refine⟨h.1,?_⟩
 cases r with
 |bad=>exact h.2
 |exc c env1=>exact fun H' N=>h.2 σ H' N.z
 |ok x env1=>
  cases x with
  |val d=>obtain⟨b,e,q⟩:=step d env1 _ rfl rfl;exact⟨d,b,rfl,e,q⟩
  |new xs=>obtain⟨b,e,q⟩:=step xs.d env1 _ rfl rfl;exact⟨xs.d,b,rfl,e,q⟩
  |ref i=>exact h.2.elim
  |tmp xs=>exact h.2.elim
theorem Zi{t:E}{te:Expr}{s1 s2:List Stmt}(ht:GT X W c t te)(h1:IW X W c m1 s1)(h2:IW X W c m2 s2):GS X W c (.ite t m1 m2) (.If te s1 s2 pos):=by
 intro env
 refine PS.imp (X5 ht (t:=fun D σ H=>∃env,tS X.K W env (ex c m1 env) D σ H) (u:=fun D σ H=>∃env,tS X.K W env (ex c m2 env) D σ H)
  (fun pins s σ H D I⟨env,q⟩=>h1 env pins s σ H D I q) (fun pins s σ H D I⟨env,q⟩=>h2 env pins s σ H D I q)) fun D σ H q=>?_
 simp only[abu]at q
 refine⟨env,El q fun b env1 H1 N q1=>?_⟩
 cases b with
 |true=>rw[if_pos rfl]at q1⊢;exact⟨env1,q1⟩
 |false=>rw[if_neg Bool.false_ne_true]at q1⊢;exact⟨env1,q1⟩
theorem Mj{m:E}(h:GE X W c m e)(hs:swapsWith e none pos.line X.env=pure false):GS X W c (.expr m) (.Expr e pos):=by
 intro env
 refine PS.imp (tO h.d hs) fun D σ H q=>?_
 simp only[x_8]at q
 exact⟨env,lq q fun d env1 v H1 N Dv q1=>q1.2 σ H1 (Nz.refl q1.1)⟩
theorem Hi{k:Nat}:GS X W0 c (.raise k) st:=fun env pins s σ H D I q=>by
 simp only[Qo]at q
 exact(q.2 σ H (Nz.refl q.1)).elim
end
section
variable{K:PySem.W.Frag}{env env1 env2:Ev}{σ σ1 σ2:St}{H H1 H2:Hp}
theorem jm{i j:Nat}{s:Sl}{v:V}{a:Addr}(h:aB (env.set i s) (σ.set i (some v)) j a)(hj:i≠j):aB env σ j a:=by
 obtain⟨⟨t,xs,e1,e2⟩,e3⟩:=h
 rw[List.getElem?_set_ne hj]at e1 e3
 exact⟨⟨t,xs,e1,e2⟩,e3⟩
theorem jX{i:Nat}{s:Sl}{v:V}{a:Addr}(hi:i<env.length)(hs:i<σ.length)(h:aB (env.set i s) (σ.set i (some v)) i a):isOwn s≠none/\v=.ref a:=by
 obtain⟨⟨t,xs,e1,e2⟩,e3⟩:=h
 rw[List.getElem?_set_self hi]at e1
 rw[List.getElem?_set_self hs]at e3
 cases e1
 cases e3
 exact⟨by rw[e2];simp,rfl⟩
theorem Sat.tK{i:Nat}{q:Ob}{a:Addr}(S:Sat K env σ H)(hi:i<env.length)(ha:jA K H q a)(no:∀k,¬aB env σ k a):Sat K (env.set i (.own q)) (σ.set i (some (.ref a))) H:=by
 have hs:i<σ.length:=by rw[<-S.len];exact hi
 refine⟨by simpa using S.len,fun j s e=>?_,fun j k b h1 h2=>?_⟩
 ·by_cases hj:i=j
  ·subst hj
   rw[List.getElem?_set_self hi]at e
   cases e
   exact⟨a,by rw[List.getElem?_set_self hs];rfl,ha⟩
  ·rw[List.getElem?_set_ne hj]at e⊢
   exact S.sl j s e
 ·by_cases hj:i=j
  ·subst hj
   by_cases hk:i=k
   ·exact hk
   ·obtain⟨_,z⟩:=jX hi hs h1
    cases z
    exact absurd (jm h2 hk) (no k)
  ·by_cases hk:i=k
   ·subst hk
    obtain⟨_,z⟩:=jX hi hs h2
    cases z
    exact absurd (jm h1 hj) (no j)
   ·exact S.ne j k b (jm h1 hj) (jm h2 hk)
theorem Nz.put{i:Nat}{x:Rv}{s:Sl}{v:V}(S:Sat K env σ H)(N:Nx K env σ H env1 H1)(hx:fY K σ H H1 x v)(hs:x.vm=some s)(h:bY i s env1=some env2):Nz K env σ H env2 (σ.set i (some v)) H1:=by
 obtain⟨rfl,hi,nb⟩:=n8 h
 have hsl:i<σ.length:=by rw[<-N.eY.len];exact hi
 have bors:∀(j:Nat)xs,env[j]? =some (.bor xs)->(∃ys,(env1.set i s)[j]? =some (.bor ys))/\(σ.set i (some v))[j]? =σ[j]? :=fun j xs e=>by
  obtain⟨ys,e1⟩:=N.bors j xs e
  have hj:i≠j:=fun z=>by subst z;exact nb ys e1
  exact⟨⟨ys,by rw[List.getElem?_set_ne hj];exact e1⟩,by rw[List.getElem?_set_ne hj]⟩
 cases x with
 |val d=>
  cases hs
  refine⟨N.eY.put hi hx,fun j a z=>.inl ?_,N.pers,N.keep,N.dom,bors⟩
  by_cases hj:i=j
  ·subst hj
   exact absurd rfl (jX hi hsl z).1
  ·exact N.sub j a (jm z hj)
 |new q=>
  cases hs
  obtain⟨a,rfl,oa,h0⟩:=hx
  refine⟨N.eY.tK hi oa fun k z=>S.lE h0 k (N.sub k a z),fun j b z=>?_,N.pers,N.keep,N.dom,bors⟩
  by_cases hj:i=j
  ·subst hj
   obtain⟨_,z⟩:=jX hi hsl z
   cases z
   exact .inr h0
  ·exact .inl (N.sub j b (jm z hj))
 |ref j=>cases hs
 |tmp q=>cases hs
end
section
variable{X:Cx}{W:Wi}{c:Cf}{m:E}{st:Stmt}{e:Expr}{pos pos':Pos}
theorem Od{K:PySem.W.Frag}{env:Ev}{σ:St}{H:Hp}{D:Ends}{r:Out Rv}{f:Rv->Ev->Fl}{R:VK}(h:tS K W env (r.fl f) D σ H)
  (k:∀x env1 v H1,Nx K env σ H env1 H1->fY K σ H H1 x v->tS K W env (f x env1) D σ H->R v H1):tM K W env r σ H R:=by
 obtain⟨S,h⟩:=h
 refine⟨S,?_⟩
 cases r with
 |bad=>exact h
 |exc c env1=>exact fun H' N=>h σ H' N.z
 |ok x env1=>exact fun v H1 N z=>k x env1 v H1 N z ⟨S,h⟩
theorem yV{i:Nat}{env:Ev}{D:Ends}{σ:St}{H:Hp}{K:PySem.W.Frag}(q:tS K W env (ex c (.set i m) env) D σ H):tM K W env (ev c m env) σ H fun v H1=>D.nx (σ.set i (some v)) H1:=by
 simp only[x_5]at q
 refine Od q fun x env1 v H1 N z q1=>?_
 cases e1:x.vm with
 |none=>rw[e1]at q1;exact q1.2.elim
 |some s=>
  rw[e1]at q1
  simp only[Option.bind]at q1
  cases e2:bY i s env1 with
  |none=>rw[e2]at q1;exact q1.2.elim
  |some env2=>
   rw[e2]at q1
   exact q1.2 _ _ (Nz.put q1.1 N z e1 e2)
theorem Hh{i:Nat}{x:Str}(h:GE X W c m e)(hN:X.N.Nodup)(hi:X.N[i]? =some x)(hx:Loc X.env.scope x)(hf:X.fn x=true\/X.env.scope.names.lookup x=some .local)
  (hs:swapsWith e (some (.Name x pos')) pos.line X.env=pure false):GS X W c (.set i m) (.Assign [.Name x pos'] e pos):=fun env=>
 PS.imp (Rx hN hi hx h.am hs hf) fun D σ H q=>⟨env,yV q⟩
theorem Es{is:List Nat}{env:Ev}{D:Ends}{σ:St}{H:Hp}{K:PySem.W.Frag}(q:tS K W env (ex c (.setT is m) env) D σ H):tD K W env (ev c m env) σ H fun v H1=>tG K (.tup is) v σ H1 D.nx:=by
 simp only[x_6]at q
 refine lq q fun d env1 v H1 N Dv q1=>?_
 cases e2:bA (.tup is) d env1 with
 |none=>rw[e2]at q1;exact q1.2.elim
 |some env2=>
  rw[e2]at q1
  exact⟨env1,d,env2,q1.1,Dv,e2,fun σ' st=>q1.2 σ' H1 ⟨st.eY,fun i a z=>.inl (st.sub z),bU.refl _,fun _ _ z _=>z,fun _ z=>z,fun i xs e=>⟨⟨xs,(st.same i (st.bors i xs e)).1.trans e⟩,(st.same i (st.bors i xs e)).2⟩⟩⟩
theorem Mh{is:List Nat}{tg:Expr}(h:GE X W c m e)(hg:GG X (.tup is) tg)(hs:swapsWithSole [tg] e pos.line X.env=pure false)(hw:swappedStores [tg] e X.env=pure none)
  (h1:(assignEach [tg] X.env).map (·.2)=[assign tg X.env]):GS X W c (.setT is m) (.Assign [tg] e pos):=fun env=>
 PS.imp (Fy h.d hg hs hw h1) fun D σ H q=>⟨env,Es q⟩
end
end Mini
end
section
namespace Mini
open PySem L2
theorem yp(env:Env):∀(names:List (Str×NameKind))(cs:List (Str×Addr)),(∀x∈names,x.2=.free->∃c,env.cells.lookup x.1=some c)->(∀x c,cs.lookup x=some c->env.cells.lookup x=some c)->
  ∃cl,(do
   let s<-forIn names cs (fun(x:Str×NameKind)cs=>match x with
    |(name,kind)=>if (kind==NameKind.free)=true then do
      let a<-cellOf env name
      pure (ForInStep.yield ((name,a)::cs))
     else pure (ForInStep.yield cs))
   pure s:Sem (List (Str×Addr)))=(pure cl:Sem _)/\
   (∀x c,cl.lookup x=some c->env.cells.lookup x=some c)/\(∀x,(x,NameKind.free)∈names->∃c,cl.lookup x=some c)/\∀x c,cs.lookup x=some c->∃c,cl.lookup x=some c:=by
 intro names
 induction names with
 |nil=>intro cs h1 h2;exact⟨cs,rfl,h2,by simp,fun x c e=>⟨c,e⟩⟩
 |cons p r ih=>
  intro cs h1 h2
  obtain⟨n,k⟩:=p
  by_cases hk:k=.free
  ·subst hk
   obtain⟨c,hc⟩:=h1 (n,.free) List.mem_cons_self rfl
   have q2:∀x d,((n,c)::cs).lookup x=some d->env.cells.lookup x=some d:=fun x d e=>by
    rw[List.lookup_cons]at e
    cases hx:x==n with
    |true=>rw[hx]at e;cases e;rw[eq_of_beq hx];exact hc
    |false=>rw[hx]at e;exact h2 x d e
   obtain⟨cl,e1,e2,e3,e4⟩:=ih ((n,c)::cs) (fun x hx=>h1 x (List.mem_cons_of_mem _ hx)) q2
   have own:∃d,cl.lookup n=some d:=e4 n c (by simp[List.lookup_cons])
   refine⟨cl,?_,e2,fun x hx=>?_,fun x d e=>?_⟩
   ·rw[<-e1]
    have:cellOf env n=pure c:=by unfold cellOf;rw[hc]
    simp only[List.forIn_cons]
    rw[if_pos (show(NameKind.free==NameKind.free)=true from rfl),this]
    rfl
   ·rcases List.mem_cons.mp hx with z|z
    ·cases z;exact own
    ·exact e3 x z
   ·cases hx:x==n with
    |true=>rw[eq_of_beq hx];exact own
    |false=>exact e4 x d (by rw[List.lookup_cons,hx];exact e)
  ·obtain⟨cl,e1,e2,e3,e4⟩:=ih cs (fun x hx=>h1 x (List.mem_cons_of_mem _ hx)) h2
   refine⟨cl,?_,e2,fun x hx=>?_,e4⟩
   ·rw[<-e1]
    simp only[List.forIn_cons]
    have hk':¬(k==NameKind.free)=true:=fun z=>hk (eq_of_beq z)
    rw[if_neg hk']
    rfl
   ·rcases List.mem_cons.mp hx with z|z
    ·cases z;exact absurd rfl hk
    ·exact e3 x z
theorem adf{scope:Scope}{env:Env}(h:∀x∈scope.names,x.2=.free->∃c,env.cells.lookup x.1=some c):∃cl,Jb scope env cl:=by
 obtain⟨cl,e1,e2,e3,_⟩:=yp env scope.names [] h (by simp)
 refine⟨cl,?_,e2,fun x hx=>e3 x (PySem.mem_of_lookup hx)⟩
 have q:closureFor scope env=(forIn scope.names [] (fun(x:Str×NameKind)cs=>match x with
    |(name,kind)=>if (kind==NameKind.free)=true then do
      let a<-cellOf env name
      pure (ForInStep.yield ((name,a)::cs))
     else pure (ForInStep.yield cs)):Sem (List (Str×Addr)))>>=pure:=rfl
 rw[q,e1]
 rfl
section
variable{X:Cx}{W:Wi}{c:Cf}{scope:Scope}{tgs:List Str}{tg:Tg}{it cond elt:E}{tgE iterE eltE:Expr}{ifs:List Expr}{pos spos py:Pos}
theorem z8{nl:Nat}{env:Ev}{σ:St}{H:Hp}{K:PySem.W.Frag}{Q:VK}{R:It->Hp->Prop}
  (q:tM K W env (ev c (.comp nl tg it cond elt) env) σ H Q)
  (k:∀J H1 env1 xs ys τ,Nx K env σ H env1 H1->Gives K J xs H1->aK tg (ev c cond) (ev c elt) xs [] (List.replicate nl Sl.un++env1)=.ok ys τ->
   (∀v H2,Nx K env σ H (τ.drop nl) H2->fY K σ H H2 (.new (.lst ys)) v->Q v H2)->R J H1):tI K W env (ev c it env) σ H R:=by
 simp only[kY]at q
 obtain⟨S,q⟩:=q
 refine⟨S,?_⟩
 cases r:ev c it env with
 |bad=>rw[r]at q;exact q
 |exc k env1=>rw[r]at q;exact q
 |ok x env1=>
  rw[r]at q
  have go:∀d,x.jz=some d->(match (match items d with
    |some xs=>match aK tg (ev c cond) (ev c elt) xs [] (List.replicate nl Sl.un++env1)with
     |.ok ys τ=>Out.ok (Rv.new (.lst ys)) (τ.drop nl)
     |_=>.bad
    |none=>.bad)with
   |.ok x env'=>∀v H',Nx K env σ H env' H'->fY K σ H H' x v->Q v H'
   |.exc c env'=>∀H',Nx K env σ H env' H'->W c env' σ H'
   |.bad=>False)->∃d xs,x.jz=some d/\items d=some xs/\∀J H',Nx K env σ H env1 H'->Gives K J xs H'->R J H':=fun d ed z=>by
   cases e1:items d with
   |none=>rw[e1]at z;exact z.elim
   |some xs=>
    rw[e1]at z
    simp only at z
    cases e2:aK tg (ev c cond) (ev c elt) xs [] (List.replicate nl Sl.un++env1)with
    |bad=>rw[e2]at z;exact z.elim
    |exc k τ=>rw[e2]at z;exact z.elim
    |ok ys τ=>
     rw[e2]at z
     exact⟨d,xs,ed,e1,fun J H1 N G=>k J H1 env1 xs ys τ N G e2 z⟩
  cases x with
  |val d=>exact go d rfl q
  |new o=>exact go o.d rfl q
  |ref i=>exact q.elim
  |tmp o=>exact q.elim
theorem Inv.letGo{pins:List (Addr×Obj)}{σ:St}{H:Hp}{s:Shared}{C:Addr}{h':Heap}(I:Inv X pins σ H s)(f:iD X pins H C)(hs:Heap.SameBut C s.heap h'):Inv X pins σ H {s with heap:=h'}:=by
 exact I.turned (t':=s.toks) (fun b o hb e=>(hs.2 b hb).trans e) f.1 f.2.1 f.2.2.2.1 f.2.2.2.2.1 f.2.2.2.2.2
theorem Dg.cl{pins:List (Addr×Obj)}{σ:St}{H:Hp}{s:Shared}(sc:Dg X.env.scope scope tgs X.N)(I:Inv X pins σ H s):∃cl,Jb scope X.env cl:=
 adf fun x hx hf=>I.ok.has x.1 (sc.fre x hx hf)
theorem Mq(B:wN X c scope tgs tg cond elt tgE eltE ifs)(hi:GI X W c it tgE iterE)(hc:X.calm=true)(hs:∀x,foldedSetIterable iterE X.env x=pure x):
  GE X W c (.comp tgs.length tg it cond elt) (.ListComp eltE [⟨tgE,iterE,ifs,0⟩] scope pos):=by
 intro env pins s σ H Q I q
 obtain⟨cl,co⟩:=B.sc.cl I
 rw[eval_ListComp]
 refine wpAny_comprehension_free (use:=none) rfl hs co.eq B.sc.kind B.sc.locs (bV (hi env pins s σ H _ I (z8 q (R:=fun J H1=>∃env1 xs ys τ,Nx X.K env σ H env1 H1/\Gives X.K J xs H1/\aK tg (ev c cond) (ev c elt) xs [] (List.replicate tgs.length Sl.un++env1)=.ok ys τ/\
  (∀v H2,Nx X.K env σ H (τ.drop tgs.length) H2->fY X.K σ H H2 (.new (.lst ys)) v->Q v H2)) fun J H1 env1 xs ys τ N G e z=>⟨env1,xs,ys,τ,N,G,e,z⟩)) fun v s1 h1=>bV h1 fun itv s2 h2=>?_)
 obtain⟨ita,fp,tn,J,H1,rfl,I1,T,t0,hf,env1,xs,ys,τ,N,G,e,z⟩:=h2
 refine rP (RR:=fun acc C=>compPost (model X.prog X.w) X.A X.xe none (EP X pins σ Q) acc C) B hc co I1 N.eY T t0 hf G e fun D C s' H' vs m I' N' hD hl hn hC fC=>?_
 refine⟨m,hC,fun h' hs'=>⟨.ref D,H',Inv.letGo I' fC hs',rfl,z _ _ (N.trans N') ⟨D,rfl,⟨_,hD,vs,rfl,hl⟩,N.dom D hn⟩⟩⟩
theorem xZ{i:Nat}{x:Str}(B:wN X c scope tgs tg cond elt tgE eltE ifs)(hi:GI X W c it tgE iterE)(hc:X.calm=true)(hs:∀x,foldedSetIterable iterE X.env x=pure x)
  (hN:X.N.Nodup)(hx:X.N[i]? =some x)(hl:Loc X.env.scope x)(hf:X.fn x=true\/X.env.scope.names.lookup x=some .local)
  (hsw:swapsWith (.ListComp eltE [⟨tgE,iterE,ifs,0⟩] scope pos) (some (.Name x py)) spos.line X.env=pure true):
  GS X W c (.set i (.comp tgs.length tg it cond elt)) (.Assign [.Name x py] (.ListComp eltE [⟨tgE,iterE,ifs,0⟩] scope pos) spos):=by
 intro env pins s σ H D I q
 have q:=yV q
 obtain⟨cl,co⟩:=B.sc.cl I
 rw[exec_Assign_Name_used _ _ _ _ hsw]
 refine wpAny_bind (wpAny_standAt (wpAny_bind ?_))
 show wpAny _ _ (do let _<-comprehension (.ListComp eltE [⟨tgE,iterE,ifs,0⟩] scope pos) scope X.env _ (newList []) false (eval iterE X.env) (some (assign (.Name x py) X.env))) _ _ s
 refine wpAny_bind (wpAny_mono (wpAny_comprehension_free (use:=some (assign (.Name x py) X.env)) (Q:=fun _ s'=>SP X pins D .next s') rfl hs co.eq B.sc.kind B.sc.locs
  (bV (hi env pins s σ H _ I (z8 q (R:=fun J H1=>∃env1 xs ys τ,Nx X.K env σ H env1 H1/\Gives X.K J xs H1/\aK tg (ev c cond) (ev c elt) xs [] (List.replicate tgs.length Sl.un++env1)=.ok ys τ/\
  (∀v H2,Nx X.K env σ H (τ.drop tgs.length) H2->fY X.K σ H H2 (.new (.lst ys)) v->D.nx (σ.set i (some v)) H2)) fun J H1 env1 xs ys τ N G e z=>⟨env1,xs,ys,τ,N,G,e,z⟩)) fun v s1 h1=>bV h1 fun itv s2 h2=>?_))
  (fun _ s' hq=>wpAny_pure (wpAny_pure hq)) fun _ _ e=>e)
 obtain⟨ita,fp,tn,J,H1,rfl,I1,T,t0,hf',env1,xs,ys,τ,N,G,e,z⟩:=h2
 refine rP (RR:=fun acc C=>compPost (model X.prog X.w) X.A X.xe (some (assign (.Name x py) X.env)) (fun _ s'=>SP X pins D .next s') acc C) B hc co I1 N.eY T t0 hf' G e fun A C s' H' vs m I' N' hD hl' hn hC fC=>?_
 show wpAny _ _ (assign (.Name x py) X.env (.ref A)) _ _ _
 refine wpAny_assign_Name (qD (v:=.ref A) I' hN hx hl rfl (fun s'' I''⟨a,ha,hor⟩=>?_) hf)
 have hCa:C≠a:=by
  rcases hor with rfl|hor
  ·exact fC.2.1
  ·exact fun z=>fC.2.2.2.2.1 x a hor z.symm
 refine⟨m,hC.sameBut ha hCa,fun h' hs'=>⟨_,H',Inv.letGo I'' fC hs',z _ _ (N.trans N') ⟨A,rfl,⟨_,hD,vs,rfl,hl'⟩,N.dom A hn⟩⟩⟩
end
end Mini
end
section
namespace Mini
open PySem L2
section
variable{K:PySem.W.Frag}{H:Hp}{a:Addr}{xs:List D}{vs:List V}
theorem Cq(hq:iC K H a vs)(l:ao K H xs vs)(hz:vs.length<=sizeLine):Gives K (Itt K a) xs H where
 go:=fun H1 p i d e=>by
  obtain⟨v,ev,_⟩:=l.get e
  exact⟨vs,v,p.Q8 hq,ev⟩
 yld:=fun H1 p i d e x H2 y=>by
  obtain⟨rfl,y⟩:=y
  obtain⟨v,ev,dv⟩:=l.get e
  have:=y vs (p.Q8 hq)
  rw[ev]at this
  cases this
  exact⟨dv.mono p,.inl rfl⟩
 stop:=fun H1 p i hi=>⟨vs,p.Q8 hq,by rw[<-l.length];exact hi⟩
 len:=by rw[l.length];exact hz
theorem Cr(hq:I8 K H a vs)(l:ao K H xs vs)(hz:vs.length<=sizeLine):Gives K (Itl K a) xs H where
 go:=fun H1 p i d e=>by
  obtain⟨v,ev,_⟩:=l.get e
  exact⟨vs,v,(p.Dj hq).sq,ev⟩
 yld:=fun H1 p i d e x H2 y=>by
  obtain⟨rfl,y⟩:=y
  obtain⟨v,ev,dv⟩:=l.get e
  have:=y vs (p.Dj hq).sq
  rw[ev]at this
  cases this
  exact⟨dv.mono p,.inl rfl⟩
 stop:=fun H1 p i hi=>⟨vs,(p.Dj hq).sq,by rw[<-l.length];exact hi⟩
 len:=by rw[l.length];exact hz
def Its(x:Str):It:=⟨fun i _=>i<x.cps.size,fun i H v H'=>H'=H/\∃c,x.cps[i]? =some c/\v=.str ⟨#[c]⟩,fun i _=>x.cps.size<=i⟩
theorem signs_get{x:Str}{i:Nat}{d:D}(h:(signs x)[i]? =some d):∃c,x.cps[i]? =some c/\d=.str ⟨#[c]⟩:=by
 unfold signs at h
 rw[List.getElem?_map]at h
 cases e:x.cps.toList[i]? with
 |none=>rw[e]at h;cases h
 |some c=>rw[e]at h;cases h;exact⟨c,by simpa using e,rfl⟩
theorem lu(x:Str):(signs x).length=x.cps.size:=by simp[signs]
theorem rJ{x:Str}(hz:x.cps.size<=sizeLine):Gives K (Its x) (signs x) H where
 go:=fun H1 p i d e=>by
  have:=(List.getElem?_eq_some_iff.mp e).1
  rw[lu]at this
  exact this
 yld:=fun H1 p i d e v H2 y=>by
  obtain⟨rfl,c,e1,rfl⟩:=y
  obtain⟨c',e2,rfl⟩:=signs_get e
  rw[e1]at e2
  cases e2
  exact⟨rfl,.inl rfl⟩
 stop:=fun H1 p i hi=>by rw[lu]at hi;exact hi
 len:=by rw[lu];exact hz
def Itk(a:Addr)(o:Obj)(kvs:List (Key×V)):It:=⟨fun i H=>H a=some (.frz o (.dK kvs))/\i<kvs.length,fun i H v H'=>H'=H/\∃k x,kvs[i]? =some (k,x)/\v=kV k,fun i H=>H a=some (.frz o (.dK kvs))/\kvs.length<=i⟩
theorem Ls(k:Key):bh K H (cH k) (kV k):=by cases k<;>rfl
theorem Cu{o:Obj}{kvs:List (Key×V)}(ha:H a=some (.frz o (.dK kvs)))(hz:kvs.length<=sizeLine):Gives K (Itk a o kvs) (kvs.map fun p=>cH p.1) H where
 go:=fun H1 p i d e=>by
  have:=(List.getElem?_eq_some_iff.mp e).1
  rw[List.length_map]at this
  exact⟨p.frzs _ _ _ ha,this⟩
 yld:=fun H1 p i d e v H2 y=>by
  obtain⟨rfl,k,x,e1,rfl⟩:=y
  rw[List.getElem?_map,e1]at e
  cases e
  exact⟨Ls k,.inl rfl⟩
 stop:=fun H1 p i hi=>by rw[List.length_map]at hi;exact⟨p.frzs _ _ _ ha,hi⟩
 len:=by rw[List.length_map];exact hz
end
section
variable{P:Program}{w:World}{K:PySem.W.Frag}{tg:Expr}
theorem uU(it:Addr)(x:Str)(t:Tok)(ty:String)(W:∀A':Around,A'.handled=none->Walks P w A' it [it] [it] x.cps.size (SignAt x) (fun i h=>h.IsStrIter it ty x t i))
  (hn:["enumerate","zip","dict_itemiterator","dict_reverseitemiterator","odict_iterator","itertools.zip_longest","itertools.pairwise"].contains ty=false)
  (hself:∀(A:Around)(i:Nat)(s:Shared)(Q:Value->Shared->Prop)(E:Value->Shared->Prop),s.heap.IsStrIter it ty x t i->Q (.ref it) s->wpAny (model P w) A (pyIter (.ref it)) Q E s):
  Turn P w K tg (Its x) [it] it (fun i h=>h.IsStrIter it ty x t i/\i<=x.cps.size) where
 mem:=by simp
 obj:=fun i h st b hb=>by
  have e:b=it:=by simpa using hb
  subst e
  obtain⟨⟨o,e,_,d⟩,_⟩:=st
  exact⟨o,e,fun v z=>by rw[d]at z;cases z⟩
 keep:=fun i h h' st k=>⟨let ⟨o,e,r⟩:=st.1;⟨o,k it (by simp) o e,r⟩,st.2⟩
 item:=by
  intro X hP hw hK hc i pins s σ H E I hf st hg
  subst hP hw hK
  obtain⟨f0,f1,f2,f3,f4,f5⟩:=hf it (by simp)
  refine(W X.A (I.ok.hd hc)).item i s _ _ hg st.1 fun v h' tk hv st' kk=>?_
  obtain⟨c,t,hx,rfl⟩:=hv
  have I1:Inv X pins σ H {s with heap:=h',toks:=tk}:=I.turned (fun b o hb e=>kk b o (by simpa using hb) e) f0 f1 f3 f4 f5
  obtain⟨o,e,cl,d⟩:=id st'
  exact⟨_,rfl,wj (s:={s with heap:=h',toks:=tk}) e cl d hn ⟨.str ⟨#[c]⟩,H,I1,⟨t,rfl⟩,⟨rfl,c,hx,rfl⟩,⟨st',hg⟩,fun b hb=>(hf b hb).1⟩⟩
 done:=by
  intro X hP hw hK hc i pins s σ H E I hf st hg
  subst hP hw hK
  obtain⟨f0,f1,f2,f3,f4,f5⟩:=hf it (by simp)
  have e:i=x.cps.size:=Nat.le_antisymm st.2 hg
  subst e
  exact(W X.A (I.ok.hd hc)).done s _ _ st.1 fun h' tk kk=>⟨rfl,I.turned (fun b o hb e=>kk b o (by simpa using hb) e) f0 f1 f3 f4 f5⟩
 self:=fun A i s Q E st h=>hself A i s Q E st.1 h
theorem KV.at_{kvs:List (Key×V)}{vs:List (Key×Value)}(r:KV kvs vs):∀{i:Nat}{k:Key}{x:V},kvs[i]? =some (k,x)->∃u,vs[i]? =some (k,u):=by
 intro i k x e
 induction r generalizing i with
 |nil=>simp at e
 | @cons p q ps qs h t ih=>
  cases i with
  |zero=>
   simp at e
   subst e
   exact⟨q.2,by simp;rw[Prod.ext_iff];exact⟨h.1.symm,rfl⟩⟩
  |succ i=>exact ih (by simpa using e)
theorem rO{P:Program}{w:World}{h:Heap}{a:Addr}{o:Obj}{es:Array DictEntry}{ep:Nat}{vs:List (Key×Value)}(ho:h.get? a=some o)(hd:o.data=.dict es ep)(D:h.DictOf (bL P w) a vs):h.DictAt (bL P w) a vs ep:=by
 obtain⟨o',es',ep',e,x,d,r⟩:=D
 rw[ho]at e
 cases e
 rw[hd]at d
 cases d
 exact⟨o,es,ho,x,hd,r⟩
theorem Lr{P:Program}{w:World}{k:Key}{v:Value}(h:(bL P w).is k v=true):RelV (kV k) v:=by
 rcases bI (k:=k) (v:=v) h with ⟨i,t,rfl,rfl⟩|⟨x,t,rfl,rfl⟩
 ·exact⟨t,rfl⟩
 ·exact⟨t,rfl⟩
theorem DW(it a:Addr)(o:Obj)(es:Array DictEntry)(kvs:List (Key×V))(ep:Nat)(hep:o.data=.dict es ep):
  Turn P w K tg (Itk a o kvs) [it] it (fun i h=>h.IsKeyIter it a i kvs.length ep) where
 mem:=by simp
 obj:=fun i h st b hb=>by
  have e:b=it:=by simpa using hb
  subst e
  obtain⟨o,e,_,d⟩:=st
  exact⟨o,e,fun v z=>by rw[d]at z;cases z⟩
 keep:=fun i h h' st k=>st.at fun o e=>k it (by simp) o e
 item:=by
  intro X hP hw hK hc i pins s σ H E I hf st hg
  subst hP hw hK
  obtain⟨f0,f1,f2,f3,f4,f5⟩:=hf it (by simp)
  obtain⟨ha,hi⟩:=hg
  obtain⟨ho,hz,_,vs,r,D⟩:=I.hok a _ ha
  have hl:kvs.length=vs.length:=Paired.length r
  obtain⟨⟨k,x⟩,hx⟩:∃p,kvs[i]? =some p:=⟨kvs[i],by simp[hi]⟩
  obtain⟨u,hu⟩:=KV.at_ r hx
  rw[hl]at st
  refine wpAny_pyNext_dict_item st (rO ho hep D) hu fun key h' hk st' sb=>?_
  have I1:Inv X pins σ H {s with heap:=h'}:=I.turned (t':=s.toks) (fun b o hb e=>(sb.2 b hb).trans e) f0 f1 f3 f4 f5
  rw[<-hl]at st'
  obtain⟨oi,e,c,d⟩:=id st'
  exact⟨key,rfl,wj (s:={s with heap:=h'}) e c d (by decide) ⟨kV k,H,I1,Lr hk,⟨rfl,k,x,hx,rfl⟩,st',fun b hb=>(hf b hb).1⟩⟩
 done:=by
  intro X hP hw hK hc i pins s σ H E I hf st hg
  subst hP hw hK
  obtain⟨f0,f1,f2,f3,f4,f5⟩:=hf it (by simp)
  obtain⟨ha,hi⟩:=hg
  obtain⟨ho,hz,_,vs,r,D⟩:=I.hok a _ ha
  have hl:kvs.length=vs.length:=Paired.length r
  rw[hl]at st
  exact wpAny_pyNext_dict_end (I.ok.hd hc) st (rO ho hep D) (by simp;omega) fun h' eb=>⟨rfl,I.turned (t':=s.toks) (fun b o hb e=>eb b o hb e) f0 f1 f3 f4 f5⟩
 self:=fun A i s Q E st h=>wpAny_pyIter_keyiter st h
end
section
variable{X:Cx}{W:Wi}{c:Cf}{m:E}{tg e:Expr}
theorem G5{pins:List (Addr×Obj)}{σ:St}{H:Hp}{s:Shared}{R:It->Hp->Prop}{d:D}{xs:List D}{v:V}{u:Value}(I:Inv X pins σ H s)(rv:RelV v u)(hd:bh X.K H d v)(hi:items d=some xs)(q:∀J,Gives X.K J xs H->R J H):
  wpAny (model X.prog X.w) X.A (pyIter u) (PIE X pins σ tg R) X.xe s:=by
 have fp:∀(s':Shared),s.heap.objs.size<=s'.heap.objs.size->True:=fun _ _=>trivial
 cases d with
 |tup ds=>
  cases hi
  obtain⟨a,vs,rfl,hq,l⟩:=bQ hd
  cases rv
  obtain⟨its,r,p,hz⟩:=I.tuple hq
  refine wpAny_pyIter_tuple (show s.heap.IsTuple a its.toArray from p) ?_
  refine⟨s.heap.objs.size,[s.heap.objs.size],_,_,H,rfl,I.kept (t':=s.toks) fun b o e=>Heap.get?_push_of_some _ e,wQ a _,⟨_,Heap.get?_push_size _ rfl,rfl,rfl⟩,fun b hb=>?_,q _ (Cq hq l hz)⟩
  have e:b=s.heap.objs.size:=by simpa using hb
  subst e
  exact I.yg (Nat.le_refl _) (I.hok.fresh (Nat.le_refl _))
 |lst ds=>
  cases hi
  obtain⟨a,vs,rfl,hq,l⟩:=cP hd
  cases rv
  obtain⟨its,r,p,hz⟩:=I.list hq.sq
  refine wpAny_pyIter_list p.isList ?_
  refine⟨s.heap.objs.size,[s.heap.objs.size],_,_,H,rfl,I.kept (t':=s.toks) fun b o e=>Heap.get?_push_of_some _ e,Ao a _,⟨_,Heap.get?_push_size _ rfl,rfl,rfl⟩,fun b hb=>?_,q _ (Cr hq l hz)⟩
  have e:b=s.heap.objs.size:=by simpa using hb
  subst e
  exact I.yg (Nat.le_refl _) (I.hok.fresh (Nat.le_refl _))
 |str x=>
  simp only[items]at hi
  split at hi
  ·rename_i hf
   cases hi
   cases hd
   obtain⟨t,rfl⟩:=rv
   have hz:x.cps.size<=sizeLine:=dM hf
   have fin:∀b∈[s.heap.objs.size],iD X pins H b:=fun b hb=>by
    have e:b=s.heap.objs.size:=by simpa using hb
    subst e
    exact I.yg (Nat.le_refl _) (I.hok.fresh (Nat.le_refl _))
   cases ha:x.cps.all (· <128)
   ·refine wpAny_pyIter_wide ha ?_
    exact⟨s.heap.objs.size,[s.heap.objs.size],_,_,H,rfl,I.kept (t':=s.toks) fun b o e=>Heap.get?_push_of_some _ e,uU _ x t "str_iterator" (fun A' hA=>Walks.strWide hA _ x t) (by decide) (fun A i s Q E st h=>wpAny_pyIter_striter_wide st h),⟨⟨_,Heap.get?_push_size _ rfl,rfl,rfl⟩,Nat.zero_le _⟩,fin,q _ (rJ hz)⟩
   ·refine wpAny_pyIter_ascii ha ?_
    exact⟨s.heap.objs.size,[s.heap.objs.size],_,_,H,rfl,I.kept (t':=s.toks) fun b o e=>Heap.get?_push_of_some _ e,uU _ x t "str_ascii_iterator" (fun A' hA=>Walks.strAscii hA _ x t) (by decide) (fun A i s Q E st h=>wpAny_pyIter_striter_ascii st h),⟨⟨_,Heap.get?_push_size _ rfl,rfl,rfl⟩,Nat.zero_le _⟩,fin,q _ (rJ hz)⟩
  ·cases hi
 |dG ks ds=>
  cases hi
  unfold bh at hd
  obtain⟨a,o,kvs,rfl,ha,rfl,l⟩:=hd
  cases rv
  obtain⟨ho,hz,hS,vs,r,D⟩:=I.hok a _ ha
  have hl:kvs.length=vs.length:=Paired.length r
  obtain⟨ep,o',es,e1,e2,e3,e4⟩:=D.dictAt
  rw[ho]at e1
  cases e1
  refine wpAny_pyIter_dict hS ⟨o,es,ho,e2,e3,e4⟩ ?_
  rw[<-hl]
  refine⟨s.heap.objs.size,[s.heap.objs.size],_,_,H,rfl,I.kept (t':=s.toks) fun b o e=>Heap.get?_push_of_some _ e,DW _ a o es kvs ep e3,⟨_,Heap.get?_push_size _ rfl,rfl,rfl⟩,fun b hb=>?_,q _ (Cu ha hz)⟩
  have e:b=s.heap.objs.size:=by simpa using hb
  subst e
  exact I.yg (Nat.le_refl _) (I.hok.fresh (Nat.le_refl _))
 |_=>cases hi
theorem Zj(h:GE X W c m e):GI X W c m tg e:=by
 intro env pins s σ H R I q
 refine bV (h.d pins s σ H (fun v H'=>∃d xs,bh X.K H' d v/\items d=some xs/\∀J,Gives X.K J xs H'->R J H') I ⟨env,q.1,?_⟩) fun u s1⟨v,H1,I1,r1,d,xs,hd,hi,q1⟩=>G5 I1 r1 hd hi q1
 have q2:=q.2
 cases r:ev c m env with
 |bad=>rw[r]at q2;exact q2
 |exc k env1=>rw[r]at q2;exact q2
 |ok x env1=>
  rw[r]at q2
  obtain⟨d,xs,ed,ei,q3⟩:=q2
  cases x with
  |val d'=>cases ed;exact fun v H' N Dv=>⟨d,xs,Dv,ei,fun J G=>q3 J H' N G⟩
  |new o=>cases ed;exact fun v H' N Dv=>⟨o.d,xs,Dv,ei,fun J G=>q3 J H' N G⟩
  |ref i=>cases ed
  |tmp o=>cases ed
end
end Mini
end
section
namespace Mini
open PySem L2
def Wt:Ty->String
 |.tup=>"tuple"
 |.lst=>"list"
 |.str=>"str"
 |.bool=>"bool"
 |.int=>"int"
 |.dG=>"dict"
section
variable{X:Cx}{W:Wi}{c:Cf}{m m1 m2:E}{a b e:Expr}{pos p p':Pos}
def aca(K:PySem.W.Frag):List V->Hp->VK->Prop:=fun xs H Q=>∃d v t,xs=[v,.ty (Wt t)]/\bh K H d v/\Q (.bl (fG t d)) H
theorem HR:eF X (.builtin "isinstance") (aca X.K):=by
 intro pins s σ H xs us Q I r h
 obtain⟨d,v,t,rfl,hd,q⟩:=h
 obtain⟨u,u',rfl,ru,rt⟩:=Vals.two r
 cases rt
 have fin:∀k,Q (.bl k) H->EP X pins σ Q (.bool k) {s with toks:=s.toks+1}:=fun k z=>⟨.bl k,H,I.tok _,rfl,z⟩
 have fin0:∀k,Q (.bl k) H->EP X pins σ Q (.bool k) s:=fun k z=>⟨.bl k,H,I,rfl,z⟩
 cases d with
 |non=>
  cases hd;cases ru
  cases t with
  |tup=>exact IsiPair.NoneType_tuple (fin _ q)
  |lst=>exact IsiPair.NoneType_list (fin _ q)
  |str=>exact IsiPair.NoneType_str (fin _ q)
  |bool=>exact IsiPair.NoneType_bool (fin _ q)
  |int=>exact IsiPair.NoneType_int (fin _ q)
  |dG=>exact IsiPair.NoneType_dict (fin _ q)
 |bl k=>
  cases hd;cases ru
  cases t with
  |tup=>exact IsiPair.bool_tuple (fin _ q)
  |lst=>exact IsiPair.bool_list (fin _ q)
  |str=>exact IsiPair.bool_str (fin _ q)
  |bool=>exact IsiPair.bool_bool (fin0 _ q)
  |int=>exact IsiPair.bool_int (fin0 _ q)
  |dG=>exact IsiPair.bool_dict (fin _ q)
 |int k=>
  cases hd;obtain⟨tk,rfl⟩:=ru
  cases t with
  |tup=>exact IsiPair.int_tuple (fin _ q)
  |lst=>exact IsiPair.int_list (fin _ q)
  |str=>exact IsiPair.int_str (fin _ q)
  |bool=>exact IsiPair.int_bool (fin _ q)
  |int=>exact IsiPair.int_int (fin0 _ q)
  |dG=>exact IsiPair.int_dict (fin _ q)
 |str k=>
  cases hd;obtain⟨tk,rfl⟩:=ru
  cases t with
  |tup=>exact IsiPair.str_tuple (fin _ q)
  |lst=>exact IsiPair.str_list (fin _ q)
  |str=>exact IsiPair.str_str (fin0 _ q)
  |bool=>exact IsiPair.str_bool (fin _ q)
  |int=>exact IsiPair.str_int (fin _ q)
  |dG=>exact IsiPair.str_dict (fin _ q)
 |tup ds=>
  obtain⟨a,vs,rfl,hq,_⟩:=bQ hd
  cases ru
  obtain⟨its,_,⟨o,e,cl,_⟩,_⟩:=I.tuple hq
  cases t with
  |tup=>exact IsiPair.tuple_tuple e cl (fin0 _ q)
  |lst=>exact IsiPair.tuple_list e cl (fin _ q)
  |str=>exact IsiPair.tuple_str e cl (fin _ q)
  |bool=>exact IsiPair.tuple_bool e cl (fin _ q)
  |int=>exact IsiPair.tuple_int e cl (fin _ q)
  |dG=>exact IsiPair.tuple_dict e cl (fin _ q)
 |lst ds=>
  obtain⟨a,vs,rfl,hq,_⟩:=cP hd
  cases ru
  obtain⟨its,_,⟨o,n,e,cl,_⟩,_⟩:=I.list hq.sq
  cases t with
  |tup=>exact IsiPair.list_tuple e cl (fin _ q)
  |lst=>exact IsiPair.list_list e cl (fin0 _ q)
  |str=>exact IsiPair.list_str e cl (fin _ q)
  |bool=>exact IsiPair.list_bool e cl (fin _ q)
  |int=>exact IsiPair.list_int e cl (fin _ q)
  |dG=>exact IsiPair.list_dict e cl (fin _ q)
 |dG ks ds=>
  unfold bh at hd
  obtain⟨a,o,kvs,rfl,ha,_⟩:=hd
  cases ru
  obtain⟨e,_,_,_,_,o',_,_,e',ex,_⟩:=I.hok a _ ha
  rw[e]at e'
  cases e'
  have cl:=ex.1
  cases t with
  |tup=>exact IsiPair.dict_tuple e cl (fin _ q)
  |lst=>exact IsiPair.dict_list e cl (fin _ q)
  |str=>exact IsiPair.dict_str e cl (fin _ q)
  |bool=>exact IsiPair.dict_bool e cl (fin _ q)
  |int=>exact IsiPair.dict_int e cl (fin _ q)
  |dG=>exact IsiPair.dict_dict e cl (fin0 _ q)
theorem Ui{t:Ty}{x:Str}(ha:GE X W c m a)(hx:x=Str.ofString (Wt t))(hg:Gl X x)(hm:X.mg x=none)(hi:Gl X "isinstance")(hmi:X.mg "isinstance"=none)
  (hs:starEach [a,.Name x p'] X.env=(false,eval a X.env)::starEach [.Name x p'] X.env):
  GE X W c (.isi m t) (.Call (.Name "isinstance" p) [a,.Name x p'] [] pos):=by
 intro env
 have hv:bootBuiltins x=some (.type (Wt t)):=by subst hx;cases t<;>kernel_rfl
 have hn:x≠"__name__":=by subst hx;cases t<;>decide+kernel
 have hd:(x==("__debug__":Str))=false:=by subst hx;cases t<;>decide+kernel
 have N:PE X (.Name x p') (tC (.ty (Wt t))):=zg hg hm hv rfl hn hd
 refine PE.imp (gH HR hi hmi (by kernel_rfl) (bC ha.d (bC N dz rfl) hs) (by decide+kernel) (by decide+kernel) hs rfl) fun σ H Q q=>?_
 simp only[Jx]at q
 exact⟨env,aR q fun d env1 v H1 N1 D1 q1=>⟨d,v,t,rfl,D1,dI q1 rfl⟩⟩
end
end Mini
end
section
namespace Mini
open PySem L2
def mV(X:Cx)(r:List V->Hp->VK->Prop)(f:D->Option Rv):Prop:=
 ∀(env:Ev)(σ:St)(H:Hp)(x:D)(z:Rv)(v:V)(Q:VK),Sat X.K env σ H->dF X.K H x v->f x=some z->(∀w H',Nx X.K env σ H env H'->fY X.K σ H H' z w->Q w H')->r [v] H Q
section
variable{X:Cx}{W:Wi}{c:Cf}{m m1 m2:E}{a b e:Expr}{pos p p':Pos}
theorem HX{bb:Bi}{r:List V->Hp->VK->Prop}(R:mV X r (b1 bb)){env:Ev}{σ:St}{H:Hp}{Q:VK}(hv:m.au=none)(q:tM X.K W env (ev c (.bi bb m) env) σ H Q):aD X W c m σ H fun v H1=>r [v] H1 Q:=by
 simp only[sJ,hv]at q
 refine⟨env,aR q fun d env1 v H1 N1 D1 q1=>?_⟩
 obtain⟨z,ez,S,q3⟩:=cL q1
 exact R env1 σ H1 d z v Q S (.inl D1) ez q3
theorem Ab{bb:Bi}{r:List V->Hp->VK->Prop}(R:mV X r (b1 bb)){env:Ev}{σ:St}{H:Hp}{Q:VK}{k:Nat}(hv:m.au=some k)(q:tM X.K W env (ev c (.bi bb m) env) σ H Q):Av k σ H fun v H1=>r [v] H1 Q:=by
 simp only[sJ,hv]at q
 obtain⟨z,ez,S,q3⟩:=cL q
 cases e0:aO k env with
 |none=>rw[e0]at ez;cases ez
 |some d0=>
  rw[e0]at ez
  obtain⟨u,eu,Du⟩:=eU S e0
  exact⟨u,eu,R env σ H d0 z u Q S Du ez q3⟩
theorem uo{bb:Bi}{id:String}{x:Str}{r:List V->Hp->VK->Prop}(C:eF X (.builtin id) r)(R:mV X r (b1 bb))(ha:GE X W c m a)(hv:∀k,m.au=some k->∃x p,a=.Name x p/\fZ X k x)
  (hg:Gl X x)(hm:X.mg x=none)(hb:bootBuiltins x=some (.builtin id))(hn:x≠"__name__")(hd:(x==("__debug__":Str))=false)(hs:starEach [a] X.env=[(false,eval a X.env)]):
  GE X W c (.bi bb m) (.Call (.Name x p) [a] [] pos):=by
 intro env
 cases q:m.au with
 |none=>exact PE.imp (gH C hg hm hb (bC ha.d dz hs) hn hd hs rfl) fun σ H Q h=>HX R q h
 |some k=>
  obtain⟨y,p',rfl,nm⟩:=hv k q
  exact PE.imp (gH C hg hm hb (bC nm.pe dz hs) hn hd hs rfl) fun σ H Q h=>Ab R q h
theorem ye{bb:Bi}{id:String}{x:Str}{r:List V->Hp->VK->Prop}(C:eF X (.type id) r)(R:mV X r (b1 bb))(ha:GE X W c m a)(hv:∀k,m.au=some k->∃x p,a=.Name x p/\fZ X k x)
  (hg:Gl X x)(hm:X.mg x=none)(hb:bootBuiltins x=some (.type id))(hn:x≠"__name__")(hd:(x==("__debug__":Str))=false)(hs:starEach [a] X.env=[(false,eval a X.env)]):
  GE X W c (.bi bb m) (.Call (.Name x p) [a] [] pos):=by
 intro env
 cases q:m.au with
 |none=>exact PE.imp (jl C hg hm hb (bC ha.d dz hs) hn hd hs rfl) fun σ H Q h=>HX R q h
 |some k=>
  obtain⟨y,p',rfl,nm⟩:=hv k q
  exact PE.imp (jl C hg hm hb (bC nm.pe dz hs) hn hd hs rfl) fun σ H Q h=>Ab R q h
theorem dF.seq{K:PySem.W.Frag}{H:Hp}{d:D}{xs:List D}{v:V}(h:dF K H d v)(e:bw d=some xs):∃a vs,v=.ref a/\(iU K H a vs\/iC K H a vs)/\ao K H xs vs:=by
 cases d with
 |tup ys=>cases e;exact h.JT
 |lst ys=>cases e;exact h.Eu
 |_=>cases e
theorem dF.dG{K:PySem.W.Frag}{H:Hp}{ks ds:List D}{v:V}(h:dF K H (.dG ks ds) v):∃a kvs,v=.ref a/\Rd H a (.dK kvs)/\ks=kvs.map (fun p=>cH p.1)/\ao K H ds (kvs.map (·.2)):=by
 rcases h with h|⟨o,a,q,rfl,u,ha,hq⟩
 ·unfold bh at h
  obtain⟨a,o,kvs,rfl,ha,k,l⟩:=h
  exact⟨a,kvs,rfl,.inr ⟨o,ha⟩,k,l⟩
 ·cases o<;>cases q
  obtain⟨kvs,rfl,k,l⟩:=hq
  exact⟨a,kvs,rfl,.inl ha,k,l⟩
def Ro(K:PySem.W.Frag):List V->Hp->VK->Prop:=fun xs H Q=>(∃x n,xs=[x]/\U4 K x H n/\Q (.int n) H)\/∃a kvs,xs=[.ref a]/\Rd H a (.dK kvs)/\Q (.int kvs.length) H
theorem CQ:eF X (.builtin "len") (Ro X.K):=by
 intro pins s σ H xs us Q I r h
 rcases h with h|⟨a,kvs,rfl,e,q⟩
 ·exact HQ pins s σ H xs us Q I r h
 ·obtain⟨u,rfl,ru⟩:=vals1 r
  cases ru
  exact Zz I e fun t s' I'=>⟨.int kvs.length,H,I',⟨t,rfl⟩,q⟩
theorem J4:mV X (Ro X.K) (b1 .len):=by
 intro env σ H x z v Q S Dx e q
 have go:∀(n:Nat),BK x=some n->U4 X.K v H n->Ro X.K [v] H Q:=fun n en ln=>by
  simp only[b1,en]at e
  cases e
  exact .inl ⟨v,n,rfl,ln,q _ H (Nx.refl S) rfl⟩
 cases x with
 |tup xs=>
  obtain⟨a,vs,rfl,hq,l⟩:=Dx.JT
  refine go xs.length rfl ?_
  rcases hq with hq|hq
  ·exact .inl ⟨vs,hq,l.length⟩
  ·exact .inr ⟨vs,hq,l.length⟩
 |lst xs=>
  obtain⟨a,vs,rfl,hq,l⟩:=Dx.Eu
  refine go xs.length rfl ?_
  rcases hq with hq|hq
  ·exact .inl ⟨vs,hq,l.length⟩
  ·exact .inr ⟨vs,hq,l.length⟩
 |str y=>
  have:=Dx.str
  subst this
  by_cases hf:fits y.length=true
  ·exact go y.length (by simp[BK,hf]) ⟨dM hf,rfl⟩
  ·simp[b1,BK,hf]at e
 |dG ks ds=>
  cases e
  obtain⟨a,kvs,rfl,hr,hk,l⟩:=Dx.dG
  have e2:ks.length=kvs.length:=by rw[hk,List.length_map]
  exact .inr ⟨a,kvs,rfl,hr,by rw[<-e2];exact q _ H (Nx.refl S) rfl⟩
 |_=>cases e
theorem J5:mV X (fun xs H Q=>(∃i,xs=[.int i]/\Q (.int i) H)\/∃k,xs=[.bl k]/\Q (.int (if k then 1 else 0)) H) (b1 .int):=by
 intro env σ H x z v Q S Dx e q
 cases x with
 |int i=>
  cases e
  have:=Dx.int
  subst this
  exact .inl ⟨i,rfl,q _ H (Nx.refl S) rfl⟩
 |bl k=>
  cases e
  rcases Dx with h|⟨o,a,q',_⟩
  ·cases h
   exact .inr ⟨k,rfl,q _ H (Nx.refl S) (by cases k<;>rfl)⟩
  ·cases o<;>cases q'
 |_=>cases e
theorem Be:mV X (fun xs H Q=>∃p ys,xs=[.ref p]/\((iU X.K H p ys/\∀l,H l=none->Q (.ref l) (upd H l (.tup ys)))\/(iC X.K H p ys/\Q (.ref p) H))) (b1 .tuple):=by
 intro env σ H x z v Q S Dx e q
 simp only[b1]at e
 cases es:bw x with
 |none=>rw[es]at e;cases e
 |some xs=>
  rw[es]at e
  cases e
  obtain⟨a,vs,rfl,hq,l⟩:=Dx.seq es
  refine⟨a,vs,rfl,?_⟩
  rcases hq with hq|hq
  ·refine .inl ⟨hq,fun p hp=>?_⟩
   have N:=Nx.laid (o:=.tup vs) S hp
   exact q _ _ N (cX (.inl (.inl aQ)) (l.mono N.pers))
  ·exact .inr ⟨hq,q _ H (Nx.refl S) (cX hq l)⟩
theorem Ez:mV X (fun xs H Q=>∃p ys,xs=[.ref p]/\(iU X.K H p ys\/iC X.K H p ys)/\∀l,H l=none->Q (.ref l) (upd H l (.lst ys))) (b1 .list):=by
 intro env σ H x z v Q S Dx e q
 simp only[b1]at e
 cases es:bw x with
 |none=>rw[es]at e;cases e
 |some xs=>
  rw[es]at e
  cases e
  obtain⟨a,vs,rfl,hq,l⟩:=Dx.seq es
  exact⟨a,vs,rfl,hq,fun p hp=>q _ _ (Nx.laid S hp) (jZ S l hp)⟩
theorem BoolsAre.get{vs:List Value}{bs:List Bool}(h:BoolsAre vs bs):∀{i:Nat}{v:Value},vs[i]? =some v->∃b,bs[i]? =some b/\v=.bool b:=by
 induction h with
 |nil=>intro i v e;simp at e
 |cons b t ih=>
  intro i v e
  cases i with
  |zero=>simp at e;subst e;exact⟨b,rfl,rfl⟩
  |succ i=>exact ih (by simpa using e)
theorem range_all(bs:List Bool):((List.range bs.length).all fun i=>bs.getD i false)=bs.all id:=by
 rw[Bool.eq_iff_iff]
 simp only[List.all_eq_true,List.mem_range,id]
 constructor
 ·intro h b hb
  obtain⟨i,hi,e⟩:=List.mem_iff_getElem.mp hb
  have:=h i hi
  rw[List.getD_eq_getElem?_getD,List.getElem?_eq_getElem hi]at this
  simpa[e]using this
 ·intro h i hi
  rw[List.getD_eq_getElem?_getD,List.getElem?_eq_getElem hi]
  exact h _ (List.getElem_mem hi)
theorem range_any(bs:List Bool):((List.range bs.length).any fun i=>bs.getD i false)=bs.any id:=by
 rw[Bool.eq_iff_iff]
 simp only[List.any_eq_true,List.mem_range,id]
 constructor
 ·rintro ⟨i,hi,h⟩
  rw[List.getD_eq_getElem?_getD,List.getElem?_eq_getElem hi]at h
  exact⟨bs[i],List.getElem_mem hi,by simpa using h⟩
 ·rintro ⟨b,hb,h⟩
  obtain⟨i,hi,e⟩:=List.mem_iff_getElem.mp hb
  exact⟨i,hi,by rw[List.getD_eq_getElem?_getD,List.getElem?_eq_getElem hi];simpa[e]using h⟩
def Vs(K:PySem.W.Frag)(f:List Bool->Bool):List V->Hp->VK->Prop:=fun xs H Q=>∃p vs ds bs,xs=[.ref p]/\(iU K H p vs\/iC K H p vs)/\ao K H ds vs/\bools ds=some bs/\Q (.bl (f bs)) H
theorem lW{P:Program}{w:World}{A:Around}{its:List Value}{bs:List Bool}(hb:BoolsAre its bs):TruthOf P w A (fun i v=>its.toArray[i]? =some v) fun i=>bs.getD i false:=by
 intro i v s Q E hv h
 obtain⟨b,e,rfl⟩:=hb.get (i:=i) (v:=v) (by simpa using hv)
 have h:Q (bs.getD i false) s:=h
 rw[List.getD_eq_getElem?_getD,e]at h
 exact wpAny_truthy_bool h
theorem pK{id:String}{f:List Bool->Bool}{g:Nat->(Nat->Bool)->Bool}(hc:X.calm=true)(hg:∀bs:List Bool,g bs.length (fun i=>bs.getD i false)=f bs)
  (hcall:∀{E:Value->Shared->Prop}{s:Shared}{x:Value}{Q:Value->Shared->Prop},
   wpAny (model X.prog X.w) X.A.in1 (pyIter x) (fun it s₂=>∃I fp wr n P St tr,it=.ref I/\Walks X.prog X.w X.A.in1 I fp wr n P St/\St 0 s₂.heap/\TruthOf X.prog X.w X.A.in1 P tr/\
    ∀h' tk,(∀b o,b∉wr->s₂.heap.get? b=some o->h'.get? b=some o)->Q (.bool (g n tr)) {s₂ with heap:=h',toks:=tk}) E s->wpAny (model X.prog X.w) X.A (call (.builtin id) [x]) Q E s):
  eF X (.builtin id) (Vs X.K f):=by
 intro pins s σ H xs us Q I r h
 obtain⟨a,vs,ds,bs,rfl,hq,l,hb,q⟩:=h
 obtain⟨u,rfl,ru⟩:=Vals.one r
 cases ru
 have hh:X.A.in1.handled=none:=I.ok.hd hc
 refine hcall ?_
 have fin:∀(its:List Value)(o:Obj),Vals vs its->∀h' tk,(∀b o',b∉[s.heap.objs.size]->(s.heap.push o).get? b=some o'->h'.get? b=some o')->EP X pins σ Q (.bool (g its.toArray.size fun i=>bs.getD i false)) {s with heap:=h',toks:=tk}:=fun its o rv h' tk k=>by
  have hl:its.toArray.size=bs.length:=by
   have:=(fJ hb l rv).length
   simpa using this
  rw[hl,hg]
  refine⟨.bl (f bs),H,I.kept fun b o' e=>k b o' ?_ (Heap.get?_push_of_some _ e),rfl,q⟩
  simp only[List.mem_singleton]
  exact Nat.ne_of_lt (Heap.lt_size e)
 rcases hq with hq|hq
 ·obtain⟨its,rv,p,hz⟩:=I.list hq
  have hlt:a≠s.heap.objs.size:=by
   obtain⟨o,n,e,_⟩:=p
   exact Nat.ne_of_lt (Heap.lt_size e)
  refine wpAny_pyIter_list p.isList ⟨s.heap.objs.size,[s.heap.objs.size,a],[s.heap.objs.size],its.toArray.size,_,_,_,rfl,Walks.list hh _ a hlt its.toArray,⟨⟨_,Heap.get?_push_size _ rfl,rfl,rfl⟩,p.isList.at fun o e=>Heap.get?_push_of_some _ e⟩,lW (fJ hb l rv),fin its _ rv⟩
 ·obtain⟨its,rv,p,hz⟩:=I.tuple hq
  have hlt:a≠s.heap.objs.size:=by
   obtain⟨o,e,_⟩:=p
   exact Nat.ne_of_lt (Heap.lt_size e)
  have p':s.heap.IsTuple a its.toArray:=p
  refine wpAny_pyIter_tuple p' ⟨s.heap.objs.size,[s.heap.objs.size,a],[s.heap.objs.size],its.toArray.size,_,_,_,rfl,Walks.tuple hh _ a hlt its.toArray,⟨⟨_,Heap.get?_push_size _ rfl,rfl,rfl⟩,p'.at fun o e=>Heap.get?_push_of_some _ e⟩,lW (fJ hb l rv),fin its _ rv⟩
theorem Dc(hc:X.calm=true):eF X (.builtin "all") (Vs X.K (·.all id)):=pK (g:=fun n tr=>(List.range n).all tr) hc range_all call_all_walk
theorem CZ(hc:X.calm=true):eF X (.builtin "any") (Vs X.K (·.any id)):=pK (g:=fun n tr=>(List.range n).any tr) hc range_any call_any_walk
theorem qK{bb:Bi}{f:List Bool->Bool}(hb:∀xs,V2 bb xs=(bools xs).map fun bs=>.val (.bl (f bs)))(h1:∀x,b1 bb x=(bw x).bind (V2 bb)):mV X (Vs X.K f) (b1 bb):=by
 intro env σ H x z v Q S Dx e q
 rw[h1]at e
 cases es:bw x with
 |none=>rw[es]at e;cases e
 |some xs=>
  rw[es]at e
  simp only[Option.bind,hb]at e
  cases eb:bools xs with
  |none=>rw[eb]at e;cases e
  |some bs=>
   rw[eb]at e
   cases e
   obtain⟨a,vs,rfl,hq,l⟩:=Dx.seq es
   exact⟨a,vs,xs,bs,rfl,hq,l,eb,q _ H (Nx.refl S) rfl⟩
theorem J7:mV X (Vs X.K (·.all id)) (b1 .all):=qK (fun _=>rfl) fun _=>rfl
theorem J6:mV X (Vs X.K (·.any id)) (b1 .any):=qK (fun _=>rfl) fun _=>rfl
end
end Mini
end
section
namespace HT
open PySem PySem.Spec PyProof.Rows
section
variable{prog:Program}{w:World}{A:Around}{E:Value->Shared->Prop}{s:Shared}
theorem jx{t sl:Addr}{items:Array Value}{vl vu:Value}{lo hi:Option Int}{Q:Value->Shared->Prop}(ht:IsTup s.heap t items)(hs:s.heap.IsSliceOf sl vl vu .none)(pl:IsPart vl lo)(pu:IsPart vu hi)
  (hw:cR items.size 0 lo=0/\cR items.size items.size hi=items.size)(h:Q (.ref t) s):wpAny (model prog w) A (getItem (.ref t) (.ref sl)) Q E s:=by
 obtain⟨os,hos,hcs,hds⟩:=id hs
 have hTs:s.TypeIs (.ref sl) "slice":=⟨os,hos,hcs⟩
 unfold getItem
 try with_reducible refine wpAny_holding ?_
 first|refine wpAny_bind (wpAny_pure ?_)|skip
 refine wpAny_bind (wpAny_sequenceKey ht.typeIs (by decide) ?_)
 refine wpAny_bind (wpAny_callSpecial?_slot (name:=Str.ofString "__getitem__") ht.typeIs PyProof.Rows.slot_tuple_getitem
  (wpAny_call_entry PyProof.Rows.slot_tuple_getitem ht.typeIs entry_tuple_getitem ?_ (args_tuple_getitem _ _)))
 show wpAny _ _ (Builtin.Tuple.tupleItemsOf (.ref t)>>=_) _ _ s
 refine wpAny_bind (tupleItemsOf_ ht ?_)
 refine wpAny_bind (wpAny_typeOf hTs ?_)
 rw[if_pos (by decide)]
 refine wpAny_bind (gF hs pl pu ?_)
 have hno:((((cR items.size 0 lo:Nat):Int)==0&&(1:Int)==1&&(cR items.size items.size hi-cR items.size 0 lo)==items.size)=true):=by
  rw[hw.1,hw.2];simp
 show wpAny _ _ (if (((cR items.size 0 lo:Nat):Int)==0&&(1:Int)==1&&(cR items.size items.size hi-cR items.size 0 lo)==items.size)=true then _ else _) _ _ s
 rw[if_pos hno]
 refine wpAny_bind ?_
 unfold Builtin.Tuple.tupleIsExact
 refine wpAny_bind (wpAny_typeOf ht.typeIs (wpAny_pure ?_))
 rw[if_pos (by decide)]
 exact wpAny_bind (wpAny_rule (wpAny_pure ⟨_,rfl,wpAny_pure h⟩))
end
end HT
namespace Mini
open PySem L2
section
variable{X:Cx}{W:Wi}{c:Cf}{m m1 m2 m3:E}{a b e:Expr}{pos p p2:Pos}
def Om(K:PySem.W.Frag):V->Option Int->Option Int->Hp->VK->Prop:=fun x lo hi H Q=>∃a xs,x=.ref a/\iC K H a xs/\
 (HT.cR xs.length 0 lo=0/\HT.cR xs.length xs.length hi=xs.length)/\Q (.ref a) H
theorem JN:Nf X (Om X.K):=by
 intro pins s σ H x v vl vu lo hi sl Q I rx hs pl pu h
 obtain⟨a,xs,rfl,hx,hw,q⟩:=h
 cases rx
 obtain⟨its,r,ht,hz⟩:=I.tuple hx
 have hlen:its.toArray.size=xs.length:=by rw[List.size_toArray];exact r.length.symm
 exact⟨"tuple",_,PyProof.Rows.slot_tuple_getitem.lookup,ht.typeIs,HT.jx ht hs pl pu (by rw[hlen];exact hw) ⟨.ref a,H,I,rfl,q⟩⟩
def XJ(K:PySem.W.Frag):V->Option Int->Option Int->Hp->VK->Prop:=fun x lo hi H Q=>XF K x lo hi H Q\/Om K x lo hi H Q\/XH K x lo hi H Q
theorem Rb:Nf X (XJ X.K):=Ra.or (JN.or JP)
theorem nu(n:Nat)(i:Int)(d:Nat):clip n i=HT.cR n d (some i):=by
 unfold clip HT.cR
 dsimp only
 by_cases h:i<0
 ·rw[if_pos h,if_pos h]
  split
  ·omega
  ·split<;>omega
 ·rw[if_neg h,if_neg h,if_neg h]
  split<;>omega
theorem Uu{α:Type}(xs:List α)(a b:Nat):(xs.take b).drop a=(xs.drop a).take (b-a):=by
 rw[List.drop_take]
theorem uA{K:PySem.W.Frag}{H:Hp}{ds:List D}{vs:List V}(l:ao K H ds vs)(lo hi:Option Int):ao K H (cut ds lo hi) (pH vs lo hi):=by
 have hl:=l.length
 unfold cut pH
 dsimp only
 rw[Uu]
 cases lo with
 |none=>
  cases hi with
  |none=>rw[HT.jV,HT.jV,<-hl];exact(l.drop _).take _
  |some j=>rw[HT.jV,<-hl,<-nu];exact(l.drop _).take _
 |some i=>
  cases hi with
  |none=>rw[HT.jV,<-hl,<-nu];exact(l.drop _).take _
  |some j=>rw[<-hl,<-nu,<-nu];exact(l.drop _).take _
theorem CN{vs:List V}{lo hi:Option Int}(h:HT.cR vs.length 0 lo=0/\HT.cR vs.length vs.length hi=vs.length):pH vs lo hi=vs:=by
 unfold pH
 rw[h.1,h.2]
 simp
theorem w5{K:PySem.W.Frag}{env:Ev}{σ:St}{H:Hp}{d:D}{z:Rv}{v:V}{lo hi:Option Int}{Q:VK}(S:Sat K env σ H)(D1:bh K H d v)(e:gn d lo hi=some z)(q:∀w H',Nx K env σ H env H'->fY K σ H H' z w->Q w H'):XJ K v lo hi H Q:=by
 cases d with
 |tup xs=>
  cases e
  obtain⟨a,vs,rfl,hq,l⟩:=bQ D1
  by_cases hw:HT.cR vs.length 0 lo=0/\HT.cR vs.length vs.length hi=vs.length
  ·refine .inr (.inl ⟨a,vs,rfl,hq,hw,q _ H (Nx.refl S) ?_⟩)
   have:=uA l lo hi
   rw[CN hw]at this
   exact cX hq this
  ·refine .inl ⟨a,vs,rfl,hq,hw,fun p hp=>?_⟩
   have N:=Nx.laid (o:=.tup (pH vs lo hi)) S hp
   exact q _ _ N (cX (.inl (.inl aQ)) ((uA l lo hi).mono N.pers))
 |lst xs=>
  cases e
  obtain⟨a,vs,rfl,hq,l⟩:=cP D1
  exact .inr (.inr ⟨a,vs,rfl,hq.sq,fun p hp=>q _ _ (Nx.laid S hp) (jZ S (uA l lo hi) hp)⟩)
 |_=>cases e
def GO(X:Cx)(W:Wi)(c:Cf)(m:E)(eo:Option Expr):Prop:=(m=.noneE/\eo=Option.none)\/∃e,eo=Option.some e/\m.je=false/\GE X W c m e
def tPt(X:Cx)(W:Wi)(c:Cf)(m:E):TO:=fun σ H Q=>∃env,tD X.K W env (ev c m env) σ H fun v H1=>∀d,bh X.K H1 d v->∃o,b8 m.je d=some o/\Q o H1
theorem GO.po{eo:Option Expr}(h:GO X W c m eo):PO X eo (tPt X W c m):=by
 rcases h with ⟨rfl,rfl⟩|⟨e,rfl,hn,h⟩
 ·intro pins s σ H Q I q
  obtain⟨env,q⟩:=q
  simp only[v_0,v_1,Wr,v_3,v_4,Wq,v_6,Vh,Wo,Js,sO,DN,DK,Am,JB,QK,Jz,DG,Dz,Jy,Jx,sJ,Jw,QJ,Jv,Ju,Jt,kY]at q
  obtain⟨o,e,z⟩:=q.2 .non H (Nx.refl q.1) rfl .non rfl
  cases e
  exact Ku pins s σ H Q I z
 ·intro pins s σ H Q I q
  obtain⟨env,q⟩:=q
  refine Ks h.d pins s σ H Q I ⟨env,q.1,?_⟩
  have q2:=q.2
  have go:∀d v H',bh X.K H' d v->(∀d,bh X.K H' d v->∃o,b8 m.je d=some o/\Q o H')->∃i,v=.int i/\Q (some i) H':=fun d v H' Dv z=>by
   obtain⟨o,e,z⟩:=z d Dv
   rw[hn]at e
   cases d with
   |int i=>cases e;exact⟨i,Dv,z⟩
   |_=>cases e
  cases r:ev c m env with
  |bad=>rw[r]at q2;exact q2
  |exc k env1=>rw[r]at q2;exact q2
  |ok x env1=>
   rw[r]at q2
   cases x with
   |val d=>exact fun v H' N Dv=>go d v H' Dv (q2 v H' N Dv)
   |new o=>exact fun v H' N Dv=>go o.d v H' Dv (q2 v H' N Dv)
   |ref i=>exact q2
   |tmp o=>exact q2
theorem vI{K:PySem.W.Frag}{H:Hp}{je:Bool}{d d':D}{v:V}{o:Option Int}(h:bh K H d v)(e:b8 je d=some o)(h':bh K H d' v):b8 je d'=some o:=by
 cases je with
 |true=>exact e
 |false=>
  cases d with
  |int i=>
   have hv:v=.int i:=h
   subst hv
   cases d' with
   |int j=>cases (show V.int i=V.int j from h');exact e
   |non=>cases (show V.int i=V.non from h')
   |bl b=>cases (show V.int i=V.bl b from h')
   |str x=>cases (show V.int i=V.str x from h')
   |tup ds=>obtain⟨a,vs,z,_⟩:=bQ h';cases z
   |lst ds=>obtain⟨a,vs,z,_⟩:=cP h';cases z
   |dG ks ds=>unfold bh at h';obtain⟨a,o,kvs,z,_⟩:=h';cases z
  |_=>cases e
theorem Ua{lo hi:Option Expr}(ha:GE X W c m1 a)(hl:GO X W c m2 lo)(hh:GO X W c m3 hi):GE X W c (.slc m1 m2 m3) (.Subscript a (.Slice lo hi none p2) pos):=by
 intro env
 refine PE.imp (FZ Rb ha.d hl.po hh.po) fun σ H Q q=>?_
 simp only[JB]at q
 refine⟨env,aR q fun d env1 v H1 N1 D1 q1=>⟨env1,aR q1 fun dl env2 vl H2 N2 D2 q2 dl' D2'=>?_⟩⟩
 cases el:b8 m2.je dl with
 |none=>rw[el]at q2;exact q2.2.elim
 |some l=>
  rw[el]at q2
  refine⟨l,vI D2 el D2',env2,aR q2 fun dh env3 vh H3 N3 D3 q3 dh' D3'=>?_⟩
  obtain⟨z,ez,S,q4⟩:=cL q3
  cases eh:b8 m3.je dh with
  |none=>rw[eh]at ez;cases ez
  |some h=>
   rw[eh]at ez
   exact⟨h,vI D3 eh D3',w5 S (D1.mono (N2.trans N3).pers) ez q4⟩
def Z5(X:Cx)(x:Str)(d:D):Prop:=∃v u,X.mg x=some u/\RelV v u/\∀H,bh X.K H d v
theorem Mm{k:Nat}{x:Str}{d:D}(hk:c.gl k=some d)(h:Z5 X x d)(hg:Gl X x)(hd:(x==("__debug__":Str))=false):GE X W c (.glob k) (.Name x pos):=by
 obtain⟨v,u,hm,r,hD⟩:=h
 intro env
 refine PE.imp (tQ hg hm r hd) fun σ H Q q=>?_
 simp only[Wr,hk]at q
 exact dI q (hD H)
end
end Mini
end
section
namespace Mini
open PySem L2
theorem oH{H:Hp}{a:Addr}{u u':HO}(h:H a=some u)(hu:Qk u):bU H (upd H a u'):=by
 refine⟨fun b xs q=>?_,fun b o' w q=>?_⟩
 ·rw[az (fun z=>by subst z;rw[h]at q;cases q;exact hu.tup xs rfl)];exact q
 ·rw[az (fun z=>by subst z;rw[h]at q;cases q;exact hu.frz o' w rfl)];exact q
theorem nH{k:Nat}{f:Ob->Option Ob}{env env':Ev}(h:bM k f env=some env'):∃o o',f o=some o'/\((env[k]? =some (.own o)/\env'=env.set k (.own o'))\/(env[k]? =some (.bor o)/\env'=env.set k (.bor o'))):=by
 unfold bM at h
 cases e:env[k]? with
 |none=>rw[e]at h;cases h
 |some s=>
  rw[e]at h
  cases s with
  |un=>cases h
  |val d=>cases h
  |own o=>
   cases e2:f o with
   |none=>simp only[e2]at h;cases h
   |some o'=>simp only[e2]at h;cases h;exact⟨o,o',e2,.inl ⟨rfl,rfl⟩⟩
  |bor o=>
   cases e2:f o with
   |none=>simp only[e2]at h;cases h
   |some o'=>simp only[e2]at h;cases h;exact⟨o,o',e2,.inr ⟨rfl,rfl⟩⟩
theorem Nx.turn{K:PySem.W.Frag}{env:Ev}{σ:St}{H:Hp}{k:Nat}{sl sl':Sl}{o o':Ob}{a:Addr}{u u':HO}(S:Sat K env σ H)(hs:(sl=.own o/\sl'=.own o')\/(sl=.bor o/\sl'=.bor o'))(e:env[k]? =some sl)(es:σ[k]? =some (some (.ref a)))
  (ha:H a=some u)(hu:Qk u)(hd:Dm K H o' u'):Nx K env σ H (env.set k sl') (upd H a u'):=by
 have p:=oH (u':=u') ha hu
 have ow:isOwn sl=some o/\isOwn sl'=some o':=by rcases hs with ⟨rfl,rfl⟩|⟨rfl,rfl⟩<;>exact⟨rfl,rfl⟩
 have oa:aB env σ k a:=⟨⟨_,o,e,ow.1⟩,es⟩
 have hi:k<env.length:=(List.getElem?_eq_some_iff.mp e).1
 have sub:∀j b,aB (env.set k sl') σ j b->aB env σ j b:=fun j b z=>by
  obtain⟨⟨s,ys,e1,e2⟩,e3⟩:=z
  by_cases hj:k=j
  ·subst hj;exact⟨⟨sl,o,e,ow.1⟩,e3⟩
  ·rw[List.getElem?_set_ne hj]at e1;exact⟨⟨s,ys,e1,e2⟩,e3⟩
 refine⟨⟨by simpa using S.len,fun j s ej=>?_,fun j l b z w=>S.ne j l b (sub j b z) (sub l b w)⟩,sub,p,fun b w q n=>?_,fun b q=>?_,fun j ys ej=>?_⟩
 ·by_cases hj:k=j
  ·subst hj
   rw[List.getElem?_set_self hi]at ej
   cases ej
   have at_:jA K (upd H a u') o' a:=⟨u',aQ,hd.mono p⟩
   rcases hs with ⟨_,rfl⟩|⟨_,rfl⟩
   ·exact⟨a,by rw[es];rfl,at_⟩
   ·exact⟨a,by rw[es];rfl,at_⟩
  ·rw[List.getElem?_set_ne hj]at ej
   refine(S.sl j s ej).keep p fun b w ho ev hb=>?_
   have nb:b≠a:=fun z=>by
    subst z
    exact hj (S.ne k j b oa (tU ej ho ev))
   rw[az nb];exact hb
 ·rw[az (fun z=>by subst z;exact n k oa)];exact q
 ·by_cases hb:b=a
  ·subst hb;rw[aQ]at q;cases q
  ·rw[az hb]at q;exact q
 ·by_cases hj:k=j
  ·subst hj
   rw[e]at ej
   cases ej
   rcases hs with ⟨z,_⟩|⟨_,rfl⟩
   ·cases z
   ·exact⟨o',by rw[List.getElem?_set_self hi]⟩
  ·exact⟨ys,by rw[List.getElem?_set_ne hj];exact ej⟩
theorem yP{K:PySem.W.Frag}{env env':Ev}{σ:St}{H:Hp}{k:Nat}{f:Ob->Option Ob}(S:Sat K env σ H)(h:bM k f env=some env'):
  ∃o o' a u,f o=some o'/\σ[k]? =some (some (.ref a))/\H a=some u/\Dm K H o u/\aO k env=some o.d/\∀u',Dm K H o' u'->Nx K env σ H env' (upd H a u'):=by
 obtain⟨o,o',ef,hh⟩:=nH h
 rcases hh with ⟨e,rfl⟩|⟨e,rfl⟩
 ·obtain⟨a,e1,u,e2,e3⟩:=S.sl k _ e
  exact⟨o,o',a,u,ef,bJ e1,e2,e3,by unfold aO;rw[e],fun u' hd=>Nx.turn S (.inl ⟨rfl,rfl⟩) e (bJ e1) e2 e3.qR hd⟩
 ·obtain⟨a,e1,u,e2,e3⟩:=S.sl k _ e
  exact⟨o,o',a,u,ef,bJ e1,e2,e3,by unfold aO;rw[e],fun u' hd=>Nx.turn S (.inr ⟨rfl,rfl⟩) e (bJ e1) e2 e3.qR hd⟩
theorem Gg{f:List D->Option (List D)}{o o':Ob}(h:mL f o=some o'):∃xs ys,o=.lst xs/\f xs=some ys/\o'=.lst ys:=by
 cases o with
 |lst xs=>
  simp only[mL]at h
  cases e:f xs with
  |none=>rw[e]at h;cases h
  |some ys=>rw[e]at h;cases h;exact⟨xs,ys,rfl,e,rfl⟩
 |dct ks vs=>cases h
theorem nJ{K:PySem.W.Frag}{env env':Ev}{σ:St}{H:Hp}{k:Nat}{f:List D->Option (List D)}(S:Sat K env σ H)(h:bM k (mL f) env=some env'):
  ∃xs ys a vs,f xs=some ys/\σ[k]? =some (some (.ref a))/\H a=some (.lst vs)/\ao K H xs vs/\aO k env=some (.lst xs)/\∀ws,ao K H ys ws->Nx K env σ H env' (upd H a (.lst ws)):=by
 obtain⟨o,o',a,u,ef,es,ha,hd,lk,N⟩:=yP S h
 obtain⟨xs,ys,rfl,e,rfl⟩:=Gg ef
 obtain⟨vs,rfl,l⟩:=hd
 exact⟨xs,ys,a,vs,e,es,ha,l,lk,fun ws hw=>N _ ⟨ws,rfl,hw⟩⟩
theorem dF.lst{K:PySem.W.Frag}{H:Hp}{xs:List D}{v:V}(h:dF K H (.lst xs) v):∃a vs,v=.ref a/\iU K H a vs/\ao K H xs vs:=by
 rcases h with h|⟨o,a,q,rfl,u,ha,hq⟩
 ·obtain⟨a,vs,rfl,hq,l⟩:=cP h
  exact⟨a,vs,rfl,hq.sq,l⟩
 ·cases o<;>cases q
  obtain⟨vs,rfl,l⟩:=hq
  exact⟨a,vs,rfl,.inl (.inl ha),l⟩
structure wL(X:Cx)(o:Expr)(name:Str)(apos:Pos)(e:Expr)(cpos:Pos):Prop where
 base:attributeBase o name X.env (eval o X.env)=eval o X.env
 line:(apos.endLine==cpos.line)=true
 star:starEach [e] X.env=[(false,eval e X.env)]
section
variable{X:Cx}{W:Wi}{c:Cf}{m m1 m2 m3:E}{o a b e:Expr}{pos p p2 apos cpos:Pos}{name:Str}
theorem wL.few(h:wL X o name apos e cpos):((backTo cpos (starEach [e] X.env)).all (fun x=> !x.1)&&(backToKw cpos (keywordEach [] X.env)).all (fun x=>x.1.isSome)
   &&decide ([e].length+([]:List Keyword).length+(if ([]:List Keyword).isEmpty then 0 else 1)<30))=true:=by
 rw[h.star];rfl
theorem Ga{id:String}{r:V->List V->Hp->VK->Prop}{to:TE}{te:TE}(M:wL X o name apos e cpos)(slot:Slot "list" name id)(hty:typeOf (.builtin id)=pure (.type "method_descriptor"))(hm:Wh X id r)(ho:PE X o to)(he:PE X e te):
  PE X (.Call (.Attribute o name apos) [e] [] cpos) (tBM X.K "list" r to (Em te WT)):=
 X8 PySem.F.plainAttrs_list slot hty hm ho (bC he dz M.star) M.base M.few M.line M.star rfl
theorem countV{K:PySem.W.Frag}{H:Hp}{p:D}{x:V}(Dp:bh K H p x)(fp:flat p=true):∀{ds:List D}{vs:List V}{us:List Value},ao K H ds vs->Vals vs us->ds.all flat=true->vs.all gk=true/\us.countP (uP x)=eO p ds:=by
 intro ds
 induction ds with
 |nil=>intro vs us l r _;rw[ao.bj.mp l]at r⊢;cases r;exact⟨rfl,rfl⟩
 |cons d ds ih=>
  intro vs us l r f
  obtain⟨v,vs',rfl,hd,l'⟩:=ao.aW.mp l
  rw[List.all_cons,Bool.and_eq_true]at f
  cases r with
  |cons r1 r2=>
   obtain⟨i1,i2⟩:=ih l' r2 f.2
   obtain⟨j1,j2⟩:=ug Dp fp (ao.eE hd ao.jc) (by simp[f.1])
   simp only[List.all_cons,List.all_nil,Bool.and_true]at j1
   have j3:Hs v x=bZ d p:=by simpa[inV,cV]using j2
   refine⟨by rw[List.all_cons,j1,i1];rfl,?_⟩
   rw[List.countP_cons,i2,yh r1 j1,j3,eO]
   split<;>omega
def Kd(K:PySem.W.Frag):V->List V->Hp->VK->Prop:=fun x ys H Q=>∃a vs ds d y,x=.ref a/\ys=[y]/\(iU K H a vs\/iC K H a vs)/\ao K H ds vs/\bh K H d y/\flat d=true/\ds.all flat=true/\Q (.int (eO d ds)) H
theorem Ho{K:PySem.W.Frag}{H:Hp}{d:D}{v:V}(h:bh K H d v)(f:flat d=true):gk v=true:=by
 cases d with
 |non=>cases h;rfl
 |bl b=>cases h;rfl
 |int i=>cases h;rfl
 |str x=>cases h;rfl
 |_=>cases f
theorem Bv:Wh X "list.count" (fun x ys H Q=>(∃a vs,x=.ref a/\iU X.K H a vs)/\Kd X.K x ys H Q):=by
 intro pins s σ H x ys v us Q I rx ry h
 obtain⟨⟨a,vs,rfl,hq⟩,a',vs',ds,d,y,e1,rfl,hq',l,hd,f1,f2,q⟩:=h
 cases e1
 cases rx
 obtain⟨u,rfl,ru⟩:=Vals.one ry
 have hv:vs'=vs:=by
  rcases hq' with z|z
  ·exact I.vV z hq
  ·obtain⟨_,_,⟨o,e,c,_⟩,_⟩:=I.tuple z
   obtain⟨_,_,⟨o',_,e',c',_⟩,_⟩:=I.list hq
   rw[e]at e';cases e';rw[c]at c';injection c' with z;exact absurd z (by decide)
 subst hv
 obtain⟨its,r,pl,hz⟩:=I.list hq
 obtain⟨⟨cls,dd,data,sl⟩,n,ho,hc,hdd,hdt⟩:=id pl
 simp only at hc hdt
 subst hc hdt
 obtain⟨g1,g2⟩:=countV hd f1 l r f2
 refine call_meets PySem.F.slot_list_count ⟨_,ho,rfl⟩ PySem.F.entry_list_count (PySem.F.args_list_count_2 _ _) (SeqAt.list_countAt a its.toArray n dd sl u (uP y)) ⟨ho,fun w hw=>fP ru (Ho hd f1) r g1 w (by simpa using hw),?_⟩
 refine⟨.int (eO d ds),H,I.tok _,⟨s.toks,?_⟩,q⟩
 rw[show its.toArray.toList=its from rfl,g2]
theorem Bu:Wh X "tuple.count" (fun x ys H Q=>(∃a vs,x=.ref a/\iC X.K H a vs)/\Kd X.K x ys H Q):=by
 intro pins s σ H x ys v us Q I rx ry h
 obtain⟨⟨a,vs,rfl,hq⟩,a',vs',ds,d,y,e1,rfl,hq',l,hd,f1,f2,q⟩:=h
 cases e1
 cases rx
 obtain⟨u,rfl,ru⟩:=Vals.one ry
 have hv:vs'=vs:=by
  rcases hq' with z|z
  ·obtain⟨_,_,⟨o,e,c,_⟩,_⟩:=I.tuple hq
   obtain⟨_,_,⟨o',_,e',c',_⟩,_⟩:=I.list z
   rw[e]at e';cases e';rw[c]at c';injection c' with z;exact absurd z (by decide)
  ·exact I.qz z hq
 subst hv
 obtain⟨its,r,pl,hz⟩:=I.tuple hq
 obtain⟨⟨cls,dd,data,sl⟩,ho,hc,n,hdt⟩:=id pl
 simp only at hc hdt
 subst hc hdt
 obtain⟨g1,g2⟩:=countV hd f1 l r f2
 refine call_meets PySem.F.slot_tuple_count ⟨_,ho,rfl⟩ PySem.F.entry_tuple_count (PySem.F.args_tuple_count_2 _ _) (SeqAt.tuple_countAt a its.toArray n dd sl u (uP y)) ⟨ho,fun w hw=>fP ru (Ho hd f1) r g1 w (by simpa using hw),?_⟩
 refine⟨.int (eO d ds),H,I.tok _,⟨s.toks,?_⟩,q⟩
 rw[show its.toArray.toList=its from rfl,g2]
def abH(K:PySem.W.Frag)(to te:TE):TE:=fun σ H Q=>to σ H fun x H1=>∃a vs,x=.ref a/\((iU K H1 a vs/\te σ H1 fun y H2=>(∃a vs,x=.ref a/\iU K H2 a vs)/\Kd K x [y] H2 Q)\/(iC K H1 a vs/\te σ H1 fun y H2=>(∃a vs,x=.ref a/\iC K H2 a vs)/\Kd K x [y] H2 Q))
theorem RM{to te:TE}(M:wL X o "count" apos e cpos)(ho:PE X o to)(he:PE X e te):PE X (.Call (.Attribute o "count" apos) [e] [] cpos) (abH X.K to te):=by
 intro pins s σ H Q I h
 refine wpAny_Call_method_late M.base M.few M.line rfl (bV (ho pins s σ H _ I h) fun v s1⟨x,H1,I1,r1,a,vs,ex,q1⟩=>?_)
 subst ex
 cases r1
 have arg:∀{id:String}{r:V->List V->Hp->VK->Prop},Wh X id r->(te σ H1 fun y H2=>r (.ref a) [y] H2 Q)->wpAny (model X.prog X.w) X.A (callWith cpos (.builtin id) [.ref a] (backTo cpos (starEach [e] X.env)) (backToKw cpos (keywordEach [] X.env))) (EP X pins σ Q) X.xe s1:=fun{id r}hm z=>by
  have hA:=bC (X:=X) he dz M.star cpos pins s1 σ H1 (fun vs H2=>r (.ref a) vs H2 Q) I1 z
  rw[M.star]at hA⊢
  exact Calls.callWith_builtin rfl (Calls.evalArgs_plain (bV hA fun us s2⟨vs,H2,I2,r2,q2⟩=>hm pins s2 σ H2 (.ref a) vs (.ref a) us Q I2 rfl r2 q2))
 rcases q1 with ⟨hq,z⟩|⟨hq,z⟩
 ·obtain⟨its,r,pl,hz⟩:=I1.list hq
  refine⟨"list","list.count",PySem.F.plainAttrs_list,PySem.F.slot_list_count,PySem.F.type_list_count,pl.isList.typeIs,fun b eb=>?_,arg Bv z⟩
  cases eb
  obtain⟨o,n,e,c,hd,_⟩:=pl
  exact⟨o,e,hd⟩
 ·obtain⟨its,r,⟨o,eo,ec,hd,n,dt⟩,hz⟩:=I1.wV hq
  refine⟨"tuple","tuple.count",PySem.F.plainAttrs_tuple,PySem.F.slot_tuple_count,PySem.F.type_tuple_count,⟨o,eo,ec⟩,fun b eb=>?_,arg Bu z⟩
  cases eb
  exact⟨o,eo,hd⟩
theorem Hk(M:wL X o "count" apos e cpos)(ho:GE X W c m1 o)(he:GE X W c m2 e):GE X W c (.count m1 m2) (.Call (.Attribute o "count" apos) [e] [] cpos):=by
 intro env
 refine PE.imp (RM M ho.d he.d) fun σ H Q q=>?_
 simp only[Ju]at q
 refine⟨env,aR q fun d env1 v H1 N1 D1 q1=>?_⟩
 cases d with
 |tup xs=>
  simp only[bw,Option.isNone_some,Bool.false_eq_true,if_false]at q1
  obtain⟨a,vs,rfl,hq,l⟩:=bQ D1
  refine⟨a,vs,rfl,.inr ⟨hq,env1,aR q1 fun d2 env2 y H2 N2 D2 q2=>?_⟩⟩
  obtain⟨z,ez,S,q3⟩:=cL q2
  simp only[uD]at ez
  split at ez
  ·rename_i hf
   cases ez
   rw[Bool.and_eq_true]at hf
   exact⟨⟨a,vs,rfl,N2.pers.Q8 hq⟩,a,vs,xs,d2,y,rfl,rfl,.inr (N2.pers.Q8 hq),l.mono N2.pers,D2,hf.1,hf.2,q3 _ H2 (Nx.refl S) rfl⟩
  ·cases ez
 |lst xs=>
  simp only[bw,Option.isNone_some,Bool.false_eq_true,if_false]at q1
  obtain⟨a,vs,rfl,hq,l⟩:=cP D1
  refine⟨a,vs,rfl,.inl ⟨hq.sq,env1,aR q1 fun d2 env2 y H2 N2 D2 q2=>?_⟩⟩
  obtain⟨z,ez,S,q3⟩:=cL q2
  simp only[uD]at ez
  split at ez
  ·rename_i hf
   cases ez
   rw[Bool.and_eq_true]at hf
   exact⟨⟨a,vs,rfl,(N2.pers.Dj hq).sq⟩,a,vs,xs,d2,y,rfl,rfl,.inl (N2.pers.Dj hq).sq,l.mono N2.pers,D2,hf.1,hf.2,q3 _ H2 (Nx.refl S) rfl⟩
  ·cases ez
 |_=>exact q1.2.elim
theorem G3{n:Nat}{i:Int}{j:Nat}(h:ix? n i=some j)(hn:n<=sizeLine): -(2 ^63)<=i/\i<2 ^63/\seqIndex? i n=some j/\j<n:=by
 have hl:sizeLine=16777216:=sizeLine_eq
 unfold ix? at h
 by_cases h0:i<0
 ·simp only[h0,if_true]at h
  by_cases hj:0<=i+(n:Int)/\i+(n:Int)<n
  ·rw[if_pos hj]at h
   have e:(i+(n:Int)).toNat=j:=Option.some.inj h
   exact⟨by omega,by omega,by rw[seqIndex_neg (by omega) (by omega),e],by omega⟩
  ·rw[if_neg hj]at h;cases h
 ·simp only[h0,if_false]at h
  by_cases hj:0<=i/\i< (n:Int)
  ·rw[if_pos hj]at h
   have e:i.toNat=j:=Option.some.inj h
   exact⟨by omega,by omega,by rw[seqIndex_of (by omega) (by omega),e],by omega⟩
  ·rw[if_neg hj]at h;cases h
theorem jN{d:Option D}(h:cu d=true):∃xs,d=some (.lst xs):=by
 cases d with
 |none=>cases h
 |some d=>cases d with
  |lst xs=>exact⟨xs,rfl⟩
  |_=>cases h
theorem Hj{k:Nat}{x:Str}(M:wL X (.Name x p) "pop" apos e cpos)(nm:fZ X k x)(he:GE X W c m e):GE X W c (.popAt k m) (.Call (.Attribute (.Name x p) "pop" apos) [e] [] cpos):=by
 intro env pins s σ H Q I q
 refine PE.imp (Ga M PySem.F.slot_list_pop PySem.F.type_list_pop Gr nm.pe he.d) (t':=fun σ' H' Q'=>σ'=σ/\H'=H/\Q'=Q) (fun σ' H' Q'⟨e1,e2,e3⟩=>?_) pins s σ H Q I ⟨rfl,rfl,rfl⟩
 subst e1 e2 e3
 simp only[Jt]at q
 cases hl:cu (aO k env)with
 |false=>rw[hl]at q;exact q.2.elim
 |true=>
  rw[hl]at q
  simp only[Bool.not_true,Bool.false_eq_true,if_false]at q
  obtain⟨xs0,e0⟩:=jN hl
  obtain⟨u,eu,Du⟩:=eU q.1 e0
  obtain⟨a0,vs0,rfl,hq0,l0⟩:=Du.lst
  refine⟨.ref a0,eu,.inl ⟨rfl,vs0,hq0⟩,env,aR q fun d env1 y H1 N1 D1 q1=>?_⟩
  unfold oG at q1
  cases d with
  |int i=>
   cases e1:aO k env1 with
   |none=>rw[e1]at q1;exact q1.2.elim
   |some d1=>
    rw[e1]at q1
    cases d1 with
    |lst xs=>
     simp only at q1
     cases hz:fits xs.length with
     |false=>rw[hz]at q1;exact q1.2.elim
     |true=>
     rw[hz]at q1
     simp only[Bool.not_true,Bool.false_eq_true,if_false]at q1
     cases e2:ix? xs.length i with
     |none=>rw[e2]at q1;exact q1.2.elim
     |some j=>
      rw[e2]at q1
      simp only at q1
      cases e3:xs[j]? with
      |none=>rw[e3]at q1;exact q1.2.elim
      |some dd=>
       cases e4:bM k (mL fun xs=>some (xs.eraseIdx j)) env1 with
       |none=>rw[e3,e4]at q1;exact q1.2.elim
       |some env2=>
        rw[e3,e4]at q1
        obtain⟨zs,ys,a,vs,ef,es,ha,l,lk,N⟩:=nJ q1.1 e4
        rw[e1]at lk
        cases lk
        cases ef
        rw[eu]at es
        cases es
        have D1':y=.int i:=D1
        subst D1'
        obtain⟨w,ew,dw⟩:=l.get e3
        obtain⟨b1,b2,b3,b4⟩:=G3 e2 (dM hz)
        refine⟨a0,vs,i,j,w,rfl,rfl,ha,b1,b2,by rw[<-l.length];exact b3,ew,?_⟩
        exact q1.2 w _ (N _ (l.eraseIdx j)) (dw.mono (N _ (l.eraseIdx j)).pers)
    |_=>exact q1.2.elim
  |_=>exact q1.2.elim
theorem Ck{k:Nat}{x:Str}(M:wL X (.Name x p) "append" apos e cpos)(nm:fZ X k x)(he:GE X W c m e):GS X W c (.append k m) (.Expr (.Call (.Attribute (.Name x p) "append" apos) [e] [] cpos) pos):=by
 intro env
 refine PS.imp (tO (Ga M PySem.F.slot_list_append PySem.F.type_list_append qW nm.pe he.d) rfl) fun D σ H q=>?_
 simp only[x_9]at q
 cases hl:cu (aO k env)with
 |false=>rw[hl]at q;exact q.2.elim
 |true=>
  rw[hl]at q
  simp only[Bool.not_true,Bool.false_eq_true,if_false]at q
  obtain⟨xs0,e0⟩:=jN hl
  obtain⟨u,eu,Du⟩:=eU q.1 e0
  obtain⟨a0,vs0,rfl,hq0,l0⟩:=Du.lst
  refine⟨.ref a0,eu,.inl ⟨rfl,vs0,hq0⟩,env,lq q fun d env1 y H1 N1 D1 q1=>?_⟩
  cases e4:bM k (mL fun xs=>if fits (xs.length+1)then some (xs++[d])else none) env1 with
  |none=>rw[e4]at q1;exact q1.2.elim
  |some env2=>
   rw[e4]at q1
   obtain⟨zs,ys,a,vs,ef,es,ha,l,lk,N⟩:=nJ q1.1 e4
   rw[eu]at es
   cases es
   split at ef
   ·rename_i hf
    cases ef
    have l2:=l.append (ao.eE D1 ao.jc)
    have:=dM hf
    refine⟨a0,vs,y,rfl,rfl,ha,by rw[<-l.length];omega,q1.2 _ _ (N _ l2).z⟩
   ·cases ef
def XX(K:PySem.W.Frag):V->List V->Hp->VK->Prop:=fun x vs H Q=>∃l b xs zs,x=.ref l/\vs=[.ref b]/\H l=some (.lst xs)/\iU K H b zs/\xs.length+zs.length<=sizeLine/\Q .non (upd H l (.lst (xs++zs)))
theorem qj(l:Addr)(items:Array Value)(n:Nat)(b:Addr)(items2:Array Value)(n2:Nat)(sl:Array (Option Value))(hc0:¬(!items.isEmpty&&Builtin.List.listTooLong (items.size+items2.size))=true)(hc1:items.size<=sizeLine)(hs2:items.size+items2.size<=sizeLine+1):
  Meets (Builtin.«list.extend» ⟨[.ref l,.ref b],[]⟩) (fun _ R s=>s.heap.get? l=some {cls:=.type "list",dict:=none,data:=.seq items n,slots:= #[]}/\s.heap.get? b=some {cls:=.type "list",dict:=none,data:=.seq items2 n2,slots:=sl}/\R (.ok (.ret Value.none)) {s with heap:=s.heap.update l (Obj.mapSeq fun x=>x++items2),toks:=s.toks}):=
 .of_wp fun prog w A R s h=>by
  obtain⟨hp,g,d,tk,os⟩:=s;obtain⟨hl,hb,h⟩:=h;have f1:=AutoSeq1.idx_int;have f2:=AutoSeq1.sub_tuple_tuple;have f3:=AutoSeq1.sub_list_list;have f4:=AutoSeq1.sub_tuple_list;have f5:=AutoSeq1.sub_list_tuple;
  have hz':(items++items2).size<=sizeLine+1:=by rw[Array.size_append];exact hs2
  wp_walk using (wpAny_updateSeq hl rfl (hz:=hc1) (_hz':=hz')),AutoSeq1.wpAny_loadPart' hl,AutoSeq1.wpAny_loadPart' hb;exact⟨_,rfl,h⟩
theorem Lf:Wh X "list.extend" (XX X.K):=by
 intro pins s σ H x vs v us Q I rx rv h
 obtain⟨l,b,xs,zs,rfl,rfl,hH,hB,hz,q⟩:=h
 cases rx
 obtain⟨u,rfl,ru⟩:=Vals.one rv
 cases ru
 obtain⟨z,its,n,r,hl,e⟩:=I.Su hH
 obtain⟨its2,r2,⟨⟨cls,dd,data,sl⟩,n2,e2,hc2,hd2,hdt⟩,hz2⟩:=I.list hB
 have hl2:=r2.length
 simp only at hc2 hdt hd2
 subst hc2 hdt hd2
 have hsz:its.toArray.size+its2.toArray.size<=sizeLine:=by rw[List.size_toArray,List.size_toArray];omega
 have hlong:¬(!its.toArray.isEmpty&&Builtin.List.listTooLong (its.toArray.size+its2.toArray.size))=true:=by
  rw[Gh hsz,Bool.and_false]
  exact Bool.false_ne_true
 refine call_meets PySem.F.slot_list_extend ⟨_,e,rfl⟩ PySem.F.entry_list_extend (PySem.F.args_list_extend_2 _ _)
  (qj l its.toArray n b its2.toArray n2 sl hlong (by rw[List.size_toArray];omega) (by omega)) ⟨e,e2,?_⟩
 refine⟨.non,_,I.Sv (its':=its++its2) hH e (by simp) (r.append r2) ?_,rfl,q⟩
 rw[List.length_append]
 omega
theorem Cj{k:Nat}{x:Str}(M:wL X (.Name x p) "extend" apos e cpos)(nm:fZ X k x)(he:GE X W c m e):GS X W c (.extend k m) (.Expr (.Call (.Attribute (.Name x p) "extend" apos) [e] [] cpos) pos):=by
 intro env
 refine PS.imp (tO (Ga M PySem.F.slot_list_extend PySem.F.type_list_extend Lf nm.pe he.d) rfl) fun D σ H q=>?_
 simp only[abv]at q
 cases hl:cu (aO k env)with
 |false=>rw[hl]at q;exact q.2.elim
 |true=>
  rw[hl]at q
  simp only[Bool.not_true,Bool.false_eq_true,if_false]at q
  obtain⟨xs0,e0⟩:=jN hl
  obtain⟨u,eu,Du⟩:=eU q.1 e0
  obtain⟨a0,vs0,rfl,hq0,l0⟩:=Du.lst
  refine⟨.ref a0,eu,.inl ⟨rfl,vs0,hq0⟩,env,lq q fun d env1 y H1 N1 D1 q1=>?_⟩
  cases d with
  |lst ys=>
   simp only[fQ,Option.bind]at q1
   cases e4:bM k (mL fun xs=>if fits (xs.length+ys.length)then some (xs++ys)else none) env1 with
   |none=>rw[e4]at q1;exact q1.2.elim
   |some env2=>
    rw[e4]at q1
    obtain⟨zs,ys',a,vs,ef,es,ha,l,lk,N⟩:=nJ q1.1 e4
    rw[eu]at es
    cases es
    obtain⟨b,ws,rfl,hb,l1⟩:=cP D1
    split at ef
    ·rename_i hf
     cases ef
     exact⟨a0,b,vs,ws,rfl,rfl,ha,hb.sq,by rw[<-l.length,<-l1.length];exact dM hf,q1.2 _ _ (N _ (l.append l1)).z⟩
    ·cases ef
  |_=>exact q1.2.elim
def Oq:V->V->V->Hp->(Hp->Prop)->Prop:=fun o i v H Q=>∃a H',o=.ref a/\yJ H a i v H'/\Q H'
theorem JR(hu:X.A.units+1<cLine):Nh X Oq:=by
 intro pins s σ H o i v ov iv u Q I ro ri rv h
 obtain⟨a,H',rfl,g,q⟩:=h
 cases ro
 exact CJ hu I g ri rv fun s4 I4=>⟨H',I4,q⟩
def XM:V->V->V->Hp->(Hp->Prop)->Prop:=fun o i v H Q=>Oo o i v H Q\/Oq o i v H Q
theorem JS(hu:X.A.units+1<cLine):Nh X XM:=by
 intro pins s σ H o i v ov iv u Q I ro ri rv h
 rcases h with h|h
 ·exact set_list pins s σ H o i v ov iv u Q I ro ri rv h
 ·exact JR hu pins s σ H o i v ov iv u Q I ro ri rv h
theorem Ti{n:Nat}{i:Int}{j:Nat}(h:ix? n i=some j):Lz n i=some j:=by
 unfold ix? at h
 unfold Lz
 by_cases h0:i<0
 ·simp only[h0,if_true]at h
  rw[if_neg (by omega)]
  by_cases hj:0<=i+(n:Int)/\i+(n:Int)<n
  ·rw[if_pos hj]at h;rw[if_pos (by omega)];exact h
  ·rw[if_neg hj]at h;cases h
 ·simp only[h0,if_false]at h
  rw[if_pos (by omega)]
  by_cases hj:0<=i/\i< (n:Int)
  ·rw[if_pos hj]at h;rw[if_pos hj.2];exact h
  ·rw[if_neg hj]at h;cases h
theorem S5(k k':Key):bZ (cH k') (cH k)=decide (k'=k):=by
 cases k'<;>cases k<;>simp[cH,bZ,Bool.beq_eq_decide_eq]
theorem vo{K:PySem.W.Frag}{H:Hp}{k:Key}{d:D}{v:V}(hv:bh K H d v):∀{kvs:List (Key×V)}{ds:List D},ao K H ds (kvs.map (·.2))->
  ao K H (yZ (cH k) d (kvs.map fun p=>cH p.1) ds) ((kvs.map fun kv=>if kv.1=k then(kv.1,v)else kv).map (·.2))
 |[],ds,l=>by
  rw[List.map_nil]at l
  have:ds=[]:=by have:=l.length;cases ds<;>simp_all
  subst this
  exact ao.jc
 |(k',u)::r,ds,l=>by
  rw[List.map_cons]at l
  cases ds with
  |nil=>have:=l.length;simp at this
  |cons x ds=>
   obtain⟨w,ws,e,h1,h2⟩:=ao.aW.mp l
   cases e
   have ih:=vo (k:=k) hv h2
   simp only[List.map_cons,yZ,S5]
   by_cases q:k'=k
   ·simp only[q,decide_true,if_true]
    exact ao.eE hv ih
   ·simp only[q,decide_false,Bool.false_eq_true,if_false]
    exact ao.eE h1 ih
theorem qO{k:Key}{v:V}:∀(kvs:List (Key×V)),(kvs.map fun kv=>if kv.1=k then(kv.1,v)else kv).map (fun p=>cH p.1)=kvs.map fun p=>cH p.1
 |[]=>rfl
 |(k',u)::r=>by
  simp only[List.map_cons,qO r]
  split<;>rfl
theorem zb{K:PySem.W.Frag}{H:Hp}{k:Key}{d:D}{v:V}(hv:bh K H d v){kvs:List (Key×V)}{ds:List D}(l:ao K H ds (kvs.map (·.2))):
  (putD (cH k) d (kvs.map fun p=>cH p.1) ds).1=(putK kvs k v).map (fun p=>cH p.1)/\ao K H (putD (cH k) d (kvs.map fun p=>cH p.1) ds).2 ((putK kvs k v).map (·.2)):=by
 unfold putD putK
 rw[<-kW,<-nG]
 split
 ·rename_i h
  exact⟨(qO kvs).symm,vo hv l⟩
 ·refine⟨by simp,?_⟩
  rw[List.map_append]
  exact l.append (ao.eE hv ao.jc)
theorem Hg{k:Nat}{x:Str}{ix:E}{ixe:Expr}{tp:Pos}(nm:fZ X k x)(he:GE X W c m e)(hi:GE X W c ix ixe)
  (ha:∀v,assign (.Subscript (.Name x p) ixe tp) X.env v=(do
   let ov<-holding [v] (eval (.Name x p) X.env)
   let iv<-holding [v,ov] (eval ixe X.env)
   standAt tp
   holding [v,ov,iv] (setItem ov iv v)
   release [v,ov,iv] []))
  (hs:swapsWithSole [.Subscript (.Name x p) ixe tp] e pos.line X.env=pure false)(hw:swappedStores [.Subscript (.Name x p) ixe tp] e X.env=pure none)(hu:X.A.units+1<cLine)
  (h1:(assignEach [.Subscript (.Name x p) ixe tp] X.env).map (·.2)=[assign (.Subscript (.Name x p) ixe tp) X.env]):
  GS X W c (.setIx k ix m) (.Assign [.Subscript (.Name x p) ixe tp] e pos):=by
 intro env
 refine PS.imp (Fy he.d (RB nm.pe hi.d (JS hu) ha) hs hw h1) fun D σ H q=>?_
 simp only[x_7]at q
 refine⟨env,lq q fun d env1 v H1 N1 D1 q1=>?_⟩
 cases e0:aO k env1 with
 |none=>rw[e0]at q1;exact q1.2.elim
 |some d0=>
  rw[e0]at q1
  simp only[Option.isNone_some,Bool.false_eq_true,if_false]at q1
  obtain⟨u,eu,Du⟩:=eU q1.1 e0
  refine⟨u,eu,env1,lq q1 fun d2 env2 y H2 N2 D2 q2=>?_⟩
  cases e4:bM k (tL d2 d) env2 with
  |none=>rw[e4]at q2;exact q2.2.elim
  |some env3=>
   rw[e4]at q2
   obtain⟨o,o',a,w,ef,es,hA,hd,lk,N⟩:=yP q2.1 e4
   rw[eu]at es
   cases es
   cases o with
   |lst xs=>
    obtain⟨vs,rfl,l⟩:=hd
    cases d2 with
    |int i=>
     simp only[tL]at ef
     cases e5:ix? xs.length i with
     |none=>rw[e5]at ef;cases ef
     |some j=>
      rw[e5]at ef
      cases ef
      have D2':y=.int i:=D2
      subst D2'
      exact .inl ⟨a,vs,i,j,rfl,rfl,hA,by rw[<-l.length];exact Ti e5,q2.2 _ _ (N _ ⟨_,rfl,l.set (D1.mono N2.pers) j⟩).z⟩
    |_=>cases ef
   |dct ks ds=>
    obtain⟨kvs,rfl,rfl,l⟩:=hd
    simp only[tL]at ef
    split at ef
    ·rename_i hk
     rw[Bool.and_eq_true]at hk
     cases ef
     obtain⟨kk,rfl⟩:=gK hk.1
     have ek:=j9 D2
     subst ek
     obtain⟨g1,g2⟩:=zb (k:=kk) (D1.mono N2.pers) l
     have hf:=dM hk.2
     rw[List.length_map]at hf
     exact .inr ⟨a,_,rfl,yJ.k hA (by omega),q2.2 _ _ (N _ ⟨_,rfl,g1,g2⟩).z⟩
    ·cases ef
end
end Mini
end
section
namespace Mini
open PySem L2
section
variable{X:Cx}{W:Wi}{c:Cf}{m m1 m2 m3:E}{o a b e:Expr}{pos p p2 apos cpos:Pos}{name:Str}
theorem TV(he:GE X W c m e)(hv:∀k,m.au=some k->∃x p,e=.Name x p/\fZ X k x):GS X W c (.ret m) (.Return (some e) pos):=by
 intro env
 have plain:∀D σ H,tS X.K W env ((ev c m env).fl lA) D σ H->WN (aM X W c m) D σ H:=fun D σ H q=>by
  refine⟨env,Od q fun x env1 v H1 N z q1=>?_⟩
  cases x with
  |val d=>exact q1.2 v σ H1 N.z z
  |new o=>
   obtain⟨a,e1,e2,e3⟩:=z
   exact q1.2 v σ H1 N.z ⟨a,e1,e2,.inl e3⟩
  |ref i=>exact q1.2.elim
  |tmp o=>exact q1.2.elim
 cases q0:m.au with
 |none=>exact PS.imp (jL he.am) fun D σ H q=>plain D σ H (by simpa only[uT,q0]using q)
 |some k=>
  cases e0:env[k]? with
  |none=>exact PS.imp (jL he.am) fun D σ H q=>plain D σ H (by simpa only[uT,q0,e0]using q)
  |some sl=>
   cases sl with
   |un=>exact PS.imp (jL he.am) fun D σ H q=>plain D σ H (by simpa only[uT,q0,e0]using q)
   |val d=>exact PS.imp (jL he.am) fun D σ H q=>plain D σ H (by simpa only[uT,q0,e0]using q)
   |bor o=>exact PS.imp (jL he.am) fun D σ H q=>plain D σ H (by simpa only[uT,q0,e0]using q)
   |own o=>
    obtain⟨x,p,rfl,nm⟩:=hv k q0
    refine PS.imp (jL nm.pe) fun D σ H q=>?_
    simp only[uT,q0,e0]at q
    obtain⟨a,e1,e2⟩:=q.1.sl k _ e0
    have es:=bJ e1
    have hi:k<env.length:=(List.getElem?_eq_some_iff.mp e0).1
    have sub:∀j b,aB (env.set k .un) σ j b->aB env σ j b:=fun j b z=>by
     obtain⟨⟨s,ys,z1,z2⟩,z3⟩:=z
     by_cases hj:k=j
     ·subst hj;rw[List.getElem?_set_self hi]at z1;cases z1;cases z2
     ·rw[List.getElem?_set_ne hj]at z1;exact⟨⟨s,ys,z1,z2⟩,z3⟩
    refine⟨.ref a,es,q.2 (.ref a) σ H ⟨⟨by simpa using q.1.len,fun j s ej=>?_,fun j l b z w=>q.1.ne j l b (sub j b z) (sub l b w)⟩,fun j b z=>.inl (sub j b z),bU.refl H,fun _ _ z _=>z,fun _ z=>z,fun j ys ej=>?_⟩ ⟨a,rfl,e2,.inr ⟨k,o,e0,es⟩⟩⟩
    ·by_cases hj:k=j
     ·subst hj;rw[List.getElem?_set_self hi]at ej;cases ej;trivial
     ·rw[List.getElem?_set_ne hj]at ej;exact q.1.sl j s ej
    ·have hj:k≠j:=fun z=>by subst z;rw[e0]at ej;cases ej
     exact⟨⟨ys,by rw[List.getElem?_set_ne hj];exact ej⟩,rfl⟩
theorem Mi:GS X W c (.ret (.con .non)) (.Return none pos):=fun env=>PS.imp Kq fun D σ H q=>by
 simp only[uT,E.au,v_0,v_1,Wr,v_3,v_4,Wq,v_6,Vh,Wo,Js,sO,DN,DK,Am,JB,QK,Jz,DG,Dz,Jy,Jx,sJ,Jw,QJ,Jv,Ju,Jt,kY,Out.fl,lA]at q
 exact q.2 .non σ H (Nz.refl q.1) rfl
theorem jH(lo:Int):∀(n i:Nat)(d:D),(bH lo n)[i]? =some d->d=.int (lo+i)/\i<n
 |0,i=>fun d h=>by simp[bH]at h
 |n+1,0=>fun d h=>by simp[bH]at h;exact⟨by rw[<-h];simp,by omega⟩
 |n+1,i+1=>fun d h=>by
  rw[bH,List.getElem?_cons_succ]at h
  obtain⟨e,l⟩:=jH (lo+1) n i d h
  refine⟨by rw[e];congr 1;push_cast;omega,by omega⟩
theorem jG(lo:Int):∀n,(bH lo n).length=n
 |0=>rfl
 |n+1=>by rw[bH,List.length_cons,jG]
theorem wk{K:PySem.W.Frag}{H:Hp}{lo:Int}{n:Nat}(hz:n<=sizeLine):Gives K (Z4 lo n) (bH lo n) H where
 go:=fun H1 p i d e=>(jH lo n i d e).2
 yld:=fun H1 p i d e x H2 y=>by
  obtain⟨rfl,rfl⟩:=y
  rw[(jH lo n i d e).1]
  exact⟨rfl,.inl rfl⟩
 stop:=fun H1 p i hi=>by rw[jG]at hi;exact hi
 len:=by rw[jG];exact hz
theorem Gs{i:Int}(h:qY i=true): -(2 ^62)<=i/\i<2 ^62:=by
 simp only[qY,decide_eq_true_eq]at h
 omega
theorem Cw{tg:Expr}(ha:GE X W c m a)(hg:Gl X "range")(hm:X.mg "range"=none)(hs:starEach [a] X.env=[(false,eval a X.env)]):GI X W c (.range1 m) tg (.Call (.Name "range" p) [a] [] pos):=by
 intro env pins s σ H R I q
 refine Bo hg hm (bC ha.d dz hs) hs pins s σ H R I ⟨env,q.1,?_⟩
 have q2:=q.2
 simp only[Jw]at q2
 have go:∀d env1 v H',Nx X.K env σ H env1 H'->bh X.K H' d v->(match (lift env1 (match d with|.int n=>if fits n.toNat&&qY n then some (Rv.val (.lst (bH 0 n.toNat)))else none|_=>none))with
   |.ok x env'=>∃d xs,x.jz=some d/\items d=some xs/\∀J H',Nx X.K env σ H env' H'->Gives X.K J xs H'->R J H'
   |.exc c env'=>∀H',Nx X.K env σ H env' H'->W c env' σ H'
   |.bad=>False)->∃j:Int,[v]=[.int j]/\ -(2 ^62)<=j/\j<2 ^62/\R (Z4 0 j.toNat) H':=fun d env1 v H' N Dv z=>by
  cases d with
  |int n=>
   simp only at z
   by_cases hf:(fits n.toNat&&qY n)=true
   ·rw[if_pos hf]at z
    rw[Bool.and_eq_true]at hf
    obtain⟨d',xs,e1,e2,z⟩:=z
    cases e1
    cases e2
    have hv:v=.int n:=Dv
    subst hv
    exact⟨n,rfl,(Gs hf.2).1,(Gs hf.2).2,z _ H' N (wk (dM hf.1))⟩
   ·rw[if_neg hf]at z;exact z.elim
  |_=>exact z.elim
 cases r:ev c m env with
 |bad=>rw[r]at q2;exact q2
 |exc k env1=>rw[r]at q2;exact q2
 |ok x env1=>
  rw[r]at q2
  cases x with
  |val d=>exact fun v H' N Dv=>go d env1 v H' N Dv q2
  |new o=>exact fun v H' N Dv=>go o.d env1 v H' N Dv q2
  |ref i=>exact q2
  |tmp o=>exact q2
theorem iJ.z{K:PySem.W.Frag}{tg:Tg}{env env':Ev}{σ σ':St}{H:Hp}(st:iJ K tg env σ env' σ' H):Nz K env σ H env' σ' H:=
 ⟨st.eY,fun i a z=>.inl (st.sub z),bU.refl _,fun _ _ z _=>z,fun _ z=>z,fun i xs e=>⟨⟨xs,(st.same i (st.bors i xs e)).1.trans e⟩,(st.same i (st.bors i xs e)).2⟩⟩
theorem yQ{K:PySem.W.Frag}{env:Ev}{σ:St}{H:Hp}{f:Fl}{g:Ev->Fl}{D:Ends}{N:St->Hp->Prop}(q:tS K W env (f.turn g) D σ H)
  (k:∀env2 σ2 H2,Nz K env σ H env2 σ2 H2->tS K W env2 (g env2) D σ2 H2->N σ2 H2):tS K W env f {D with nx:=N,ct:=N,bk:=D.nx} σ H:=by
 refine⟨q.1,?_⟩
 cases f with
 |next env2=>exact fun σ2 H2 N2=>k env2 σ2 H2 N2 (nQ q N2)
 |cont env2=>exact fun σ2 H2 N2=>k env2 σ2 H2 N2 (nQ q N2)
 |brk env2=>exact q.2
 |ret r env2=>exact q.2
 |exc j env2=>exact q.2
 |bad=>exact q.2
theorem TX{tg:Tg}{tgE iterE:Expr}{it:E}{b:S}{body:List Stmt}(hp:PassesOwn (model X.prog X.w) X.A X.env X.xe)(hc:X.calm=true)(hi:GI X W c it tgE iterE)(hg:GG X tg tgE)(hb:IW X W c b body)
  (hs:∀x,foldedSetIterable iterE X.env x=pure x):GS X W c (.for_ tg it b) (.For tgE iterE body [] pos):=by
 intro env pins s σ H D I q
 have P:=Ry (pos:=pos) hp hc (wi:=fun σ' H' R=>σ'=σ/\H'=H/\tI X.K W env (ev c it env) σ H R) (fun pins s σ' H' R I'⟨e1,e2,z⟩=>by subst e1 e2;exact hi env pins s _ _ R I' z) hg (tb:=fun D σ H=>∃env,tS X.K W env (ex c b env) D σ H) (fun pins s σ H D I⟨env,z⟩=>hb env pins s σ H D I z) hs
 refine P pins s σ H D I ⟨rfl,rfl,?_⟩
 simp only[Wj]at q
 have tur:∀env1 xs J H1,Nx X.K env σ H env1 H1->Gives X.K J xs H1->tS X.K W env1 (aZ tg (ex c b) xs env1) D σ H1->∃W':Nat->Nat->St->Hp->Prop,(∃m,W' 0 m σ H1)/\∀i m σ H,W' i m σ H->
   (J.stop i H/\D.nx σ H)\/(J.go i H/\∃N:St->Hp->Prop,(∀σ' H',N σ' H'->∃m',m'<m/\W' (i+1) m' σ' H')/\∀x H',J.yld i H x H'->tG X.K tg x σ H' fun σ2 H2=>∃env,tS X.K W env (ex c b env) {D with nx:=N,ct:=N,bk:=D.nx} σ2 H2):=fun env1 xs J H1 N1 G z=>by
  refine⟨fun i m σ' H'=>i<=xs.length/\m=xs.length-i/\bU H1 H'/\∃env',tS X.K W env' (aZ tg (ex c b) (xs.drop i) env') D σ' H',⟨xs.length,Nat.zero_le _,by simp,bU.refl _,env1,z⟩,?_⟩
  rintro i m σ' H' ⟨hi,rfl,pe,env',z⟩
  by_cases hl:i<xs.length
  ·obtain⟨d,hd⟩:∃d,xs[i]? =some d:=⟨xs[i],by simp[hl]⟩
   rw[rM hd,aZ]at z
   cases e:bA tg d env' with
   |none=>rw[e]at z;exact z.2.elim
   |some env2=>
    rw[e]at z
    simp only at z
    refine .inr ⟨G.go H' pe i d hd,fun σ2 H2=>bU H1 H2/\∃env3,tS X.K W env3 (aZ tg (ex c b) (xs.drop (i+1)) env3) D σ2 H2,fun σ2 H2⟨p2,w⟩=>⟨xs.length- (i+1),by omega,hl,rfl,p2,w⟩,fun x H2 y=>?_⟩
    obtain⟨Dx,lay⟩:=G.yld H' pe i d hd x H2 y
    have N2:=z.1.lay lay
    refine⟨env',d,env2,N2.eY,Dx,e,fun σ2 st=>⟨env2,yQ (nQ z (N2.z.trans st.z)) fun env3 σ3 H3 N3 w=>⟨(pe.trans N2.pers).trans N3.pers,env3,w⟩⟩⟩
  ·have e:i=xs.length:=by omega
   subst e
   rw[List.drop_length,aZ]at z
   exact .inl ⟨G.stop H' pe _ (Nat.le_refl _),z.2 σ' H' (Nz.refl z.1)⟩
 refine⟨q.1,?_⟩
 have go:∀(x:Rv)env1 d,x.jz=some d->(match (match items d with|some xs=>aZ tg (ex c b) xs env1|none=>Fl.bad)with
   |.next env'=>∀σ' H',Nz X.K env σ H env' σ' H'->D.nx σ' H'
   |.ret r env'=>∀v σ' H',Nz X.K env σ H env' σ' H'->Iz X.K env σ H H' r v->D.rt v H'
   |.brk env'=>∀σ' H',Nz X.K env σ H env' σ' H'->D.bk σ' H'
   |.cont env'=>∀σ' H',Nz X.K env σ H env' σ' H'->D.ct σ' H'
   |.exc c env'=>∀σ' H',Nz X.K env σ H env' σ' H'->W c env' σ' H'
   |.bad=>False)->∃d xs,x.jz=some d/\items d=some xs/\∀J H',Nx X.K env σ H env1 H'->Gives X.K J xs H'->∃W':Nat->Nat->St->Hp->Prop,(∃m,W' 0 m σ H')/\∀i m σ H,W' i m σ H->
   (J.stop i H/\D.nx σ H)\/(J.go i H/\∃N:St->Hp->Prop,(∀σ' H',N σ' H'->∃m',m'<m/\W' (i+1) m' σ' H')/\∀x H',J.yld i H x H'->tG X.K tg x σ H' fun σ2 H2=>∃env,tS X.K W env (ex c b env) {D with nx:=N,ct:=N,bk:=D.nx} σ2 H2):=fun x env1 d ed z=>by
  cases e1:items d with
  |none=>rw[e1]at z;exact z.elim
  |some xs=>
   rw[e1]at z
   exact⟨d,xs,ed,e1,fun J H1 N G=>tur env1 xs J H1 N G (nQ (env:=env) (σ:=σ) (H:=H) ⟨q.1,z⟩ N.z)⟩
 have q2:=q.2
 cases r:ev c it env with
 |bad=>rw[r]at q2;exact q2
 |exc k env1=>rw[r]at q2;exact fun H' N=>q2 σ H' N.z
 |ok x env1=>
  rw[r]at q2
  cases x with
  |val d=>exact go _ env1 d rfl q2
  |new o=>exact go _ env1 o.d rfl q2
  |ref i=>exact q2.elim
  |tmp o=>exact q2.elim
theorem Hf{t:E}{te:Expr}{b:S}{body:List Stmt}(hp:PassesOwn (model X.prog X.w) X.A X.env X.xe)(ht:GT X W c t te)(hb:IW X W c b body):GS X W c (.while_ t b) (.While te body [] pos):=by
 intro env
 refine PS.imp (Fx hp ht (tb:=fun D σ H=>∃env,tS X.K W env (ex c b env) D σ H) (fun pins s σ H D I⟨env,z⟩=>hb env pins s σ H D I z)) fun D σ H q=>?_
 simp only[abt]at q
 refine⟨fun n σ' H'=>∃env',tS X.K W env' (cg (ev c t) (ex c b) n env') D σ' H',⟨c.turns,env,q⟩,?_⟩
 rintro n σ1 H1 ⟨env1,q1⟩
 cases n with
 |zero=>exact q1.2.elim
 |succ n=>
  rw[cg]at q1
  refine⟨env1,El q1 fun k env2 H2 N2 q2=>?_⟩
  cases k with
  |true=>
   rw[if_pos rfl]at q2⊢
   refine⟨fun σ' H'=>∃env',tS X.K W env' (cg (ev c t) (ex c b) n env') D σ' H',fun σ' H' w=>⟨n,Nat.lt_succ_self n,w⟩,env2,yQ q2 fun env3 σ3 H3 N3 w=>⟨env3,w⟩⟩
  |false=>
   rw[if_neg Bool.false_ne_true]at q2⊢
   exact q2.2 σ1 H2 (Nz.refl q2.1)
end
end Mini
end
section
namespace Mini
open PySem L2
structure Cz(K:PySem.W.Frag)(ps:List Sl)(vs:List V)(H:Hp)(qs:List Sl)(H':Hp):Prop where
 bor:∀(i:Nat)o,ps[i]? =some (.bor o)->∃o' a,qs[i]? =some (.bor o')/\vs[i]? =some (.ref a)/\jA K H' o' a
 pers:bU H H'
 keep:∀b u,H b=some u->(∀i,¬aB ps (vs.map some) i b)->H' b=some u
 dom:∀b,H' b=none->H b=none
def Z1(K:PySem.W.Frag)(H H':Hp):Rv->V->Prop
 |.val d,v=>bh K H' d v
 |.new q,v=>∃a,v=.ref a/\jA K H' q a/\H a=none
 |_,_=>False
def noOwn(ps:List Sl):Prop:=∀(i:Nat)o,ps[i]? ≠some (.own o)
def jU(K:PySem.W.Frag)(n:Nat)(f:List Sl->Res):Sp:=fun vs H Q _=>∃ps,vs.length=n/\Sat K ps (vs.map some) H/\noOwn ps/\match f ps with
 |.ok r qs=>∀v H',Cz K ps vs H qs H'->Z1 K H H' r v->Q v H'
 |.exc _ qs=>∀H',Cz K ps vs H qs H'->False
 |.bad=>False
theorem tR{ps:List Sl}{vs:List V}{i k:Nat}{b:Addr}(hl:ps.length=vs.length):aB (ps++List.replicate k .un) (vs.map some++List.replicate k none) i b↔aB ps (vs.map some) i b:=by
 constructor
 ·rintro ⟨⟨s,o,e1,e2⟩,e3⟩
  by_cases hi:i<ps.length
  ·rw[List.getElem?_append_left hi]at e1
   rw[List.getElem?_append_left (by simpa[<-hl]using hi)]at e3
   exact⟨⟨s,o,e1,e2⟩,e3⟩
  ·rw[List.getElem?_append_right (by omega),List.getElem?_replicate]at e1
   split at e1
   ·cases e1;cases e2
   ·cases e1
 ·rintro ⟨⟨s,o,e1,e2⟩,e3⟩
  have hi:i<ps.length:=(List.getElem?_eq_some_iff.mp e1).1
  exact⟨⟨s,o,by rw[List.getElem?_append_left hi];exact e1,e2⟩,by rw[List.getElem?_append_left (by simpa[<-hl]using hi)];exact e3⟩
theorem Sat.pad{K:PySem.W.Frag}{ps:List Sl}{vs:List V}{H:Hp}(S:Sat K ps (vs.map some) H)(k:Nat):Sat K (ps++List.replicate k .un) (vs.map some++List.replicate k none) H:=by
 have hl:ps.length=vs.length:=by simpa using S.len
 refine⟨by simp[hl],fun i s e=>?_,fun i j a h1 h2=>S.ne i j a ((tR hl).mp h1) ((tR hl).mp h2)⟩
 by_cases hi:i<ps.length
 ·rw[List.getElem?_append_left hi]at e
  rw[List.getElem?_append_left (by simpa[<-hl]using hi)]
  exact S.sl i s e
 ·rw[List.getElem?_append_right (by omega),List.getElem?_replicate]at e
  split at e
  ·cases e;trivial
  ·cases e
theorem Nz.cz{K:PySem.W.Frag}{ps:List Sl}{vs:List V}{H H':Hp}{k n:Nat}{env':Ev}{σ':St}(S:Sat K ps (vs.map some) H)(hn:vs.length=n)(N:Nz K (ps++List.replicate k .un) (vs.map some++List.replicate k none) H env' σ' H'):Cz K ps vs H (env'.take n) H':=by
 have hl:ps.length=vs.length:=by simpa using S.len
 refine⟨fun i o e=>?_,N.pers,fun b u hb no=>N.keep b u hb fun i z=>no i ((tR hl).mp z),N.dom⟩
 have hi:i<ps.length:=(List.getElem?_eq_some_iff.mp e).1
 obtain⟨⟨o',e1⟩,e2⟩:=N.bors i o (by rw[List.getElem?_append_left hi];exact e)
 obtain⟨a,z1,z2⟩:=N.eY.sl i _ e1
 rw[e2,List.getElem?_append_left (by simpa[<-hl]using hi),List.getElem?_map]at z1
 refine⟨o',a,by rw[List.getElem?_take_of_lt (by omega)];exact e1,?_,z2⟩
 cases q:vs[i]? with
 |none=>rw[q]at z1;cases z1
 |some v=>rw[q]at z1;simp at z1;rw[z1]
section
variable{P:Program}{w:World}{K:PySem.W.Frag}{mg:Str->Option Value}{base:Heap}
theorem zP{x qual:Str}{st:Stmt}{f:Addr}{fd:FuncData}{N ps:List Str}{k:Nat}{c:Cf}{g:Fn}(F:Nj K x qual st f fd)(S:dR N ps (aq st))(hp:g.pars=ps.length)(hn:g.names=N.length)
  (hb:∀(cdv:Value)(A:Around)(outer:List Env)(s:Shared)(H:Hp)(E:XK),gD k (A.deeper (PyProof.Rows.envOfC qual (aq st) s.heap.objs.size f cdv))->IW (gP wM P w K mg base N qual (aq st) f cdv A outer s H E).O1 W0 c g.body (bW st)):
  fX P w K mg base wM (k+1) f fd ps (jU K ps.length (dZ c g)):=by
 refine F.ok S (fun vs H Q E h=>?_) (fun cdv A outer s H vs Q E hr h=>?_)
 ·obtain⟨_,h,_⟩:=h
  exact h
 ·obtain⟨sl,hl,S0,no,q⟩:=h
  refine⟨_,hb cdv A outer s H E hr (sl++List.replicate (g.names-g.pars) .un),?_⟩
  have hlen:sl.length=vs.length:=by simpa using S0.len
  have hst:L2.start N vs=vs.map some++List.replicate (g.names-g.pars) none:=by
   unfold L2.start
   rw[hn,hp,hl]
  have e0:dZ c g sl=match ex c g.body (sl++List.replicate (g.names-g.pars) .un)with
    |.next σ=>.ok (.val .non) (σ.take g.pars)
    |.ret r σ=>.ok r (σ.take g.pars)
    |.exc k σ=>.exc k (σ.take g.pars)
    |_=>.bad:=by
   unfold dZ
   rw[if_pos (by rw[hp,<-hl,hlen])]<;>cases ex c g.body (sl++List.replicate (g.names-g.pars) .un)<;>rfl
  rw[e0]at q
  rw[hst]
  refine⟨S0.pad _,?_⟩
  have hg:vs.length=g.pars:=by rw[hl,hp]
  cases r:ex c g.body (sl++List.replicate (g.names-g.pars) .un)with
  |next env'=>rw[r]at q;exact fun σ' H' N=>q .non H' (N.cz S0 hg) rfl
  |ret rv env'=>
   rw[r]at q
   refine fun v σ' H' N z=>q v H' (N.cz S0 hg) ?_
   cases rv with
   |val d=>exact z
   |new o=>
    obtain⟨a,e1,e2,e3⟩:=z
    refine⟨a,e1,e2,?_⟩
    rcases e3 with e3|⟨i,ys,e3,_⟩
    ·exact e3
    ·by_cases hi:i<sl.length
     ·rw[List.getElem?_append_left hi]at e3
      exact absurd e3 (no i ys)
     ·rw[List.getElem?_append_right (by omega),List.getElem?_replicate]at e3
      split at e3<;>cases e3
   |ref i=>exact z.elim
   |tmp o=>exact z.elim
  |brk env'=>rw[r]at q;exact q.elim
  |cont env'=>rw[r]at q;exact q.elim
  |exc j env'=>rw[r]at q;exact fun σ' H' N=>q H' (N.cz S0 hg)
  |bad=>rw[r]at q;exact q.elim
end
inductive En(K:PySem.W.Frag)(env:Ev)(σ:St)(H0 H:Hp):List Rv->List Sl->List V->Prop
 |nil:En K env σ H0 H [] [] []
 |val {d:D} {v:V} {rs:List Rv} {ps:List Sl} {vs:List V}:bh K H d v->En K env σ H0 H rs ps vs->En K env σ H0 H (.val d::rs) (.val d::ps) (v::vs)
 |tmp {o:Ob} {a:Addr} {rs:List Rv} {ps:List Sl} {vs:List V}:jA K H o a->H0 a=none->(∀q,Rv.tmp q∉rs)->En K env σ H0 H rs ps vs->En K env σ H0 H (.tmp o::rs) (.bor o::ps) (.ref a::vs)
 |ref {o:Ob} {j:Nat} {a:Addr} {s:Sl} {rs:List Rv} {ps:List Sl} {vs:List V}:env[j]? =some s->isOwn s=some o->σ[j]? =some (some (.ref a))->jA K H o a->Rv.ref j∉rs->En K env σ H0 H rs ps vs->En K env σ H0 H (.ref j::rs) (.bor o::ps) (.ref a::vs)
section
variable{K:PySem.W.Frag}{env env1 env2:Ev}{σ:St}{H0 H H2:Hp}
theorem gO(S:Sat K env σ H):∀{rs:List Rv}{ps:List Sl}{vs:List V},enter rs env=some ps->gQ K σ H0 H rs vs->En K env σ H0 H rs ps vs
 |[],ps,vs,h,r=>by
  cases h
  have:vs=[]:=r
  subst this
  exact .nil
 |x::rs,ps,vs,h,r=>by
  obtain⟨v,vr,rfl,h1,h2⟩:=r
  cases x with
  |val d=>
   simp only[enter]at h
   cases e:enter rs env with
   |none=>rw[e]at h;cases h
   |some ps'=>rw[e]at h;cases h;exact .val h1 (gO S e h2)
  |new o=>cases h
  |tmp o=>
   simp only[enter]at h
   split at h
   ·cases h
   ·rename_i hn
    cases e:enter rs env with
    |none=>rw[e]at h;cases h
    |some ps'=>
     rw[e]at h
     cases h
     obtain⟨a,rfl,oa,ha⟩:=h1
     refine .tmp oa ha (fun q hq=>hn ?_) (gO S e h2)
     exact List.any_eq_true.mpr ⟨_,hq,rfl⟩
  |ref j=>
   simp only[enter]at h
   split at h
   ·cases h
   ·rename_i hn
    have nr:Rv.ref j∉rs:=fun hq=>hn (List.any_eq_true.mpr ⟨_,hq,by simp[ig]⟩)
    cases e1:env[j]? with
    |none=>rw[e1]at h;cases h
    |some s=>
     rw[e1]at h
     have h1':σ[j]? =some (some v):=h1
     cases s with
     |un=>cases h
     |val d=>cases h
     |own o=>
      cases e:enter rs env with
      |none=>simp only[e]at h;cases h
      |some ps'=>
       simp only[e]at h
       cases h
       obtain⟨a,z1,z2⟩:=S.sl j _ e1
       rw[h1']at z1
       cases z1
       exact .ref e1 rfl h1' z2 nr (gO S e h2)
     |bor o=>
      cases e:enter rs env with
      |none=>simp only[e]at h;cases h
      |some ps'=>
       simp only[e]at h
       cases h
       obtain⟨a,z1,z2⟩:=S.sl j _ e1
       rw[h1']at z1
       cases z1
       exact .ref e1 rfl h1' z2 nr (gO S e h2)
theorem En.len{rs:List Rv}{ps:List Sl}{vs:List V}(h:En K env σ H0 H rs ps vs):ps.length=vs.length/\rs.length=vs.length:=by
 induction h with
 |nil=>exact⟨rfl,rfl⟩
 |val _ _ ih=>simp[ih.1,ih.2]
 |tmp _ _ _ _ ih=>simp[ih.1,ih.2]
 |ref _ _ _ _ _ _ ih=>simp[ih.1,ih.2]
theorem En.noOwn{rs:List Rv}{ps:List Sl}{vs:List V}(h:En K env σ H0 H rs ps vs):noOwn ps:=by
 induction h with
 |nil=>intro i o e;simp at e
 |val _ _ ih=>intro i o e;cases i with
  |zero=>simp at e
  |succ i=>exact ih i o (by simpa using e)
 |tmp _ _ _ _ ih=>intro i o e;cases i with
  |zero=>simp at e
  |succ i=>exact ih i o (by simpa using e)
 |ref _ _ _ _ _ _ ih=>intro i o e;cases i with
  |zero=>simp at e
  |succ i=>exact ih i o (by simpa using e)
theorem En.lent{rs:List Rv}{ps:List Sl}{vs:List V}(h:En K env σ H0 H rs ps vs):∀{i:Nat}{a:Addr},aB ps (vs.map some) i a->(∃o,rs[i]? =some (.tmp o)/\H0 a=none)\/∃j,rs[i]? =some (.ref j)/\aB env σ j a:=by
 induction h with
 |nil=>rintro i a ⟨⟨s,o,e,_⟩,_⟩;simp at e
 |val _ _ ih=>
  rintro i a ⟨⟨s,o,e1,e2⟩,e3⟩
  cases i with
  |zero=>simp at e1;subst e1;cases e2
  |succ i=>simpa using ih ⟨⟨s,o,by simpa using e1,e2⟩,by simpa using e3⟩
 | @tmp o b rs ps vs oa h0 _ _ ih=>
  rintro i a ⟨⟨s,o',e1,e2⟩,e3⟩
  cases i with
  |zero=>
   simp at e3
   subst e3
   exact .inl ⟨o,rfl,h0⟩
  |succ i=>simpa using ih ⟨⟨s,o',by simpa using e1,e2⟩,by simpa using e3⟩
 | @ref o j b s rs ps vs e1 e2 e3 oa nr _ ih=>
  rintro i a ⟨⟨s',o',z1,z2⟩,z3⟩
  cases i with
  |zero=>
   simp at z3
   subst z3
   exact .inr ⟨j,rfl,⟨⟨s,o,e1,e2⟩,e3⟩⟩
  |succ i=>simpa using ih ⟨⟨s',o',by simpa using z1,z2⟩,by simpa using z3⟩
theorem En.eY{env0:Ev}(S0:Sat K env0 σ H0)(S:Sat K env σ H)(sub:∀(i:Nat)a,aB env σ i a->aB env0 σ i a){rs:List Rv}{ps:List Sl}{vs:List V}(h:En K env σ H0 H rs ps vs):Sat K ps (vs.map some) H:=by
 refine⟨by simpa using h.len.1,?_,?_⟩
 ·clear S0 sub
  induction h with
  |nil=>intro i s e;simp at e
  |val hd _ ih=>
   intro i s e
   cases i with
   |zero=>simp at e;subst e;exact⟨_,rfl,hd⟩
   |succ i=>simpa using ih i s (by simpa using e)
  |tmp oa _ _ _ ih=>
   intro i s e
   cases i with
   |zero=>simp at e;subst e;exact⟨_,rfl,oa⟩
   |succ i=>simpa using ih i s (by simpa using e)
  |ref _ _ _ oa _ _ ih=>
   intro i s e
   cases i with
   |zero=>simp at e;subst e;exact⟨_,rfl,oa⟩
   |succ i=>simpa using ih i s (by simpa using e)
 ·--no two slots have one address
  have fresh:∀a,H0 a=none->∀j,¬aB env σ j a:=fun a ha j z=>S0.lE ha j (sub j a z)
  induction h with
  |nil=>rintro i j a ⟨⟨s,o,e,_⟩,_⟩;simp at e
  |val hd t ih=>
   rintro i j a ⟨⟨s,o,e1,e2⟩,e3⟩ ⟨⟨s',o',e1',e2'⟩,e3'⟩
   cases i with
   |zero=>simp at e1;subst e1;cases e2
   |succ i=>cases j with
    |zero=>simp at e1';subst e1';cases e2'
    |succ j=>rw[ih i j a ⟨⟨s,o,by simpa using e1,e2⟩,by simpa using e3⟩ ⟨⟨s',o',by simpa using e1',e2'⟩,by simpa using e3'⟩]
  | @tmp o b rs ps vs oa h0 nt t ih=>
   have clash:∀i,¬aB ps (vs.map some) i b:=fun i z=>by
    rcases t.lent z with ⟨q,e,_⟩|⟨q,_,ow⟩
    ·exact nt q (List.mem_of_getElem? e)
    ·exact fresh b h0 q ow
   rintro i j a ⟨⟨s,o,e1,e2⟩,e3⟩ ⟨⟨s',o',e1',e2'⟩,e3'⟩
   cases i with
   |zero=>
    simp at e3
    subst e3
    cases j with
    |zero=>rfl
    |succ j=>exact absurd ⟨⟨s',o',by simpa using e1',e2'⟩,by simpa using e3'⟩ (clash j)
   |succ i=>cases j with
    |zero=>
     simp at e3'
     subst e3'
     exact absurd ⟨⟨s,o,by simpa using e1,e2⟩,by simpa using e3⟩ (clash i)
    |succ j=>rw[ih i j a ⟨⟨s,o,by simpa using e1,e2⟩,by simpa using e3⟩ ⟨⟨s',o',by simpa using e1',e2'⟩,by simpa using e3'⟩]
  | @ref o k b s0 rs ps vs z1 z2 z3 oa nr t ih=>
   have ok:aB env σ k b:=⟨⟨s0,o,z1,z2⟩,z3⟩
   have clash:∀i,¬aB ps (vs.map some) i b:=fun i z=>by
    rcases t.lent z with ⟨q,e,h0⟩|⟨q,e,ow⟩
    ·exact fresh b h0 k ok
    ·have:=S.ne k q b ok ow
     subst this
     exact nr (List.mem_of_getElem? e)
   rintro i j a ⟨⟨s,o,e1,e2⟩,e3⟩ ⟨⟨s',o',e1',e2'⟩,e3'⟩
   cases i with
   |zero=>
    simp at e3
    subst e3
    cases j with
    |zero=>rfl
    |succ j=>exact absurd ⟨⟨s',o',by simpa using e1',e2'⟩,by simpa using e3'⟩ (clash j)
   |succ i=>cases j with
    |zero=>
     simp at e3'
     subst e3'
     exact absurd ⟨⟨s,o,by simpa using e1,e2⟩,by simpa using e3⟩ (clash i)
    |succ j=>rw[ih i j a ⟨⟨s,o,by simpa using e1,e2⟩,by simpa using e3⟩ ⟨⟨s',o',by simpa using e1',e2'⟩,by simpa using e3'⟩]
end
end Mini
end
section
namespace Mini
open PySem L2
def Sl.zu(o':Ob):Sl->Option Sl
 |.own _=>some (.own o')
 |.bor _=>some (.bor o')
 |_=>none
theorem DR{j:Nat}{o':Ob}{env env':Ev}(h:bM j (fun _=>some o') env=some env'):∃s s',env[j]? =some s/\s.zu o'=some s'/\env'=env.set j s':=by
 obtain⟨o,q,e,hh⟩:=nH h
 cases e
 rcases hh with ⟨e,rfl⟩|⟨e,rfl⟩
 ·exact⟨_,_,e,rfl,rfl⟩
 ·exact⟨_,_,e,rfl,rfl⟩
theorem lO:∀{rs:List Rv}{qs:List Sl}{env env2:Ev},giveBack rs qs env=some env2->env2.length=env.length/\∀j:Nat,
  ((∀i:Nat,rs[i]? ≠some (Rv.ref j))/\env2[j]? =env[j]?)\/∃(i:Nat)(o':Ob)(s s':Sl),rs[i]? =some (.ref j)/\qs[i]? =some (.bor o')/\env[j]? =some s/\s.zu o'=some s'/\env2[j]? =some s'
 |[],[],env,env2,h=>by
  cases h
  exact⟨rfl,fun j=>.inl ⟨fun i=>by simp,rfl⟩⟩
 |[],_::_,env,env2,h=>by cases h
 |x::rs,[],env,env2,h=>by cases x<;>cases h
 |x::rs,q::qs,env,env2,h=>by
  have skip:giveBack rs qs env=some env2->(∀j,x≠ .ref j)->env2.length=env.length/\∀j:Nat,
    ((∀i:Nat,(x::rs)[i]? ≠some (Rv.ref j))/\env2[j]? =env[j]?)\/∃(i:Nat)(o':Ob)(s s':Sl),(x::rs)[i]? =some (.ref j)/\(q::qs)[i]? =some (.bor o')/\env[j]? =some s/\s.zu o'=some s'/\env2[j]? =some s':=fun h nx=>by
   obtain⟨l,g⟩:=lO h
   refine⟨l,fun j=>?_⟩
   rcases g j with ⟨g1,g2⟩|⟨i,o',s,s',g1,g2,g3⟩
   ·refine .inl ⟨fun i e=>?_,g2⟩
    cases i with
    |zero=>simp at e;exact nx j e
    |succ i=>exact g1 i (by simpa using e)
   ·exact .inr ⟨i+1,o',s,s',by simpa using g1,by simpa using g2,g3⟩
  cases x with
  |val d=>exact skip h fun j z=>by cases z
  |new o=>exact skip h fun j z=>by cases z
  |tmp o=>exact skip h fun j z=>by cases z
  |ref k=>
   cases q with
   |bor o=>
    change Option.bind (bM k (fun _=>some o) env) (giveBack rs qs)=some env2 at h
    cases e:bM k (fun _=>some o) env with
    |none=>rw[e]at h;cases h
    |some env1=>
     rw[e]at h
     obtain⟨s0,s1,z1,z2,rfl⟩:=DR e
     have hk:k<env.length:=(List.getElem?_eq_some_iff.mp z1).1
     obtain⟨l,g⟩:=lO h
     refine⟨by simpa using l,fun j=>?_⟩
     rcases g j with ⟨g1,g2⟩|⟨i,o',s,s',g1,g2,g3,g4,g5⟩
     ·by_cases hj:k=j
      ·subst hj
       rw[List.getElem?_set_self hk]at g2
       exact .inr ⟨0,o,s0,s1,rfl,rfl,z1,z2,g2⟩
      ·rw[List.getElem?_set_ne hj]at g2
       refine .inl ⟨fun i e=>?_,g2⟩
       cases i with
       |zero=>simp at e;exact hj e
       |succ i=>exact g1 i (by simpa using e)
     ·by_cases hj:k=j
      ·subst hj
       rw[List.getElem?_set_self hk]at g3
       cases g3
       refine .inr ⟨i+1,o',s0,s',by simpa using g1,by simpa using g2,z1,?_,g5⟩
       cases s0 with
       |own q=>cases z2;exact g4
       |bor q=>cases z2;exact g4
       |un=>cases z2
       |val d=>cases z2
      ·rw[List.getElem?_set_ne hj]at g3
       exact .inr ⟨i+1,o',s,s',by simpa using g1,by simpa using g2,g3,g4,g5⟩
   |un=>cases h
   |val d=>cases h
   |own o=>cases h
theorem Gv{s s':Sl}{o':Ob}(h:s.zu o'=some s'):(∃o,isOwn s=some o)/\isOwn s'=some o':=by
 cases s with
 |own q=>cases h;exact⟨⟨q,rfl⟩,rfl⟩
 |bor q=>cases h;exact⟨⟨q,rfl⟩,rfl⟩
 |un=>cases h
 |val d=>cases h
section
variable{K:PySem.W.Frag}{env0 env env2:Ev}{σ:St}{H0 H H2:Hp}{rs:List Rv}{ps qs:List Sl}{vs:List V}
theorem En.Ri(h:En K env σ H0 H rs ps vs):∀{i j:Nat},rs[i]? =some (.ref j)->∃o a,ps[i]? =some (.bor o)/\vs[i]? =some (.ref a)/\σ[j]? =some (some (.ref a)):=by
 induction h with
 |nil=>intro i j e;simp at e
 |val _ _ ih=>intro i j e;cases i with
  |zero=>simp at e
  |succ i=>simpa using ih (by simpa using e)
 |tmp _ _ _ _ ih=>intro i j e;cases i with
  |zero=>simp at e
  |succ i=>simpa using ih (by simpa using e)
 | @ref o k a s rs ps vs e1 e2 e3 oa nr t ih=>
  intro i j e
  cases i with
  |zero=>simp at e;subst e;exact⟨o,a,rfl,rfl,e3⟩
  |succ i=>simpa using ih (by simpa using e)
theorem uH(S0:Sat K env0 σ H0)(N:Nx K env0 σ H0 env H)(E:En K env σ H0 H rs ps vs)(C:Cz K ps vs H qs H2)(g:giveBack rs qs env=some env2):Nx K env0 σ H0 env2 H2:=by
 have S:=N.eY
 have sub:=N.sub
 obtain⟨gl,gs⟩:=lO g
 have fresh:∀a,H0 a=none->∀j,¬aB env σ j a:=fun a ha j z=>S0.lE ha j (sub j a z)
 have own2:∀j b,aB env2 σ j b->aB env σ j b:=fun j b z=>by
  obtain⟨⟨s,o,e1,e2⟩,e3⟩:=z
  rcases gs j with ⟨_,g2⟩|⟨i,o',s0,s1,_,_,g3,g4,g5⟩
  ·rw[g2]at e1;exact⟨⟨s,o,e1,e2⟩,e3⟩
  ·obtain⟨⟨q,hq⟩,_⟩:=Gv g4
   exact⟨⟨s0,q,g3,hq⟩,e3⟩
 have notLent:∀j b,aB env σ j b->(∀i:Nat,rs[i]? ≠some (Rv.ref j))->∀i,¬aB ps (vs.map some) i b:=fun j b ow nr i z=>by
  rcases E.lent z with ⟨q,_,h0⟩|⟨k,e,ow'⟩
  ·exact fresh b h0 j ow
  ·have:=S.ne j k b ow ow'
   subst this
   exact nr i e
 refine⟨⟨by rw[gl];exact S.len,fun j s e=>?_,fun j k b z w=>S.ne j k b (own2 j b z) (own2 k b w)⟩,fun j b z=>sub j b (own2 j b z),N.pers.trans C.pers,fun b u hb no=>C.keep b u (N.keep b u hb no) fun i z=>?_,fun b z=>N.dom b (C.dom b z),fun j xs e=>?_⟩
 ·rcases gs j with ⟨g1,g2⟩|⟨i,o',s0,s1,g1,g2,g3,g4,g5⟩
  ·rw[g2]at e
   refine(S.sl j s e).keep C.pers fun b u ho ev hb=>?_
   exact C.keep b u hb (notLent j b (tU e ho ev) g1)
  ·rw[g5]at e
   cases e
   obtain⟨o,a,p1,p2,p3⟩:=E.Ri g1
   obtain⟨o'',a',c1,c2,c3⟩:=C.bor i o p1
   rw[g2]at c1
   cases c1
   rw[p2]at c2
   cases c2
   cases s0 with
   |own q=>cases g4;exact⟨a,by rw[p3];rfl,c3⟩
   |bor q=>cases g4;exact⟨a,by rw[p3];rfl,c3⟩
   |un=>cases g4
   |val d=>cases g4
 ·rcases E.lent z with ⟨q,_,h0⟩|⟨k,e,ow⟩
  ·rw[h0]at hb;cases hb
  ·exact no k (sub k b ow)
 ·obtain⟨xs,e⟩:=N.bors j xs e
  rcases gs j with ⟨g1,g2⟩|⟨i,o',s0,s1,g1,g2,g3,g4,g5⟩
  ·exact⟨xs,by rw[g2];exact e⟩
  ·rw[e]at g3
   cases g3
   cases g4
   exact⟨o',g5⟩
end
section
variable{X:Cx}{W:Wi}{c:Cf}{m:E}{e:Expr}{es:List Expr}{pos p:Pos}{CX:yL}{k:Nat}{f:Addr}{fd:FuncData}{ps:List Str}{x:Str}{g:Nat}
theorem Mr(F:fX X.prog X.w X.K X.mg X.base wM k f fd ps (jU X.K ps.length (c.fn g)))(hr:gD k X.A)(hg:Gl X x)(hm:X.mg x=some (.ref f))(hk:PySem.W.keepIn X.K (.ref f)=true)(hb:Binds X.K fd ps [])
  (hd:(x==("__debug__":Str))=false)(ha:GA X W c m (e::es))(he:starEach (e::es) X.env=(false,eval e X.env)::starEach es X.env)(hpl:(backTo pos (starEach es X.env)).any (·.1)=false)(hn:∀sl,c.fn g sl=.bad\/sl.length=ps.length):
  GE X W c (.call g m) (.Call (.Name x p) (e::es) [] pos):=by
 intro env pins s σ H Q I q
 refine KN F hr hg hm hk hb .nil Yc (t:=fun σ' H' R=>σ'=σ/\H'=H/\WX X.K W env (evs c m env) σ H R) (fun p pins s σ' H' R I'⟨e1,e2,z⟩=>by subst e1 e2;exact ha env p pins s _ _ R I' z) hd he hpl pins s σ H Q I ⟨rfl,rfl,?_⟩
 simp only[Jz]at q
 obtain⟨S,q⟩:=q
 refine⟨S,?_⟩
 cases r:evs c m env with
 |bad=>rw[r]at q;exact q
 |exc j env1=>rw[r]at q;exact q
 |ok rs env1=>
  rw[r]at q
  simp only[Out.bind,pL]at q
  intro vs H1 N rv
  rw[List.append_nil]
  cases e1:enter rs env1 with
  |none=>rw[e1]at q;exact q.elim
  |some sl=>
   rw[e1]at q
   simp only at q
   have E:=gO N.eY e1 rv
   refine⟨sl,?_,E.eY S N.eY N.sub,E.noOwn,?_⟩
   ·rcases hn sl with z|z
    ·rw[z]at q;exact q.elim
    ·rw[<-E.len.1,z]
   ·cases e2:c.fn g sl with
    |bad=>rw[e2]at q;exact q.elim
    |ok rv qs=>
     rw[e2]at q
     simp only at q
     intro v H2 C z
     cases e3:giveBack rs qs env1 with
     |none=>rw[e3]at q;exact q.elim
     |some env2=>
      rw[e3]at q
      refine q v H2 (uH S N E C e3) ?_
      cases rv with
      |val d=>exact z
      |new o=>obtain⟨a,z1,z2,z3⟩:=z;exact⟨a,z1,z2,N.dom a z3⟩
      |ref i=>exact z.elim
      |tmp o=>exact z.elim
    |exc j qs=>rw[e2]at q;exact q.elim
end
theorem qJ(c:Cf)(g:Fn)(sl:List Sl):dZ c g sl=.bad\/sl.length=g.pars:=by
 unfold dZ
 split
 ·exact .inr (by assumption)
 ·exact .inl rfl
end Mini
end
section
namespace Mini
open PySem L2 PyProof.Rows
def mJ(b:Bool)(h:Heap)(it l:Addr)(k:Nat):Prop:=match b with|true=>h.IsListIter it l k|false=>h.IsTupleIter it l k
def uQ(b:Bool)(h:Heap)(l:Addr)(xs:Array Value):Prop:=match b with|true=>h.IsList l xs|false=>h.IsTuple l xs
theorem mJ.at{b:Bool}{h h':Heap}{it l:Addr}{k:Nat}(x:mJ b h it l k)(e:∀o,h.get? it=some o->h'.get? it=some o):mJ b h' it l k:=by
 cases b<;>exact Exists.elim x fun o⟨h1,h2⟩=>⟨o,e o h1,h2⟩
theorem uQ.at{b:Bool}{h h':Heap}{l:Addr}{xs:Array Value}(x:uQ b h l xs)(e:∀o,h.get? l=some o->h'.get? l=some o):uQ b h' l xs:=by
 cases b<;>exact Exists.elim x fun o⟨h1,h2⟩=>⟨o,e o h1,h2⟩
theorem mJ.obj{b:Bool}{h:Heap}{it l:Addr}{k:Nat}(x:mJ b h it l k):∃o,h.get? it=some o/\∀v,o.data≠ .cell v:=by
 cases b<;>exact Exists.elim x fun o⟨h1,_,h2⟩=>⟨o,h1,fun v z=>by rw[h2]at z;cases z⟩
theorem mJ.lt{b:Bool}{h:Heap}{it l:Addr}{k:Nat}(x:mJ b h it l k):it<h.objs.size:=let ⟨_,e,_⟩:=x.obj;Heap.lt_size e
section
variable{prog:Program}{w:World}{A:Around}{E:Value->Shared->Prop}{s:Shared}
theorem jY{it l:Addr}{i:Nat}{items}{x:Value}{Q:Value->Shared->Prop}(hit:s.heap.IsTupleIter it l i)
  (hl:s.heap.IsTuple l items)(hx:items[i]? =some x)
  (hQ:∀h',h'.IsTupleIter it l (i+1)->Heap.SameBut it s.heap h'->Q x {s with heap:=h'}):
  wpAny (model prog w) A (Builtin.SmallTypes.nextOf (.ref it)) Q E s:=by
 obtain⟨o,ho,hc,hd⟩:=id hit
 obtain⟨ol,hol,_,nl,hdl⟩:=hl
 unfold Builtin.SmallTypes.nextOf
 refine wpAny_bind (wpAny_callSpecial?_slot (name:=Str.ofString "__next__") hit.typeIs PySem.F.slot_tuple_iterator_next
  (wpAny_call_entry PySem.F.slot_tuple_iterator_next hit.typeIs PySem.F.entry_tuple_iterator_next ?_ (PySem.F.args_tuple_iterator_next_1 _)))
 show wpAny _ _ (field (.ref it) 0>>=_) _ _ s
 refine wpAny_bind (wpAny_field ho hd (x:=.ref l) rfl ?_)
 show wpAny _ _ (if (Value.ref l==Value.none)=true then _ else _) _ _ s
 rw[if_neg (show¬((Value.ref l==Value.none)=true)from Bool.false_ne_true)]
 show wpAny _ _ (field (.ref it) 1>>=_) _ _ s
 refine wpAny_bind (wpAny_field ho hd (x:=.int i 0) rfl ?_)
 show wpAny _ _ (seqItems? (.ref l)>>=_) _ _ s
 refine wpAny_bind (wpAny_seqItems hol hdl ?_)
 simp only[Int.toNat_natCast,hx]
 refine wpAny_bind (wpAny_setField ho hd (by simp) (wpAny_pure ⟨x,rfl,wpAny_pure (hQ _ ?_ (Heap.SameBut.update ..))⟩))
 exact⟨_,Heap.get?_update_self _ ho (Obj.isFreed_of_fields (Obj.data_mapFields hd _)),(Obj.cls_mapFields ..).trans hc,by
  rw[Obj.data_mapFields hd];simp[rawInt]⟩
theorem lG{it l:Addr}{i:Nat}{items}{Q:Value->Shared->Prop}(hh:A.handled=none)
  (hit:s.heap.IsTupleIter it l i)(hl:s.heap.IsTuple l items)(hx:items[i]? =none)
  (hE:∀h' e,Heap.ExtBut it s.heap h'->(∃o,h'.get? e=some o/\o.cls=.type "StopIteration")->E (.ref e) {s with heap:=h'}):
  wpAny (model prog w) A (Builtin.SmallTypes.nextOf (.ref it)) Q E s:=by
 obtain⟨o,ho,hc,hd⟩:=id hit
 obtain⟨ol,hol,_,nl,hdl⟩:=hl
 unfold Builtin.SmallTypes.nextOf
 refine wpAny_bind (wpAny_callSpecial?_slot (name:=Str.ofString "__next__") hit.typeIs PySem.F.slot_tuple_iterator_next
  (wpAny_call_entry PySem.F.slot_tuple_iterator_next hit.typeIs PySem.F.entry_tuple_iterator_next ?_ (PySem.F.args_tuple_iterator_next_1 _)))
 show wpAny _ _ (field (.ref it) 0>>=_) _ _ s
 refine wpAny_bind (wpAny_field ho hd (x:=.ref l) rfl ?_)
 show wpAny _ _ (if (Value.ref l==Value.none)=true then _ else _) _ _ s
 rw[if_neg (show¬((Value.ref l==Value.none)=true)from Bool.false_ne_true)]
 show wpAny _ _ (field (.ref it) 1>>=_) _ _ s
 refine wpAny_bind (wpAny_field ho hd (x:=.int i 0) rfl ?_)
 show wpAny _ _ (seqItems? (.ref l)>>=_) _ _ s
 refine wpAny_bind (wpAny_seqItems hol hdl ?_)
 simp only[Int.toNat_natCast,hx]
 refine wpAny_bind (wpAny_rule (wpAny_bind (wpAny_setField ho hd (by simp) ?_)))
 show wpAny _ _ (newExc (.type "StopIteration") []>>=_) _ _ _
 refine wpAny_bind ?_
 simp only[newExc,newTuple]
 refine wpAny_bind (wpAny_newObj_type ?_ (by size_fits))
 refine wpAny_bind (m:=firstArgMember _ _) (wpAny_of_eq (a:=Value.none) (by first|rfl|(simp only[firstArgMember];rfl)) ?_)
 refine wpAny_newObj_type ?_ (by size_fits)
 simp only[raiseNew]
 refine wpAny_bind (wpAny_handled ?_)
 first|rw[show A.in1.handled=none from hh]|rw[hh]
 refine wpAny_bind (wpAny_pure (wpAny_throw (hE _ _ (((Heap.SameBut.update ..).extBut.push _).push _) ⟨_,Heap.get?_push_size _ rfl,rfl⟩)))
theorem eG{b:Bool}{it l:Addr}{i:Nat}{items}{x:Value}{Q:Value->Shared->Prop}(hit:mJ b s.heap it l i)
  (hl:uQ b s.heap l items)(hx:items[i]? =some x)(hQ:∀h',mJ b h' it l (i+1)->Heap.SameBut it s.heap h'->Q x {s with heap:=h'}):
  wpAny (model prog w) A (Builtin.SmallTypes.nextOf (.ref it)) Q E s:=by
 cases b with
 |true=>exact wpAny_nextOf_list_item hit hl hx hQ
 |false=>exact jY hit hl hx hQ
theorem jn{b:Bool}{it l:Addr}{i:Nat}{items}{Q:Value->Shared->Prop}(hh:A.handled=none)
  (hit:mJ b s.heap it l i)(hl:uQ b s.heap l items)(hx:items[i]? =none)
  (hE:∀h' e,Heap.ExtBut it s.heap h'->(∃o,h'.get? e=some o/\o.cls=.type "StopIteration")->E (.ref e) {s with heap:=h'}):
  wpAny (model prog w) A (Builtin.SmallTypes.nextOf (.ref it)) Q E s:=by
 cases b with
 |true=>exact wpAny_nextOf_list_end hh hit hl hx hE
 |false=>exact lG hh hit hl hx hE
end
def gB(h:Heap)(z TI TO:Addr)(f0 f1:Value):Prop:=
 h.get? z=some {cls:=.type "zip",dict:=none,data:=.fields #[f0,f1,.bool false,.ref TI,.ref TO],slots:= #[]}
def F0(f0:Value):Prop:=f0=.none\/∃T:Nat,f0=rawInt T
section
variable{prog:Program}{w:World}{A:Around}{E:Value->Shared->Prop}{s:Shared}
theorem jQ{M:Model}{a:Addr}{Q:Option Obj->Shared->Prop}(h:Q (s.heap.get? a) s):wpAny M A (loadIfAlive a) Q E s:=fun Γ p hΓ=>by
 show Sem.wp M Γ (.loadIfAlive a .pure) _ _ p s
 rw[Sem.wp_loadIfAlive]
 exact(wpAny_pure (M:=M) (A:=A) (E:=E) h) Γ p hΓ
theorem uR{z TI TO:Addr}{f0 f1:Value}{Q:Bool->Shared->Prop}(hz:gB s.heap z TI TO f0 f1)(h0:F0 f0)(hQ1:Q true s)
  (hQ2:∀h' g1,gB h' z TI TO f0 g1->Heap.SameBut z s.heap h'->Q false {s with heap:=h'}):wpAny (model prog w) A (Builtin.SmallTypes.ownedTupleIsFree (.ref z)) Q E s:=by
 unfold Builtin.SmallTypes.ownedTupleIsFree
 rcases h0 with rfl|⟨T,rfl⟩
 ·exact wpAny_bind (wpAny_field hz rfl (x:=.none) rfl (wpAny_pure hQ1))
 ·refine wpAny_bind (wpAny_field hz rfl (x:=rawInt T) rfl ?_)
  show wpAny _ _ (loadIfAlive ((T:Int).toNat)>>=_) _ _ s
  refine wpAny_bind (jQ ?_)
  cases hT:s.heap.get? ((T:Int).toNat)with
  |none=>exact wpAny_pure hQ1
  |some o=>
   show wpAny _ _ (field (.ref z) 1>>=_) _ _ s
   refine wpAny_bind (wpAny_field hz rfl (x:=f1) rfl ?_)
   by_cases hf:(f1 != .bool true)=true
   ·rw[if_pos hf]
    refine wpAny_bind (wpAny_setField_rec hz (by simp) fun h' hz' hs'=>wpAny_pure (hQ2 h' (.bool true) hz' hs'))
   ·rw[if_neg hf]
    exact wpAny_pure (hQ2 s.heap f1 hz (Heap.SameBut.refl ..))
structure Ir(z TI TO i1 i2:Addr)(b1 b2:Bool)(l1 l2:Addr)(k1 k2:Nat)(T:Addr)(x y:Value)(h h':Heap):Prop where
 zr:∃f0 f1,gB h' z TI TO f0 f1/\F0 f0
 ti:IsPair h' TI (.ref i1) (.ref i2)
 to:∃a b,IsPair h' TO a b
 it1:mJ b1 h' i1 l1 k1
 it2:mJ b2 h' i2 l2 k2
 new:IsPair h' T x y
 size:h'.objs.size=T+1
 keep:∀c o,c≠z->c≠TO->c≠i1->c≠i2->h.get? c=some o->h'.get? c=some o
theorem Ai{z TI TO i1 i2 l1 l2:Addr}{b1 b2:Bool}{k1 k2:Nat}{xs ys:Array Value}{x y a b f0 f1:Value}{Q:Value->Shared->Prop}(D:ZipApart z TI TO i1 i2 l1 l2)
  (hz:gB s.heap z TI TO f0 f1)(h0:F0 f0)(hTI:IsPair s.heap TI (.ref i1) (.ref i2))(hTO:IsPair s.heap TO a b)
  (h1:mJ b1 s.heap i1 l1 k1)(h2:mJ b2 s.heap i2 l2 k2)(hl1:uQ b1 s.heap l1 xs)(hl2:uQ b2 s.heap l2 ys)(hx:xs[k1]? =some x)(hy:ys[k2]? =some y)
  (hQ:∀h',Ir z TI TO i1 i2 b1 b2 l1 l2 (k1+1) (k2+1) s.heap.objs.size x y s.heap h'->Q (.ref s.heap.objs.size) {s with heap:=h'}):
  wpAny (model prog w) A (Builtin.«zip.__next__» ⟨[.ref z],[]⟩) (fun fin s'=>∃v,fin=.done (.ret v)/\Q v s') E s:=by
 show wpAny _ _ (field (.ref z) 2>>=_) _ _ _
 refine wpAny_bind (wpAny_field hz rfl (x:=.bool false) rfl ?_)
 show wpAny _ _ (field (.ref z) 3>>=_) _ _ _
 refine wpAny_bind (wpAny_field hz rfl (x:=.ref TI) rfl ?_)
 refine wpAny_bind (wpAny_seqItems hTI rfl ?_)
 show wpAny _ _ (Builtin.SmallTypes.ownedTupleIsFree (.ref z)>>=_) _ _ _
 refine wpAny_bind (uR hz h0 ?_ ?_)
 ·--the tuple of its own is used again
  simp only[if_true]
  refine wpAny_bind (wpAny_rule ?_)
  refine wpAny_bind (wpAny_field hz rfl (x:=.ref TO) rfl ?_)
  refine wpAny_bind (wpAny_setField_rec hz (by simp) fun h₁ hz₁ hs₁=>?_)
  replace hz₁:gB h₁ z TI TO .ellipsis f1:=hz₁
  refine wpAny_bind ?_
  simp only[List.zipIdx_cons,List.zipIdx_nil,List.forIn_cons,List.forIn_nil]
  refine wpAny_bind (wpAny_bind (wpAny_onRaise ?_))
  show wpAny _ _ (Builtin.SmallTypes.nextOf (.ref i1)>>=_) _ _ _
  refine wpAny_bind (eG (h1.at fun o e=>hs₁.extBut _ _ D.i1z e) (hl1.at fun o e=>hs₁.extBut _ _ D.l1z e) hx fun h₂ h1₂ hs₂=>wpAny_pure ?_)
  have hTO₂:IsPair h₂ TO a b:=hs₂.extBut _ _ D.TOi1 (hs₁.extBut _ _ D.TOz hTO)
  refine wpAny_bind (wpAny_seqItems hTO₂ rfl ?_)
  refine wpAny_bind (wpAny_updateSeq_pair hTO₂ fun h₃ hTO₃ hs₃=>?_)
  replace hTO₃:IsPair h₃ TO x b:=hTO₃
  refine wpAny_bind (wpAny_letGo (wpAny_pure ?_))
  refine wpAny_bind (wpAny_bind (wpAny_onRaise ?_))
  show wpAny _ _ (Builtin.SmallTypes.nextOf (.ref i2)>>=_) _ _ _
  refine wpAny_bind (eG (h2.at fun o e=>hs₃.extBut _ _ D.TOi2.symm (hs₂.extBut _ _ D.i12.symm (hs₁.extBut _ _ D.i2z e)))
   (hl2.at fun o e=>hs₃.extBut _ _ D.l2TO (hs₂.extBut _ _ D.l2i1 (hs₁.extBut _ _ D.l2z e))) hy fun h₄ h2₄ hs₄=>wpAny_pure ?_)
  have hTO₄:IsPair h₄ TO x b:=hs₄.extBut _ _ D.TOi2 hTO₃
  refine wpAny_bind (wpAny_seqItems hTO₄ rfl ?_)
  refine wpAny_bind (wpAny_updateSeq_pair hTO₄ fun h₅ hTO₅ hs₅=>?_)
  replace hTO₅:IsPair h₅ TO x y:=hTO₅
  refine wpAny_bind (wpAny_letGo (wpAny_pure (wpAny_pure ?_)))
  refine wpAny_bind (wpAny_seqItems hTO₅ rfl ?_)
  refine wpAny_bind (wpAny_newTuple ?_)
  have hsz:h₅.objs.size=s.heap.objs.size:=by rw[hs₅.1,hs₄.1,hs₃.1,hs₂.1,hs₁.1]
  have hz₅:gB h₅ z TI TO .ellipsis f1:=hs₅.extBut _ _ D.TOz.symm (hs₄.extBut _ _ D.i2z.symm (hs₃.extBut _ _ D.TOz.symm (hs₂.extBut _ _ D.i1z.symm hz₁)))
  have hk₅:∀c o,c≠z->c≠TO->c≠i1->c≠i2->s.heap.get? c=some o->h₅.get? c=some o:=fun c o c1 c2 c3 c4 e=>
   hs₅.extBut _ _ c2 (hs₄.extBut _ _ c4 (hs₃.extBut _ _ c2 (hs₂.extBut _ _ c3 (hs₁.extBut _ _ c1 e))))
  have h1₅:mJ b1 h₅ i1 l1 (k1+1):=h1₂.at fun o e=>hs₅.extBut _ _ D.TOi1.symm (hs₄.extBut _ _ D.i12 (hs₃.extBut _ _ D.TOi1.symm e))
  have h2₅:mJ b2 h₅ i2 l2 (k2+1):=h2₄.at fun o e=>hs₅.extBut _ _ D.TOi2.symm e
  have hzlt:z<h₅.objs.size:=Heap.lt_size hz₅
  show wpAny _ _ (Builtin.SmallTypes.ownedTupleHandOut (.ref z) (.ref h₅.objs.size)>>=_) _ _ _
  refine wpAny_bind ?_
  unfold Builtin.SmallTypes.ownedTupleHandOut
  have hz₆:gB (h₅.push {cls:=.type "tuple",data:=.seq #[x,y]}) z TI TO .ellipsis f1:=Heap.get?_push_of_some _ hz₅
  refine wpAny_bind (wpAny_setField_rec hz₆ (by simp) fun h₇ hz₇ hs₇=>?_)
  replace hz₇:gB h₇ z TI TO (rawInt h₅.objs.size) f1:=hz₇
  refine wpAny_setField_rec hz₇ (by simp) fun h₈ hz₈ hs₈=>?_
  replace hz₈:gB h₈ z TI TO (rawInt h₅.objs.size) (.bool false):=hz₈
  have up:∀c o,c≠z->h₅.get? c=some o->h₈.get? c=some o:=fun c o c1 e=>hs₈.extBut _ _ c1 (hs₇.extBut _ _ c1 (Heap.get?_push_of_some _ e))
  have hT₈:IsPair h₈ h₅.objs.size x y:=hs₈.extBut _ _ (Nat.ne_of_gt hzlt) (hs₇.extBut _ _ (Nat.ne_of_gt hzlt) (Heap.get?_push_size _ rfl))
  have hz8:h₈.objs.size=h₅.objs.size+1:=by rw[hs₈.1,hs₇.1,Heap.size_push]
  rw[hsz]at hz₈ hT₈ hz8
  refine wpAny_pure ⟨_,rfl,?_⟩
  show Q (.ref h₅.objs.size) _
  rw[hsz]
  have hTI₅:IsPair h₅ TI (.ref i1) (.ref i2):=hk₅ _ _ D.TIz D.TITO D.TIi1 D.TIi2 hTI
  exact hQ h₈ ⟨⟨_,_,hz₈,.inr ⟨_,rfl⟩⟩,up _ _ D.TIz hTI₅,⟨_,_,up _ _ D.TOz hTO₅⟩,h1₅.at fun o e=>up _ o D.i1z e,h2₅.at fun o e=>up _ o D.i2z e,hT₈,hz8,fun c o c1 c2 c3 c4 e=>up c o c1 (hk₅ c o c1 c2 c3 c4 e)⟩
 ·--it was kept:a new one
  intro h₁ g1 hz₁ hs₁
  simp only[Bool.false_eq_true,if_false]
  refine wpAny_bind ?_
  show wpAny _ _ (forIn #[Value.ref i1,Value.ref i2] _ _) _ _ _
  rw[<-Array.forIn_toList]
  simp only[List.forIn_cons,List.forIn_nil]
  refine wpAny_bind (wpAny_bind (wpAny_holding ?_))
  show wpAny _ _ (Builtin.SmallTypes.nextOf (.ref i1)>>=_) _ _ _
  refine wpAny_bind (eG (h1.at fun o e=>hs₁.extBut _ _ D.i1z e) (hl1.at fun o e=>hs₁.extBut _ _ D.l1z e) hx fun h₂ h1₂ hs₂=>wpAny_pure ?_)
  refine wpAny_pure ?_
  refine wpAny_bind (wpAny_bind (wpAny_holding ?_))
  show wpAny _ _ (Builtin.SmallTypes.nextOf (.ref i2)>>=_) _ _ _
  refine wpAny_bind (eG (h2.at fun o e=>hs₂.extBut _ _ D.i12.symm (hs₁.extBut _ _ D.i2z e))
   (hl2.at fun o e=>hs₂.extBut _ _ D.l2i1 (hs₁.extBut _ _ D.l2z e)) hy fun h₄ h2₄ hs₄=>wpAny_pure ?_)
  refine wpAny_pure (wpAny_pure ?_)
  have hsz:h₄.objs.size=s.heap.objs.size:=by rw[hs₄.1,hs₂.1,hs₁.1]
  have hk:∀c o,c≠z->c≠i1->c≠i2->s.heap.get? c=some o->h₄.get? c=some o:=fun c o c1 c3 c4 e=>hs₄.extBut _ _ c4 (hs₂.extBut _ _ c3 (hs₁.extBut _ _ c1 e))
  refine wpAny_bind (wpAny_newTuple (wpAny_pure ⟨_,rfl,?_⟩) (by show 2<=sizeLine;rw[sizeLine_eq];decide))
  show Q (.ref h₄.objs.size) {s with heap:=h₄.push {cls:=.type "tuple",data:=.seq #[x,y]}}
  have T:Ir z TI TO i1 i2 b1 b2 l1 l2 (k1+1) (k2+1) s.heap.objs.size x y s.heap (h₄.push {cls:=.type "tuple",data:=.seq #[x,y]}):=by
   refine⟨⟨f0,g1,Heap.get?_push_of_some _ (hs₄.extBut _ _ D.i2z.symm (hs₂.extBut _ _ D.i1z.symm hz₁)),h0⟩,Heap.get?_push_of_some _ (hk _ _ D.TIz D.TIi1 D.TIi2 hTI),⟨a,b,Heap.get?_push_of_some _ (hk _ _ D.TOz D.TOi1 D.TOi2 hTO)⟩,
    h1₂.at fun o e=>Heap.get?_push_of_some _ (hs₄.extBut _ _ D.i12 e),h2₄.at fun o e=>Heap.get?_push_of_some _ e,?_,by rw[Heap.size_push,hsz],fun c o c1 c2 c3 c4 e=>Heap.get?_push_of_some _ (hk c o c1 c3 c4 e)⟩
   rw[<-hsz]
   exact Heap.get?_push_size _ rfl
  rw[hsz]
  exact hQ _ T
theorem Do{z TI TO i1 i2 l1 l2:Addr}{b1 b2:Bool}{k1 k2:Nat}{xs ys:Array Value}{a b f0 f1:Value}{Q:Fin->Shared->Prop}(hh:A.handled=none)(D:ZipApart z TI TO i1 i2 l1 l2)
  (hz:gB s.heap z TI TO f0 f1)(h0:F0 f0)(hTI:IsPair s.heap TI (.ref i1) (.ref i2))(hTO:IsPair s.heap TO a b)
  (h1:mJ b1 s.heap i1 l1 k1)(h2:mJ b2 s.heap i2 l2 k2)(hl1:uQ b1 s.heap l1 xs)(hl2:uQ b2 s.heap l2 ys)(hend:xs[k1]? =none\/ys[k2]? =none)
  (hE:∀h' e,(∀c o,c≠z->c≠TO->c≠i1->c≠i2->s.heap.get? c=some o->h'.get? c=some o)->(∃o,h'.get? e=some o/\o.cls=.type "StopIteration")->E (.ref e) {s with heap:=h'}):
  wpAny (model prog w) A (Builtin.«zip.__next__» ⟨[.ref z],[]⟩) Q E s:=by
 show wpAny _ _ (field (.ref z) 2>>=_) _ _ _
 refine wpAny_bind (wpAny_field hz rfl (x:=.bool false) rfl ?_)
 show wpAny _ _ (field (.ref z) 3>>=_) _ _ _
 refine wpAny_bind (wpAny_field hz rfl (x:=.ref TI) rfl ?_)
 refine wpAny_bind (wpAny_seqItems hTI rfl ?_)
 show wpAny _ _ (Builtin.SmallTypes.ownedTupleIsFree (.ref z)>>=_) _ _ _
 refine wpAny_bind (uR hz h0 ?_ ?_)
 ·simp only[if_true]
  refine wpAny_bind (wpAny_rule ?_)
  refine wpAny_bind (wpAny_field hz rfl (x:=.ref TO) rfl ?_)
  refine wpAny_bind (wpAny_setField_rec hz (by simp) fun h₁ hz₁ hs₁=>?_)
  replace hz₁:gB h₁ z TI TO .ellipsis f1:=hz₁
  refine wpAny_bind ?_
  simp only[List.zipIdx_cons,List.zipIdx_nil,List.forIn_cons,List.forIn_nil]
  refine wpAny_bind (wpAny_bind (wpAny_onRaise ?_))
  show wpAny _ _ (Builtin.SmallTypes.nextOf (.ref i1)>>=_) _ _ _
  cases hx:xs[k1]? with
  |none=>
   refine wpAny_bind (jn hh (h1.at fun o e=>hs₁.extBut _ _ D.i1z e) (hl1.at fun o e=>hs₁.extBut _ _ D.l1z e) hx fun h₂ e hs₂ he=>?_)
   obtain⟨oe,hoe,hce⟩:=he
   have hz₂:gB h₂ z TI TO .ellipsis f1:=hs₂ _ _ D.i1z.symm hz₁
   have hez:e≠z:=fun x=>by subst x;unfold gB at hz₂;rw[hz₂]at hoe;cases hoe;simp at hce
   refine wpAny_setField_rec hz₂ (by simp) fun h₃ _ hs₃=>hE h₃ e (fun c o c1 _ c3 _ x=>hs₃.extBut _ _ c1 (hs₂ _ _ c3 (hs₁.extBut _ _ c1 x))) ⟨oe,hs₃.extBut _ _ hez hoe,hce⟩
  |some x=>
   have hy:ys[k2]? =none:=by
    rcases hend with h|h
    ·rw[hx]at h;cases h
    ·exact h
   refine wpAny_bind (eG (h1.at fun o e=>hs₁.extBut _ _ D.i1z e) (hl1.at fun o e=>hs₁.extBut _ _ D.l1z e) hx fun h₂ h1₂ hs₂=>wpAny_pure ?_)
   have hTO₂:IsPair h₂ TO a b:=hs₂.extBut _ _ D.TOi1 (hs₁.extBut _ _ D.TOz hTO)
   refine wpAny_bind (wpAny_seqItems hTO₂ rfl ?_)
   refine wpAny_bind (wpAny_updateSeq_pair hTO₂ fun h₃ hTO₃ hs₃=>?_)
   refine wpAny_bind (wpAny_letGo (wpAny_pure ?_))
   refine wpAny_bind (wpAny_bind (wpAny_onRaise ?_))
   show wpAny _ _ (Builtin.SmallTypes.nextOf (.ref i2)>>=_) _ _ _
   refine wpAny_bind (jn hh (h2.at fun o e=>hs₃.extBut _ _ D.TOi2.symm (hs₂.extBut _ _ D.i12.symm (hs₁.extBut _ _ D.i2z e)))
    (hl2.at fun o e=>hs₃.extBut _ _ D.l2TO (hs₂.extBut _ _ D.l2i1 (hs₁.extBut _ _ D.l2z e))) hy fun h₄ e hs₄ he=>?_)
   obtain⟨oe,hoe,hce⟩:=he
   have hz₄:gB h₄ z TI TO .ellipsis f1:=hs₄ _ _ D.i2z.symm (hs₃.extBut _ _ D.TOz.symm (hs₂.extBut _ _ D.i1z.symm hz₁))
   have hez:e≠z:=fun x=>by subst x;unfold gB at hz₄;rw[hz₄]at hoe;cases hoe;simp at hce
   refine wpAny_setField_rec hz₄ (by simp) fun h₅ _ hs₅=>hE h₅ e (fun c o c1 c2 c3 c4 x=>hs₅.extBut _ _ c1 (hs₄ _ _ c4 (hs₃.extBut _ _ c2 (hs₂.extBut _ _ c3 (hs₁.extBut _ _ c1 x))))) ⟨oe,hs₅.extBut _ _ hez hoe,hce⟩
 ·intro h₁ g1 hz₁ hs₁
  simp only[Bool.false_eq_true,if_false]
  refine wpAny_bind ?_
  show wpAny _ _ (forIn #[Value.ref i1,Value.ref i2] _ _) _ _ _
  rw[<-Array.forIn_toList]
  simp only[List.forIn_cons,List.forIn_nil]
  refine wpAny_bind (wpAny_bind (wpAny_holding ?_))
  show wpAny _ _ (Builtin.SmallTypes.nextOf (.ref i1)>>=_) _ _ _
  cases hx:xs[k1]? with
  |none=>
   exact wpAny_bind (jn hh (h1.at fun o e=>hs₁.extBut _ _ D.i1z e) (hl1.at fun o e=>hs₁.extBut _ _ D.l1z e) hx fun h₂ e hs₂ he=>hE h₂ e (fun c o c1 _ c3 _ x=>hs₂ _ _ c3 (hs₁.extBut _ _ c1 x)) he)
  |some x=>
   have hy:ys[k2]? =none:=by
    rcases hend with h|h
    ·rw[hx]at h;cases h
    ·exact h
   refine wpAny_bind (eG (h1.at fun o e=>hs₁.extBut _ _ D.i1z e) (hl1.at fun o e=>hs₁.extBut _ _ D.l1z e) hx fun h₂ h1₂ hs₂=>wpAny_pure ?_)
   refine wpAny_pure ?_
   refine wpAny_bind (wpAny_bind (wpAny_holding ?_))
   show wpAny _ _ (Builtin.SmallTypes.nextOf (.ref i2)>>=_) _ _ _
   exact wpAny_bind (jn hh (h2.at fun o e=>hs₂.extBut _ _ D.i12.symm (hs₁.extBut _ _ D.i2z e))
    (hl2.at fun o e=>hs₂.extBut _ _ D.l2i1 (hs₁.extBut _ _ D.l2z e)) hy fun h₄ e hs₄ he=>hE h₄ e (fun c o c1 _ c3 c4 x=>hs₄ _ _ c4 (hs₂.extBut _ _ c3 (hs₁.extBut _ _ c1 x))) he)
theorem mK{z TI TO i1 i2 l1 l2:Addr}{b1 b2:Bool}{k1 k2:Nat}{xs ys:Array Value}{x y a b f0 f1:Value}{Q:Option Value->Shared->Prop}(D:ZipApart z TI TO i1 i2 l1 l2)
  (hz:gB s.heap z TI TO f0 f1)(h0:F0 f0)(hTI:IsPair s.heap TI (.ref i1) (.ref i2))(hTO:IsPair s.heap TO a b)
  (h1:mJ b1 s.heap i1 l1 k1)(h2:mJ b2 s.heap i2 l2 k2)(hl1:uQ b1 s.heap l1 xs)(hl2:uQ b2 s.heap l2 ys)(hx:xs[k1]? =some x)(hy:ys[k2]? =some y)
  (hQ:∀h',Ir z TI TO i1 i2 b1 b2 l1 l2 (k1+1) (k2+1) s.heap.objs.size x y s.heap h'->Q (some (.ref s.heap.objs.size)) {s with heap:=h'}):
  wpAny (model prog w) A (pyNext (.ref z)) Q E s:=by
 have hT:s.TypeIs (.ref z) "zip":=⟨_,hz,rfl⟩
 unfold pyNext
 exact wpAny_bind (wpAny_attempt (wpAny_callSpecial?_slot (name:=Str.ofString "__next__") hT PySem.F.slot_zip_next
  (wpAny_call_entry PySem.F.slot_zip_next hT PySem.F.entry_zip_next
   (Ai D hz h0 hTI hTO h1 h2 hl1 hl2 hx hy fun h' T=>wpAny_pure (hQ h' T)) (PySem.F.args_zip_next_1 _))))
theorem oE{z TI TO i1 i2 l1 l2:Addr}{b1 b2:Bool}{k1 k2:Nat}{xs ys:Array Value}{a b f0 f1:Value}{Q:Option Value->Shared->Prop}(hh:A.handled=none)(D:ZipApart z TI TO i1 i2 l1 l2)
  (hz:gB s.heap z TI TO f0 f1)(h0:F0 f0)(hTI:IsPair s.heap TI (.ref i1) (.ref i2))(hTO:IsPair s.heap TO a b)
  (h1:mJ b1 s.heap i1 l1 k1)(h2:mJ b2 s.heap i2 l2 k2)(hl1:uQ b1 s.heap l1 xs)(hl2:uQ b2 s.heap l2 ys)(hend:xs[k1]? =none\/ys[k2]? =none)
  (hQ:∀h',(∀c o,c≠z->c≠TO->c≠i1->c≠i2->s.heap.get? c=some o->h'.get? c=some o)->Q none {s with heap:=h'}):wpAny (model prog w) A (pyNext (.ref z)) Q E s:=by
 have hT:s.TypeIs (.ref z) "zip":=⟨_,hz,rfl⟩
 unfold pyNext
 refine wpAny_bind (wpAny_attempt (wpAny_callSpecial?_slot (name:=Str.ofString "__next__") hT PySem.F.slot_zip_next
  (wpAny_call_entry PySem.F.slot_zip_next hT PySem.F.entry_zip_next (Do hh D hz h0 hTI hTO h1 h2 hl1 hl2 hend fun h' e hk he=>?_) (PySem.F.args_zip_next_1 _))))
 obtain⟨o,ho,hc⟩:=he
 refine wpAny_bind (wpAny_isInstance (T:="StopIteration") (b:=true) ⟨o,ho,hc⟩ isSubtype_stop ?_)
 exact wpAny_pure (hQ _ hk)
end
end Mini
end
section
namespace Mini
open PySem L2 PyProof.Rows
section
variable{prog:Program}{w:World}{A:Around}{E:Value->Shared->Prop}{s:Shared}
theorem BJ{tg:Expr}{z TI TO T:Addr}{f0 f1:Value}{Q:Unit->Shared->Prop}(hz:gB s.heap z TI TO f0 f1)(h0:F0 f0)
  (hQ:∀h' g0,gB h' z TI TO g0 f1->F0 g0->Heap.SameBut z s.heap h'->Q () {s with heap:=h'}):wpAny (model prog w) A (letOwnedTupleGo tg (.ref z) (.ref T)) Q E s:=by
 have same:Q () s:=hQ s.heap f0 hz h0 (Heap.SameBut.refl ..)
 have go:wpAny (model prog w) A (do
   let o<-load z
   match o.cls,o.data with
   |.type n,.fields vs=>
    if ["enumerate","zip","dict_itemiterator","dict_reverseitemiterator","odict_iterator","itertools.zip_longest","itertools.pairwise"].contains n&&vs[0]? ==some (rawInt T)then
     rule "for.unpacks-the-owned-tuple"
     updateField z 0 .none
   |_,_=>pure ()) Q E s:=by
  refine wpAny_bind (wpAny_load hz ?_)
  show wpAny _ _ (if (["enumerate","zip","dict_itemiterator","dict_reverseitemiterator","odict_iterator","itertools.zip_longest","itertools.pairwise"].contains "zip"&&
   (#[f0,f1,.bool false,.ref TI,.ref TO]:Array Value)[0]? ==some (rawInt T))=true then _ else _) Q E s
  split
  ·refine wpAny_bind (wpAny_rule ?_)
   show wpAny _ _ (setField (.ref z) 0 .none) Q E s
   exact wpAny_setField_rec hz (by simp) fun h' hz' hs'=>hQ h' .none hz' (.inl rfl) hs'
  ·exact wpAny_pure same
 unfold letOwnedTupleGo
 cases tg<;>first
  |exact wpAny_pure same
  |exact go
theorem oF{z TI TO:Addr}{f0 f1:Value}{Q:Value->Shared->Prop}(hz:gB s.heap z TI TO f0 f1)(h:Q (.ref z) s):wpAny (model prog w) A (pyIter (.ref z)) Q E s:=by
 have hT:s.TypeIs (.ref z) "zip":=⟨_,hz,rfl⟩
 refine wpAny_pyIter_slot hT PySem.F.slot_zip_iter (wpAny_call_entry PySem.F.slot_zip_iter hT PySem.F.entry_zip_iter ?_ (PySem.F.args_zip_iter_1 _))
 show wpAny _ _ (ret (.ref z)) _ _ s
 exact wpAny_pure ⟨_,rfl,"zip",_,hT,PySem.F.slot_zip_next.lookup,h⟩
end
def itN(b:Bool):String:=if b then "list_iterator" else "tuple_iterator"
abbrev zH1(b1:Bool)(h:Heap)(l1:Addr):Heap:=h.push {cls:=.type (itN b1),data:=.fields #[.ref l1,.int 0 0]}
abbrev zH2(b1 b2:Bool)(h:Heap)(l1 l2:Addr):Heap:=(zH1 b1 h l1).push {cls:=.type (itN b2),data:=.fields #[.ref l2,.int 0 0]}
abbrev zH3(b1 b2:Bool)(h:Heap)(l1 l2:Addr):Heap:=(zH2 b1 b2 h l1 l2).push {cls:=.type "tuple",data:=.seq #[.ref h.objs.size,.ref (zH1 b1 h l1).objs.size]}
abbrev zH4(b1 b2:Bool)(h:Heap)(l1 l2:Addr):Heap:=(zH3 b1 b2 h l1 l2).push {cls:=.type "tuple",data:=.seq #[.none,.none]}
abbrev Jj(b1 b2:Bool)(h:Heap)(l1 l2:Addr):Heap:=(zH4 b1 b2 h l1 l2).push {cls:=.type "zip",data:=.fields #[.none,.bool false,.bool false,.ref (zH2 b1 b2 h l1 l2).objs.size,.ref (zH3 b1 b2 h l1 l2).objs.size]}
theorem Dn(b1 b2:Bool)(l1 l2:Addr)(xs ys:Array Value):
  Meets (Builtin.«zip.__new__» ⟨[.type "zip",.ref l1,.ref l2],[]⟩) (fun _ R s=>uQ b1 s.heap l1 xs/\uQ b2 s.heap l2 ys/\
   R (.ok (.ret (.ref (zH4 b1 b2 s.heap l1 l2).objs.size))) {s with heap:=Jj b1 b2 s.heap l1 l2}):=
 .of_wp fun prog w A R s h=>by
  obtain⟨hp,g,d,tk,os⟩:=s;obtain⟨hl1,hl2,h⟩:=h
  have hsub:=sub_zip
  cases b1<;>cases b2
  ·have hL1:Heap.IsTuple (Shared.heap ⟨hp,g,d,tk,os⟩) l1 xs:=hl1
   have hL2:Heap.IsTuple (Shared.heap ⟨hp.push {cls:=.type "tuple_iterator",data:=.fields #[.ref l1,.int 0 0]},g,d,tk,os⟩) l2 ys:=hl2.at (b:=false) fun o e=>Heap.get?_push_of_some _ e
   wp_walk using wpAny_pyIter_tuple hL1,wpAny_pyIter_tuple hL2
   exact⟨_,rfl,h⟩
  ·have hL1:Heap.IsTuple (Shared.heap ⟨hp,g,d,tk,os⟩) l1 xs:=hl1
   have hL2:Heap.IsList (Shared.heap ⟨hp.push {cls:=.type "tuple_iterator",data:=.fields #[.ref l1,.int 0 0]},g,d,tk,os⟩) l2 ys:=hl2.at (b:=true) fun o e=>Heap.get?_push_of_some _ e
   wp_walk using wpAny_pyIter_tuple hL1,wpAny_pyIter_list hL2
   exact⟨_,rfl,h⟩
  ·have hL1:Heap.IsList (Shared.heap ⟨hp,g,d,tk,os⟩) l1 xs:=hl1
   have hL2:Heap.IsTuple (Shared.heap ⟨hp.push {cls:=.type "list_iterator",data:=.fields #[.ref l1,.int 0 0]},g,d,tk,os⟩) l2 ys:=hl2.at (b:=false) fun o e=>Heap.get?_push_of_some _ e
   wp_walk using wpAny_pyIter_list hL1,wpAny_pyIter_tuple hL2
   exact⟨_,rfl,h⟩
  ·have hL1:Heap.IsList (Shared.heap ⟨hp,g,d,tk,os⟩) l1 xs:=hl1
   have hL2:Heap.IsList (Shared.heap ⟨hp.push {cls:=.type "list_iterator",data:=.fields #[.ref l1,.int 0 0]},g,d,tk,os⟩) l2 ys:=hl2.at (b:=true) fun o e=>Heap.get?_push_of_some _ e
   wp_walk using wpAny_pyIter_list hL1,wpAny_pyIter_list hL2
   exact⟨_,rfl,h⟩
end Mini
end
section
namespace Mini
open PySem L2 PyProof.Rows
structure Ad(z TI TO i1 i2:Addr)(b1 b2:Bool)(l1 l2:Addr)(k:Nat)(h:Heap):Prop where
 zr:∃f0 f1,gB h z TI TO f0 f1/\F0 f0
 ti:IsPair h TI (.ref i1) (.ref i2)
 to:∃a b,IsPair h TO a b
 it1:mJ b1 h i1 l1 k
 it2:mJ b2 h i2 l2 k
section
variable{prog:Program}{w:World}{A:Around}{E:Value->Shared->Prop}{s:Shared}
theorem CP{b1 b2:Bool}{l1 l2:Addr}{xs ys:Array Value}{Q:Value->Shared->Prop}(hl1:uQ b1 s.heap l1 xs)(hl2:uQ b2 s.heap l2 ys)
  (h:∀h',Ad (s.heap.objs.size+4) (s.heap.objs.size+2) (s.heap.objs.size+3) s.heap.objs.size (s.heap.objs.size+1) b1 b2 l1 l2 0 h'->h'.objs.size=s.heap.objs.size+5->
   (∀c o,s.heap.get? c=some o->h'.get? c=some o)->Q (.ref (s.heap.objs.size+4)) {s with heap:=h'}):
  wpAny (model prog w) A (call (.type "zip") [.ref l1,.ref l2]) Q E s:=by
 refine callType_new PySem.F.called_zip (by decide) (PySem.F.typeCall_zip_2 _ _) (PySem.F.newCall_zip_2 _ _) (fun obj=>PySem.F.args_object_init_3 obj _ _) PySem.F.entry_zip_new
  (Dn b1 b2 l1 l2 xs ys) ⟨hl1,hl2,?_⟩
 have z1:(zH1 b1 s.heap l1).objs.size=s.heap.objs.size+1:=Heap.size_push ..
 have z2:(zH2 b1 b2 s.heap l1 l2).objs.size=s.heap.objs.size+2:=by rw[Heap.size_push,z1]
 have z3:(zH3 b1 b2 s.heap l1 l2).objs.size=s.heap.objs.size+3:=by rw[Heap.size_push,z2]
 have z4:(zH4 b1 b2 s.heap l1 l2).objs.size=s.heap.objs.size+4:=by rw[Heap.size_push,z3]
 have z5:(Jj b1 b2 s.heap l1 l2).objs.size=s.heap.objs.size+5:=by rw[Heap.size_push,z4]
 have g5:(Jj b1 b2 s.heap l1 l2).get? (zH4 b1 b2 s.heap l1 l2).objs.size=some _:=Heap.get?_push_size _ rfl
 have g4:(Jj b1 b2 s.heap l1 l2).get? (zH3 b1 b2 s.heap l1 l2).objs.size=some _:=Heap.get?_push_of_some _ (Heap.get?_push_size _ rfl)
 have g3:(Jj b1 b2 s.heap l1 l2).get? (zH2 b1 b2 s.heap l1 l2).objs.size=some _:=Heap.get?_push_of_some _ (Heap.get?_push_of_some _ (Heap.get?_push_size _ rfl))
 have g2:(Jj b1 b2 s.heap l1 l2).get? (zH1 b1 s.heap l1).objs.size=some _:=Heap.get?_push_of_some _ (Heap.get?_push_of_some _ (Heap.get?_push_of_some _ (Heap.get?_push_size _ rfl)))
 have g1:(Jj b1 b2 s.heap l1 l2).get? s.heap.objs.size=some _:=Heap.get?_push_of_some _ (Heap.get?_push_of_some _ (Heap.get?_push_of_some _ (Heap.get?_push_of_some _ (Heap.get?_push_size _ rfl))))
 show _/\_
 rw[z2,z3,z4]at g5
 rw[z1,z2]at g3
 rw[z3]at g4
 rw[z1]at g2
 rw[z4]
 have i1:mJ b1 (Jj b1 b2 s.heap l1 l2) s.heap.objs.size l1 0:=by cases b1<;>exact⟨_,g1,rfl,rfl⟩
 have i2:mJ b2 (Jj b1 b2 s.heap l1 l2) (s.heap.objs.size+1) l2 0:=by cases b2<;>exact⟨_,g2,rfl,rfl⟩
 exact⟨⟨_,g5,rfl⟩,h _ ⟨⟨_,_,g5,.inl rfl⟩,g3,⟨_,_,g4⟩,i1,i2⟩ z5 fun c o x=>
  Heap.get?_push_of_some _ (Heap.get?_push_of_some _ (Heap.get?_push_of_some _ (Heap.get?_push_of_some _ (Heap.get?_push_of_some _ x))))⟩
end
theorem Aj{n l1 l2:Addr}(h1:l1<n)(h2:l2<n):ZipApart (n+4) (n+2) (n+3) n (n+1) l1 l2:=zipApart_new h1 h2
theorem Inv.JD{X:Cx}{pins:List (Addr×Obj)}{σ:L2.St}{H:Hp}{s:Shared}{h':Heap}{t':Nat}{ch:List Addr}(I:Inv X pins σ H s)(k:∀b o,b∉ch->s.heap.get? b=some o->h'.get? b=some o)(hf:∀b∈ch,iD X pins H b):
  Inv X pins σ H {s with heap:=h',toks:=t'}:=by
 have nit:∀b u,H b=some u->b∉ch:=fun b u e z=>by rw[(hf b z).1]at e;cases e
 have nL:X.env.locals∉ch:=fun z=>(hf _ z).2.1 rfl
 refine I.step (g':=s.gens) (d':=s.drawn) (ch:=ch) (fun b hb=>⟨(hf b hb).2.2.2.1,(hf b hb).2.1,(hf b hb).2.2.2.2.1,(hf b hb).2.2.2.2.2⟩) (fun b o _ _ hc e _=>k b o hc e) (fun b o _ _ hc e _=>⟨o.slots,k b o hc e⟩) (fun _ _ _ _ n=>n)
  (fun b o hc e=>⟨o,k b o hc e⟩) (fun _ _ e=>e) (fun _ _ _ e=>e) (fun b ps e=>⟨#[],by rw[e];simp⟩) (fun m hm=>?_) (fun b u e=>?_) I.bare
 ·obtain⟨o,es,ep,ho,r⟩:=hm
  exact⟨o,es,ep,k _ o nL ho,r⟩
 ·refine(I.hok b u e).stay (fun c v hc q=>k c v ?_ q) (fun _ q=>q) fun _ _ q=>q
  rcases hc with z|z
  ·rw[z];exact nit b u e
  ·exact nit c _ z
theorem Inv.An{X:Cx}{pins:List (Addr×Obj)}{σ:L2.St}{H:Hp}{s:Shared}{h':Heap}{t':Nat}{ch:List Addr}{a:Addr}{u:HO}(I:Inv X pins σ H s)(k:∀b o,b∉ch->s.heap.get? b=some o->h'.get? b=some o)(hf:∀b∈ch,iD X pins H b)
  (ha:s.heap.objs.size<=a)(new:bN X.prog X.w (upd H a u) h' a u):Inv X pins σ (upd H a u) {s with heap:=h',toks:=t'}:=by
 have hn:H a=none:=I.hok.fresh ha
 have nit:∀b u,H b=some u->b∉ch:=fun b u e z=>by rw[(hf b z).1]at e;cases e
 have nL:X.env.locals∉ch:=fun z=>(hf _ z).2.1 rfl
 have ne:∀b w,H b=some w->b≠a:=fun b w e z=>by subst z;rw[hn]at e;cases e
 refine I.step (g':=s.gens) (d':=s.drawn) (ch:=ch) (fun b hb=>⟨(hf b hb).2.2.2.1,(hf b hb).2.1,(hf b hb).2.2.2.2.1,(hf b hb).2.2.2.2.2⟩) (fun b o _ _ hc e _=>k b o hc e) (fun b o _ _ hc e _=>⟨o.slots,k b o hc e⟩)
  (fun b o _ e n=>by rw[az (Nat.ne_of_lt (Nat.lt_of_lt_of_le (Heap.lt_size e) ha))];exact n)
  (fun b o hc e=>⟨o,k b o hc e⟩) (fun b xs e=>by rw[az (ne b _ e)];exact e) (fun b o w e=>by rw[az (ne b _ e)];exact e) (fun b ps e=>⟨#[],by rw[az (ne b _ e),e];simp⟩) (fun m hm=>?_) (fun b w e=>?_) I.bare
 ·obtain⟨o,es,ep,ho,r⟩:=hm
  exact⟨o,es,ep,k _ o nL ho,r⟩
 ·by_cases hb:b=a
  ·subst hb
   rw[aQ]at e
   cases e
   exact new
  ·rw[az hb]at e
   refine(I.hok b w e).stay (fun c v hc q=>k c v ?_ q) (fun c q=>by rw[az (ne c _ q)];exact q) fun c xs q=>by rw[az (ne c _ q)];exact q
   rcases hc with z|z
   ·rw[z];exact nit b w e
   ·exact nit c _ z
def Iv(K:PySem.W.Frag)(b:Bool)(H:Hp)(l:Addr)(vs:List V):Prop:=match b with|true=>I8 K H l vs|false=>iC K H l vs
theorem bU.wZ{K:PySem.W.Frag}{b:Bool}{H H':Hp}{l:Addr}{vs:List V}(p:bU H H')(h:Iv K b H l vs):Iv K b H' l vs:=by
 cases b with
 |true=>exact p.Dj h
 |false=>exact p.Q8 h
theorem Inv.wZ{X:Cx}{pins:List (Addr×Obj)}{σ:L2.St}{H:Hp}{s:Shared}{b:Bool}{l:Addr}{vs:List V}(I:Inv X pins σ H s)(h:Iv X.K b H l vs):∃its:List Value,Vals vs its/\uQ b s.heap l its.toArray/\vs.length<=sizeLine/\l<s.heap.objs.size:=by
 cases b with
 |true=>
  obtain⟨its,r,p,z⟩:=I.list (I8.sq h)
  obtain⟨o,e,_⟩:=p.isList
  exact⟨its,r,p.isList,z,Heap.lt_size e⟩
 |false=>
  obtain⟨its,r,p,z⟩:=I.tuple h
  obtain⟨o,e,_⟩:=id p
  exact⟨its,r,p,z,Heap.lt_size e⟩
def Itz(K:PySem.W.Frag)(b1 b2:Bool)(l1 l2:Addr)(vs ws:List V):It:=
 ⟨fun i H=>Iv K b1 H l1 vs/\Iv K b2 H l2 ws/\∃v u,vs[i]? =some v/\ws[i]? =some u,
  fun i H x H'=>∃p v u,H p=none/\x=.ref p/\vs[i]? =some v/\ws[i]? =some u/\H'=upd H p (.tup [v,u]),
  fun i H=>Iv K b1 H l1 vs/\Iv K b2 H l2 ws/\(vs.length<=i\/ws.length<=i)⟩
theorem DQ{P:Program}{w:World}{K:PySem.W.Frag}{tg:Expr}{z TI TO i1 i2 l1 l2:Addr}{b1 b2:Bool}{vs ws:List V}(D:ZipApart z TI TO i1 i2 l1 l2):
  Turn P w K tg (Itz K b1 b2 l1 l2 vs ws) [z,TI,TO,i1,i2] z (fun i h=>Ad z TI TO i1 i2 b1 b2 l1 l2 i h) where
 mem:=by simp
 obj:=fun i h st b hb=>by
  obtain⟨f0,f1,zr,_⟩:=st.zr
  obtain⟨x,y,to⟩:=st.to
  simp only[List.mem_cons,List.not_mem_nil,or_false]at hb
  rcases hb with rfl|rfl|rfl|rfl|rfl
  ·exact⟨_,zr,fun v z=>by cases z⟩
  ·exact⟨_,st.ti,fun v z=>by cases z⟩
  ·exact⟨_,to,fun v z=>by cases z⟩
  ·exact st.it1.obj
  ·exact st.it2.obj
 keep:=fun i h h' st k=>by
  obtain⟨f0,f1,zr,hf⟩:=st.zr
  obtain⟨x,y,to⟩:=st.to
  exact⟨⟨f0,f1,k z (by simp) _ zr,hf⟩,k TI (by simp) _ st.ti,⟨x,y,k TO (by simp) _ to⟩,st.it1.at fun o e=>k i1 (by simp) o e,st.it2.at fun o e=>k i2 (by simp) o e⟩
 item:=by
  intro X hP hw hK hc i pins s σ H E I hf st hg
  subst hP hw hK
  obtain⟨hq1,hq2,v,u,ev,eu⟩:=hg
  obtain⟨its,r1,p1,_,_⟩:=Inv.wZ I hq1
  obtain⟨its2,r2,p2,_,_⟩:=Inv.wZ I hq2
  obtain⟨x,ex,rx⟩:=r1.get ev
  obtain⟨y,ey,ry⟩:=r2.get eu
  obtain⟨f0,f1,zr,h0⟩:=st.zr
  obtain⟨a,b,to⟩:=st.to
  refine mK D zr h0 st.ti to st.it1 st.it2 p1 p2 (x:=x) (y:=y) (by simpa using ex) (by simpa using ey) fun h' T=>?_
  obtain⟨g0,g1,zr',h0'⟩:=T.zr
  refine⟨_,rfl,BJ (s:={s with heap:=h'}) zr' h0' fun h'' q0 zr'' hq0 sb=>?_⟩
  have f1':∀b∈[z,TO,i1,i2],iD X pins H b:=fun b hb=>hf b (by
   simp only[List.mem_cons,List.not_mem_nil,or_false]at hb⊢
   rcases hb with h|h|h|h<;>simp[h])
  have kk:∀b o,b∉[z,TO,i1,i2]->s.heap.get? b=some o->h''.get? b=some o:=fun b o hb e=>by
   simp only[List.mem_cons,List.not_mem_nil,or_false,not_or]at hb
   exact sb.extBut _ _ hb.1 (T.keep b o hb.1 hb.2.1 hb.2.2.1 hb.2.2.2 e)
  have new'':IsPair h'' s.heap.objs.size x y:=sb.extBut _ _ (by
   obtain⟨q,e,_⟩:∃q,s.heap.get? z=some q/\True:=⟨_,zr,trivial⟩
   exact Nat.ne_of_gt (Heap.lt_size e)) T.new
  have nz:∀b∈[z,TO,i1,i2],b<s.heap.objs.size:=fun b hb=>by
   simp only[List.mem_cons,List.not_mem_nil,or_false]at hb
   rcases hb with rfl|rfl|rfl|rfl
   ·exact Heap.lt_size zr
   ·exact Heap.lt_size to
   ·exact st.it1.lt
   ·exact st.it2.lt
  have I1:Inv X pins σ (upd H s.heap.objs.size (.tup [v,u])) {s with heap:=h''}:=by
   refine Inv.An (t':=s.toks) I kk f1' (Nat.le_refl _) ⟨by show 2<=sizeLine;rw[sizeLine_eq];decide,[x,y],.cons rx (.cons ry .nil),_,new'',rfl,rfl,_,rfl⟩
  refine⟨.ref s.heap.objs.size,upd H s.heap.objs.size (.tup [v,u]),I1,rfl,⟨_,v,u,I.hok.fresh (Nat.le_refl _),rfl,ev,eu,rfl⟩,?_,fun b hb=>?_⟩
  ·have up:∀c o,c≠z->h'.get? c=some o->h''.get? c=some o:=fun c o hcz e=>sb.extBut _ _ hcz e
   obtain⟨a',b',to'⟩:=T.to
   exact⟨⟨q0,g1,zr'',hq0⟩,up _ _ D.TIz T.ti,⟨a',b',up _ _ D.TOz to'⟩,T.it1.at fun o e=>up _ o D.i1z e,T.it2.at fun o e=>up _ o D.i2z e⟩
  ·have lt:b<s.heap.objs.size:=by
    simp only[List.mem_cons,List.not_mem_nil,or_false]at hb
    rcases hb with rfl|rfl|rfl|rfl|rfl
    ·exact Heap.lt_size zr
    ·exact Heap.lt_size st.ti
    ·exact Heap.lt_size to
    ·exact st.it1.lt
    ·exact st.it2.lt
   rw[az (Nat.ne_of_lt lt)]
   exact(hf b hb).1
 done:=by
  intro X hP hw hK hc i pins s σ H E I hf st hg
  subst hP hw hK
  obtain⟨hq1,hq2,hend⟩:=hg
  obtain⟨its,r1,p1,_,_⟩:=Inv.wZ I hq1
  obtain⟨its2,r2,p2,_,_⟩:=Inv.wZ I hq2
  have l1:=r1.length
  have l2:=r2.length
  obtain⟨f0,f1,zr,h0⟩:=st.zr
  obtain⟨a,b,to⟩:=st.to
  refine oE (I.ok.hd hc) D zr h0 st.ti to st.it1 st.it2 p1 p2 ?_ fun h' kk=>⟨rfl,?_⟩
  ·rcases hend with h|h
   ·exact .inl (by simp;omega)
   ·exact .inr (by simp;omega)
  ·refine Inv.JD (t':=s.toks) (ch:=[z,TO,i1,i2]) I (fun b o hb e=>?_) fun b hb=>hf b (by
    simp only[List.mem_cons,List.not_mem_nil,or_false]at hb⊢
    rcases hb with h|h|h|h<;>simp[h])
   simp only[List.mem_cons,List.not_mem_nil,or_false,not_or]at hb
   exact kk b o hb.1 hb.2.1 hb.2.2.1 hb.2.2.2 e
 self:=fun A i s Q E st h=>by
  obtain⟨f0,f1,zr,h0⟩:=st.zr
  exact oF zr h
end Mini
end
section
namespace Mini
open PySem L2
theorem nF:∀{xs ys:List D}{i:Nat}{d:D},(aG xs ys)[i]? =some d->∃x y,xs[i]? =some x/\ys[i]? =some y/\d=.tup [x,y]
 |[],_,i,d,h=>by simp[aG]at h
 |_::_,[],i,d,h=>by simp[aG]at h
 |x::xs,y::ys,0,d,h=>by simp[aG]at h;exact⟨x,y,rfl,rfl,h.symm⟩
 |x::xs,y::ys,i+1,d,h=>by
  rw[aG,List.getElem?_cons_succ]at h
  simpa using nF h
theorem nD:∀(xs ys:List D),(aG xs ys).length=min xs.length ys.length
 |[],ys=>by simp[aG]
 |_::_,[]=>by simp[aG]
 |x::xs,y::ys=>by rw[aG,List.length_cons,nD xs ys,List.length_cons,List.length_cons];omega
theorem Cp{K:PySem.W.Frag}{H:Hp}{b1 b2:Bool}{l1 l2:Addr}{vs ws:List V}{xs ys:List D}(h1:Iv K b1 H l1 vs)(h2:Iv K b2 H l2 ws)(d1:ao K H xs vs)(d2:ao K H ys ws)(hz:vs.length<=sizeLine):
  Gives K (Itz K b1 b2 l1 l2 vs ws) (aG xs ys) H where
 go:=fun H1 p i d e=>by
  obtain⟨x,y,ex,ey,_⟩:=nF e
  obtain⟨v,ev,_⟩:=d1.get ex
  obtain⟨u,eu,_⟩:=d2.get ey
  exact⟨p.wZ h1,p.wZ h2,v,u,ev,eu⟩
 yld:=fun H1 p i d e x H2 y=>by
  obtain⟨a,v,u,hn,rfl,ev,eu,rfl⟩:=y
  obtain⟨dx,dy,ex,ey,rfl⟩:=nF e
  obtain⟨v',ev',dv⟩:=d1.get ex
  obtain⟨u',eu',du⟩:=d2.get ey
  rw[ev]at ev'
  rw[eu]at eu'
  cases ev'
  cases eu'
  have pp:bU H1 (upd H1 a (.tup [v,u])):=by
   refine⟨fun b xs q=>?_,fun b o w q=>?_⟩
   ·rw[az (fun z=>by subst z;rw[hn]at q;cases q)];exact q
   ·rw[az (fun z=>by subst z;rw[hn]at q;cases q)];exact q
  exact⟨cX (.inl (.inl aQ)) (ao.eE ((dv.mono p).mono pp) (ao.eE ((du.mono p).mono pp) ao.jc)),.inr ⟨a,_,hn,rfl⟩⟩
 stop:=fun H1 p i hi=>by
  rw[nD]at hi
  have:=d1.length
  have:=d2.length
  exact⟨p.wZ h1,p.wZ h2,by omega⟩
 len:=by rw[nD];have:=d1.length;omega
theorem bh.wZ{K:PySem.W.Frag}{H:Hp}{d:D}{xs:List D}{v:V}(h:bh K H d v)(e:bw d=some xs):∃b l vs,v=.ref l/\Iv K b H l vs/\ao K H xs vs:=by
 cases d with
 |tup ys=>cases e;obtain⟨a,vs,rfl,hq,l⟩:=bQ h;exact⟨false,a,vs,rfl,hq,l⟩
 |lst ys=>cases e;obtain⟨a,vs,rfl,hq,l⟩:=cP h;exact⟨true,a,vs,rfl,hq,l⟩
 |_=>cases e
section
variable{K:PySem.W.Frag}{W:Wi}{env:Ev}{σ:St}{H:Hp}{R:It->Hp->Prop}
theorem WY{env1:Ev}{H1:Hp}{r:Out Rv}(h:tI K W env r σ H R)(N:Nx K env σ H env1 H1):tI K W env1 r σ H1 R:=by
 obtain⟨_,h⟩:=h
 refine⟨N.eY,?_⟩
 cases r with
 |bad=>exact h
 |exc c env2=>exact fun H' N'=>h H' (N.trans N')
 |ok x env2=>
  obtain⟨d,xs,e1,e2,z⟩:=h
  exact⟨d,xs,e1,e2,fun J H' N' G=>z J H' (N.trans N') G⟩
theorem vd{r:Out Rv}{f:D->Ev->Out Rv}{R':VK}(h:tI K W env (r.ak f) σ H R)
  (k:∀d env1 v H1,Nx K env σ H env1 H1->bh K H1 d v->tI K W env1 (f d env1) σ H1 R->R' v H1):tD K W env r σ H R':=by
 have step:∀d env1,r.ak f=f d env1->∀v H1,Nx K env σ H env1 H1->bh K H1 d v->R' v H1:=fun d env1 e v H1 N D=>by
  rw[e]at h
  exact k d env1 v H1 N D (WY h N)
 obtain⟨S,h⟩:=h
 refine⟨S,?_⟩
 cases r with
 |bad=>exact h
 |exc c env1=>exact h
 |ok x env1=>
  cases x with
  |val d=>exact fun v H1 N D=>step d env1 rfl v H1 N D
  |new xs=>exact fun v H1 N D=>step xs.d env1 rfl v H1 N D
  |ref i=>exact h
  |tmp xs=>exact h
end
section
variable{X:Cx}{W:Wi}{c:Cf}{m1 m2:E}{a b tg:Expr}{pos p:Pos}
theorem T4(ha:GE X W c m1 a)(hb:GE X W c m2 b)(hg:Gl X "zip")(hm:X.mg "zip"=none)(hs:starEach [a,b] X.env=[(false,eval a X.env),(false,eval b X.env)])(hs2:starEach [b] X.env=[(false,eval b X.env)]):
  GI X W c (.zip m1 m2) tg (.Call (.Name "zip" p) [a,b] [] pos):=by
 intro env pins s σ H R I q
 simp only[Jv]at q
 let RR:List V->Hp->Prop:=fun vs H'=>∃env2 d1 d2 xs ys v1 v2,vs=[v1,v2]/\bh X.K H' d1 v1/\bh X.K H' d2 v2/\bw d1=some xs/\bw d2=some ys/\Sat X.K env2 σ H'/\∀J H2,Nx X.K env2 σ H' env2 H2->Gives X.K J (aG xs ys) H2->R J H2
 have go:aD X W c m1 σ H fun v1 H1=>aD X W c m2 σ H1 fun v2 H2=>RR [v1,v2] H2:=by
  refine⟨env,vd q fun d1 env1 v1 H1 N1 D1 q1=>⟨env1,vd q1 fun d2 env2 v2 H2 N2 D2 q2=>?_⟩⟩
  cases e1:bw d1 with
  |none=>rw[e1]at q2;exact q2.2.elim
  |some xs=>
   cases e2:bw d2 with
   |none=>rw[e1,e2]at q2;exact q2.2.elim
   |some ys=>
    rw[e1,e2]at q2
    obtain⟨S,d,zs,z1,z2,z3⟩:=q2
    cases z1
    cases z2
    exact⟨env2,d1,d2,xs,ys,v1,v2,rfl,D1.mono N2.pers,D2,e1,e2,S,z3⟩
 refine wpAny_Call_Name_kw (oV I hg hm PyProof.Rows.boot_zip ?_ (by decide) (by decide))
 refine PyProof.Rows.callWith_type1 (bV (bC ha.d (bC hb.d dz hs2) (by rw[hs,hs2]) pos pins s σ H RR I go) fun us s1⟨vs,H1,I1,r1,q1⟩=>?_) (by rw[hs,hs2]) (by rw[hs2];rfl)
 obtain⟨env2,d1,d2,xs,ys,v1,v2,rfl,D1,D2,e1,e2,S2,q3⟩:=q1
 obtain⟨b1,l1,vs,rfl,h1,dl1⟩:=D1.wZ e1
 obtain⟨b2,l2,ws,rfl,h2,dl2⟩:=D2.wZ e2
 obtain⟨u1,u2,rfl,ru1,ru2⟩:=Vals.two r1
 cases ru1
 cases ru2
 obtain⟨its,rr1,p1,z1,lt1⟩:=Inv.wZ I1 h1
 obtain⟨its2,rr2,p2,z2,lt2⟩:=Inv.wZ I1 h2
 refine CP p1 p2 fun h' st sz kk=>?_
 obtain⟨f0,f1,zr,h0⟩:=st.zr
 refine oF zr ?_
 refine⟨s1.heap.objs.size+4,[s1.heap.objs.size+4,s1.heap.objs.size+2,s1.heap.objs.size+3,s1.heap.objs.size,s1.heap.objs.size+1],_,_,H1,rfl,I1.kept (t':=s1.toks) kk,DQ (vs:=vs) (ws:=ws) (Aj lt1 lt2),st,fun b hb=>?_,q3 _ H1 (Nx.refl S2) (Cp h1 h2 dl1 dl2 z1)⟩
 have hb':s1.heap.objs.size<=b:=by
  simp only[List.mem_cons,List.not_mem_nil,or_false]at hb
  rcases hb with rfl|rfl|rfl|rfl|rfl<;>omega
 exact I1.yg hb' (I1.hok.fresh hb')
end
end Mini
end
section
namespace Mini
open PySem
theorem oW{prog:Program}{w:World}{A:Around}{E:Value->Shared->Prop}{s:Shared}{a:Addr}{xs:Array Value}{k:Nat}{sl:Array (Option Value)}{Q:Option Value->Shared->Prop}
  (hx:s.heap.get? a=some {cls:=.type "list",dict:=none,data:=.seq xs k,slots:=sl})(hA:A.handled=none)
  (h:∀h' tk,(∀b o,s.heap.get? b=some o->h'.get? b=some o)->Q none {s with heap:=h',toks:=tk}):
  wpAny (model prog w) A (getAttr? (.ref a) "keys") Q E s:=by
 obtain⟨hp,g,d,tk,os⟩:=s
 have hT:∀tk',(⟨hp,g,d,tk',os⟩:Shared).TypeIs (.ref a) "list":=fun _=>⟨_,hx,rfl⟩
 have f1:=sub_AttributeError
 have f3:=F.slot_list_getattribute.lookup
 have f4:=F.slot_list_getattribute.bind (.ref a)
 have f5:=am_list_getattr_none
 have hmiss:typeLookup (.type "list") "keys"=pure none:=am_miss_of_fast (by kernel_rfl)
 unfold getAttr? getAttrBy? getAttrBy
 repeat (any_goals (first|assumption|exact hT _|((with_reducible show wpAny _ _ (call (Value.builtin "list.__getattribute__") _ _) _ _ _);refine call_meets F.slot_list_getattribute (hT _) am_entry_list_getattribute (F.args_list_getattribute_2 _ _) (meets_getattribute_miss_list a xs k sl "keys" _ hmiss (by decide+kernel) (by size_fits)) ⟨hx,hA,fun h' tk' e hx'=>?_⟩)|wp_step))
 obtain⟨t',u',he⟩:=hx'.there
 show wpAny _ _ (getattributeRaised _ _ _ _ _ _ _) _ _ _
 unfold getattributeRaised
 repeat (any_goals (first|assumption|wp_step))
 all_goals exact h _ _ hx'.keeps
theorem mQ{prog:Program}{w:World}{A:Around}{E:Value->Shared->Prop}{s:Shared}{a:Addr}{xs:Array Value}{k:Nat}{sl:Array (Option Value)}{Q:Option Value->Shared->Prop}
  (hx:s.heap.get? a=some {cls:=.type "tuple",dict:=none,data:=.seq xs k,slots:=sl})(hA:A.handled=none)
  (h:∀h' tk,(∀b o,s.heap.get? b=some o->h'.get? b=some o)->Q none {s with heap:=h',toks:=tk}):
  wpAny (model prog w) A (getAttr? (.ref a) "keys") Q E s:=by
 obtain⟨hp,g,d,tk,os⟩:=s
 have hT:∀tk',(⟨hp,g,d,tk',os⟩:Shared).TypeIs (.ref a) "tuple":=fun _=>⟨_,hx,rfl⟩
 have f1:=sub_AttributeError
 have f3:=F.slot_tuple_getattribute.lookup
 have f4:=F.slot_tuple_getattribute.bind (.ref a)
 have f5:=am_tuple_getattr_none
 have hmiss:typeLookup (.type "tuple") "keys"=pure none:=am_miss_of_fast (by kernel_rfl)
 unfold getAttr? getAttrBy? getAttrBy
 repeat (any_goals (first|assumption|exact hT _|((with_reducible show wpAny _ _ (call (Value.builtin "tuple.__getattribute__") _ _) _ _ _);refine call_meets F.slot_tuple_getattribute (hT _) am_entry_tuple_getattribute (F.args_tuple_getattribute_2 _ _) (meets_getattribute_miss_tuple a xs k sl "keys" _ hmiss (by decide+kernel) (by size_fits)) ⟨hx,hA,fun h' tk' e hx'=>?_⟩)|wp_step))
 obtain⟨t',u',he⟩:=hx'.there
 show wpAny _ _ (getattributeRaised _ _ _ _ _ _ _) _ _ _
 unfold getattributeRaised
 repeat (any_goals (first|assumption|wp_step))
 all_goals exact h _ _ hx'.keeps
end Mini
end
section
namespace Mini
open PySem L2
theorem Nx.chg{K:PySem.W.Frag}{env:Ev}{σ:St}{H0 H:Hp}{d:Addr}{u u':HO}(N:Nx K env σ H0 env H)(S:Sat K env σ H0)(h0:H0 d=none)(h:H d=some u)(hu:Qk u):Nx K env σ H0 env (upd H d u'):=by
 have p:=oH (u':=u') h hu
 refine⟨N.eY.keep p fun i b w ow hb=>?_,N.sub,N.pers.trans p,fun b w q n=>?_,fun b q=>?_,N.bors⟩
 ·rw[az (fun z=>by subst z;exact S.lE h0 i (N.sub i b ow))];exact hb
 ·rw[az (fun z=>by subst z;rw[h0]at q;cases q)];exact N.keep b w q n
 ·refine N.dom b ?_
  by_cases hb:b=d
  ·subst hb;rw[aQ]at q;cases q
  ·rw[az hb]at q;exact q
theorem HJ{kvs:List (Key×V)}:Qk (.dK kvs):=by
 constructor
 all_goals (intros;intro z;cases z)
def Cx.under(X:Cx)(A:Around):Cx:={X with A:=A}
theorem Inv.under{X:Cx}{A:Around}{pins:List (Addr×Obj)}{σ:St}{H:Hp}{s:Shared}(I:Inv X pins σ H s)(h1:A.handled=X.A.handled)(h2:A.frames=X.A.frames):Inv (Cx.under X A) pins σ H s:=
 ⟨⟨I.ok.mod,I.ok.kind,I.ok.glob,I.ok.blt,I.ok.above,I.ok.inj,I.ok.has,I.ok.cab,fun hc=>h1.trans (I.ok.hd hc),h2.trans I.ok.frames,I.ok.stk,I.ok.exf,I.ok.bs,I.ok.bsz,I.ok.noex,I.ok.exfs,I.ok.jy,I.ok.frf⟩,
  I.os,I.bare,I.base,I.loc,I.cell,I.free,I.freeC,I.pin,I.hok,I.len⟩
theorem Inv.back{X:Cx}{A:Around}{pins:List (Addr×Obj)}{σ:St}{H:Hp}{s:Shared}(I:Inv (Cx.under X A) pins σ H s)(h1:X.A.handled=A.handled)(h2:X.A.frames=A.frames):Inv X pins σ H s:=
 Inv.under (X:=Cx.under X A) (A:=X.A) I h1 h2
theorem Ml{M:Model}{A:Around}{β:Type}{x:Str}{p:Pos}{it u:Value}{m:Sem β}{Q:β->Shared->Prop}{E:Value->Shared->Prop}{s:Shared}
  (h:wpAny M A (letOwnedTupleGo (.Name x p) it u) (fun _ s=>wpAny M A m Q E s) E s):wpAny M A m Q E s:=by
 have:=wpAny_bind (f:=fun _=>m) h
 exact this
theorem iI:entryFor table "dict.update.loop"=some Builtin.«dict.update.loop»:=entryFor_of_tree (by kernel_rfl)
theorem cZ:plainId "dict.update.loop"=true:=by decide+kernel
theorem wB{ks vs r:List D}{d:D}{p:List D×List D}(h:dictOf ks vs (d::r)=some p):∃k v,d=.tup [k,v]/\keyOk k=true/\dictOf (putD k v ks vs).1 (putD k v ks vs).2 r=some p:=by
 unfold dictOf at h
 split at h
 ·rename_i e;cases e
 ·rename_i k v r' e
  cases e
  split at h
  ·rename_i hk
   exact⟨k,v,rfl,hk,h⟩
  ·cases h
 ·cases h
theorem Mw{xs:List D}{i:Nat}(h:i<xs.length):∃d,xs[i]? =some d/\xs.drop i=d::xs.drop (i+1):=⟨xs[i],List.getElem?_eq_getElem h,List.drop_eq_getElem_cons h⟩
section
variable{X:Cx}{A:Around}{pins:List (Addr×Obj)}{σ τ:St}{env:Ev}{R:Result->Shared->Prop}{J:It}{fp:List Addr}{it d:Addr}{tn:Nat->Heap->Prop}{x:Str}{p:Pos}{xs ks' vs':List D}{H0 H1:Hp}
theorem Cy(hA:X.A=A.in1)(hc:X.calm=true)(T:Turn X.prog X.w X.K (.Name x p) J fp it tn)(G:Gives X.K J xs H1)(S:Sat X.K env τ H0)(h0:H0 d=none)
  (fin:∀s H,Inv X pins σ H s->Nx X.K env τ H0 env H->jA X.K H (.dct ks' vs') d->R (.ok (.ret .none)) s):
  ∀(n i:Nat)(s:Shared)(H:Hp)(kvs:List (Key×V))(vs:List D),xs.length-i=n->Inv X pins σ H s->(∀b∈fp,iD X pins H b)->tn i s.heap->bU H1 H->Nx X.K env τ H0 env H->H d=some (.dK kvs)->
   ao X.K H vs (kvs.map (·.2))->dictOf (kvs.map fun q=>cH q.1) vs (xs.drop i)=some (ks',vs')->kvs.length<=i->i<=xs.length->
   codeAny (model X.prog X.w) A (.builtin "dict.update.loop" ⟨[.ref d,.ref it,rawInt ((i:Nat):Int),.none],[]⟩) R s:=by
 intro n
 induction n with
 |zero=>
  intro i s H kvs vs hn I hf st P N hd dl ho hk hi
  refine codeAny_builtin iI ?_
  rw[Around.under_plainId cZ _,<-hA]
  show wpAny _ X.A (pyNext (.ref it)>>=_) _ _ s
  refine wpAny_bind (wpAny_mono (T.done X rfl rfl rfl hc i pins s σ H _ I hf st (G.stop H P i (by omega))) (fun r s1 h=>?_) fun _ _ h=>h)
  obtain⟨rfl,I1⟩:=h
  rw[List.drop_eq_nil_of_le (by omega)]at ho
  cases ho
  show wpAny _ X.A (Builtin.Dict.addKeywords d []>>=_) _ _ s1
  exact wpAny_bind (wpAny_pure (wpAny_pure (fin s1 H I1 N ⟨_,hd,kvs,rfl,rfl,dl⟩)))
 |succ n ih=>
  intro i s H kvs vs hn I hf st P N hd dl ho hk hi
  have hlt:i<xs.length:=by omega
  obtain⟨dd,ed,edr⟩:=Mw hlt
  rw[edr]at ho
  obtain⟨k,v,rfl,hkk,ho'⟩:=wB ho
  refine codeAny_builtin iI ?_
  rw[Around.under_plainId cZ _,<-hA]
  show wpAny _ X.A (pyNext (.ref it)>>=_) _ _ s
  refine wpAny_bind (wpAny_mono (T.item X rfl rfl rfl hc i pins s σ H _ I hf st (G.go H P i _ ed)) (fun r s1 h=>?_) fun _ _ h=>h)
  obtain⟨u,rfl,h⟩:=h
  refine Ml (wpAny_mono h (fun _ s2 h2=>?_) fun _ _ h=>h)
  obtain⟨y,H',I',ry,yl,st',nf⟩:=h2
  obtain⟨Dy,hH⟩:=G.yld H P i _ ed y H' yl
  obtain⟨a,ws,rfl,hq,l⟩:=bQ Dy
  cases ry
  obtain⟨vk,r1,rfl,Dk,l⟩:=ao.aW.mp l
  obtain⟨vv,r2,rfl,Dv,l⟩:=ao.aW.mp l
  have:=ao.bj.mp l
  subst this
  obtain⟨kk,rfl⟩:=gK hkk
  have ek:=j9 Dk
  subst ek
  obtain⟨its,rr,pt,_⟩:=I'.tuple hq
  obtain⟨uk,uv,rfl,rk,rv⟩:=Vals.two rr
  obtain⟨o,eo,ec,nn,edt⟩:=pt
  have N':Nx X.K env τ H0 env H'/\bU H H'/\H' d=some (.dK kvs):=by
   rcases hH with rfl|⟨q,ws,hq0,rfl⟩
   ·exact⟨N,bU.refl _,hd⟩
   ·have NL:=Nx.laid (o:=.tup ws) N.eY hq0
    exact⟨N.trans NL,NL.pers,by rw[az (fun z=>by subst z;rw[hq0]at hd;cases hd)];exact hd⟩
  obtain⟨N',PP,hd'⟩:=N'
  show wpAny _ X.A (holding [.ref a] _>>=_) _ _ s2
  refine wpAny_bind (wpAny_holding ?_)
  refine wpAny_bind (wpAny_tryCatch ?_)
  unfold Builtin.Dict.pairItems
  have hty:s2.TypeIs (.ref a) "tuple":=⟨o,eo,ec⟩
  refine wpAny_bind (wpAny_typeOf hty ?_)
  rw[if_pos (by decide)]
  refine wpAny_bind (wpAny_seqItems eo edt (wpAny_pure ?_))
  show wpAny _ X.A (holding [uk,uv] (dictSet d uk uv)) _ _ s2
  refine wpAny_holding ?_
  obtain⟨z,hds,vvs,rel,dd⟩:=PQ I'.hok hd'
  have hz:vvs.length<=sizeLine:=by rw[<-rel.length];exact z
  have hG:=G.len
  have hl:(putK kvs kk vv).length<=i+1:=by have:=jd kvs kk vv;omega
  refine wpAny_dictSet_pairs (hsz:=hz) (rE rk) dd fun h' dd' hs=>?_
  have he:∃q,h'.get? d=some q:=let ⟨q,_,_,hq,_⟩:=dd';⟨q,hq⟩
  have I2:Inv X pins σ (upd H' d (.dK (putK kvs kk vv))) {s2 with heap:=h',toks:=s2.toks+1}:=uz I' (by rw[hd'];exact True.intro) hs he (Ht (by omega) hds (rel.put kk rv) dd')
  have N2:=Nx.chg (u':=.dK (putK kvs kk vv)) N' S h0 hd' HJ
  have p2:=oH (u':=.dK (putK kvs kk vv)) hd' HJ
  obtain⟨g1,g2⟩:=zb (k:=kk) Dv (dl.mono PP)
  refine wpAny_pure ⟨plainId_quiet cZ _,?_⟩
  refine ih (i+1) _ _ (putK kvs kk vv) _ (by omega) I2 (fun b hb=>?_) (T.keep _ _ _ st' fun b hb o e=>?_) ((P.trans PP).trans p2) N2 aQ (g2.mono p2) ?_ hl (by omega)
  ·have nb:b≠d:=fun e=>by subst e;rw[nf b hb]at hd';cases hd'
   exact⟨by rw[az nb];exact nf b hb,(hf b hb).2⟩
  ·have nb:b≠d:=fun e=>by subst e;rw[nf b hb]at hd';cases hd'
   exact(hs.2 b nb).trans e
  ·rw[<-g1];exact ho'
end
section
variable{X:Cx}{pins:List (Addr×Obj)}{σ τ:St}{env:Ev}{H:Hp}{s:Shared}{o:Addr}{ob:Obj}{T:String}{x:Str}{p:Pos}{xs:List D}{pr:List D×List D}{Q:Value->Shared->Prop}{E:Value->Shared->Prop}
theorem yw(hc:X.calm=true)(I:Inv X pins σ H s)(S:Sat X.K env τ H)(ho:s.heap.get? o=some ob)(hcl:ob.cls=.type T)(hT:(T !="dict")=true)(hd:dictOf [] [] xs=some pr)
  (hkey:∀(s1:Shared)(E:Value->Shared->Prop)(Q:Option Value->Shared->Prop),s1.heap.get? o=some ob->(∀h' tk,(∀b u,s1.heap.get? b=some u->h'.get? b=some u)->Q none {s1 with heap:=h',toks:=tk})->
   wpAny (model X.prog X.w) X.A.in1.in1 (getAttr? (.ref o) "keys") Q E s1)
  (hit:∀(s1:Shared)(u:HO)(E:Value->Shared->Prop)(Q:Value->Shared->Prop),Inv (Cx.under X X.A.in1.in1) pins σ (upd H s.heap.objs.size u) s1->Nx X.K env τ H env (upd H s.heap.objs.size u)->(∀b u,s.heap.get? b=some u->s1.heap.get? b=some u)->
   (∀s2 it fp tn J,Inv (Cx.under X X.A.in1.in1) pins σ (upd H s.heap.objs.size u) s2->Turn X.prog X.w X.K (.Name x p) J fp it tn->tn 0 s2.heap->(∀b∈fp,iD X pins (upd H s.heap.objs.size u) b)->Gives X.K J xs (upd H s.heap.objs.size u)->Q (.ref it) s2)->
   wpAny (model X.prog X.w) X.A.in1.in1 (pyIter (.ref o)) Q E s1)
  (h:∀a s' H',Inv X pins σ H' s'->Nx X.K env τ H env H'->jA X.K H' (.dct pr.1 pr.2) a->H a=none->Q (.ref a) s'):
  wpAny (model X.prog X.w) X.A (call (.type "dict") [.ref o]) Q E s:=by
 refine callType_codes (Q₁:=fun obj s₁=>obj=.ref s.heap.objs.size/\s₁={s with heap:=s.heap.push {cls:=.type "dict",data:=.dict #[]}}) PySem.F.kt_called_dict (PySem.F.kt_typeCall_dict_1 _) PySem.F.entry_dict_init (kt_code_dict_new _ ⟨rfl,rfl⟩) ?_
 rintro obj s₁ ⟨rfl,rfl⟩
 have hnew:(s.heap.push {cls:=.type "dict",data:=.dict #[]}).DictOf (bL X.prog X.w) s.heap.objs.size []:=Heap.DictOf.new s.heap
 have k1:∀b u,s.heap.get? b=some u->(s.heap.push {cls:=.type "dict",data:=.dict #[]}).get? b=some u:=fun _ _ q=>Heap.get?_push_of_some _ q
 have hfr:H s.heap.objs.size=none:=I.hok.fresh (Nat.le_refl _)
 have I1:=I.laid (a:=s.heap.objs.size) (o:=.dK []) (h':=s.heap.push {cls:=.type "dict",data:=.dict #[]}) (t':=s.toks) k1 (Nat.le_refl _) (Hu s.heap I.big)
 have N1:=Nx.laid (o:=.dK []) S hfr
 refine⟨hnew.typeIs,PySem.F.args_dict_init_2 _ _,?_⟩
 unfold Builtin.«dict.__init__»
 refine wpAny_bind ?_
 unfold Builtin.Dict.selfAndRest
 refine wpAny_bind (wpAny_notOrdered_dict hnew.typeIs ?_)
 show wpAny _ _ (pure (s.heap.objs.size,[Value.ref o])) _ _ _
 refine wpAny_pure ?_
 show wpAny _ _ (Builtin.Dict.updateFrom "dict.__init__" s.heap.objs.size (.ref o) [] .none) _ _ _
 unfold Builtin.Dict.updateFrom
 have hty:(⟨s.heap.push {cls:=.type "dict",data:=.dict #[]},s.gens,s.drawn,s.toks,s.os⟩:Shared).TypeIs (.ref o) T:=⟨ob,k1 o ob ho,hcl⟩
 refine wpAny_bind (wpAny_typeOf hty ?_)
 have ht:((Value.type T) !=(Value.type "dict"))=true:=by
  have:T≠"dict":=by simpa using hT
  simpa using this
 rw[if_pos ht]
 refine wpAny_bind (hkey _ _ _ (k1 o ob ho) fun h2 tk k2=>?_)
 simp only[Option.isNone_none,if_true]
 refine wpAny_bind (wpAny_rule ?_)
 have I2:Inv X pins σ _ {s with heap:=h2,toks:=tk}:=I1.kept (t':=tk) k2
 refine wpAny_bind (hit _ _ _ _ (Inv.under I2 rfl rfl) N1 (fun b u q=>k2 b u (k1 b u q)) fun s3 it fp tn J I3 Tn st hf G=>?_)
 refine wpAny_bind (wpAny_pure (wpAny_pure ⟨plainId_quiet cZ _,?_⟩))
 refine Cy (X:=Cx.under X X.A.in1.in1) (A:=X.A.in1) rfl hc Tn G S hfr (fun s4 H4 I4 N4 O4=>?_) xs.length 0 s3 _ [] [] rfl I3 hf st (bU.refl _) N1 aQ ao.jc hd (Nat.le_refl _) (Nat.zero_le _)
 exact⟨rfl,h _ s4 H4 (Inv.back I4 rfl rfl) N4 O4 hfr⟩
end
end Mini
end
section
namespace Mini
open PySem L2
section
variable{X:Cx}{A:Around}{pins:List (Addr×Obj)}{σ τ:St}{env:Ev}{R:Result->Shared->Prop}{J:It}{fp:List Addr}{it d:Addr}{tn:Nat->Heap->Prop}{x:Str}{p:Pos}{xs:List D}{H0 H1:Hp}
end
section
variable{X:Cx}{pins:List (Addr×Obj)}{σ τ:St}{env:Ev}{H:Hp}{s:Shared}{o:Addr}{ob:Obj}{x:Str}{p:Pos}{xs:List D}{Q:Value->Shared->Prop}{E:Value->Shared->Prop}
end
end Mini
end
section
namespace Mini
open PySem L2
theorem Inv.Np{X:Cx}{E:Value->Shared->Prop}{pins:List (Addr×Obj)}{σ:St}{H:Hp}{s:Shared}(I:Inv X pins σ H s):Inv {X with xe:=E} pins σ H s:=
 ⟨⟨I.ok.mod,I.ok.kind,I.ok.glob,I.ok.blt,I.ok.above,I.ok.inj,I.ok.has,I.ok.cab,I.ok.hd,I.ok.frames,I.ok.stk,I.ok.exf,I.ok.bs,I.ok.bsz,I.ok.noex,I.ok.exfs,I.ok.jy,I.ok.frf⟩,
  I.os,I.bare,I.base,I.loc,I.cell,I.free,I.freeC,I.pin,I.hok,I.len⟩
theorem Inv.unE{X:Cx}{E:Value->Shared->Prop}{pins:List (Addr×Obj)}{σ:St}{H:Hp}{s:Shared}(I:Inv {X with xe:=E} pins σ H s):Inv X pins σ H s:=Inv.Np (X:={X with xe:=E}) (E:=X.xe) I
theorem Inv.seqObj{X:Cx}{pins:List (Addr×Obj)}{σ:St}{H:Hp}{s:Shared}{b:Bool}{l:Addr}{vs:List V}(I:Inv X pins σ H s)(h:Iv X.K b H l vs):
  ∃(its:Array Value)(k:Nat)(sl:Array (Option Value)),s.heap.get? l=some {cls:=.type (if b then "list" else "tuple"),dict:=none,data:=.seq its k,slots:=sl}:=by
 cases b with
 |true=>
  obtain⟨its,r,⟨o,n,e,c,d,dt⟩,z⟩:=I.list (I8.sq h)
  obtain⟨oc,od,odt,os⟩:=o
  simp only at c d dt
  subst c d dt
  exact⟨_,_,_,e⟩
 |false=>
  obtain⟨its,r,⟨o,e,c,d,n,dt⟩,z⟩:=I.wV h
  obtain⟨oc,od,odt,os⟩:=o
  simp only at c d dt
  subst c d dt
  exact⟨_,_,_,e⟩
theorem uf{d:D}{xs:List D}(h:bw d=some xs):items d=some xs:=by
 cases d<;>simp[bw]at h<;>simp[items,h]
def Ov(K:PySem.W.Frag):List V->Hp->VK->Prop:=fun us H Q=>∃env τ v d xs pr,us=[v]/\Sat K env τ H/\bh K H d v/\bw d=some xs/\dictOf [] [] xs=some pr/\
 ∀a H',Nx K env τ H env H'->jA K H' (.dct pr.1 pr.2) a->H a=none->Q (.ref a) H'
section
variable{X:Cx}{W:Wi}{c:Cf}{m m1 m2:E}{a b e:Expr}{pos p p':Pos}
theorem yx(hc:X.calm=true):eF X (.type "dict") (Ov X.K):=by
 intro pins s σ H us ws Q I r h
 obtain⟨env,τ,v,d,xs,pr,rfl,S,Dv,es,hd,q⟩:=h
 obtain⟨u,rfl,ru⟩:=vals1 r
 obtain⟨bb,l,vs,rfl,hq,dl⟩:=Dv.wZ es
 cases ru
 obtain⟨its,k,sl,eo⟩:=Inv.seqObj I hq
 refine yw (x:=("_":Str)) (p:=(default:Pos)) hc I S eo rfl (by cases bb<;>decide) hd (fun s1 E Q e1 k1=>?_) (fun s1 u E Q I1 N1 k1 hQ=>?_) fun a s' H' I' N' O' h'=>⟨.ref a,H',I',rfl,q a H' N' O' h'⟩
 ·cases bb with
  |true=>exact oW e1 (I.ok.hd hc) k1
  |false=>exact mQ e1 (I.ok.hd hc) k1
 ·refine wpAny_mono (G5 (X:={(Cx.under X X.A.in1.in1)with xe:=E}) (tg:=.Name ("_":Str) (default:Pos)) (d:=d) (xs:=xs) (R:=fun J H'=>Gives X.K J xs H'/\H'=upd H s.heap.objs.size u) (Inv.Np I1) (show RelV (.ref l) (.ref l)from rfl) (Dv.mono N1.pers) (uf es) fun J g=>⟨g,rfl⟩) (fun v2 s2 h2=>?_) fun _ _ h=>h
  obtain⟨it,fp,tn,J,H',rfl,I2,T,st,hf,g,rfl⟩:=h2
  exact hQ s2 it fp tn J (Inv.unE I2) T st hf g
theorem Hv{env:Ev}{σ:St}{H:Hp}{Q:VK}(hv:m.au=none)(q:tM X.K W env (ev c (.bi .dict m) env) σ H Q):aD X W c m σ H fun v H1=>Ov X.K [v] H1 Q:=by
 simp only[sJ,hv]at q
 refine⟨env,aR q fun d env1 v H1 N1 D1 q1=>?_⟩
 obtain⟨z,ez,S,q3⟩:=cL q1
 simp only[b1]at ez
 cases es:bw d with
 |none=>rw[es]at ez;cases ez
 |some xs=>
  rw[es]at ez
  simp only[Option.bind_some,V2]at ez
  cases ed:dictOf [] [] xs with
  |none=>rw[ed]at ez;cases ez
  |some pr=>
   rw[ed]at ez
   cases ez
   exact⟨env1,σ,v,d,xs,pr,rfl,S,D1,es,ed,fun a H' N O h0=>q3 _ H' N ⟨a,rfl,O,h0⟩⟩
theorem Mp(hc:X.calm=true)(ha:GE X W c m a)(hv:m.au=none)(hg:Gl X "dict")(hm:X.mg "dict"=none)(hs:starEach [a] X.env=[(false,eval a X.env)]):
  GE X W c (.bi .dict m) (.Call (.Name "dict" p) [a] [] pos):=fun env=>
 PE.imp (jl (yx hc) hg hm PyProof.Rows.boot_dict (bC ha.d dz hs) (by decide) (by decide) hs rfl) fun σ H Q h=>Hv hv h
theorem Ad.lt{z TI TO i1 i2:Addr}{b1 b2:Bool}{l1 l2:Addr}{k:Nat}{h:Heap}(st:Ad z TI TO i1 i2 b1 b2 l1 l2 k h):∀b∈[z,TI,TO,i1,i2],b<h.objs.size:=by
 intro b hb
 obtain⟨f0,f1,zr,_⟩:=st.zr
 obtain⟨x,y,to⟩:=st.to
 simp only[List.mem_cons,List.not_mem_nil,or_false]at hb
 rcases hb with rfl|rfl|rfl|rfl|rfl
 ·exact Heap.lt_size zr
 ·exact Heap.lt_size st.ti
 ·exact Heap.lt_size to
 ·exact st.it1.lt
 ·exact st.it2.lt
end
end Mini
end
section
namespace Mini
open PySem L2
section
variable{prog:Program}{w:World}{A:Around}{E:Value->Shared->Prop}{s:Shared}
theorem uJ{a b:Bool}{Q:Value->Shared->Prop}(h:Q (.bool (!a&&b)) s):wpAny (model prog w) A (call (.builtin "int.__lt__") [.bool a,.bool b]) Q E s:=by
 refine wpAny_call_entry PySem.F.slot_bool_lt (PyProof.Rows.typeIs_bool' s a) PySem.F.entry_int_lt ?_ (PySem.F.args_int_lt_2 _ _)
 have e:(decide ((if a=true then(1:Int)else 0)< (if b=true then(1:Int)else 0)))=(!a&&b):=by cases a<;>cases b<;>rfl
 have g:=PyProof.Rows.gives_int_lt_bools a b
 show wpAny _ _ (ret (.bool (decide ((if a=true then(1:Int)else 0)< (if b=true then(1:Int)else 0))))) _ _ s
 rw[e]
 exact wpAny_pure ⟨_,rfl,h⟩
theorem vK{a b:Bool}{Q:Bool->Shared->Prop}(h:Q (!a&&b) s):wpAny (model prog w) A (PyProof.Rows.oneLt' true (.bool a) (.bool b)) Q E s:=by
 rw[PyProof.Rows.oneLt'_eq]
 simp only[if_true]
 refine wpAny_bind (wpAny_cRoomFor_byValue rfl ?_)
 refine wpAny_bind (wpAny_callSpecialIfBound?_slot (PyProof.Rows.typeIs_bool' s a) PySem.F.slot_bool_lt (uJ ?_))
 exact wpAny_truthy_bool h
theorem xP{c a b:Bool}{Q:Bool->Shared->Prop}(h:Q (!a&&b) s):wpAny (model prog w) A (PyProof.Rows.oneLt' c (.bool a) (.bool b)) Q E s:=by
 cases c with
 |true=>exact vK h
 |false=>exact PySem.W.kat_one _ _ (show wpAny (model prog w) A (richCompare .Lt (.bool a) (.bool b)) _ _ s from qP A s a b prog w _ _ h)
theorem rD{b fin:Bool}{Q:Bool->Shared->Prop}{nx ny:Nat}:∀{vs ws:List Value}{ns ms:List Bool}(i:Nat),BoolsAre vs ns->BoolsAre ws ms->ns.length+ny=ms.length+nx->fin=decide (nx<ny)->Q (iK ns ms) s->
  PySem.W.KatLex prog w A b fin Q (vs.zip ws) i s
 |_,_,_,_,i,.nil,hw=>fun hl hf h=>by
  rw[List.zip_nil_left]
  refine PySem.W.kat_nil ?_
  cases hw with
  |nil=>rw[zx]at h;rw[hf];simp at hl;rw[decide_eq_false (by omega)];exact h
  |cons c hw=>rw[zy]at h;rw[hf];simp at hl;rw[decide_eq_true (by omega)];exact h
 |_,_,_,_,i,.cons a hv,.nil=>fun hl hf h=>by
  rw[List.zip_nil_right]
  refine PySem.W.kat_nil ?_
  rw[zA]at h
  rw[hf]
  simp at hl
  rw[decide_eq_false (by omega)]
  exact h
 |_,_,_,_,i,.cons a hv,.cons c hw=>fun hl hf h=>by
  rw[List.zip_cons_cons]
  rw[rz]at h
  simp only[List.length_cons]at hl
  refine PySem.W.kat_cons (SeqAt.EqAt.bool_bool (A:=A) (s:=s) a c prog w _ _ ?_)
  by_cases hac:a=c
  ·subst hac
   rw[if_pos rfl]at h
   rw[beq_self_eq_true]
   exact PySem.W.kat_yes (rD (i+1) hv hw (by omega) hf h)
  ·rw[if_neg hac]at h
   rw[beq_eq_false_iff_ne.mpr hac]
   exact PySem.W.kat_no (xP h)
theorem vZ{b:Bool}{x y:Addr}{xs ys:Array Value}{ns ms:List Bool}{Q:Bool->Shared->Prop}(hx:∃o n,s.heap.get? x=some o/\o.data=.seq xs n)(hy:∃o n,s.heap.get? y=some o/\o.data=.seq ys n)(bx:BoolsAre xs.toList ns)(by':BoolsAre ys.toList ms)
  (h:Q (iK ns ms) s):wpAny (model prog w) A (PyProof.Rows.keyLt' (PyProof.Rows.tuples' b) (.ref x) (.ref y)) Q E s:=by
 obtain⟨ox,nx,ex,dx⟩:=hx
 obtain⟨oy,ny,ey,dy⟩:=hy
 have l1:=bx.length
 have l2:=by'.length
 simp at l1 l2
 exact PySem.W.kat_lt ex dx ey dy (rD (nx:=xs.size) (ny:=ys.size) 0 bx by' (by omega) rfl h)
end
end Mini
end
section
namespace Mini
open PySem L2 PyProof.Rows
section
variable{prog:Program}{w:World}{A:Around}{E:Value->Shared->Prop}{s:Shared}
theorem tZ{a:Addr}{vs out:List Value}{n:Nat}{P:PySem.Fin->Shared->Prop}(ho:s.heap.get? a=some (seqObj "list" vs.toArray n))(h64:vs.length<64)(hl:out.length=vs.length)
  (h1:vs.length<2->out=vs)
  (h2:2<=vs.length->∀h':Heap,(∀b o,b≠a->s.heap.get? b=some o->h'.get? b=some o)->wpAny (model prog w) A (keyKind' vs.toArray) (fun κ s'=>s'={s with heap:=h'}/\
   (PySem.W.kas_sort vs.length).kasWp (PySem.W.kas_ask prog w A κ vs) (fun p s''=>s''={s with heap:=h'}/\(p.toList.map fun i=>vs.getD i Value.none)=out) s') (fun _ _=>False) {s with heap:=h'})
  (h:P (.done (.ret .none)) {s with heap:=sortedHeap s.heap a vs out.toArray}):
  wpAny (model prog w) A (Builtin.«list.sort» ⟨[.ref a],[]⟩) P E s:=by
 rw[list_sort_plain]
 have ha:a<s.heap.objs.size:=Heap.lt_size ho
 have hz:vs.length<=sizeLine:=by rw[sizeLine_eq];omega
 refine wpAny_bind (listItems_at ho rfl ?_)
 refine wpAny_bind (listUpdate_at ho rfl ?_ (by rw[List.size_toArray];exact hz) (Nat.zero_le _))
 obtain⟨e1,ho1⟩:∃e1,(s.heap.update a (Obj.mapSeq fun _=> #[])).get? a=some (seqObj "list" #[] e1):=⟨_,get?_update_seq ho (fun _=> #[])⟩
 refine wpAny_bind (seqEpoch_at ho1 rfl ?_)
 refine wpAny_bind (wpAny_newTuple ?_ (by show vs.length<=_;exact hz))
 refine wpAny_bind (wpAny_newList ?_ (Nat.zero_le _))
 refine wpAny_holding ?_
 have ho6:(((s.heap.update a (Obj.mapSeq fun _=> #[])).push (seqObj "tuple" vs.toArray 0)).push (seqObj "list" #[] 0)).get? a=some (seqObj "list" #[] e1):=by
  rw[Heap.get?_push_ne _ _ _ (by rw[size_push',Heap.size_update];exact Nat.ne_of_lt (Nat.lt_succ_of_lt ha)),Heap.get?_push_ne _ _ _ (by rw[Heap.size_update];exact Nat.ne_of_lt ha)]
  exact ho1
 have kp:∀b o,b≠a->s.heap.get? b=some o->(((s.heap.update a (Obj.mapSeq fun _=> #[])).push (seqObj "tuple" vs.toArray 0)).push (seqObj "list" #[] 0)).get? b=some o:=fun b o hb e=>
  Heap.get?_push_of_some _ (Heap.get?_push_of_some _ ((Heap.get?_update_other _ _ (Ne.symm hb)).trans e))
 show wpAny (model prog w) A _ P E {s with heap:=((s.heap.update a (Obj.mapSeq fun _=> #[])).push (seqObj "tuple" vs.toArray 0)).push (seqObj "list" #[] 0)}
 dsimp only
 by_cases hn:vs.toArray.size<2
 ·rw[if_pos hn,if_pos hn]
  refine wpAny_bind (wpAny_pure ?_)
  rw[StateT.run_pure]
  refine wpAny_bind (wpAny_pure ?_)
  dsimp only
  have em:(arrOf (SortSt.mk' general' (vs.toArray.zip vs.toArray) #[] 7 none)).map (·.2)=out.toArray:=by
   rw[h1 (by simpa using hn)]
   show(vs.toArray.zip vs.toArray).map (·.2)=_
   apply Array.toList_inj.mp
   simp[List.map_snd_zip]
  refine wpAny_bind (seqEpoch_at ho6 rfl ?_)
  rw[em]
  refine wpAny_bind (listUpdate_at ho6 rfl ?_ (Nat.zero_le _) (by show out.toArray.size<=_;rw[List.size_toArray];omega))
  simp only[bne_self_eq_false,Bool.false_eq_true,if_false]
  exact wpAny_pure h
 ·rw[if_neg hn,if_neg hn]
  have hn2:2<=vs.length:=by simpa using hn
  refine wpAny_bind (wpAny_mono (h2 hn2 _ kp) (fun κ s0 hk=>?_) fun _ _ x=>x.elim)
  obtain⟨rfl,hk⟩:=hk
  refine wpAny_bind (wpAny_mono (PySem.W.kat_run (Q:=fun st' s'=>∃p:Array Nat,arrOf st'=p.map (PySem.W.kas_item (vs.toArray.zip vs.toArray))/\failedOf st'=none/\s'={s with heap:=((s.heap.update a (Obj.mapSeq fun _=> #[])).push (seqObj "tuple" vs.toArray 0)).push (seqObj "list" #[] 0)}/\(p.toList.map fun i=>vs.getD i Value.none)=out)
   rfl hn2 h64 (fun p' st' s' a1 a2 a3 a4=>⟨p',a2,a3,a4.1,a4.2⟩) hk) ?_ fun _ _ e=>e)
  rintro ⟨⟨⟩,st'⟩ s' ⟨p,har,hf,rfl,hp⟩
  dsimp only
  have em:(arrOf st').map (·.2)=out.toArray:=by rw[PySem.W.kat_snds rfl har,hp]
  refine wpAny_bind (seqEpoch_at ho6 rfl ?_)
  rw[em]
  refine wpAny_bind (listUpdate_at ho6 rfl ?_ (Nat.zero_le _) (by show out.toArray.size<=_;rw[List.size_toArray];omega))
  rw[hf]
  simp only[bne_self_eq_false,Bool.false_eq_true,if_false]
  exact wpAny_pure h
theorem lr{l:Addr}{vs out:List Value}{Q:Value->Shared->Prop}(hls:s.heap.IsList l vs.toArray)(h64:vs.length<64)(hl:out.length=vs.length)(h1:vs.length<2->out=vs)
  (h2:2<=vs.length->∀h':Heap,(∀b o,s.heap.get? b=some o->h'.get? b=some o)->wpAny (model prog w) A.in1.in1 (keyKind' vs.toArray) (fun κ s'=>s'={s with heap:=h'}/\
   (PySem.W.kas_sort vs.length).kasWp (PySem.W.kas_ask prog w A.in1.in1 κ vs) (fun p s''=>s''={s with heap:=h'}/\(p.toList.map fun i=>vs.getD i Value.none)=out) s') (fun _ _=>False) {s with heap:=h'})
  (h:Q (.ref (s.heap.objs.size+1)) {s with heap:=sortedAll s.heap vs out.toArray}):
  wpAny (model prog w) A (call (.builtin "sorted") [.ref l]) Q E s:=by
 refine Calls.call_function_entry kind_sorted plain_sorted entry_sorted (args_sorted1 _) ?_
 unfold Builtin.«sorted»
 have hz:vs.length<=sizeLine:=by rw[sizeLine_eq];omega
 refine wpAny_bind (m:=checkCount "sorted" 1 1 _) (wpAny_pure ?_)
 refine wpAny_bind (collect_list hls ?_ hz)
 refine wpAny_bind (wpAny_newList ?_ hz)
 have hsz:((s.heap.push (seqObj "list" #[] 0)).update s.heap.objs.size (Obj.mapSeq (· ++vs.toArray))).objs.size=s.heap.objs.size+1:=by
  rw[Heap.size_update,size_push']
 have hoL:(((s.heap.push (seqObj "list" #[] 0)).update s.heap.objs.size (Obj.mapSeq (· ++vs.toArray))).push (seqObj "list" vs.toArray 0)).get? (s.heap.objs.size+1)=some (seqObj "list" vs.toArray 0):=by
  rw[<-hsz];exact Heap.get?_push_size _ rfl
 have keep:∀b o,s.heap.get? b=some o->(((s.heap.push (seqObj "list" #[] 0)).update s.heap.objs.size (Obj.mapSeq (· ++vs.toArray))).push (seqObj "list" vs.toArray 0)).get? b=some o:=fun b o q=>by
  have hlt:b<s.heap.objs.size:=Heap.lt_size q
  rw[Heap.get?_push_ne _ _ _ (by rw[hsz];exact Nat.ne_of_lt (Nat.lt_succ_of_lt hlt)),Heap.get?_update_ne _ _ _ _ (Nat.ne_of_lt hlt),Heap.get?_push_ne _ _ _ (Nat.ne_of_lt hlt)]
  exact q
 show wpAny _ _ _ _ _ {s with heap:=((s.heap.push (seqObj "list" #[] 0)).update s.heap.objs.size (Obj.mapSeq (· ++vs.toArray))).push (seqObj "list" vs.toArray 0)}
 rw[hsz]
 refine wpAny_bind (wpAny_holding (wpAny_call_entry slot_list_sort ⟨_,hoL,rfl⟩ entry_list_sort (tZ hoL h64 hl h1 (fun hn h' kp=>?_) ⟨_,rfl,?_⟩) (args_list_sort _)))
 ·exact h2 hn h' fun b o e=>kp b o (Nat.ne_of_lt (Nat.lt_succ_of_lt (Heap.lt_size e))) (keep b o e)
 ·exact wpAny_pure ⟨_,rfl,h⟩
theorem jM{α:Type}{cmp:Nat->Nat->(Bool->Shared->Prop)->Shared->Prop}{f:Nat->Nat->Option Bool}{Q:α->Shared->Prop}{a:α}(hc:∀i j b(C:Bool->Shared->Prop),f i j=some b->C b s->cmp i j C s):
  ∀(t:PySem.W.KasT α),Bc f t=some a->Q a s->t.kasWp cmp Q s
 |.ret x=>fun e q=>by cases e;exact q
 |.ask i j k=>fun e q=>by
  simp only[Bc]at e
  cases z:f i j with
  |none=>rw[z]at e;cases e
  |some b=>rw[z]at e;exact hc i j b _ z (jM hc (k b) e q)
end
end Mini
end
section
namespace Mini
open PySem L2
inductive fj(h:Heap):List Value->List (List Bool)->Prop
 |nil:fj h [] []
 |cons {a:Addr} {o:Obj} {arr:Array Value} {n:Nat} {b:Bool} {bs:List Bool} {vs:List Value} {rs:List (List Bool)}:h.get? a=some o->o.cls=.type "tuple"->o.data=.seq arr n->BoolsAre arr.toList (b::bs)->fj h vs rs->fj h (.ref a::vs) ((b::bs)::rs)
theorem fj.mono{h h':Heap}(k:∀b o,h.get? b=some o->h'.get? b=some o):∀{vs:List Value}{rs:List (List Bool)},fj h vs rs->fj h' vs rs
 |_,_,.nil=>.nil
 |_,_,.cons e c d b r=>.cons (k _ _ e) c d b (fj.mono k r)
theorem fj.tups{h:Heap}:∀{vs:List Value}{rs:List (List Bool)},fj h vs rs->∃fs,PySem.W.KatTups h vs fs/\fs.length=vs.length/\∀v∈fs,∃b,v=.bool b
 |_,_,.nil=>⟨[],PySem.W.KatTups.nil,rfl,fun v z=>nomatch z⟩
 |_,_,.cons (b:=b) e c d bb r=>by
  obtain⟨fs,t,l,f⟩:=r.tups
  have h0:∃x,(‹Array Value›)[0]? =some x/\x=.bool b:=by
   rename_i arr _ _ _ _
   cases q:arr.toList with
   |nil=>rw[q]at bb;cases bb
   |cons x xs=>
    rw[q]at bb
    cases bb
    refine⟨.bool b,?_,rfl⟩
    have:arr=(Value.bool b::xs).toArray:=by rw[<-q]
    rw[this]
    rfl
  obtain⟨x,hx,rfl⟩:=h0
  refine⟨.bool b::fs,PySem.W.KatTups.cons e c d hx t,by simp[l],fun v z=>?_⟩
  rcases List.mem_cons.mp z with rfl|z
  ·exact⟨b,rfl⟩
  ·exact f v z
theorem fj.at{h:Heap}:∀{vs:List Value}{rs:List (List Bool)},fj h vs rs->∀{i:Nat}{r:List Bool},rs[i]? =some r->∃a o arr n,vs.getD i Value.none=.ref a/\h.get? a=some o/\o.data=.seq arr n/\BoolsAre arr.toList r
 |_,_,.cons e c d b t,0,r,q=>by cases q;exact⟨_,_,_,_,rfl,e,d,b⟩
 |_,_,.cons e c d b t,i+1,r,q=>by
  obtain⟨a,o,arr,n,z⟩:=t.at (i:=i) (r:=r) (by simpa using q)
  exact⟨a,o,arr,n,by simpa using z⟩
theorem pM{K:PySem.W.Frag}{H:Hp}:∀{ys:List D}{bs:List Bool}{vs:List V}{us:List Value},bools ys=some bs->ao K H ys vs->Vals vs us->BoolsAre us bs
 |[],bs,vs,us,e,d,v=>by
  cases e
  rw[ao.bj.mp d]at v
  cases v
  exact .nil
 |y::ys,bs,vs,us,e,d,v=>by
  obtain⟨w,ws,rfl,h1,h2⟩:=ao.aW.mp d
  cases v with
  |cons r t=>
   cases y with
   |bl b=>
    simp only[bools]at e
    cases q:bools ys with
    |none=>rw[q]at e;cases e
    |some bs'=>
     rw[q]at e
     cases e
     cases h1
     cases r
     exact .cons b (pM q h2 t)
   |_=>simp[bools]at e
theorem yX{X:Cx}{pins:List (Addr×Obj)}{σ:St}{H:Hp}{s:Shared}(I:Inv X pins σ H s):∀{xs:List D}{rs:List (List Bool)}{vs:List V}{us:List Value},iH xs=some rs->ao X.K H xs vs->Vals vs us->fj s.heap us rs
 |[],rs,vs,us,e,d,v=>by
  cases e
  rw[ao.bj.mp d]at v
  cases v
  exact .nil
 |y::ys,rs,vs,us,e,d,v=>by
  obtain⟨w,ws,rfl,h1,h2⟩:=ao.aW.mp d
  cases v with
  |cons r t=>
   cases y with
   |tup zs=>
    simp only[iH]at e
    cases q:bools zs with
    |none=>rw[q]at e;cases e
    |some bs=>
     cases bs with
     |nil=>rw[q]at e;cases e
     |cons b bs=>
      rw[q]at e
      simp only at e
      cases q2:iH ys with
      |none=>rw[q2]at e;cases e
      |some rs'=>
       rw[q2]at e
       cases e
       obtain⟨a,us',rfl,hq,l⟩:=bQ h1
       cases r
       obtain⟨its,rr,⟨o,eo,c,n,dt⟩,_⟩:=I.tuple hq
       exact .cons eo c dt (by simpa using pM q l rr) (yX I q2 h2 t)
   |_=>simp[iH]at e
theorem jg{K:PySem.W.Frag}{H:Hp}{xs:List D}{vs:List V}{us:List Value}(d:ao K H xs vs)(v:Vals vs us):∀{is:List Nat}{ys:List D},pA xs is=some ys->∃ws,ao K H ys ws/\Vals ws (is.map fun i=>us.getD i Value.none)
 |[],ys,e=>by cases e;exact⟨[],ao.jc,.nil⟩
 |i::is,ys,e=>by
  simp only[pA]at e
  cases q:xs[i]? with
  |none=>rw[q]at e;cases e
  |some x=>
   rw[q]at e
   simp only[Option.bind_some]at e
   cases q2:pA xs is with
   |none=>rw[q2]at e;cases e
   |some ys'=>
    rw[q2]at e
    cases e
    obtain⟨ws,h1,h2⟩:=jg d v q2
    obtain⟨w,ew,dw⟩:=d.get q
    obtain⟨u,eu,ru⟩:=v.get ew
    refine⟨w::ws,ao.eE dw h1,?_⟩
    rw[List.map_cons]
    have:us.getD i Value.none=u:=by simp[List.getD,eu]
    rw[this]
    exact .cons ru h2
theorem yR{K:PySem.W.Frag}{H:Hp}:∀{xs:List D}{ss:List Str}{vs:List V}{us:List Value},nR xs=some ss->ao K H xs vs->Vals vs us->us.length=ss.length/\∀(i:Nat)x,ss[i]? =some x->∃t,us[i]? =some (.str x t)
 |[],ss,vs,us,e,d,v=>by
  cases e
  rw[ao.bj.mp d]at v
  cases v
  exact⟨rfl,fun i x z=>by simp at z⟩
 |y::ys,ss,vs,us,e,d,v=>by
  obtain⟨w,ws,rfl,h1,h2⟩:=ao.aW.mp d
  cases v with
  |cons r t=>
   cases y with
   |str x=>
    simp only[nR]at e
    cases q:nR ys with
    |none=>rw[q]at e;cases e
    |some ss'=>
     rw[q]at e
     cases e
     obtain⟨i1,i2⟩:=yR q h2 t
     cases h1
     obtain⟨tk,rfl⟩:=r
     refine⟨by simp[i1],fun i z ez=>?_⟩
     cases i with
     |zero=>simp at ez;subst ez;exact⟨tk,rfl⟩
     |succ i=>simpa using i2 i z (by simpa using ez)
   |_=>simp[nR]at e
theorem dF.acj{K:PySem.W.Frag}{H:Hp}{xs:List D}{v:V}(h:dF K H (.lst xs) v):∃a vs,v=.ref a/\iU K H a vs/\ao K H xs vs:=by
 rcases h with h|⟨o,a,q,rfl,u,ha,hq⟩
 ·obtain⟨a,vs,rfl,hq,l⟩:=cP h
  exact⟨a,vs,rfl,hq.sq,l⟩
 ·cases o<;>cases q
  obtain⟨vs,rfl,l⟩:=hq
  exact⟨a,vs,rfl,.inl (.inl ha),l⟩
def Ol(K:PySem.W.Frag):List V->Hp->VK->Prop:=fun us H Q=>∃l vs xs ys,us=[.ref l]/\iU K H l vs/\ao K H xs vs/\lX xs=some ys/\∀ws,ao K H ys ws->∀a,H a=none->Q (.ref a) (upd H a (.lst ws))
section
variable{X:Cx}
theorem uG:eF X (.builtin "sorted") (Ol X.K):=by
 intro pins s σ H us ws Q I r h
 obtain⟨l,vs,xs,ys,rfl,hq,dl,es,q⟩:=h
 obtain⟨u,rfl,ru⟩:=vals1 r
 cases ru
 obtain⟨its,rr,pl,hz⟩:=I.list hq
 have lx:=dl.length
 have lv:=rr.length
 have fin:∀(zs:List V)(out:List Value),ao X.K H ys zs->Vals zs out->out.length<=sizeLine->EP X pins σ Q (.ref (s.heap.objs.size+1)) {s with heap:=PyProof.Rows.sortedAll s.heap its out.toArray}:=fun zs out d v lz=>by
  obtain⟨e,ea⟩:=PyProof.Rows.sortedAll_at s.heap its out.toArray
  exact⟨.ref (s.heap.objs.size+1),_,I.laid (t':=s.toks) (fun b o x=>PyProof.Rows.sortedAll_old x) (Nat.le_succ _) (show bN X.prog X.w _ _ _ (.lst zs)from⟨by rw[v.length];exact lz,out,e,v,ea⟩),rfl,q zs d _ (I.hok.fresh (Nat.le_succ _))⟩
 unfold lX at es
 by_cases h1:xs.length<2
 ·rw[if_pos h1]at es
  cases es
  exact lr pl.isList (by omega) rfl (fun _=>rfl) (fun z=>absurd z (by omega)) (fin vs its dl rr (by omega))
 ·rw[if_neg h1]at es
  by_cases h64:xs.length<64
  ·rw[if_pos h64]at es
   unfold ZM at es
   cases e1:iH xs with
   |none=>
    rw[e1]at es
    simp only at es
    cases e5:nR xs with
    |none=>rw[e5]at es;cases es
    |some ss=>
     rw[e5]at es
     simp only[Option.map_some,Option.bind_some]at es
     cases e2:Bc (M3 ss) (PySem.W.kas_sort xs.length)with
     |none=>rw[e2]at es;cases es
     |some p=>
      rw[e2]at es
      simp only[Option.bind_some]at es
      by_cases e3:p.size=xs.length
      ·rw[if_pos e3]at es
       obtain⟨zs,d,v⟩:=jg dl rr es
       obtain⟨sl,sa⟩:=yR e5 dl rr
       have lo:(p.toList.map fun i=>its.getD i Value.none).length=its.length:=by rw[List.length_map,Array.length_toList];omega
       refine lr pl.isList (by omega) lo (fun z=>absurd z (by omega)) (fun h2 h' kp=>?_) (fin zs _ d v (by omega))
       refine PySem.W.kas_kind (T:=.type "str") h2 (fun v hv=>?_) (by decide) (by decide) ⟨rfl,?_⟩
       ·obtain⟨i,hi,rfl⟩:=List.mem_iff_getElem.mp hv
        obtain⟨t,et⟩:=sa i (ss[i]'(by omega)) (List.getElem?_eq_getElem (by omega))
        rw[List.getElem?_eq_getElem hi]at et
        rw[Option.some.inj et]
        exact PySem.W.Looks.of_pure rfl
       ·have el:its.length=xs.length:=by omega
        rw[el]
        refine jM (f:=M3 ss) (fun i j b C e c=>?_) _ e2 ⟨rfl,rfl⟩
        unfold M3 at e
        cases ei:ss[i]? with
        |none=>rw[ei]at e;cases e
        |some xi=>
         cases ej:ss[j]? with
         |none=>rw[ei,ej]at e;cases e
         |some xj=>
          rw[ei,ej]at e
          cases e
          obtain⟨t1,z1⟩:=sa i xi ei
          obtain⟨t2,z2⟩:=sa j xj ej
          show wpAny _ _ (PyProof.Rows.keyLt' _ (its.getD i Value.none) (its.getD j Value.none)) _ _ _
          rw[List.getD_eq_getElem?_getD,List.getD_eq_getElem?_getD,z1,z2]
          exact PySem.W.kas_lt_str c
      ·rw[if_neg e3]at es;cases es
   |some rs=>
    rw[e1]at es
    simp only[Option.bind_some]at es
    cases e2:Bc (M4 rs) (PySem.W.kas_sort xs.length)with
    |none=>rw[e2]at es;cases es
    |some p=>
     rw[e2]at es
     simp only[Option.bind_some]at es
     by_cases e3:p.size=xs.length
     ·rw[if_pos e3]at es
      obtain⟨zs,d,v⟩:=jg dl rr es
      have RA:=yX I e1 dl rr
      have lo:(p.toList.map fun i=>its.getD i Value.none).length=its.length:=by rw[List.length_map,Array.length_toList];omega
      refine lr pl.isList (by omega) lo (fun z=>absurd z (by omega)) (fun _ h' kp=>?_) (fin zs _ d v (by omega))
      have RA':=RA.mono kp
      obtain⟨fs,t,lf,fb⟩:=RA'.tups
      refine PySem.W.kat_kind (T:=.type "bool") t (by omega) (fun v hv=>?_) (by decide) ⟨rfl,?_⟩
      ·obtain⟨b,rfl⟩:=fb v hv
       exact PySem.W.Looks.of_pure rfl
      ·have el:its.length=xs.length:=by omega
       rw[el]
       refine jM (f:=M4 rs) (fun i j b C e c=>?_) _ e2 ⟨rfl,rfl⟩
       unfold M4 at e
       cases ei:rs[i]? with
       |none=>rw[ei]at e;cases e
       |some ri=>
        cases ej:rs[j]? with
        |none=>rw[ei,ej]at e;cases e
        |some rj=>
         rw[ei,ej]at e
         cases e
         obtain⟨ai,oi,arri,ni,x1,x2,x3,x4⟩:=RA'.at ei
         obtain⟨aj,oj,arrj,nj,y1,y2,y3,y4⟩:=RA'.at ej
         show wpAny _ _ (PyProof.Rows.keyLt' _ (its.getD i Value.none) (its.getD j Value.none)) _ _ _
         rw[x1,y1]
         exact vZ ⟨oi,ni,x2,x3⟩ ⟨oj,nj,y2,y3⟩ x4 y4 c
     ·rw[if_neg e3]at es;cases es
  ·rw[if_neg h64]at es;cases es
theorem xf:mV X (Ol X.K) (b1 .sorted):=by
 intro env σ H x z v Q S Dx e q
 simp only[b1]at e
 cases x with
 |lst xs=>
  simp only[fQ,Option.bind_some,V2]at e
  cases es:lX xs with
  |none=>rw[es]at e;cases e
  |some ys=>
   rw[es]at e
   cases e
   obtain⟨a,vs,rfl,hq,l⟩:=Dx.acj
   exact⟨a,vs,xs,ys,rfl,hq,l,es,fun ws d p hp=>q _ _ (Nx.laid S hp) (jZ S d hp)⟩
 |_=>simp[fQ]at e
end
end Mini
end
section
namespace Mini
open PySem L2
section
variable{X:Cx}{W:Wi}{c:Cf}{m m1 m2 m3:E}{e a b:Expr}{pos:Pos}
theorem Ub{k:Nat}{x:Str}(nm:fZ X k x):GE X W c (.ref k) (.Name x pos):=by
 intro env
 refine PE.imp nm.pe fun σ H Q q=>?_
 simp only[DG]at q
 have go:∀o,(env[k]? =some (.own o)\/env[k]? =some (.bor o))->tM X.K W env (.ok (.ref k) env) σ H Q->Av k σ H Q:=fun o e q=>by
  have:∃a,(σ[k]?).join=some (.ref a):=by
   rcases e with e|e
   ·obtain⟨a,z,_⟩:=q.1.sl k _ e;exact⟨a,z⟩
   ·obtain⟨a,z,_⟩:=q.1.sl k _ e;exact⟨a,z⟩
  obtain⟨a,z⟩:=this
  exact⟨.ref a,bJ z,q.2 _ H (Nx.refl q.1) (bJ z)⟩
 cases e:env[k]? with
 |none=>rw[e]at q;exact q.2.elim
 |some s=>
  rw[e]at q
  cases s with
  |un=>exact q.2.elim
  |val d=>exact q.2.elim
  |own o=>exact go o (.inl e) q
  |bor o=>exact go o (.inr e) q
theorem T9(h:GE X W c m e):GE X W c (.tmp m) e:=by
 intro env
 refine PE.imp (h env) fun σ H Q q=>?_
 simp only[Jy]at q
 refine⟨q.1,?_⟩
 have q2:=q.2
 cases r:ev c m env with
 |bad=>rw[r]at q2;exact q2
 |exc k env1=>rw[r]at q2;exact q2
 |ok x env1=>
  rw[r]at q2
  cases x with
  |val d=>exact False.elim q2
  |ref i=>exact False.elim q2
  |tmp o=>exact False.elim q2
  |new o=>exact q2
theorem Ek{K:PySem.W.Frag}{env:Ev}{σ:St}{H:Hp}{r:Out Rv}{f:Bool->Ev->Out Rv}{Q R:Bool->Hp->Prop}(h:tT K W env (r.bR gR f) σ H Q)
  (k:∀b env1 H1,Nx K env σ H env1 H1->tT K W env1 (f b env1) σ H1 Q->R b H1):tT K W env r σ H R:=by
 have step:∀d env1 x,x.jz=some d->r=.ok x env1->∃b,gR d=some b/\∀H1,Nx K env σ H env1 H1->R b H1:=fun d env1 x ex er=>by
  subst er
  cases q:gR d with
  |none=>
   cases x with
   |val d'=>cases ex;simp only[Out.bR,Out.ak,q]at h;exact h.2.elim
   |new xs=>cases ex;simp only[Out.bR,Out.ak,q]at h;exact h.2.elim
   |ref i=>cases ex
   |tmp xs=>cases ex
  |some b=>
   refine⟨b,rfl,fun H1 N=>k b env1 H1 N (Oc ?_ N)⟩
   cases x with
   |val d'=>cases ex;simp only[Out.bR,Out.ak,q]at h;exact h
   |new xs=>cases ex;simp only[Out.bR,Out.ak,q]at h;exact h
   |ref i=>cases ex
   |tmp xs=>cases ex
 refine⟨h.1,?_⟩
 cases r with
 |bad=>exact h.2
 |exc c env1=>exact h.2
 |ok x env1=>
  cases x with
  |val d=>obtain⟨b,e,q⟩:=step d env1 _ rfl rfl;exact⟨d,b,rfl,e,q⟩
  |new xs=>obtain⟨b,e,q⟩:=step xs.d env1 _ rfl rfl;exact⟨xs.d,b,rfl,e,q⟩
  |ref i=>exact h.2.elim
  |tmp xs=>exact h.2.elim
theorem TF{t:Expr}(ht:GT X W c m1 t)(ha:GT X W c m2 a)(hb:GT X W c m3 b):GT X W c (.ite m1 m2 m3) (.IfExp t a b pos):=by
 intro pins s σ H Q I ⟨env,q⟩
 have e:∀w,isTrue (.IfExp t a b pos) X.env w=(isTrue t X.env (eval t X.env)>>=fun q=>if q=true then isTrue a X.env (eval a X.env)else isTrue b X.env (eval b X.env)):=fun w=>by first|rfl|rw[PySem.isTrue]|simp only[PySem.isTrue]
 rw[e]
 simp only[DK]at q
 refine wpAny_bind (bV (ht pins s σ H (fun k H1=>∃env1,tT X.K W env1 (if k=true then ev c m2 env1 else ev c m3 env1) σ H1 Q) I ⟨env,Ek q fun k env1 H1 N q1=>⟨env1,q1⟩⟩) fun k s1⟨H1,I1,env1,q1⟩=>?_)
 cases k with
 |true=>rw[if_pos rfl]at q1⊢;exact ha pins s1 σ H1 Q I1 ⟨env1,q1⟩
 |false=>rw[if_neg Bool.false_ne_true]at q1⊢;exact hb pins s1 σ H1 Q I1 ⟨env1,q1⟩
end
end Mini
end
section
namespace Mini
open PySem L2
section
variable{X:Cx}{W:Wi}{c:Cf}{m m1 m2 m3:E}{o a b e:Expr}{pos p p2 apos cpos:Pos}{name:Str}
end
end Mini
end
section
namespace Mini
open PySem L2
section
variable{X:Cx}{W:Wi}{c:Cf}{m m1 m2 m3:E}{o a b e f:Expr}{pos p apos cpos:Pos}
def aA(X:Cx)(W:Wi)(c:Cf)(m:E):TE:=fun σ H Q=>∃env,tA X.K W env (ev c m env) σ H Q
inductive Kv(X:Cx)(W:Wi)(c:Cf):E->List (Option Expr)->List Expr->List (TE×TE)->Prop
 |nil:Kv X W c .nil [] [] []
 |cons {k v r:E} {ke ve:Expr} {ks:List (Option Expr)} {vs:List Expr} {Eb:List (TE×TE)}:GE X W c k ke->GE X W c v ve->Kv X W c r ks vs Eb->Kv X W c (.cons k (.cons v r)) (some ke::ks) (ve::vs) ((aA X W c k,aA X W c v)::Eb)
end
end Mini
end
section
namespace Mini
open PySem
structure Ct where
 N:List Str
 sc:Scope
 fns:List (Str×List Bool)
 iR:List Str
 exs:List Str:=[]
def lL:List Str->Str->Option Nat
 |[],_=>none
 |y::r,x=>if x=y then some 0 else(lL r x).map (· +1)
def HB:Const->Option D
 |.none=>some .non
 |.bool b=>some (.bl b)
 |.int i=>some (.int i)
 |.str x=>some (.str x)
 |_=>none
def QH(sc:Scope)(x:Str):Bool:=match sc.names.lookup x with
 |some .local=>true
 |some .cell=>true
 |some .free=>true
 |_=>false
def yc(sc:Scope)(x:Str):Bool:=sc.names.lookup x==some .globalImplicit
def Gi(x:Str):Bool:= !(x==("__debug__":Str))&& !(x==("__classdict__":Str))
def gW(C:Ct)(x:Str):Option E:=
 if Gi x then
  match lL C.N x with
  |some k=>if QH C.sc x then some (.var k)else none
  |none=>if yc C.sc x then(lL C.iR x).map .glob else none
 else none
def opB:Operator->Option Ji
 |.Add=>some .add
 |.Sub=>some .sub
 |.Mult=>some .mul
 |.Mod=>some .mod
 |.FloorDiv=>some .fdiv
 |.Pow=>some .pow
 |_=>none
def cmB:CmpOp->Option Cm
 |.Eq=>some .eq
 |.NotEq=>some .ne
 |.Lt=>some .lt
 |.LtE=>some .le
 |.Gt=>some .gt
 |.GtE=>some .ge
 |.In=>some .isin
 |.NotIn=>some .notin
 |.Is=>some .je
 |.IsNot=>some .notN
def tyB(x:Str):Option Ty:=
 if x="tuple" then some .tup else if x="list" then some .lst else if x="str" then some .str else if x="bool" then some .bool else if x="int" then some .int else if x="dict" then some .dG else none
def biB(x:Str):Option Bi:=
 if x="len" then some .len else if x="int" then some .int else if x="tuple" then some .tuple else if x="list" then some .list else if x="all" then some .all else if x="any" then some .any
 else if x="sorted" then some .sorted else if x="dict" then some .dict else none
def plain:Expr->Bool
 |.BoolOp .. |.BinOp .. |.UnaryOp .. |.IfExp .. |.ListComp .. |.Compare .. |.Call .. |.Constant .. |.Subscript .. |.Name .. |.List .. |.Tuple .. |.Dict .. =>true
 |_=>false
def E.Pq:E->Bool
 |.nil=>true
 |_=>false
def fnAt(C:Ct)(x:Str):Option (Nat×List Bool):=(lL (C.fns.map (·.1)) x).bind fun g=>(C.fns[g]?).map fun p=>(g,p.2)
def oh(scope outer:Scope):Scope:=
 {scope with names:=scope.names.map fun(n,k)=>if (k== .free&&outer.kind== .function&&outer.names.lookup n==some .cell)then(n,.cell)else(n,k)}
def n6(tgs N:List Str):List Str:=tgs++N.map fun x=>if tgs.contains x then(".":Str)++x else x
def qi:Expr->Option Str
 |.Name x _=>some x
 |_=>none
def QT:Expr->Option (List Str×Tg)
 |.Name x _=>some ([x],.name 0)
 |.Tuple es _ _=>(es.mapM qi).map fun xs=>(xs,.tup (List.range xs.length))
 |_=>none
def Rc(outer inner:Scope)(tgs N:List Str):Bool:=
 decide (inner.kind=.function)&&decide ((n6 tgs N).Nodup)
 &&(inner.names.all fun p=>(p.2 != .local)||((tgs.contains p.1||p.1==(".0":Str))&&inner.names.lookup p.1==some .local))
 &&(tgs.all fun x=>inner.names.lookup x==some .local)
 &&(inner.names.all fun p=>p.2 != .cell)
 &&(inner.names.all fun p=>(p.2 != .free)||outer.names.lookup p.1==some .cell||outer.names.lookup p.1==some .free)
 &&(N.all fun x=> !tgs.contains x||(inner.names.lookup ((".":Str)++x)).isNone)
 && !N.contains (".0":Str)
def isCall:Expr->Bool
 |.Call .. =>true
 |_=>false
def xQ(ap cp:Pos):Bool:=ap.endLine==cp.line
mutual
def dY:Nat->Ct->Expr->Option E
 |0,_,_=>none
 |n+1,C,e=>match e with
  |.Constant k _ _=>(HB k).map .con
  |.Name x _=>gW C x
  |.Tuple es _ _=>(sU n C es).map .tup
  |.List es _=>(sU n C es).map .lis
  |.BinOp a o b _=>(opB o).bind fun o=>(dY n C a).bind fun a=>(dY n C b).map fun b=>.op o a b
  |.UnaryOp o a _=>match o with
   |.USub=>(dY n C a).map .neg
   |.Not=>(dY n C a).map .not
   |_=>none
  |.BoolOp o es _=>(sU n C es).bind fun m=>if m.Pq then none else match o with
   |.And=>some (.and m)
   |.Or=>some (.or m)
  |.Compare a ops cs _=>match ops,cs with
   |[o],[b]=>(cmB o).bind fun o=>(dY n C a).bind fun a=>(dY n C b).map fun b=>.cmp o a b
   |[o,o2],[b,d]=>(cmB o).bind fun o=>(cmB o2).bind fun o2=>(dY n C a).bind fun a=>(dY n C b).bind fun b=>(dY n C d).map fun d=>.chain o o2 a b d
   |_,_=>none
  |.IfExp t a b _=>(dY n C t).bind fun t=>(dY n C a).bind fun a=>(dY n C b).map fun b=>.ite t a b
  |.Subscript a i _=>match i with
   |.Slice lo hi st _=>match st with
    |none=>(dY n C a).bind fun a=>(QS n C lo).bind fun lo=>(QS n C hi).map fun hi=>.slc a lo hi
    |some _=>none
   |i=>(dY n C a).bind fun a=>(dY n C i).map fun i=>.idx a i
  |.Call f args kw cp=>match kw with
   |[]=>match f with
    |.Name x _=>if Gi x&&yc C.sc x then(match fnAt C x with
      |some (g,fl)=>(Di n C fl args).bind fun m=>if m.Pq then none else some (.call g m)
      |none=>WF n C x args)else none
    |.Attribute o name ap=>if xQ ap cp then(match args with
      |[e]=>if name="count" then(dY n C o).bind fun m1=>(if plain o&& !isCall o then some ()else none).bind fun _=>(dY n C e).map fun m2=>.count m1 m2
       else if name="pop" then(match o with
        |.Name x _=>(gW C x).bind fun m=>match m with
         |.var k=>(dY n C e).map fun m2=>.popAt k m2
         |_=>none
        |_=>none)
       else none
      |_=>none)else none
    |_=>none
   |_=>none
  |.ListComp elt gens sc _=>match gens with
   |[g]=>WD n C elt g sc
   |_=>none
  |_=>none
def Ec:Nat->Ct->List (Option Expr)->List Expr->Option E
 |0,_,_,_=>none
 |n+1,C,ks,vs=>match ks,vs with
  |[],[]=>some .nil
  |some k::ks,v::vs=>(dY n C k).bind fun k=>(dY n C v).bind fun v=>(Ec n C ks vs).map fun r=>.cons k (.cons v r)
  |_,_=>none
def WD:Nat->Ct->Expr->Comprehension->Scope->Option E
 |0,_,_,_,_=>none
 |n+1,C,elt,g,sc=>if g.is_async=0 then(QT g.target).bind fun(tgs,tg)=>
   if Rc C.sc sc tgs C.N then
    let C2:Ct:={C with N:=n6 tgs C.N,sc:=oh sc C.sc}
    (Vl n C g.iter).bind fun it=>(match g.ifs with
     |[]=>some (E.con (.bl true))
     |[c]=>dY n C2 c
     |_=>none).bind fun cond=>(dY n C2 elt).map fun m=>.comp tgs.length tg it cond m
   else none else none
def Vl:Nat->Ct->Expr->Option E
 |0,_,_=>none
 |n+1,C,e=>match e with
  |.Call f args kw cp=>match f,args,kw with
   |.Name x _,[a],[]=>if x="range"&&yc C.sc x&&(fnAt C x).isNone then(dY n C a).map .range1 else dY n C e
   |.Name x _,[a,b],[]=>if x="zip"&&yc C.sc x&&(fnAt C x).isNone then(dY n C a).bind fun a=>(dY n C b).map fun b=>.zip a b else dY n C e
   |_,_,_=>dY n C e
  |_=>dY n C e
def WF:Nat->Ct->Str->List Expr->Option E
 |0,_,_,_=>none
 |n+1,C,x,args=>match args with
  |[a,t]=>if x="isinstance" then(match t with
    |.Name y _=>if yc C.sc y then(tyB y).bind fun t=>(dY n C a).map fun a=>.isi a t else none
    |_=>none)else none
  |[a]=>(biB x).bind fun b=>(dY n C a).bind fun m=>if b=.dict&&m.au.isSome then some (.bi b (.rd m))else some (.bi b m)
  |_=>none
def Di:Nat->Ct->List Bool->List Expr->Option E
 |0,_,_,_=>none
 |n+1,C,fl,es=>match fl,es with
  |[],[]=>some .nil
  |false::fl,e::es=>(dY n C e).bind fun m=>(Di n C fl es).map fun ms=>.cons m ms
  |true::fl,e::es=>(match e with
    |.Name x _=>(gW C x).bind fun m=>match m with
     |.var k=>some (E.ref k)
     |_=>none
    |e=>(dY n C e).map E.tmp).bind fun m=>(Di n C fl es).map fun ms=>.cons m ms
  |_,_=>none
def QS:Nat->Ct->Option Expr->Option E
 |0,_,_=>none
 |n+1,C,o=>match o with
  |none=>some .noneE
  |some e=>dY n C e
def sU:Nat->Ct->List Expr->Option E
 |0,_,_=>none
 |n+1,C,es=>match es with
  |[]=>some .nil
  |e::es=>(dY n C e).bind fun m=>(sU n C es).map fun ms=>.cons m ms
end
def xq(C:Ct)(e f:Option Expr):Nat:=match e,f with
 |some (.Call (.Name x _) [.Constant (.str _) _ _] [] _),none=>if yc C.sc x&&Gi x then(match lL C.exs x with|some k=>k+1|none=>0)else 0
 |_,_=>0
def By(sc:Scope)(x:Str):Bool:=sc.names.lookup x==some .local||sc.names.lookup x==some .cell
def slotsOf(C:Ct):List Expr->Option (List Nat)
 |[]=>some []
 |.Name x _::es=>if By C.sc x then(lL C.N x).bind fun i=>(slotsOf C es).map (i:: ·)else none
 |_=>none
def Ei(C:Ct):Expr->Option Tg
 |.Name x _=>if By C.sc x then(lL C.N x).map .name else none
 |.Tuple es _ _=>(slotsOf C es).map .tup
 |_=>none
def isTup:Expr->Bool
 |.Tuple .. =>true
 |_=>false
def lM:Expr->Bool
 |.ListComp .. =>true
 |_=>false
def isSlice:Expr->Bool
 |.Slice .. =>true
 |_=>false
mutual
def N8:Nat->Ct->Stmt->Option S
 |0,_,_=>none
 |n+1,C,st=>match st with
  |.Return v _=>match v with
   |none=>some (.ret (.con .non))
   |some e=>(dY n C e).map .ret
  |.Assign ts e _=>match ts with
   |[t]=>match t with
    |.Name x _=>if By C.sc x then(lL C.N x).bind fun i=>(dY n C e).map fun m=>.set i m else none
    |.Tuple es _ _=>if isTup e||lM e then none else(slotsOf C es).bind fun is=>(dY n C e).map fun m=>.setT is m
    |.Subscript o ix _=>match o with
     |.Name x _=>if lM e||isSlice ix then none else(gW C x).bind fun v=>match v with
      |.var k=>(dY n C ix).bind fun i=>(dY n C e).map fun m=>.setIx k i m
      |_=>none
     |_=>none
    |_=>none
   |_=>none
  |.Expr e _=>match e with
   |.Call f args kw cp=>match f,args,kw with
    |.Attribute o name ap,[a],[]=>match o with
     |.Name x _=>if xQ ap cp&&name="append" then(gW C x).bind fun v=>(match v with
       |.var k=>(dY n C a).map fun m=>.append k m
       |_=>none)
      else if xQ ap cp&&name="extend" then(gW C x).bind fun v=>(match v with
       |.var k=>(dY n C a).map fun m=>.extend k m
       |_=>none)
      else(dY n C e).map .expr
     |_=>none
    |_,_,_=>(dY n C e).map .expr
   |_=>none
  |.If t a b _=>(dY n C t).bind fun t=>(nO n C a).bind fun a=>(nO n C b).map fun b=>.ite t a b
  |.For tg it b el _=>match el with
   |[]=>(Ei C tg).bind fun tg=>(Vl n C it).bind fun it=>(nO n C b).map fun b=>.for_ tg it b
   |_=>none
  |.While t b el _=>match el with
   |[]=>(dY n C t).bind fun t=>(nO n C b).map fun b=>.while_ t b
   |_=>none
  |.Raise e f _=>some (.raise (xq C e f))
  |_=>none
def nO:Nat->Ct->List Stmt->Option S
 |0,_,_=>none
 |n+1,C,ss=>match ss with
  |[]=>some .nil
  |s::ss=>(N8 n C s).bind fun m=>(nO n C ss).map fun ms=>.cons m ms
end
end Mini
end
section
namespace Mini
open PySem L2
def nA:List Str:=["isinstance","tuple","list","str","bool","int","dict","len","all","any","sorted","zip","range"]
def U6(X:Cx)(c:Cf)(g:Nat)(x:Str):Prop:=∃k f fd ps,fX X.prog X.w X.K X.mg X.base wM k f fd ps (jU X.K ps.length (c.fn g))/\gD k X.A/\X.mg x=some (.ref f)/\PySem.W.keepIn X.K (.ref f)=true/\Binds X.K fd ps []/\∀sl,c.fn g sl=.bad\/sl.length=ps.length
structure iz(C:Ct)(X:Cx)(c:Cf):Prop where
 N:X.N=C.N
 sc:X.env.scope=C.sc
 nd:C.N.Nodup
 calm:X.calm=true
 hu:X.A.units+60<cLine
 bi:∀x∈nA,X.mg x=none
 gl:∀k x,C.iR[k]? =some x->∃d,c.gl k=some d/\Z5 X x d
 fn:∀g x fl,C.fns[g]? =some (x,fl)->U6 X c g x
structure Sd(X:Cx)(c:Cf)(m:E)(e:Expr):Prop where
 ge:GE X W0 c m e
 gt:GT X W0 c m e
 pl:plain e=true
 va:∀k,m.au=some k->∃x p,e=.Name x p/\fZ X k x
 nn:m.je=false
theorem gj:∀{N:List Str}{x:Str}{k:Nat},lL N x=some k->N[k]? =some x
 |[],_,_,h=>by cases h
 |y::r,x,k,h=>by
  unfold lL at h
  split at h
  ·rename_i e;cases h;subst e;rfl
  ·cases q:lL r x with
   |none=>rw[q]at h;cases h
   |some j=>rw[q]at h;cases h;simpa using gj q
theorem QG{sc:Scope}{x:Str}(h:QH sc x=true):UW sc x:=by
 unfold QH at h
 unfold UW
 cases q:sc.names.lookup x with
 |none=>rw[q]at h;cases h
 |some k=>rw[q]at h;cases k<;>simp at h<;>simp
theorem tX{x:Str}(h:Gi x=true):(x==("__debug__":Str))=false/\(x==("__classdict__":Str))=false:=by
 unfold Gi at h
 rw[Bool.and_eq_true]at h
 exact⟨by simpa using h.1,by simpa using h.2⟩
section
variable{C:Ct}{X:Cx}{c:Cf}{e a b:Expr}{m m1 m2 m3:E}{pos p:Pos}{x:Str}
theorem pq(O:iz C X c)(h:yc C.sc x=true):Gl X x:=by
 unfold yc at h
 show X.env.scope.names.lookup x=_
 rw[O.sc]
 simpa using h
theorem cj(h:plain e=true)(es:List Expr)(env:Env):starEach (e::es) env=(false,eval e env)::starEach es env:=by
 cases e<;>first|rfl|exact absurd (show false=true from h) Bool.false_ne_true
theorem oO(h:plain e=true)(o:CmpOp):behindInMarks o e=false:=by
 cases e<;>first|rfl|exact absurd (show false=true from h) Bool.false_ne_true
theorem uq(h:plain e=true)(env:Env)(x:Value):foldedSetIterable e env x=pure x:=by
 cases e<;>first|rfl|exact absurd (show false=true from h) Bool.false_ne_true
theorem xH(h:plain e=true):uL e:=by
 intro o i
 cases e<;>first|rfl|exact absurd (show false=true from h) Bool.false_ne_true
def tame:Expr->Bool
 |.UnaryOp .Not .. |.BoolOp .. |.IfExp .. |.Compare .. =>false
 |_=>true
theorem Hc(h:GE X W0 c m e)(hp:plain e=true)(ht:tame e=true):GT X W0 c m e:=by
 refine h.t fun whole=>?_
 cases e with
 |UnaryOp o a q=>cases o<;>first|rfl|exact absurd (show false=true from ht) Bool.false_ne_true
 |_=>first|rfl|exact absurd (show false=true from hp) Bool.false_ne_true|exact absurd (show false=true from ht) Bool.false_ne_true
theorem yW(O:iz C X c)(h:gW C x=some m):Sd X c m (.Name x p):=by
 unfold gW at h
 split at h
 ·rename_i nb
  obtain⟨n1,n2⟩:=tX nb
  cases q:lL C.N x with
  |some k=>
   rw[q]at h
   simp only at h
   split at h
   ·rename_i hv
    cases h
    have nm:fZ X k x:=⟨by rw[O.N];exact gj q,by rw[O.sc];exact QG hv,n1,n2⟩
    exact⟨nm.ge,Hc nm.ge rfl rfl,rfl,fun k' e=>by cases e;exact⟨x,p,rfl,nm⟩,rfl⟩
   ·cases h
  |none=>
   rw[q]at h
   simp only at h
   split at h
   ·rename_i hg
    cases q2:lL C.iR x with
    |none=>rw[q2]at h;cases h
    |some k=>
     rw[q2]at h
     cases h
     obtain⟨d,hk,ok⟩:=O.gl k x (gj q2)
     have ge:GE X W0 c (.glob k) (.Name x p):=Mm hk ok (pq O hg) n1
     exact⟨ge,Hc ge rfl rfl,rfl,fun k' e=>(by cases e),rfl⟩
   ·cases h
 ·cases h
theorem vM(O:iz C X c){k:Nat}(h:gW C x=some (.var k)):fZ X k x:=by
 obtain⟨y,q,e,nm⟩:=(yW (p:=default) O h).va k rfl
 cases e
 exact nm
inductive Al(X:Cx)(c:Cf):E->List Expr->Prop
 |nil:Al X c .nil []
 |cons {m ms:E} {e:Expr} {es:List Expr}:Sd X c m e->Al X c ms es->Al X c (.cons m ms) (e::es)
theorem Al.ga:∀{ms:E}{es:List Expr},Al X c ms es->GA X W0 c ms es
 |_,_,.nil=>yf
 |_,_,.cons h t=>m8 h.ge t.ga (cj h.pl _ _)
theorem Al.and{es:List Expr}:∀{m ms:E}{e:Expr},Al X c (.cons m ms) (e::es)->GE X W0 c (.and (.cons m ms)) (.BoolOp .And (e::es) pos)/\GW X W0 c (.and (.cons m ms)) (.BoolOp .And (e::es) pos):=by
 induction es with
 |nil=>intro m ms e h;cases h with|cons h t=>cases t;exact⟨Ms h.ge,Mf h.gt⟩
 |cons e2 es ih=>intro m ms e h;cases h with|cons h t=>cases t with|cons h2 t=>exact⟨Um h.ge (ih (.cons h2 t)).1,TQ h.gt (ih (.cons h2 t)).2⟩
theorem Al.or{es:List Expr}:∀{m ms:E}{e:Expr},Al X c (.cons m ms) (e::es)->GE X W0 c (.or (.cons m ms)) (.BoolOp .Or (e::es) pos)/\GW X W0 c (.or (.cons m ms)) (.BoolOp .Or (e::es) pos):=by
 induction es with
 |nil=>intro m ms e h;cases h with|cons h t=>cases t;exact⟨Uc h.ge,Tw h.gt⟩
 |cons e2 es ih=>intro m ms e h;cases h with|cons h t=>cases t with|cons h2 t=>exact⟨Zk h.ge (ih (.cons h2 t)).1,Zh h.gt (ih (.cons h2 t)).2⟩
theorem R5{o:Operator}{q:Ji}(h:opB o=some q):o=Yk q:=by
 cases o<;>first|(cases (show some _=some q from h);rfl)|cases (show none=some q from h)
theorem yo{o:CmpOp}{q:Cm}(h:cmB o=some q):o=dO q:=by
 cases o<;>first|(cases (show some _=some q from h);rfl)|cases (show none=some q from h)
theorem Hz{k:Const}{d:D}(h:HB k=some d):Bs d k=true:=by
 cases k<;>simp[HB]at h<;>subst h<;>simp[Bs]
theorem QQ{t:Ty}(h:tyB x=some t):x=Str.ofString (Wt t)/\x∈nA:=by
 unfold tyB at h
 split at h
 ·rename_i e;cases h;subst e;exact⟨rfl,by decide⟩
 split at h
 ·rename_i e;cases h;subst e;exact⟨rfl,by decide⟩
 split at h
 ·rename_i e;cases h;subst e;exact⟨rfl,by decide⟩
 split at h
 ·rename_i e;cases h;subst e;exact⟨rfl,by decide⟩
 split at h
 ·rename_i e;cases h;subst e;exact⟨rfl,by decide⟩
 split at h
 ·rename_i e;cases h;subst e;exact⟨rfl,by decide⟩
 cases h
theorem PK(O:iz C X c){bb:Bi}(h:biB x=some bb)(hg:yc C.sc x=true)(ha:Sd X c m a)(hd:bb=.dict->m.au=none):GE X W0 c (.bi bb m) (.Call (.Name x p) [a] [] pos):=by
 have hs:=cj ha.pl [] X.env
 have hG:=pq O hg
 unfold biB at h
 split at h
 ·rename_i e;cases h;subst e;exact uo CQ J4 ha.ge ha.va hG (O.bi _ (by decide)) PySem.boot_len (by decide) (by decide) hs
 split at h
 ·rename_i e;cases h;subst e;exact ye rR J5 ha.ge ha.va hG (O.bi _ (by decide)) PyProof.Rows.boot_int (by decide) (by decide) hs
 split at h
 ·rename_i e;cases h;subst e;exact ye qw Be ha.ge ha.va hG (O.bi _ (by decide)) PyProof.Rows.boot_tuple (by decide) (by decide) hs
 split at h
 ·rename_i e;cases h;subst e;exact ye uI Ez ha.ge ha.va hG (O.bi _ (by decide)) PyProof.Rows.boot_list (by decide) (by decide) hs
 split at h
 ·rename_i e;cases h;subst e;exact uo (Dc O.calm) J7 ha.ge ha.va hG (O.bi _ (by decide)) PyProof.Rows.boot_all (by decide) (by decide) hs
 split at h
 ·rename_i e;cases h;subst e;exact uo (CZ O.calm) J6 ha.ge ha.va hG (O.bi _ (by decide)) PyProof.Rows.boot_any (by decide) (by decide) hs
 split at h
 ·rename_i e;cases h;subst e;exact uo uG xf ha.ge ha.va hG (O.bi _ (by decide)) PyProof.Rows.boot_sorted (by decide) (by decide) hs
 split at h
 ·rename_i e;cases h;subst e;exact Mp O.calm ha.ge (hd rfl) hG (O.bi _ (by decide)) hs
 cases h
end
end Mini
end
section
namespace Mini
open PySem L2
theorem xm{sc outer:Scope}{env:Env}(h:env.scope=outer):relabel sc env=oh sc outer:=by
 subst h
 rfl
theorem Ex{outer inner:Scope}{tgs N:List Str}(h:Rc outer inner tgs N=true):(n6 tgs N).Nodup:=by
 unfold Rc at h
 simp only[Bool.and_eq_true,decide_eq_true_eq]at h
 exact h.1.1.1.1.1.1.2
theorem Ew{outer inner:Scope}{tgs N:List Str}(h:Rc outer inner tgs N=true):Dg outer inner tgs N:=by
 unfold Rc at h
 simp only[Bool.and_eq_true,decide_eq_true_eq,List.all_eq_true,Bool.or_eq_true,bne_iff_ne,beq_iff_eq,Bool.not_eq_true',ne_eq]at h
 obtain⟨⟨⟨⟨⟨⟨⟨h1,h2⟩,h3⟩,h4⟩,h5⟩,h6⟩,h7⟩,h8⟩:=h
 refine⟨h1,h2,fun x hx=>?_,fun p hp hl=>?_,h4,h5,fun p hp hf=>?_,fun x hx ht=>?_,fun hx=>?_⟩
 ·rcases h3 (x,.local) (PySem.mem_of_lookup hx)with z|z
  ·exact absurd rfl z
  ·rcases z.1 with z|z
   ·exact .inl (by simpa using z)
   ·exact .inr z
 ·rcases h3 p hp with z|z
  ·exact absurd hl z
  ·exact z.2
 ·rcases h6 p hp with (z|z)|z
  ·exact absurd hf z
  ·exact .inl z
  ·exact .inr z
 ·rcases h7 x hx with z|z
  ·rw[ht]at z;cases z
  ·simpa using z
 ·have:N.contains (".0":Str)=true:=by simpa using hx
  rw[this]at h8;cases h8
section
variable{C:Ct}{X:Cx}{c:Cf}{sc:Scope}{tgs:List Str}
theorem iz.blk(O:iz C X c)(hs:Rc C.sc sc tgs C.N=true){cl:List (Str×Addr)}{fp:List Addr}{s₀:Shared}{H₀:Hp}:iz {C with N:=n6 tgs C.N,sc:=oh sc C.sc} (Mini.blk X sc cl (bu tgs X.N) fp s₀ H₀) c:=
 ⟨by show bu tgs X.N=n6 tgs C.N;rw[O.N];rfl,xm O.sc,Ex hs,O.calm,O.hu,O.bi,O.gl,O.fn⟩
theorem oM{sc:Scope}{N:List Str}:∀{es:List Expr}{xs:List Str}(k:Nat),es.mapM qi=some xs->(∀j x,xs[j]? =some x->N[k+j]? =some x)->(∀x∈xs,sc.names.lookup x=some .local)->gh sc N (List.range' k xs.length) es=true
 |[],xs,k,h,_,_=>by
  simp at h;subst h;rfl
 |e::es,xs,k,h,hN,hl=>by
  rw[List.mapM_cons]at h
  cases q:qi e with
  |none=>rw[q]at h;cases h
  |some x=>
   rw[q]at h
   cases q2:es.mapM qi with
   |none=>rw[q2]at h;cases h
   |some ys=>
    rw[q2]at h
    cases h
    cases e<;>simp[qi]at q
    subst q
    rw[List.length_cons,List.range'_succ]
    unfold gh
    rw[oM (k+1) q2 (fun j y e=>by have:=hN (j+1) y (by simpa using e);rw[<-this];congr 1;omega) (fun y hy=>hl y (List.mem_cons_of_mem _ hy))]
    have:=hN 0 _ rfl
    simp at this
    simp[this,hl _ List.mem_cons_self]
theorem oN{env:Env}:∀{es:List Expr}{xs:List Str},es.mapM qi=some xs->(assignEach es env).length=xs.length/\(assignEach es env).findIdx? (·.1)=none
 |[],xs,h=>by simp at h;subst h;exact⟨rfl,rfl⟩
 |e::es,xs,h=>by
  rw[List.mapM_cons]at h
  cases q:qi e with
  |none=>rw[q]at h;cases h
  |some x=>
   rw[q]at h
   cases q2:es.mapM qi with
   |none=>rw[q2]at h;cases h
   |some ys=>
    rw[q2]at h
    cases h
    obtain⟨i1,i2⟩:=oN (env:=env) q2
    cases e<;>simp[qi]at q
    subst q
    constructor
    ·show(_::assignEach es env).length=_
     simp[i1]
    ·show(List.findIdx? (·.1) ((false,_)::assignEach es env))=none
     rw[List.findIdx?_cons]
     simp[i2]
theorem WK(O:iz C X c){tg:Tg}{tgE:Expr}(ht:QT tgE=some (tgs,tg))(hs:Rc C.sc sc tgs C.N=true):(∀i∈slots tg,i<tgs.length)/\∀(cl:List (Str×Addr))(fp:List Addr)(s₀:Shared)(H₀:Hp),GG (Mini.blk X sc cl (bu tgs X.N) fp s₀ H₀) tg tgE:=by
 have S:=Ew hs
 have lc:∀x∈tgs,∀(cl:List (Str×Addr))(fp:List Addr)(s₀:Shared)(H₀:Hp),(Mini.blk X sc cl (bu tgs X.N) fp s₀ H₀).env.scope.names.lookup x=some .local:=fun x hx cl fp s₀ H₀=>lookup_relabel_local (S.tg x hx)
 have nd:∀(cl:List (Str×Addr))(fp:List Addr)(s₀:Shared)(H₀:Hp),(Mini.blk X sc cl (bu tgs X.N) fp s₀ H₀).N.Nodup:=fun cl fp s₀ H₀=>by
  show(bu tgs X.N).Nodup
  rw[O.N]
  exact Ex hs
 cases tgE<;>simp only[QT]at ht<;>try (cases ht;done)
 ·rename_i x q
  cases ht
  refine⟨fun i hi=>?_,fun cl fp s₀ H₀=>um (nd cl fp s₀ H₀) rfl (.inl (lc x (by simp) cl fp s₀ H₀)) (.inr (lc x (by simp) cl fp s₀ H₀))⟩
  simp[slots]at hi
  subst hi
  simp
 ·rename_i es k q
  cases qm:es.mapM qi with
  |none=>rw[qm]at ht;cases ht
  |some xs=>
   rw[qm]at ht
   cases ht
   refine⟨fun i hi=>by simpa[slots]using hi,fun cl fp s₀ H₀=>?_⟩
   obtain⟨l1,l2⟩:=oN (env:=(Mini.blk X sc cl (bu tgs X.N) fp s₀ H₀).env) qm
   refine yd (nd cl fp s₀ H₀) O.calm (Gj ?_) (by simp[l1]) l2
   have:=oM (sc:=(Mini.blk X sc cl (bu tgs X.N) fp s₀ H₀).env.scope) (N:=(Mini.blk X sc cl (bu tgs X.N) fp s₀ H₀).N) 0 qm (fun j x e=>?_) (fun x hx=>lc x hx cl fp s₀ H₀)
   ·rwa[List.range_eq_range']
   ·show(bu tgs X.N)[0+j]? =some x
    unfold bu
    rw[Nat.zero_add,List.getElem?_append_left (List.getElem?_eq_some_iff.mp e).1]
    exact e
end
end Mini
end
section
namespace Mini
open PySem L2
inductive Ar(X:Cx)(c:Cf):E->List Expr->Prop
 |nil:Ar X c .nil []
 |cons {m ms:E} {e:Expr} {es:List Expr}:GE X W0 c m e->plain e=true->Ar X c ms es->Ar X c (.cons m ms) (e::es)
theorem Ar.ga{X:Cx}{c:Cf}:∀{ms:E}{es:List Expr},Ar X c ms es->GA X W0 c ms es
 |_,_,.nil=>yf
 |_,_,.cons h p t=>m8 h t.ga (cj p _ _)
theorem Ar.plain{X:Cx}{c:Cf}{pos:Pos}:∀{ms:E}{es:List Expr},Ar X c ms es->(backTo pos (starEach es X.env)).any (·.1)=false
 |_,_,.nil=>rfl
 |_,_,.cons h p t=>by
  rw[cj p]
  have:=t.plain (pos:=pos)
  simpa[backTo]using this
def yK(X:Cx)(c:Cf)(m:E)(elt:Expr)(g:Comprehension)(sc:Scope):Prop:=
 ∃tgs tg it cond m',m=.comp tgs.length tg it cond m'/\wN X c sc tgs tg cond m' g.target elt g.ifs/\GI X W0 c it g.target g.iter/\plain g.iter=true/\g.is_async=0
structure Ih(c:Cf)(n:Nat):Prop where
 e:∀C X e m,iz C X c->dY n C e=some m->Sd X c m e
 es:∀C X es m,iz C X c->sU n C es=some m->Al X c m es
 a:∀C X fl es m,iz C X c->Di n C fl es=some m->Ar X c m es
 o:∀C X o m,iz C X c->QS n C o=some m->GO X W0 c m o
 b:∀C X x args m p pos,iz C X c->yc C.sc x=true->WF n C x args=some m->GE X W0 c m (.Call (.Name x p) args [] pos)/\m.au=none/\m.je=false
 i:∀C X tg e m,iz C X c->Vl n C e=some m->GI X W0 c m tg e/\plain e=true
 k:∀C X elt g sc m,iz C X c->WD n C elt g sc=some m->yK X c m elt g sc
 d:∀C X ks vs m,iz C X c->Ec n C ks vs=some m->∃Eb,Kv X W0 c m ks vs Eb/\ks.all (·.isSome)=true
theorem ih0(c:Cf):Ih c 0:=by
 constructor
 all_goals (intros;rename_i h;first|(rw[dY]at h;cases h)|(rw[sU]at h;cases h)|(rw[Di]at h;cases h)|(rw[QS]at h;cases h)|(rw[WF]at h;cases h)|(rw[Vl]at h;cases h)|(rw[WD]at h;cases h)|(rw[Ec]at h;cases h))
section
variable{c:Cf}{n:Nat}{C:Ct}{X:Cx}{m:E}
theorem JM(I:Ih c n)(O:iz C X c){es:List Expr}(h:sU (n+1) C es=some m):Al X c m es:=by
 cases es with
 |nil=>rw[sU]at h;cases h;exact .nil
 |cons e es=>
  rw[sU]at h
  simp only[Option.bind_eq_some_iff,Option.map_eq_some_iff]at h
  obtain⟨m1,h1,m2,h2,rfl⟩:=h
  exact .cons (I.e C X e m1 O h1) (I.es C X es m2 O h2)
theorem Q5(I:Ih c n)(O:iz C X c){ks:List (Option Expr)}{vs:List Expr}(h:Ec (n+1) C ks vs=some m):∃Eb,Kv X W0 c m ks vs Eb/\ks.all (·.isSome)=true:=by
 unfold Ec at h
 split at h
 ·cases h;exact⟨[],.nil,rfl⟩
 ·simp only[Option.bind_eq_some_iff,Option.map_eq_some_iff]at h
  obtain⟨k1,h1,v1,h2,r,h3,rfl⟩:=h
  obtain⟨Eb,K,a⟩:=I.d C X _ _ r O h3
  exact⟨_,.cons (I.e C X _ k1 O h1).ge (I.e C X _ v1 O h2).ge K,by simpa using a⟩
 ·cases h
theorem QZ(I:Ih c n)(O:iz C X c){o:Option Expr}(h:QS (n+1) C o=some m):GO X W0 c m o:=by
 cases o with
 |none=>rw[QS]at h;cases h;exact .inl ⟨rfl,rfl⟩
 |some e=>
  rw[QS]at h
  have s:=I.e C X e m O h
  exact .inr ⟨e,rfl,s.nn,s.ge⟩
theorem Q7(I:Ih c n)(O:iz C X c){fl:List Bool}{es:List Expr}(h:Di (n+1) C fl es=some m):Ar X c m es:=by
 cases fl with
 |nil=>
  cases es with
  |nil=>rw[Di]at h;cases h;exact .nil
  |cons e es=>rw[Di]at h<;>first|cases h|(intros;simp_all)
 |cons f fl=>
  cases es with
  |nil=>rw[Di]at h<;>first|cases h|(intros;simp_all)
  |cons e es=>
   cases f with
   |false=>
    rw[Di]at h
    simp only[Option.bind_eq_some_iff,Option.map_eq_some_iff]at h
    obtain⟨m1,h1,m2,h2,rfl⟩:=h
    have s:=I.e C X e m1 O h1
    exact .cons s.ge s.pl (I.a C X fl es m2 O h2)
   |true=>
    by_cases hN:∃x p,e=.Name x p
    ·obtain⟨x,p,rfl⟩:=hN
     rw[Di]at h
     simp only[Option.bind_eq_some_iff,Option.map_eq_some_iff]at h
     obtain⟨m1,⟨m3,h3,h4⟩,m2,h2,rfl⟩:=h
     split at h4
     ·cases h4
      exact .cons (Ub (vM O h3)) rfl (I.a C X fl es m2 O h2)
     ·cases h4
    ·rw[Di]at h
     ·simp only[Option.bind_eq_some_iff,Option.map_eq_some_iff]at h
      obtain⟨m1,⟨m3,h3,rfl⟩,m2,h2,rfl⟩:=h
      have s:=I.e C X e m3 O h3
      exact .cons (T9 s.ge) s.pl (I.a C X fl es m2 O h2)
     ·exact fun x p z=>hN ⟨x,p,z⟩
theorem Rm{x:Str}(O:iz C X c)(h:(decide (x="range")&&yc C.sc x&&(fnAt C x).isNone)=true):x="range"/\Gl X "range":=by
 simp only[Bool.and_eq_true,decide_eq_true_eq]at h
 obtain⟨⟨rfl,h2⟩,_⟩:=h
 exact⟨rfl,pq O h2⟩
theorem abr{x:Str}(O:iz C X c)(h:(decide (x="zip")&&yc C.sc x&&(fnAt C x).isNone)=true):x="zip"/\Gl X "zip":=by
 simp only[Bool.and_eq_true,decide_eq_true_eq]at h
 obtain⟨⟨rfl,h2⟩,_⟩:=h
 exact⟨rfl,pq O h2⟩
theorem Q3(I:Ih c n)(O:iz C X c){tg e:Expr}(h:Vl (n+1) C e=some m):GI X W0 c m tg e/\plain e=true:=by
 have dflt:dY n C e=some m->GI X W0 c m tg e/\plain e=true:=fun h=>let s:=I.e C X e m O h;⟨Zj s.ge,s.pl⟩
 unfold Vl at h
 split at h
 ·split at h
  ·split at h
   ·rename_i hr
    obtain⟨rfl,hg⟩:=Rm O hr
    simp only[Option.map_eq_some_iff]at h
    obtain⟨m1,h1,rfl⟩:=h
    have s:=I.e C X _ m1 O h1
    exact⟨Cw s.ge hg (O.bi _ (by decide)) (cj s.pl _ _),rfl⟩
   ·exact dflt h
  ·split at h
   ·rename_i hr
    obtain⟨rfl,hg⟩:=abr O hr
    simp only[Option.bind_eq_some_iff,Option.map_eq_some_iff]at h
    obtain⟨m1,h1,m2,h2,rfl⟩:=h
    have s1:=I.e C X _ m1 O h1
    have s2:=I.e C X _ m2 O h2
    exact⟨T4 s1.ge s2.ge hg (O.bi _ (by decide)) (by rw[cj s1.pl,cj s2.pl];rfl) (cj s2.pl _ _),rfl⟩
   ·exact dflt h
  ·exact dflt h
 ·exact dflt h
theorem Q0(I:Ih c n)(O:iz C X c){elt:Expr}{g:Comprehension}{sc:Scope}(h:WD (n+1) C elt g sc=some m):yK X c m elt g sc:=by
 rw[WD]at h
 split at h
 ·rename_i ha
  simp only[Option.bind_eq_some_iff]at h
  obtain⟨⟨tgs,tg⟩,ht,h⟩:=h
  simp only at h
  split at h
  ·rename_i hs
   simp only[Option.bind_eq_some_iff,Option.map_eq_some_iff]at h
   obtain⟨it,h1,cond,h2,m',h3,rfl⟩:=h
   obtain⟨sm,gg⟩:=WK O ht hs
   have S:=Ew hs
   obtain⟨gi,gp⟩:=I.i C X g.target g.iter it O h1
   refine⟨tgs,tg,it,cond,m',rfl,⟨by rw[O.sc,O.N];exact S,sm,fun cl fp s₀ H₀ _=>gg cl fp s₀ H₀,?_,fun cl fp s₀ H₀ _=>(I.e _ _ elt m' (O.blk hs) h3).ge⟩,gi,gp,ha⟩
   split at h2
   ·rename_i hi
    cases h2
    exact .inl ⟨hi,rfl⟩
   ·rename_i ce hi
    exact .inr ⟨ce,hi,fun cl fp s₀ H₀ _=>(I.e _ _ ce cond (O.blk hs) h2).gt⟩
   ·cases h2
  ·cases h
 ·cases h
end
end Mini
end
section
namespace Mini
open PySem L2
section
variable{c:Cf}{n:Nat}{C:Ct}{X:Cx}{m:E}
theorem Ym(I:Ih c n)(O:iz C X c){x:Str}{a:Expr}{p pos:Pos}(hg:yc C.sc x=true)(h:((biB x).bind fun b=>(dY n C a).bind fun m=>if (decide (b=.dict)&&m.au.isSome)=true then some (E.bi b (.rd m))else some (E.bi b m))=some m):
  GE X W0 c m (.Call (.Name x p) [a] [] pos)/\m.au=none/\m.je=false:=by
 simp only[Option.bind_eq_some_iff]at h
 obtain⟨bb,h1,m1,h2,h3⟩:=h
 split at h3
 ·cases h3
  have s:=I.e C X a m1 O h2
  have gr:GE X W0 c (.rd m1) a:=fun env=>PE.imp (s.ge env) fun σ H Q q=>by simpa only[Dz]using q
  have sr:Sd X c (.rd m1) a:=⟨gr,fun pins sh σ H Q I⟨env,q⟩=>s.gt pins sh σ H Q I ⟨env,by simpa only[Dz]using q⟩,s.pl,fun k z=>(by cases z),rfl⟩
  exact⟨PK O h1 hg sr fun _=>rfl,rfl,rfl⟩
 ·rename_i hn
  cases h3
  refine⟨PK O h1 hg (I.e C X a m1 O h2) (fun z=>?_),rfl,rfl⟩
  subst z
  cases q:m1.au with
  |none=>rfl
  |some k=>rw[q]at hn;exact absurd rfl hn
theorem Q6(I:Ih c n)(O:iz C X c){x:Str}{args:List Expr}{p pos:Pos}(hg:yc C.sc x=true)(h:WF (n+1) C x args=some m):GE X W0 c m (.Call (.Name x p) args [] pos)/\m.au=none/\m.je=false:=by
 unfold WF at h
 split at h
 ·--isinstance
  split at h
  ·rename_i hx
   subst hx
   split at h
   ·split at h
    ·rename_i hy
     simp only[Option.bind_eq_some_iff,Option.map_eq_some_iff]at h
     obtain⟨t,h1,m1,h2,rfl⟩:=h
     have s:=I.e C X _ m1 O h2
     obtain⟨e1,e2⟩:=QQ h1
     exact⟨Ui s.ge e1 (pq O hy) (O.bi _ e2) (pq O hg) (O.bi _ (by decide)) (cj s.pl _ _),rfl,rfl⟩
    ·cases h
   ·cases h
  ·cases h
 ·exact Ym I O hg h
 ·cases h
theorem iG{e:Expr}(ge:GE X W0 c m e)(hp:plain e=true)(hv:m.au=none)(hi:m.je=false)(ht:tame e=true):Sd X c m e:=
 ⟨ge,Hc ge hp ht,hp,fun k z=>(by rw[hv]at z;cases z),hi⟩
theorem hu1(O:iz C X c):X.A.units+1<cLine:=by have:=O.hu;omega
theorem Mt{x:Str}{g:Nat}{fl:List Bool}(h:fnAt C x=some (g,fl)):C.fns[g]? =some (x,fl):=by
 unfold fnAt at h
 simp only[Option.bind_eq_some_iff,Option.map_eq_some_iff]at h
 obtain⟨g',h1,⟨y,fl'⟩,h2,h3⟩:=h
 cases h3
 have:=gj h1
 rw[List.getElem?_map,h2]at this
 simp at this
 rw[h2,this]
theorem nC{o:Expr}{name:Str}{env:Env}(h:isCall o=false):attributeBase o name env (eval o env)=eval o env:=by
 cases o<;>first|rfl|simp[isCall]at h
theorem Q4(I:Ih c n)(O:iz C X c){e:Expr}(h:dY (n+1) C e=some m):Sd X c m e:=by
 have no:∀{P:Prop},(none:Option E)=some m->P:=fun z=>nomatch z
 unfold dY at h
 split at h
 ·simp only[Option.map_eq_some_iff]at h
  obtain⟨d,h1,rfl⟩:=h
  exact iG (Uk (Hz h1)) rfl rfl rfl rfl
 ·exact yW O h
 ·simp only[Option.map_eq_some_iff]at h
  obtain⟨m1,h1,rfl⟩:=h
  exact iG (T8 (I.es C X _ m1 O h1).ga) rfl rfl rfl rfl
 ·simp only[Option.map_eq_some_iff]at h
  obtain⟨m1,h1,rfl⟩:=h
  exact iG (Ug (I.es C X _ m1 O h1).ga) rfl rfl rfl rfl
 ·simp only[Option.bind_eq_some_iff,Option.map_eq_some_iff]at h
  obtain⟨o,h0,m1,h1,m2,h2,rfl⟩:=h
  rw[R5 h0]
  exact iG (Zm (I.e C X _ m1 O h1).ge (I.e C X _ m2 O h2).ge) rfl rfl rfl rfl
 ·split at h
  ·simp only[Option.map_eq_some_iff]at h
   obtain⟨m1,h1,rfl⟩:=h
   exact iG (Ue (I.e C X _ m1 O h1).ge) rfl rfl rfl rfl
  ·simp only[Option.map_eq_some_iff]at h
   obtain⟨m1,h1,rfl⟩:=h
   have s:=I.e C X _ m1 O h1
   exact⟨Ud s.ge,Tz s.gt,rfl,fun k z=>(by cases z),rfl⟩
  ·exact no h
 ·simp only[Option.bind_eq_some_iff]at h
  obtain⟨m1,h1,h2⟩:=h
  have A:=I.es C X _ m1 O h1
  split at h2
  ·exact no h2
  ·rename_i hn
   cases A with
   |nil=>exact absurd rfl hn
   |cons s t=>
    split at h2
    ·cases h2
     exact⟨(Al.cons s t).and.1,(Al.cons s t).and.2.t,rfl,fun k z=>(by cases z),rfl⟩
    ·cases h2
     exact⟨(Al.cons s t).or.1,(Al.cons s t).or.2.t,rfl,fun k z=>(by cases z),rfl⟩
 ·split at h
  ·simp only[Option.bind_eq_some_iff,Option.map_eq_some_iff]at h
   obtain⟨o,h0,m1,h1,m2,h2,rfl⟩:=h
   rw[yo h0]
   have s1:=I.e C X _ m1 O h1
   have s2:=I.e C X _ m2 O h2
   exact⟨Ul (lB O.hu o) s1.ge s2.ge s2.va (oO s2.pl _),TJ (lB O.hu o) s1.ge s2.ge s2.va (oO s2.pl _),rfl,fun k z=>(by cases z),rfl⟩
  ·simp only[Option.bind_eq_some_iff,Option.map_eq_some_iff]at h
   obtain⟨o,h0,o2,h02,m1,h1,m2,h2,m3,h3,rfl⟩:=h
   rw[yo h0,yo h02]
   have s1:=I.e C X _ m1 O h1
   have s2:=I.e C X _ m2 O h2
   have s3:=I.e C X _ m3 O h3
   have hm:∀b,lastMarks [dO o,dO o2] [b,_]=false:=fun b=>oO s3.pl (dO o2)
   exact⟨Hl (lB O.hu o) (lB O.hu o2) s1.ge s2.ge s3.ge (hm _),Hd (lB O.hu o) (lB O.hu o2) s1.ge s2.ge s3.ge (hm _),rfl,fun k z=>(by cases z),rfl⟩
  ·exact no h
 ·simp only[Option.bind_eq_some_iff,Option.map_eq_some_iff]at h
  obtain⟨m1,h1,m2,h2,m3,h3,rfl⟩:=h
  have s1:=I.e C X _ m1 O h1
  have s2:=I.e C X _ m2 O h2
  have s3:=I.e C X _ m3 O h3
  exact⟨Uh s1.gt s2.ge s3.ge,TF s1.gt s2.gt s3.gt,rfl,fun k z=>(by cases z),rfl⟩
 ·split at h
  ·split at h
   ·simp only[Option.bind_eq_some_iff,Option.map_eq_some_iff]at h
    obtain⟨m1,h1,m2,h2,m3,h3,rfl⟩:=h
    exact iG (Ua (I.e C X _ m1 O h1).ge (I.o C X _ m2 O h2) (I.o C X _ m3 O h3)) rfl rfl rfl rfl
   ·exact no h
  ·simp only[Option.bind_eq_some_iff,Option.map_eq_some_iff]at h
   obtain⟨m1,h1,m2,h2,rfl⟩:=h
   have s1:=I.e C X _ m1 O h1
   have s2:=I.e C X _ m2 O h2
   exact iG (Uj (hu1 O) s1.ge s2.ge s1.va (xH s2.pl)) rfl rfl rfl rfl
 ·split at h
  ·split at h
   ·split at h
    ·rename_i hx
     rw[Bool.and_eq_true]at hx
     split at h
     ·rename_i g fl hf
      simp only[Option.bind_eq_some_iff]at h
      obtain⟨m1,h1,h2⟩:=h
      split at h2
      ·exact no h2
      ·rename_i hn
       cases h2
       have A:=I.a C X _ _ m1 O h1
       obtain⟨k,f,fd,ps,F,hr,hm,hk,hb,hl⟩:=O.fn g _ fl (Mt hf)
       cases A with
       |nil=>exact absurd rfl hn
       |cons ge pl t=>
        exact iG (Mr F hr (pq O hx.2) hm hk hb (tX hx.1).1 (Ar.cons ge pl t).ga (cj pl _ _) t.plain hl) rfl rfl rfl rfl
     ·obtain⟨ge,h1,h2⟩:=I.b C X _ _ m _ _ O hx.2 h
      exact iG ge rfl h1 h2 rfl
    ·exact no h
   ·split at h
    ·rename_i hl
     split at h
     ·split at h
      ·rename_i hx
       subst hx
       simp only[Option.bind_eq_some_iff,Option.map_eq_some_iff]at h
       obtain⟨m1,h1,u,h0,m2,h2,rfl⟩:=h
       split at h0
       ·rename_i hp
        rw[Bool.and_eq_true]at hp
        have s1:=I.e C X _ m1 O h1
        have s2:=I.e C X _ m2 O h2
        exact iG (Hk ⟨nC (by simpa using hp.2),hl,cj s2.pl _ _⟩ s1.ge s2.ge) rfl rfl rfl rfl
       ·cases h0
      ·split at h
       ·rename_i hx
        subst hx
        split at h
        ·simp only[Option.bind_eq_some_iff]at h
         obtain⟨v,h1,h2⟩:=h
         split at h2
         ·simp only[Option.map_eq_some_iff]at h2
          obtain⟨m2,h3,rfl⟩:=h2
          have s2:=I.e C X _ m2 O h3
          exact iG (Hj ⟨rfl,hl,cj s2.pl _ _⟩ (vM O h1) s2.ge) rfl rfl rfl rfl
         ·exact no h2
        ·exact no h
       ·exact no h
     ·exact no h
    ·exact no h
   ·exact no h
  ·exact no h
 ·split at h
  ·rename_i elt sc pos g
   obtain⟨tgs,tg,it,cond,m',rfl,B,gi,gp,ha⟩:=I.k C X _ _ _ m O h
   obtain⟨ta,ti,tf,tn⟩:=g
   simp only at ha
   subst ha
   exact iG (Mq B gi O.calm (fun x=>uq gp _ _)) rfl rfl rfl rfl
  ·exact no h
 ·exact no h
end
theorem ih(c:Cf):∀n,Ih c n
 |0=>ih0 c
 |n+1=>let I:=ih c n
  ⟨fun C X e m O h=>Q4 I O h,fun C X es m O h=>JM I O h,fun C X fl es m O h=>Q7 I O h,fun C X o m O h=>QZ I O h,fun C X x args m p pos O hg h=>Q6 I O hg h,fun C X tg e m O h=>Q3 I O h,fun C X elt g sc m O h=>Q0 I O h,fun C X ks vs m O h=>Q5 I O h⟩
end Mini
end
section
namespace Mini
open PySem L2
def NE{α:Type}(r:Out α):Prop:=∀k σ,r≠ .exc k σ
section
variable{α β:Type}
theorem NE.ok(a:α)(σ:Ev):NE (.ok a σ):=fun _ _ z=>nomatch z
theorem NE.bad:NE (.bad:Out α):=fun _ _ z=>nomatch z
theorem NE.lift(σ:Ev)(o:Option α):NE (lift σ o):=by cases o<;>(intro _ _ z;cases z)
theorem NE.bind{r:Out α}{f:α->Ev->Out β}(h:NE r)(g:∀a σ,NE (f a σ)):NE (r.bind f):=by
 cases r with
 |ok a σ=>exact g a σ
 |exc k σ=>exact absurd rfl (h k σ)
 |bad=>exact NE.bad
theorem NE.ak{r:Out Rv}{f:D->Ev->Out β}(h:NE r)(g:∀a σ,NE (f a σ)):NE (r.ak f):=by
 cases r with
 |ok a σ=>cases a<;>first|exact g _ _|exact NE.bad
 |exc k σ=>exact absurd rfl (h k σ)
 |bad=>exact NE.bad
theorem NE.bR{tr:D->Option Bool}{r:Out Rv}{f:Bool->Ev->Out β}(h:NE r)(g:∀a σ,NE (f a σ)):NE (r.bR tr f):=
 NE.ak h fun d σ=>by
  cases tr d with
  |none=>exact NE.bad
  |some b=>exact g b σ
theorem NE.ite{p:Prop}[Decidable p]{a b:Out α}(h:NE a)(g:NE b):NE (if p then a else b):=by split<;>assumption
end
theorem Ld(c:Cf)(f:Nat)(as:List Rv)(σ:Ev):NE (pL c f as σ):=by
 unfold pL
 split
 ·exact NE.bad
 ·split
  ·split
   ·exact NE.ok _ _
   ·exact NE.bad
  ·exact NE.bad
theorem Gn(c:Cf)(f:Nat)(hs:List (Nat×D))(as:List Rv)(σ:Ev):NE (gm c f hs as σ):=by
 unfold gm
 split
 ·exact NE.bad
 ·split
  ·split
   ·exact NE.ok _ _
   ·exact NE.bad
  ·split
   ·exact NE.ok _ _
   ·exact NE.bad
  ·exact NE.bad
theorem R8(k:Nat)(y:D)(σ:Ev):NE (oG k y σ):=by
 unfold oG
 split
 ·refine NE.ite NE.bad ?_
  split
  ·split
   ·exact NE.ok _ _
   ·exact NE.bad
  ·exact NE.bad
 ·exact NE.bad
theorem Lb(k:Nat)(σ:Ev):NE (oA k σ):=by
 unfold oA
 split<;>first|exact NE.ok _ _|exact NE.bad
theorem xR(c:Cf):∀(m:E)(σ:Ev),NE (ev c m σ)/\NE (evs c m σ)/\NE (eV c m σ)/\NE (ji c m σ):=by
 have k3:∀{m:E},(∀σ,NE (ev c m σ))->(∀σ,evs c m σ=.bad)->(∀σ,eV c m σ=.bad)->(∀σ,ji c m σ=.bad)->∀σ,NE (ev c m σ)/\NE (evs c m σ)/\NE (eV c m σ)/\NE (ji c m σ):=fun h a b d σ=>by
  rw[a,b,d]
  exact⟨h σ,NE.bad,NE.bad,NE.bad⟩
 intro m
 induction m with
 |var i=>exact k3 (fun σ=>Lb i σ) (fun _=>rfl) (fun _=>rfl) fun _=>rfl
 |con d=>exact k3 (fun σ=>NE.ok _ _) (fun _=>rfl) (fun _=>rfl) fun _=>rfl
 |glob k=>exact k3 (fun σ=>by rw[Wr];split<;>first|exact NE.ok _ _|exact NE.bad) (fun _=>rfl) (fun _=>rfl) fun _=>rfl
 |nil=>exact fun σ=>⟨NE.bad,NE.ok _ _,NE.bad,NE.bad⟩
 |cons h t ih jh=>
  intro σ
  refine⟨NE.bad,NE.bind (ih σ).1 fun x σ=>NE.bind (jh σ).2.1 fun _ _=>NE.ok _ _,?_,?_⟩
  ·cases t with
   |nil=>exact(ih σ).1
   |_=>exact NE.ak (ih σ).1 fun x σ=>(by split<;>first|exact(jh σ).2.2.1|exact NE.ok _ _|exact NE.bad)
  ·cases t with
   |nil=>exact(ih σ).1
   |_=>exact NE.ak (ih σ).1 fun x σ=>(by split<;>first|exact(jh σ).2.2.2|exact NE.ok _ _|exact NE.bad)
 |tup es ih=>exact k3 (fun σ=>NE.bind (ih σ).2.1 fun _ _=>NE.lift _ _) (fun _=>rfl) (fun _=>rfl) fun _=>rfl
 |lis es ih=>exact k3 (fun σ=>NE.bind (ih σ).2.1 fun _ _=>NE.lift _ _) (fun _=>rfl) (fun _=>rfl) fun _=>rfl
 |op o a b ih jh=>exact k3 (fun σ=>NE.ak (ih σ).1 fun _ σ=>NE.ak (jh σ).1 fun _ _=>NE.lift _ _) (fun _=>rfl) (fun _=>rfl) fun _=>rfl
 |neg a ih=>exact k3 (fun σ=>NE.ak (ih σ).1 fun _ σ=>NE.lift _ _) (fun _=>rfl) (fun _=>rfl) fun _=>rfl
 |cmp o a b ih jh=>exact k3 (fun σ=>NE.ak (ih σ).1 fun _ σ=>by split<;>first|exact NE.lift _ _|exact NE.ak (jh σ).1 fun _ _=>NE.lift _ _) (fun _=>rfl) (fun _=>rfl) fun _=>rfl
 |chain o p a b d ih jh kh=>exact k3 (fun σ=>NE.ak (ih σ).1 fun _ σ=>NE.ak (jh σ).1 fun _ σ=>NE.bind (NE.lift _ _) fun _ σ=>NE.ite (NE.ak (kh σ).1 fun _ _=>NE.lift _ _) (NE.ok _ _)) (fun _=>rfl) (fun _=>rfl) fun _=>rfl
 |and es ih=>exact k3 (fun σ=>(ih σ).2.2.1) (fun _=>rfl) (fun _=>rfl) fun _=>rfl
 |or es ih=>exact k3 (fun σ=>(ih σ).2.2.2) (fun _=>rfl) (fun _=>rfl) fun _=>rfl
 |not a ih=>exact k3 (fun σ=>NE.bR (ih σ).1 fun _ _=>NE.ok _ _) (fun _=>rfl) (fun _=>rfl) fun _=>rfl
 |ite t a b ih jh kh=>exact k3 (fun σ=>NE.bR (ih σ).1 fun _ σ=>NE.ite (jh σ).1 (kh σ).1) (fun _=>rfl) (fun _=>rfl) fun _=>rfl
 |idx a i ih jh=>exact k3 (fun σ=>by rw[Am];split<;>first|exact NE.ite NE.bad (NE.ak (jh σ).1 fun _ _=>NE.lift _ _)|exact NE.ak (ih σ).1 fun _ σ=>NE.ak (jh σ).1 fun _ _=>NE.lift _ _) (fun _=>rfl) (fun _=>rfl) fun _=>rfl
 |slc a lo hi ih jh kh=>exact k3 (fun σ=>NE.ak (ih σ).1 fun _ σ=>NE.ak (jh σ).1 fun _ σ=>by split<;>first|exact NE.bad|exact NE.ak (kh σ).1 fun _ _=>NE.lift _ _) (fun _=>rfl) (fun _=>rfl) fun _=>rfl
 |noneE=>exact k3 (fun σ=>NE.ok _ _) (fun _=>rfl) (fun _=>rfl) fun _=>rfl
 |call f as ih=>exact k3 (fun σ=>NE.bind (ih σ).2.1 fun _ _=>Ld _ _ _ _) (fun _=>rfl) (fun _=>rfl) fun _=>rfl
 |ref i=>exact k3 (fun σ=>by rw[DG];split<;>first|exact NE.ok _ _|exact NE.bad) (fun _=>rfl) (fun _=>rfl) fun _=>rfl
 |tmp e ih=>exact k3 (fun σ=>NE.bind (ih σ).1 fun _ _=>NE.lift _ _) (fun _=>rfl) (fun _=>rfl) fun _=>rfl
 |rd e ih=>exact k3 (fun σ=>(ih σ).1) (fun _=>rfl) (fun _=>rfl) fun _=>rfl
 |isi a t ih=>exact k3 (fun σ=>NE.ak (ih σ).1 fun _ _=>NE.ok _ _) (fun _=>rfl) (fun _=>rfl) fun _=>rfl
 |bi b a ih=>exact k3 (fun σ=>by rw[sJ];split<;>first|exact NE.lift _ _|exact NE.ak (ih σ).1 fun _ _=>NE.lift _ _) (fun _=>rfl) (fun _=>rfl) fun _=>rfl
 |range1 a ih=>exact k3 (fun σ=>NE.ak (ih σ).1 fun _ _=>NE.lift _ _) (fun _=>rfl) (fun _=>rfl) fun _=>rfl
 |range2 a b ih jh=>exact k3 (fun σ=>NE.ak (ih σ).1 fun _ σ=>NE.ak (jh σ).1 fun _ _=>NE.lift _ _) (fun _=>rfl) (fun _=>rfl) fun _=>rfl
 |zip a b ih jh=>exact k3 (fun σ=>NE.ak (ih σ).1 fun _ σ=>NE.ak (jh σ).1 fun _ _=>NE.lift _ _) (fun _=>rfl) (fun _=>rfl) fun _=>rfl
 |count a b ih jh=>exact k3 (fun σ=>NE.ak (ih σ).1 fun _ σ=>NE.ite NE.bad (NE.ak (jh σ).1 fun _ _=>NE.lift _ _)) (fun _=>rfl) (fun _=>rfl) fun _=>rfl
 |popAt i a ih=>exact k3 (fun σ=>NE.ite NE.bad (NE.ak (ih σ).1 fun _ _=>R8 _ _ _)) (fun _=>rfl) (fun _=>rfl) fun _=>rfl
 |index a b ih jh=>exact k3 (fun σ=>NE.ak (ih σ).1 fun _ σ=>NE.ite NE.bad (NE.ak (jh σ).1 fun _ _=>NE.lift _ _)) (fun _=>rfl) (fun _=>rfl) fun _=>rfl
 |get2 a b d ih jh kh=>exact k3 (fun σ=>NE.ak (ih σ).1 fun _ σ=>NE.ite NE.bad (NE.ak (jh σ).1 fun _ σ=>NE.ak (kh σ).1 fun _ _=>NE.lift _ _)) (fun _=>rfl) (fun _=>rfl) fun _=>rfl
 |dsp es ih=>exact k3 (fun σ=>NE.bind (ih σ).2.1 fun _ _=>NE.lift _ _) (fun _=>rfl) (fun _=>rfl) fun _=>rfl
 |tcall f as hs ih=>exact k3 (fun σ=>NE.bind (ih σ).2.1 fun _ _=>Gn _ _ _ _ _) (fun _=>rfl) (fun _=>rfl) fun _=>rfl
 |comp nl tg it cond elt ih _ _=>
  refine k3 (fun σ=>?_) (fun _=>rfl) (fun _=>rfl) fun _=>rfl
  rw[kY]
  refine NE.ak (ih σ).1 fun _ σ=>?_
  split
  ·split
   ·exact NE.ok _ _
   ·exact NE.bad
  ·exact NE.bad
section
variable{X:Cx}{W:Wi}{c:Cf}{m:E}{e tg:Expr}
theorem GE.w(h:GE X W0 c m e):GE X W c m e:=fun env=>PE.imp (h env) fun σ H Q⟨S,q⟩=>by
 refine⟨S,?_⟩
 cases r:ev c m env with
 |exc k σ'=>exact absurd r ((xR c m env).1 k σ')
 |_=>rw[r]at q;exact q
theorem GT.w(h:GT X W0 c m e):GT X W c m e:=PT.imp h fun σ H Q⟨env,S,q⟩=>by
 refine⟨env,S,?_⟩
 cases r:ev c m env with
 |exc k σ'=>exact absurd r ((xR c m env).1 k σ')
 |_=>rw[r]at q;exact q
theorem GI.w(h:GI X W0 c m tg e):GI X W c m tg e:=fun env pins s σ H R I q=>h env pins s σ H R I (by
 unfold tI at q⊢
 obtain⟨S,q⟩:=q
 refine⟨S,?_⟩
 cases r:ev c m env with
 |exc k σ'=>exact absurd r ((xR c m env).1 k σ')
 |_=>rw[r]at q;exact q)
end
end Mini
end
section
namespace Mini
open PySem L2
structure Top(C:Ct)(X:Cx)(W:Wi)(c:Cf):Prop where
 fn:∀x,X.fn x=true
 po:PassesOwn (model X.prog X.w) X.A X.env X.xe
 ra:∀e f p n m,N8 (n+1) C (.Raise e f p)=some m->GS X W c m (.Raise e f p)
section
variable{c:Cf}{n:Nat}{C:Ct}{X:Cx}{W:Wi}{m:E}
theorem MF(O:iz C X c):∀{n:Nat}{elt:Expr}{gens:List Comprehension}{sc:Scope}{pos:Pos},dY n C (.ListComp elt gens sc pos)=some m->∃g,gens=[g]/\yK X c m elt g sc
 |0,_,_,_,_,h=>by rw[dY]at h;cases h
 |n+1,elt,gens,sc,pos,h=>by
  unfold dY at h
  simp only at h
  split at h
  ·exact⟨_,rfl,(ih c n).k C X _ _ _ m O h⟩
  ·cases h
theorem oU(O:iz C X c){x:Str}(h:By C.sc x=true):Loc X.env.scope x:=by
 unfold By at h
 rw[O.sc]
 rw[Bool.or_eq_true]at h
 rcases h with h|h
 ·exact .inl (by simpa using h)
 ·exact .inr (by simpa using h)
theorem jT{e:Expr}{t:Option Expr}{l:Nat}{env:Env}(hp:plain e=true)(hc:lM e=false):swapsWith e t l env=pure false:=by
 cases e<;>first|rfl|exact absurd (show false=true from hp) Bool.false_ne_true|exact absurd (show true=false from hc) (fun h=>Bool.false_ne_true h.symm)
theorem wX{e:Expr}{es:List Expr}{k:Nat}{q:Pos}{env:Env}(h:isTup e=false):swappedStores [.Tuple es k q] e env=pure none:=by
 cases e<;>first|rfl|exact absurd (show true=false from h) (fun h=>Bool.false_ne_true h.symm)
theorem vg{e o i:Expr}{q:Pos}{env:Env}:swappedStores [.Subscript o i q] e env=pure none:=by
 cases e<;>rfl
theorem yU{t e:Expr}{l:Nat}{env:Env}:swapsWithSole [t] e l env=swapsWith e (some t) l env:=rfl
theorem M5{o i:Expr}{tp:Pos}{env:Env}{v:Value}(h:isSlice i=false):assign (.Subscript o i tp) env v=(do
   let ov<-holding [v] (eval o env)
   let iv<-holding [v,ov] (eval i env)
   standAt tp
   holding [v,ov,iv] (setItem ov iv v)
   release [v,ov,iv] []):=by
 rw[assign]
 cases i<;>first|rfl|(simp[isSlice]at h;done)
theorem nY(O:iz C X c)(T:Top C X W c):∀{es:List Expr}{is:List Nat},slotsOf C es=some is->pZ X is es/\(assignEach es X.env).length=is.length/\(assignEach es X.env).findIdx? (·.1)=none
 |[],is,h=>by cases h;exact⟨.nil,rfl,rfl⟩
 |e::es,is,h=>by
  cases e<;>simp only[slotsOf]at h<;>try (cases h;done)
  rename_i x q
  split at h
  ·rename_i hl
   simp only[Option.bind_eq_some_iff,Option.map_eq_some_iff]at h
   obtain⟨i,h1,js,h2,rfl⟩:=h
   obtain⟨a1,a2,a3⟩:=nY O T h2
   refine⟨.cons (by rw[O.N];exact gj h1) (oU O hl) (.inl (T.fn x)) a1,?_,?_⟩
   ·show(_::assignEach es X.env).length=_
    simp[a2]
   ·show(List.findIdx? (·.1) ((false,_)::assignEach es X.env))=none
    rw[List.findIdx?_cons]
    simp[a3]
  ·cases h
theorem qU(O:iz C X c):X.N.Nodup:=by rw[O.N];exact O.nd
theorem Eh(O:iz C X c)(T:Top C X W c){tg:Tg}{e:Expr}(h:Ei C e=some tg):GG X tg e:=by
 cases e<;>simp only[Ei]at h<;>try (cases h;done)
 ·rename_i x q
  split at h
  ·rename_i hl
   simp only[Option.map_eq_some_iff]at h
   obtain⟨i,h1,rfl⟩:=h
   exact um (qU O) (by rw[O.N];exact gj h1) (oU O hl) (.inl (T.fn x))
  ·cases h
 ·simp only[Option.map_eq_some_iff]at h
  obtain⟨is,h1,rfl⟩:=h
  obtain⟨a1,a2,a3⟩:=nY O T h1
  exact yd (qU O) O.calm a1 a2 a3
theorem Cg(O:iz C X c)(T:Top C X W c){scope:Scope}{tgs:List Str}{tg:Tg}{it cond elt:E}{tgE iterE eltE:Expr}{ifs:List Expr}{cp sp np:Pos}{i:Nat}{x:Str}(B:wN X c scope tgs tg cond elt tgE eltE ifs)(hi:GI X W c it tgE iterE)(gp:plain iterE=true)
  (ge:GE X W c (.comp tgs.length tg it cond elt) (.ListComp eltE [⟨tgE,iterE,ifs,0⟩] scope cp))(hN:X.N[i]? =some x)(hl:By C.sc x=true):
  GS X W c (.set i (.comp tgs.length tg it cond elt)) (.Assign [.Name x np] (.ListComp eltE [⟨tgE,iterE,ifs,0⟩] scope cp) sp):=by
 have key:∃b:Bool,swapsWith (.ListComp eltE [⟨tgE,iterE,ifs,0⟩] scope cp) (some (.Name x np)) sp.line X.env=pure b:=⟨_,rfl⟩
 obtain⟨b,hb⟩:=key
 cases b with
 |false=>exact Hh ge (qU O) hN (oU O hl) (.inl (T.fn x)) hb
 |true=>exact xZ B hi O.calm (fun x=>uq gp _ _) (qU O) hN (oU O hl) (.inl (T.fn x)) hb
structure IhS(c:Cf)(n:Nat):Prop where
 s:∀C X W st m,iz C X c->Top C X W c->N8 n C st=some m->GS X W c m st
 ss:∀C X W st m,iz C X c->Top C X W c->nO n C st=some m->IW X W c m st
theorem acL(c:Cf):IhS c 0:=by
 constructor
 all_goals (intros;rename_i h;first|(rw[N8]at h;cases h)|(rw[nO]at h;cases h))
theorem JL(I:IhS c n)(O:iz C X c)(T:Top C X W c){st:List Stmt}{m:S}(h:nO (n+1) C st=some m):IW X W c m st:=by
 cases st with
 |nil=>rw[nO]at h;cases h;exact zN
 |cons s st=>
  rw[nO]at h
  simp only[Option.bind_eq_some_iff,Option.map_eq_some_iff]at h
  obtain⟨m1,h1,m2,h2,rfl⟩:=h
  exact v9 (I.s C X W s m1 O T h1) (I.ss C X W st m2 O T h2)
theorem QX(I:IhS c n)(O:iz C X c)(T:Top C X W c){st:Stmt}{m:S}(h0:N8 (n+1) C st=some m):GS X W c m st:=by
 have J:=ih c n
 have no:∀{P:Prop},(none:Option S)=some m->P:=fun z=>nomatch z
 have h:=h0
 unfold N8 at h
 split at h
 ·split at h
  ·cases h;exact Mi
  ·simp only[Option.map_eq_some_iff]at h
   obtain⟨m1,h1,rfl⟩:=h
   have s:=J.e C X _ m1 O h1
   exact TV s.ge.w s.va
 ·split at h
  ·split at h
   ·rename_i e _ _ _ x _
    split at h
    ·rename_i hl
     simp only[Option.bind_eq_some_iff,Option.map_eq_some_iff]at h
     obtain⟨i,h1,m1,h2,rfl⟩:=h
     have s:=J.e C X _ m1 O h2
     have hN:X.N[i]? =some x:=by rw[O.N];exact gj h1
     cases hc:lM e with
     |false=>exact Hh s.ge.w (qU O) hN (oU O hl) (.inl (T.fn x)) (jT s.pl hc)
     |true=>
      cases e<;>simp[lM]at hc
      rename_i elt gens sc cp
      obtain⟨g,rfl,tgs,tg,it,cond,m',rfl,B,gi,gp,ha⟩:=MF O h2
      obtain⟨ta,ti,tf,tn⟩:=g
      simp only at ha
      subst ha
      exact Cg O T B gi.w gp s.ge.w hN hl
    ·exact no h
   ·split at h
    ·exact no h
    ·rename_i hx
     rw[Bool.not_eq_true,Bool.or_eq_false_iff]at hx
     simp only[Option.bind_eq_some_iff,Option.map_eq_some_iff]at h
     obtain⟨is,h1,m1,h2,rfl⟩:=h
     have s:=J.e C X _ m1 O h2
     obtain⟨a1,a2,a3⟩:=nY O T h1
     exact Mh s.ge.w (yd (qU O) O.calm a1 a2 a3) (by rw[yU];exact jT s.pl hx.2) (wX hx.1) rfl
   ·split at h
    ·split at h
     ·exact no h
     ·rename_i hx
      rw[Bool.not_eq_true,Bool.or_eq_false_iff]at hx
      simp only[Option.bind_eq_some_iff]at h
      obtain⟨v,h1,h⟩:=h
      split at h
      ·simp only[Option.bind_eq_some_iff,Option.map_eq_some_iff]at h
       obtain⟨i,h2,m1,h3,rfl⟩:=h
       have s1:=J.e C X _ i O h2
       have s:=J.e C X _ m1 O h3
       exact Hg (vM O h1) s.ge.w s1.ge.w (fun v=>M5 hx.2) (by rw[yU];exact jT s.pl hx.1) vg (hu1 O) rfl
      ·exact no h
    ·exact no h
   ·exact no h
  ·exact no h
 ·--an expression alone
  split at h
  ·have dflt:∀(e:Expr)(q:Pos),lM e=false->(dY n C e).map S.expr=some m->GS X W c m (.Expr e q):=fun e q hc z=>by
    simp only[Option.map_eq_some_iff]at z
    obtain⟨m1,h1,rfl⟩:=z
    have s:=J.e C X _ m1 O h1
    exact Mj s.ge.w (jT s.pl hc)
   split at h
   ·split at h
    ·split at h
     ·rename_i hx
      simp only[Bool.and_eq_true,decide_eq_true_eq]at hx
      obtain⟨hl,rfl⟩:=hx
      simp only[Option.bind_eq_some_iff]at h
      obtain⟨v,h1,h⟩:=h
      split at h
      ·simp only[Option.map_eq_some_iff]at h
       obtain⟨m1,h2,rfl⟩:=h
       have s:=J.e C X _ m1 O h2
       exact Ck ⟨rfl,hl,cj s.pl _ _⟩ (vM O h1) s.ge.w
      ·exact no h
     ·split at h
      ·rename_i hx
       simp only[Bool.and_eq_true,decide_eq_true_eq]at hx
       obtain⟨hl,rfl⟩:=hx
       simp only[Option.bind_eq_some_iff]at h
       obtain⟨v,h1,h⟩:=h
       split at h
       ·simp only[Option.map_eq_some_iff]at h
        obtain⟨m1,h2,rfl⟩:=h
        have s:=J.e C X _ m1 O h2
        exact Cj ⟨rfl,hl,cj s.pl _ _⟩ (vM O h1) s.ge.w
       ·exact no h
      ·exact dflt _ _ rfl h
    ·exact no h
   ·exact dflt _ _ rfl h
  ·exact no h
 ·simp only[Option.bind_eq_some_iff,Option.map_eq_some_iff]at h
  obtain⟨t,h1,a,h2,b,h3,rfl⟩:=h
  exact Zi (J.e C X _ t O h1).gt.w (I.ss C X W _ a O T h2) (I.ss C X W _ b O T h3)
 ·split at h
  ·simp only[Option.bind_eq_some_iff,Option.map_eq_some_iff]at h
   obtain⟨tg,h1,it,h2,b,h3,rfl⟩:=h
   obtain⟨gi,gp⟩:=J.i C X _ _ it O h2
   exact TX T.po O.calm gi.w (Eh O T h1) (I.ss C X W _ b O T h3) (fun x=>uq gp _ _)
  ·exact no h
 ·split at h
  ·simp only[Option.bind_eq_some_iff,Option.map_eq_some_iff]at h
   obtain⟨t,h1,b,h3,rfl⟩:=h
   exact Hf T.po (J.e C X _ t O h1).gt.w (I.ss C X W _ b O T h3)
  ·exact no h
 ·exact T.ra _ _ _ _ _ h0
 ·exact no h
end
theorem za{C:Ct}{e f:Option Expr}{p:Pos}{n:Nat}{m:S}(h:N8 (n+1) C (.Raise e f p)=some m):m=.raise (xq C e f):=by
 unfold N8 at h
 simp only at h
 cases h
 rfl
theorem Top.plain{C:Ct}{X:Cx}{c:Cf}(hf:∀x,X.fn x=true)(hp:PassesOwn (model X.prog X.w) X.A X.env X.xe):Top C X W0 c:=
 ⟨hf,hp,fun e f p n m h=>by rw[za h];exact Hi⟩
theorem ihS(c:Cf):∀n,IhS c n
 |0=>acL c
 |n+1=>let I:=ihS c n
  ⟨fun C X W st m O T h=>QX I O T h,fun C X W st m O T h=>JL I O T h⟩
end Mini
end
section
namespace Mini
open PySem L2
structure Df where
 x:Str
 st:Stmt
 N:List Str
 ps:List Str
 fl:List Bool
 exs:List Str:=[]
def abK(ds:List Df):List (Str×List Bool):=ds.map fun d=>(d.x,d.fl)
def Mz(ds:List Df)(iR:List Str)(d:Df):Ct:={N:=d.N,sc:=aq d.st,fns:=abK ds,iR:=iR,exs:=d.exs}
def fnOf(ds:List Df)(iR:List Str)(d:Df):Option Fn:=(nO 60 (Mz ds iR d) (bW d.st)).map fun b=>{pars:=d.ps.length,names:=d.N.length,body:=b}
structure jF(K:PySem.W.Frag)(mg:Str->Option Value)(d:Df)(f:Addr)(fd:FuncData):Prop where
 fu:Nj K d.x d.x d.st f fd
 bi:Binds K fd d.ps []
 at_:mg d.x=some (.ref f)
section
variable{P:Program}{w:World}{K:PySem.W.Frag}{mg:Str->Option Value}{base:Heap}{ds:List Df}{iR:List Str}{p:Pg}{fa:Nat->Addr}{fd:Nat->FuncData}
end
theorem Q9{K:PySem.W.Frag}{f:List Sl->Res}{H:Hp}{a:Addr}{ns:List Int}(hO:Only H)(hS:iU K H a (ns.map V.int))(hf:∃qs,f [.val (.lst (ns.map D.int))]=.ok (.val (.bl true)) qs)(E:XK):
  jU K 1 f [.ref a] H (fun v _=>v=.bl true) E:=by
 have den:bh K H (.lst (ns.map D.int)) (.ref a):=by
  have fr:I8 K H a (ns.map V.int):=by
   rcases hS with (h|⟨o,h⟩)|h
   ·rcases hO a with z|⟨o,xs,z⟩
    ·rw[z]at h;cases h
    ·rw[z]at h;cases h
   ·exact .inl ⟨o,h⟩
   ·exact .inr h
  have l:∀(ns:List Int),ao K H (ns.map D.int) (ns.map V.int):=fun ns=>by
   induction ns with
   |nil=>exact ao.jc
   |cons i r ih=>exact ao.eE rfl ih
  unfold bh
  exact⟨a,_,rfl,fr,l ns⟩
 obtain⟨qs,hf⟩:=hf
 refine⟨[.val (.lst (ns.map D.int))],rfl,⟨rfl,fun i s e=>?_,fun i j b h1=>?_⟩,fun i o e=>?_,?_⟩
 ·cases i with
  |zero=>simp at e;subst e;exact⟨.ref a,rfl,den⟩
  |succ i=>simp at e
 ·obtain⟨⟨s,o,e1,e2⟩,_⟩:=h1
  cases i with
  |zero=>simp at e1;subst e1;cases e2
  |succ i=>simp at e1
 ·cases i with
  |zero=>simp at e
  |succ i=>simp at e
 ·rw[hf]
  exact fun v H' _ z=>z
end Mini
end
section
namespace Mini
open PySem L2
def RN(a:Arguments):List Str:=a.args.map (·.arg)
def namesOf(st:Stmt):List Str:=RN (dg st)++(((aq st).names.filter fun p=>(p.2== .local||p.2== .cell)&& !(RN (dg st)).contains p.1).map (·.1))
def cN(x:Str)(st:Stmt)(fl:List Bool):Df:={x:=x,st:=st,N:=namesOf st,ps:=RN (dg st),fl:=fl}
def JW(d:Df):Bool:=
 decide ((aq d.st).kind=.function)&& !(aq d.st).isCoroutine&& !(aq d.st).isGenerator&&decide d.N.Nodup&&decide (d.N.take d.ps.length=d.ps)
 &&(d.ps.all fun x=>(aq d.st).names.lookup x==some .local||(aq d.st).names.lookup x==some .cell)&&((aq d.st).names.all fun y=>y.2 != .free)
theorem JV{d:Df}(h:JW d=true):dR d.N d.ps (aq d.st):=by
 unfold JW at h
 simp only[Bool.and_eq_true,decide_eq_true_eq,Bool.not_eq_true',List.all_eq_true,Bool.or_eq_true,beq_iff_eq,bne_iff_ne,ne_eq]at h
 obtain⟨⟨⟨⟨⟨⟨h1,h2⟩,h3⟩,h4⟩,h5⟩,h6⟩,h7⟩:=h
 exact⟨h1,h2,h3,h4,h5,h6,h7⟩
def Ws:Value->D->Bool
 |.none,.non=>true
 |.bool a,.bl b=>a==b
 |.int i _,.int j=>i==j
 |.str x _,.str y=>decide (x=y)
 |_,_=>false
def Ak:List Value->List D->Bool
 |[],[]=>true
 |u::us,d::ds=>Ws u d&&Ak us ds
 |_,_=>false
def DY(o:Obj)(ds:List D):Bool:=o.cls== .type "tuple"&&o.dict.isNone&&match o.data with
 |.seq its _=>Ak its.toList ds&&decide (its.size<=1000)
 |_=>false
def Ni(K:PySem.W.Frag)(mg:Str->Option Value)(x:Str)(d:D):Prop:=∃v u,mg x=some u/\RelV v u/\∀H,bh K H d v
theorem DP{K:PySem.W.Frag}{u:Value}{d:D}(h:Ws u d=true):∃v,RelV v u/\∀H,bh K H d v:=by
 cases u<;>cases d<;>simp[Ws]at h
 ·exact⟨.non,rfl,fun H=>rfl⟩
 ·subst h;exact⟨.bl _,rfl,fun H=>rfl⟩
 ·subst h;exact⟨.int _,⟨_,rfl⟩,fun H=>rfl⟩
 ·subst h;exact⟨.str _,⟨_,rfl⟩,fun H=>rfl⟩
theorem yO{K:PySem.W.Frag}:∀{us:List Value}{ds:List D},Ak us ds=true->∃vs,Vals vs us/\∀H,ao K H ds vs
 |[],[]=>fun _=>⟨[],.nil,fun H=>ao.jc⟩
 |u::us,d::ds=>fun h=>by
  unfold Ak at h
  rw[Bool.and_eq_true]at h
  obtain⟨v,r,e⟩:=DP (K:=K) h.1
  obtain⟨vs,rs,es⟩:=yO (K:=K) h.2
  exact⟨v::vs,.cons r rs,fun H=>ao.eE (e H) (es H)⟩
 |[],_::_=>fun h=>by simp[Ak]at h
 |_::_,[]=>fun h=>by simp[Ak]at h
section
variable{K:PySem.W.Frag}{mg:Str->Option Value}{h:Heap}{x:Str}{d:D}{u:Value}{a:Addr}{o:Obj}{ds:List D}
theorem TY(X:K.In h)(G:h.Ns mainGlobals mg)(e:PySem.W.nsIn K mainGlobals x=some (some u))(hv:Ws u d=true):Ni K mg x d:=by
 obtain⟨v,r,q⟩:=DP (K:=K) hv
 exact⟨v,u,PySem.W.mg_of X G e,r,q⟩
theorem T3(X:K.In h)(G:h.Ns mainGlobals mg)(e:PySem.W.nsIn K mainGlobals x=some (some (.ref a)))(l:K.lookup a=some o)(hv:DY o ds=true):Ni K mg x (.tup ds):=by
 unfold DY at hv
 simp only[Bool.and_eq_true,beq_iff_eq,Option.isNone_iff_eq_none]at hv
 obtain⟨⟨hc,hd⟩,hv⟩:=hv
 split at hv
 ·rename_i its n hs
  rw[Bool.and_eq_true,decide_eq_true_eq]at hv
  obtain⟨vs,r,q⟩:=yO (K:=K) hv.1
  exact⟨.ref a,_,PySem.W.mg_of X G e,rfl,fun H=>cX (.inr ⟨o,its,n,l,hc,hd,hs,Nat.le_of_lt (Az hv.2),r⟩) (q H)⟩
 ·cases hv
end
def Ah(K:PySem.W.Frag)(mg:Str->Option Value):List Df->List (Addr×FuncData)->Prop
 |[],[]=>True
 |d::ds,(f,fd)::r=>jF K mg d f fd/\Ah K mg ds r
 |_,_=>False
theorem Ah.at{K:PySem.W.Frag}{mg:Str->Option Value}:∀{ds:List Df}{fs:List (Addr×FuncData)},Ah K mg ds fs->∀(i:Nat)d,ds[i]? =some d->∃q,fs[i]? =some q/\jF K mg d q.1 q.2
 |[],_,_,i=>fun d e=>by simp at e
 |_::_,[],h,_=>fun _ _=>h.elim
 |d::ds,(f,fd)::r,h,0=>fun d' e=>by cases e;exact⟨(f,fd),rfl,h.1⟩
 |d::ds,(f,fd)::r,h,i+1=>fun d' e=>h.2.at i d' e
def Af(K:PySem.W.Frag)(mg:Str->Option Value):List Str->List D->Prop
 |[],[]=>True
 |x::xs,d::ds=>Ni K mg x d/\Af K mg xs ds
 |_,_=>False
theorem Af.at{K:PySem.W.Frag}{mg:Str->Option Value}:∀{xs:List Str}{ds:List D},Af K mg xs ds->∀(k:Nat)x,xs[k]? =some x->∃d,ds[k]? =some d/\Ni K mg x d
 |[],_,_,k=>fun x e=>by simp at e
 |_::_,[],h,_=>fun _ _=>h.elim
 |x::xs,d::ds,h,0=>fun x' e=>by cases e;exact⟨d,rfl,h.1⟩
 |x::xs,d::ds,h,k+1=>fun x' e=>h.2.at k x' e
end Mini
end
section
namespace Mini
open PySem L2
def I9(K:PySem.W.Frag)(x:Str)(st:Stmt):Prop:=∃(f:Addr)(od an:Option Addr)(sl:Array (Option Value))(oc kV dc pm cd ct:Value),
 PySem.W.nsIn K mainGlobals x=some (some (.ref f))/\K.lookup f=some ⟨oc,od,.func (PySem.W.fnOf x x (dg st) (bW st) (aq st) .none kV dc pm an cd ct),sl⟩/\PySem.W.codeIn K cd x=true/\PySem.W.keepIn K (.ref f)=true
theorem dIn{K:PySem.W.Frag}{x:Str}{st:Stmt}{f:Addr}{od an:Option Addr}{sl:Array (Option Value)}{oc kV dc pm cd ct:Value}(a:PySem.W.nsIn K mainGlobals x=some (some (.ref f)))
  (l:K.lookup f=some ⟨oc,od,.func (PySem.W.fnOf x x (dg st) (bW st) (aq st) .none kV dc pm an cd ct),sl⟩)(c:PySem.W.codeIn K cd x=true)(p:PySem.W.keepIn K (.ref f)=true):I9 K x st:=⟨f,od,an,sl,oc,kV,dc,pm,cd,ct,a,l,c,p⟩
def AllIn(K:PySem.W.Frag):List (Str×Stmt)->Prop
 |[]=>True
 |(x,s)::r=>I9 K x s/\AllIn K r
def Bd(d:Df):Prop:=∀(kV dc pm:Value)(an:Option Addr)(cd ct:Value)(us:List Value),us.length=d.ps.length->bindArgs (PySem.W.fnOf d.x d.x (dg d.st) (bW d.st) (aq d.st) .none kV dc pm an cd ct) ⟨us,[]⟩=pure (d.ps.zip us)
theorem ql{us:List Value}(h:us.length=1):∃a,us=[a]:=List.length_eq_one_iff.mp h
theorem Lj{us:List Value}{n:Nat}(h:us.length=n+1):∃a r,us=a::r/\r.length=n:=by
 cases us with
 |nil=>simp at h
 |cons a r=>exact⟨a,r,rfl,by simpa using h⟩
theorem j5{us:List Value}(h:us.length=2):∃a b,us=[a,b]:=by
 obtain⟨a,r,rfl,h2⟩:=Lj h;obtain⟨b,rfl⟩:=ql h2;exact⟨a,b,rfl⟩
theorem vW{us:List Value}(h:us.length=3):∃a b c,us=[a,b,c]:=by
 obtain⟨a,r,rfl,h2⟩:=Lj h;obtain⟨b,c,rfl⟩:=j5 h2;exact⟨a,b,c,rfl⟩
theorem Gw{us:List Value}(h:us.length=4):∃a b c d,us=[a,b,c,d]:=by
 obtain⟨a,r,rfl,h2⟩:=Lj h;obtain⟨b,c,d,rfl⟩:=vW h2;exact⟨a,b,c,d,rfl⟩
theorem aco{us:List Value}(h:us.length=5):∃a b c d e,us=[a,b,c,d,e]:=by
 obtain⟨a,r,rfl,h2⟩:=Lj h;obtain⟨b,c,d,e,rfl⟩:=Gw h2;exact⟨a,b,c,d,e,rfl⟩
def Ag:List Df->Prop
 |[]=>True
 |d::r=>Bd d/\Ag r
inductive U5(K:PySem.W.Frag)(x:Str):D->Prop
 |v {u:Value} {d:D}:PySem.W.nsIn K mainGlobals x=some (some u)->Ws u d=true->U5 K x d
 |t {a:Addr} {o:Obj} {ds:List D}:PySem.W.nsIn K mainGlobals x=some (some (.ref a))->K.lookup a=some o->DY o ds=true->U5 K x (.tup ds)
def uN(K:PySem.W.Frag):List Str->List D->Prop
 |[],[]=>True
 |x::xs,d::ds=>U5 K x d/\uN K xs ds
 |_,_=>False
def Jd(K:PySem.W.Frag):List Str->Prop
 |[]=>True
 |x::r=>PySem.W.nsIn K mainGlobals x=some none/\Jd K r
section
variable{K:PySem.W.Frag}{h:Heap}{mg:Str->Option Value}
theorem Il(X:K.In h)(G:h.Ns mainGlobals mg):∀(ds:List Df),Ag ds->AllIn K (ds.map fun d=>(d.x,d.st))->
  ∃fs,Ah K mg ds fs/\∀(i:Nat)d,ds[i]? =some d->∃q,fs[i]? =some q/\jF K mg d q.1 q.2/\∀(s:Shared)(us:List Value),us.length=d.ps.length->BindsTo s q.2 ⟨us,[]⟩ (d.ps.zip us)
 |[],_,_=>⟨[],trivial,fun i d e=>by simp at e⟩
 |d::ds,⟨b,bs⟩,⟨⟨f,od,an,sl,oc,kV,dc,pm,cd,ct,a,l,c,p⟩,is⟩=>by
  obtain⟨fs,A,B⟩:=Il X G ds bs is
  have F:=Up l c p
  have D:jF K mg d f (PySem.W.fnOf d.x d.x (dg d.st) (bW d.st) (aq d.st) .none kV dc pm an cd ct):=⟨F,F.binds b,PySem.W.mg_of X G a⟩
  refine⟨(f,_)::fs,⟨D,A⟩,fun i e he=>?_⟩
  cases i with
  |zero=>cases he;exact⟨_,rfl,D,fun s us hl=>.of_eq (b kV dc pm an cd ct us hl)⟩
  |succ i=>exact B i e he
theorem Ik(X:K.In h)(G:h.Ns mainGlobals mg):∀(xs:List Str)(ds:List D),uN K xs ds->Af K mg xs ds
 |[],[],_=>trivial
 |_::xs,_::ds,⟨g,r⟩=>⟨by cases g with
  |v e hv=>exact TY X G e hv
  |t e l hv=>exact T3 X G e l hv,Ik X G xs ds r⟩
 |[],_::_,h=>h.elim
 |_::_,[],h=>h.elim
theorem Ij(X:K.In h)(G:h.Ns mainGlobals mg):∀(xs:List Str),Jd K xs->∀x∈xs,mg x=none
 |[],_=>fun x hx=>by cases hx
 |_::r,⟨e,es⟩=>fun x hx=>by
  rcases List.mem_cons.mp hx with rfl|hx
  ·exact PySem.W.mg_none_of X G e
  ·exact Ij X G r es x hx
end
theorem Dw{l:PySem.W.OpenLaw}{q:Program}{loose:List Str}{XP:(Str->Option Value)->Heap->Prop}{YP:World->Heap->Prop}{d:DefRec}{K:Params->PySem.W.Frag}{p:Pg}{L:Nat}{y:Str}(hn:l.most=some 63)(hdf:d.params.defaults=[])
  (hY:∀(w:World)(h:Heap),YP w h->(K w.params).In h)(math:∀ns:List Int,ns.length<=63->∃qs,p.fn 60 L [.val (.lst (ns.map D.int))]=.ok (.val (.bl true)) qs)
  (F:∀(w:World)(mg:Str->Option Value)(fa:Addr)(h:Heap),(K w.params).In h->h.Ns mainGlobals mg->mg d.name=some (.ref fa)->
   ∃fd:FuncData,(∀(s:Shared)(u:Value),BindsTo s fd ⟨[u],[]⟩ [(y,u)])/\∀base:Heap,(K w.params).In base->base.Ns mainGlobals mg->fX l.prog w (K w.params) mg base wM 60 fa fd [y] (jU (K w.params) 1 (p.fn 60 L))):
  PySem.W.WalkO q loose XP YP l.row.toRowW d [] (fun f vs=>PySem.call f vs):=
 L2.Jk (n:=63) (k:=60) (x:=y) (CX:=fun _=>wM) (sp:=fun w=>jU (K w.params) 1 (p.fn 60 L)) hn (by decide) hdf ⟨rfl,by decide,by decide⟩ hY F (fun _ _ a ns hl hO hS=>Q9 hO hS (math ns hl) _) fun _ _ _ _ _ z=>z
end Mini
end
section
namespace Mini
section
variable{α β:Type}{σ:Ev}{d:D}{o:Ob}{b:Bool}{i:Int}{k:Nat}{xs:List D}
@[simp]theorem abd{a:α}{f:α->Ev->Out β}:(Out.ok a σ).bind f=f a σ:=rfl
@[simp]theorem ZG{f:α->Ev->Out β}:(Out.exc k σ).bind f=.exc k σ:=rfl
@[simp]theorem ZJ{f:α->Ev->Out β}:(Out.bad:Out α).bind f=.bad:=rfl
@[simp]theorem bO{f:D->Ev->Out β}:(Out.ok (.val d) σ).ak f=f d σ:=rfl
@[simp]theorem ju{f:D->Ev->Out β}:(Out.ok (.new o) σ).ak f=f o.d σ:=rfl
@[simp]theorem V0{f:D->Ev->Out β}:(Out.exc k σ).ak f=.exc k σ:=rfl
@[simp]theorem V1{f:D->Ev->Out β}:(Out.bad).ak f=.bad:=rfl
@[simp]theorem eX{f:Bool->Ev->Out β}:(Out.ok (.val (.bl b)) σ).bR gR f=f b σ:=rfl
@[simp]theorem VP{f:Bool->Ev->Out β}:(Out.ok (.val (.int i)) σ).bR gR f=f (i !=0) σ:=rfl
@[simp]theorem VM{f:Bool->Ev->Out β}:(Out.ok (.val (.tup xs)) σ).bR gR f=f (!xs.isEmpty) σ:=rfl
@[simp]theorem VN{f:Bool->Ev->Out β}:(Out.ok (.val (.lst xs)) σ).bR gR f=f (!xs.isEmpty) σ:=rfl
@[simp]theorem VR{f:Bool->Ev->Out β}:(Out.exc k σ).bR gR f=.exc k σ:=rfl
@[simp]theorem VV{f:Bool->Ev->Out β}:(Out.bad).bR gR f=.bad:=rfl
@[simp]theorem ad3{a:α}{f:α->Ev->Fl}:(Out.ok a σ).fl f=f a σ:=rfl
@[simp]theorem acX{f:α->Ev->Fl}:(Out.exc k σ:Out α).fl f=.exc k σ:=rfl
@[simp]theorem acY{f:α->Ev->Fl}:(Out.bad:Out α).fl f=.bad:=rfl
@[simp]theorem Mu{f:D->Ev->Fl}:(Out.ok (.val d) σ).iT f=f d σ:=rfl
@[simp]theorem aaW{f:D->Ev->Fl}:(Out.ok (.new o) σ).iT f=f o.d σ:=rfl
@[simp]theorem aaX{f:D->Ev->Fl}:(Out.exc k σ).iT f=.exc k σ:=rfl
@[simp]theorem aaY{f:D->Ev->Fl}:(Out.bad).iT f=.bad:=rfl
@[simp]theorem acZ{f:Bool->Ev->Fl}:(Out.ok (.val (.bl b)) σ).Dl f=f b σ:=rfl
@[simp]theorem aaU{f:Bool->Ev->Fl}:(Out.exc k σ).Dl f=.exc k σ:=rfl
@[simp]theorem aaV{f:Bool->Ev->Fl}:(Out.bad).Dl f=.bad:=rfl
@[simp]theorem rn{a:α}:Mini.lift σ (some a)=.ok a σ:=rfl
@[simp]theorem Vz:Mini.lift σ (none:Option α)=.bad:=rfl
@[simp]theorem Xh{f:Ev->Fl}:(Fl.next σ).seq f=f σ:=rfl
@[simp]theorem aam{r:Rv}{f:Ev->Fl}:(Fl.ret r σ).seq f=.ret r σ:=rfl
@[simp]theorem aan{f:Ev->Fl}:(Fl.exc k σ).seq f=.exc k σ:=rfl
@[simp]theorem aao{f:Ev->Fl}:(Fl.brk σ).seq f=.brk σ:=rfl
@[simp]theorem Xi{f:Ev->Fl}:(Fl.cont σ).seq f=.cont σ:=rfl
@[simp]theorem aap{f:Ev->Fl}:(Fl.bad).seq f=.bad:=rfl
@[simp]theorem kZ{f:Ev->Fl}:(Fl.next σ).turn f=f σ:=rfl
@[simp]theorem Vi{f:Ev->Fl}:(Fl.cont σ).turn f=f σ:=rfl
@[simp]theorem Ww{f:Ev->Fl}:(Fl.brk σ).turn f=.next σ:=rfl
@[simp]theorem Wu{r:Rv}{f:Ev->Fl}:(Fl.ret r σ).turn f=.ret r σ:=rfl
@[simp]theorem Wv{f:Ev->Fl}:(Fl.exc k σ).turn f=.exc k σ:=rfl
@[simp]theorem Wx{f:Ev->Fl}:(Fl.bad).turn f=.bad:=rfl
@[simp]theorem Xj:lA (.val d) σ=.ret (.val d) σ:=rfl
@[simp]theorem Xk:lA (.new o) σ=.ret (.new o) σ:=rfl
@[simp]theorem Yn{τ:Ev}:mO (some τ)=.next τ:=rfl
@[simp]theorem Yo:mO none=.bad:=rfl
@[simp]theorem ZV:argv (.val d)=.val d:=rfl
@[simp]theorem ZZ:argv (.new o)=.val o.d:=rfl
@[simp]theorem ZX:argv (.ref k)=.ref k:=rfl
@[simp]theorem ZW:argv (.tmp o)=.tmp o:=rfl
@[simp]theorem W9:Rv.vm (.val d)=some (.val d):=rfl
@[simp]theorem Xa:Rv.vm (.new o)=some (.own o):=rfl
@[simp]theorem aa7:Rv.jz (.val d)=some d:=rfl
@[simp]theorem aa8:Rv.jz (.new o)=some o.d:=rfl
@[simp]theorem Hx:Ob.d (.lst xs)=.lst xs:=rfl
@[simp]theorem aeA{ys:List D}:Ob.d (.dct xs ys)=.dG xs ys:=rfl
@[simp]theorem aav:BK (.tup xs)=some xs.length:=rfl
@[simp]theorem aaw:BK (.lst xs)=some xs.length:=rfl
@[simp]theorem abh:b1 .len (.tup xs)=some (.val (.int xs.length)):=rfl
@[simp]theorem abi:b1 .len (.lst xs)=some (.val (.int xs.length)):=rfl
@[simp]theorem abj:b1 .int (.int i)=some (.val (.int i)):=rfl
@[simp]theorem abk:b1 .int (.bl b)=some (.val (.int (b2i b))):=rfl
@[simp]theorem ZL:b1 .tuple d=(bw d).bind fun xs=>some (.val (.tup xs)):=rfl
@[simp]theorem abg:b1 .list d=(bw d).bind fun xs=>some (.new (.lst xs)):=rfl
@[simp]theorem Ib:b1 .all d=(bw d).bind fun xs=>(bools xs).map fun bs=>.val (.bl (bs.all id)):=rfl
@[simp]theorem adi:b1 .any d=(bw d).bind fun xs=>(bools xs).map fun bs=>.val (.bl (bs.any id)):=rfl
@[simp]theorem abl:b1 .dict d=(bw d).bind fun xs=>(dictOf [] [] xs).map fun p=>.new (.dct p.1 p.2):=rfl
@[simp]theorem V3:b1 .sorted d=(fQ d).bind fun xs=>(lX xs).map fun ys=>.new (.lst ys):=rfl
@[simp]theorem Vo:bw (.tup xs)=some xs:=rfl
@[simp]theorem qI:bw (.lst xs)=some xs:=rfl
@[simp]theorem Vv:fQ (.lst xs)=some xs:=rfl
@[simp]theorem aaR:getD (.tup xs) (.int i)=at? xs i:=rfl
@[simp]theorem aaS:getD (.lst xs) (.int i)=at? xs i:=rfl
@[simp]theorem add_int{j:Int}:binop .add (.int i) (.int j)=some (.val (.int (i+j))):=rfl
@[simp]theorem sub_int{j:Int}:binop .sub (.int i) (.int j)=some (.val (.int (i-j))):=rfl
@[simp]theorem mul_int{j:Int}:binop .mul (.int i) (.int j)=if small i||small j then some (.val (.int (i*j)))else none:=rfl
@[simp]theorem mod_int{j:Int}:binop .mod (.int i) (.int j)=if 0<j then some (.val (.int (i%j)))else none:=rfl
@[simp]theorem lt_int{j:Int}:aC .lt (.int i) (.int j)=some (decide (i<j)):=rfl
@[simp]theorem gt_int{j:Int}:aC .gt (.int i) (.int j)=some (decide (j<i)):=rfl
@[simp]theorem le_int{j:Int}:aC .le (.int i) (.int j)=some (decide (i<=j)):=rfl
@[simp]theorem ge_int{j:Int}:aC .ge (.int i) (.int j)=some (decide (j<=i)):=rfl
@[simp]theorem adY{d:D}:aC .je d .non=some (o8 d):=rfl
@[simp]theorem acg{d:D}:aC .notN d .non=some (!o8 d):=rfl
@[simp]theorem VB{xs:List D}:o8 (.tup xs)=false:=rfl
@[simp]theorem VD:o8 .non=true:=rfl
@[simp]theorem eq_int{j:Int}:aC .eq (.int i) (.int j)=some (i==j):=rfl
@[simp]theorem ne_int{j:Int}:aC .ne (.int i) (.int j)=some (!(i==j)):=rfl
@[simp]theorem aez{c:Bool}:aC .eq (.bl b) (.bl c)=some (b==c):=rfl
@[simp]theorem adQ{c:Bool}:aC .ne (.bl b) (.bl c)=some (!(b==c)):=rfl
@[simp]theorem eq_str{x y:PySem.Str}:aC .eq (.str x) (.str y)=some (decide (x=y)):=rfl
@[simp]theorem ne_str{x y:PySem.Str}:aC .ne (.str x) (.str y)=some (!decide (x=y)):=rfl
@[simp]theorem V5:E.au (.var k)=some k:=rfl
@[simp]theorem We(d:D):E.au (.con d)=none:=rfl
@[simp]theorem UL(k:Nat):E.au (.glob k)=none:=rfl
@[simp]theorem V6(a:E):E.au (.tup a)=none:=rfl
@[simp]theorem Wa(a:E):E.au (.lis a)=none:=rfl
@[simp]theorem ZR(o:Ji)(a b:E):E.au (.op o a b)=none:=rfl
@[simp]theorem V9(a:E):E.au (.neg a)=none:=rfl
@[simp]theorem Wf(o:Cm)(a b:E):E.au (.cmp o a b)=none:=rfl
@[simp]theorem Qh(o p:Cm)(a b c:E):E.au (.chain o p a b c)=none:=rfl
@[simp]theorem Wg(a:E):E.au (.and a)=none:=rfl
@[simp]theorem ZQ(a:E):E.au (.or a)=none:=rfl
@[simp]theorem V8(a:E):E.au (.not a)=none:=rfl
@[simp]theorem Wb(a b c:E):E.au (.ite a b c)=none:=rfl
@[simp]theorem Wd(a b:E):E.au (.idx a b)=none:=rfl
@[simp]theorem V7(a b c:E):E.au (.slc a b c)=none:=rfl
@[simp]theorem UT(f:Nat)(a:E):E.au (.call f a)=none:=rfl
@[simp]theorem ZS(b:Bi)(a:E):E.au (.bi b a)=none:=rfl
@[simp]theorem Wc(a:E)(t:Ty):E.au (.isi a t)=none:=rfl
@[simp]theorem V4(a b:E):E.au (.zip a b)=none:=rfl
@[simp]theorem M7(a:E):E.au (.range1 a)=none:=rfl
@[simp]theorem M6(a b:E):E.au (.range2 a b)=none:=rfl
@[simp]theorem Qg(a b:E):E.au (.count a b)=none:=rfl
@[simp]theorem Qf(i:Nat)(a:E):E.au (.popAt i a)=none:=rfl
@[simp]theorem pX(n:Nat)(tg:Tg)(a b c:E):E.au (.comp n tg a b c)=none:=rfl
@[simp]theorem ZP(a:E):E.au (.rd a)=none:=rfl
theorem iy(xs:List D)(j:Nat)(h:j<xs.length):at? xs (j:Int)=xs[j]? :=by
 unfold at? ix?
 rw[if_neg (by omega:¬(j:Int)<0),if_pos ⟨by omega,by omega⟩]
 simp
@[simp]theorem at0{a:D}:at? (a::xs) 0=some a:=(iy (a::xs) 0 (by simp)).trans rfl
@[simp]theorem at1{a b:D}:at? (a::b::xs) 1=some b:=(iy (a::b::xs) 1 (by simp)).trans rfl
@[simp]theorem at2{a b c:D}:at? (a::b::c::xs) 2=some c:=(iy (a::b::c::xs) 2 (by simp)).trans rfl
@[simp]theorem at3{a b c e:D}:at? (a::b::c::e::xs) 3=some e:=(iy (a::b::c::e::xs) 3 (by simp)).trans rfl
end
end Mini
end
section
namespace Mini
def aV(bs:List Bool):D:=.tup (bs.map .bl)
def cU:Nat->List (List Bool)
 |0=>[[]]
 |k+1=>(cU k).map (· ++[false])++(cU k).map (· ++[true])
def masks:Nat->List (List Bool)
 |0=>[[]]
 |k+1=>(masks k).map (false:: ·)++(masks k).map (true:: ·)
theorem qX:∀(bs:List Bool),bs∈masks bs.length
 |[]=>by simp[masks]
 |b::bs=>by
  have:=qX bs
  cases b<;>simp[masks,this]
def jC{α:Type}:List Bool->List α->List α
 |b::bs,x::xs=>if b then x::jC bs xs else jC bs xs
 |_,_=>[]
def v7:List (List Bool)->Bool
 |a::b::r=>iK a b&&v7 (b::r)
 |_=>true
def nU(k:Nat)(bs:List Bool):Bool:=match lX (jC bs ((cU k).map aV))with
 |some ws=>if ws.isEmpty then true else match iH ws with
  |some rs=>(rs.all fun r=>r.length==k)&&v7 rs
  |none=>false
 |none=>false
theorem W8:(masks 2).all (nU 1)=true:=by decide+kernel
theorem W7:(masks 4).all (nU 2)=true:=by decide+kernel
theorem W6:(masks 8).all (nU 3)=true:=by decide+kernel
theorem rT:∀{ys:List D}{bs:List Bool},bools ys=some bs->ys=bs.map .bl
 |[],bs,e=>by cases e;rfl
 |y::ys,bs,e=>by
  cases y with
  |bl b=>
   simp only[bools]at e
   cases q:bools ys with
   |none=>rw[q]at e;cases e
   |some r=>rw[q]at e;cases e;rw[rT q];rfl
  |_=>cases e
theorem qM:∀{xs:List D}{rs:List (List Bool)},iH xs=some rs->xs=rs.map aV
 |[],rs,e=>by cases e;rfl
 |y::ys,rs,e=>by
  cases y with
  |tup zs=>
   simp only[iH]at e
   cases q:bools zs with
   |none=>rw[q]at e;cases e
   |some bs=>
    cases bs with
    |nil=>rw[q]at e;cases e
    |cons b bs=>
     rw[q]at e
     simp only at e
     cases q2:iH ys with
     |none=>rw[q2]at e;cases e
     |some rs'=>
      rw[q2]at e
      cases e
      rw[qM q2,rT q]
      rfl
  |_=>cases e
theorem lw:∀k,(cU k).length=2 ^k
 |0=>rfl
 |k+1=>by simp[cU,lw k];omega
theorem Ax(k:Nat)(h1:1<=k)(h3:k<=3)(bs:List Bool)(hl:bs.length=2 ^k):∃rs,lX (jC bs ((cU k).map aV))=some (rs.map aV)/\(∀r∈rs,r.length=k)/\v7 rs=true:=by
 have ok:nU k bs=true:=by
  have hm:=qX bs
  rw[hl]at hm
  rcases (by omega:k=1\/k=2\/k=3)with rfl|rfl|rfl
  ·exact List.all_eq_true.mp W8 bs hm
  ·exact List.all_eq_true.mp W7 bs hm
  ·exact List.all_eq_true.mp W6 bs hm
 unfold nU at ok
 cases q:lX (jC bs ((cU k).map aV))with
 |none=>rw[q]at ok;cases ok
 |some ws=>
  rw[q]at ok
  simp only at ok
  split at ok
  ·rename_i he
   have:ws=[]:=by simpa using he
   subst this
   exact⟨[],rfl,fun r h=>(by cases h),rfl⟩
  ·cases q2:iH ws with
   |none=>rw[q2]at ok;cases ok
   |some rs=>
    rw[q2]at ok
    simp only[Bool.and_eq_true,List.all_eq_true,beq_iff_eq]at ok
    exact⟨rs,by rw[qM q2],ok.1,ok.2⟩
end Mini
end
section
namespace Mini
theorem filter_tt{α:Type}:∀(xs:List α),xs.filter (fun _=>true)=xs
 |[]=>rfl
 |x::xs=>by rw[List.filter_cons_of_pos rfl,filter_tt xs]
def bK(s:Sl):Prop:=s=.un\/∃d,s=.val d
theorem qH{s:Sl}(h:bK s)(d:D)(r:Ev):bA (.name 0) d (s::r)=some (.val d::r):=by
 rcases h with rfl|⟨e,rfl⟩<;>rfl
theorem Ba{s t:Sl}(h:bK s)(h':bK t)(a b:D)(r:Ev):bA (.tup [0,1]) (.tup [a,b]) (s::t::r)=some (.val a:: .val b::r):=by
 rcases h with rfl|⟨e,rfl⟩<;>rcases h' with rfl|⟨e',rfl⟩<;>rfl
theorem Hy(c:Cf)(d:D)(σ:Ev):ev c (.con d) σ=.ok (.val d) σ:=rfl
section
variable{c:Cf}{τ:Ev}{cond elt:Ev->Out Rv}
theorem go1{f:D->D}{p:D->Bool}:∀(xs acc:List D)(s:Sl),bK s->(∀x∈xs,cond (.val x::τ)=.ok (.val (.bl (p x))) (.val x::τ))->(∀x∈xs,p x=true->elt (.val x::τ)=.ok (.val (f x)) (.val x::τ))->
  ∃s',bK s'/\aK (.name 0) cond elt xs acc (s::τ)=.ok (acc++(xs.filter p).map f) (s'::τ)
 |[]=>fun acc s hs _ _=>⟨s,hs,by simp[aK]⟩
 |x::xs=>fun acc s hs hc he=>by
  have c1:=hc x List.mem_cons_self
  rw[aK,qH hs]
  simp only
  rw[c1,eX]
  cases q:p x with
  |true=>
   obtain⟨s',a1,a2⟩:=go1 (f:=f) (p:=p) xs (acc++[f x]) (.val x) (.inr ⟨x,rfl⟩) (fun y hy=>hc y (List.mem_cons_of_mem _ hy)) (fun y hy=>he y (List.mem_cons_of_mem _ hy))
   refine⟨s',a1,?_⟩
   rw[if_pos rfl,he x List.mem_cons_self q,bO,a2]
   simp[q]
  |false=>
   obtain⟨s',a1,a2⟩:=go1 (f:=f) (p:=p) xs acc (.val x) (.inr ⟨x,rfl⟩) (fun y hy=>hc y (List.mem_cons_of_mem _ hy)) (fun y hy=>he y (List.mem_cons_of_mem _ hy))
   refine⟨s',a1,?_⟩
   rw[if_neg (by simp),a2]
   simp[q]
def pairD(p:D×D):D:=.tup [p.1,p.2]
theorem go2{f:D×D->D}{p:D×D->Bool}:∀(xs:List (D×D))(acc:List D)(s t:Sl),bK s->bK t->(∀x∈xs,cond (.val x.1:: .val x.2::τ)=.ok (.val (.bl (p x))) (.val x.1:: .val x.2::τ))->
  (∀x∈xs,p x=true->elt (.val x.1:: .val x.2::τ)=.ok (.val (f x)) (.val x.1:: .val x.2::τ))->
  ∃s' t',aK (.tup [0,1]) cond elt (xs.map pairD) acc (s::t::τ)=.ok (acc++(xs.filter p).map f) (s'::t'::τ)
 |[]=>fun acc s t hs ht _ _=>⟨s,t,by simp[aK]⟩
 |x::xs=>fun acc s t hs ht hc he=>by
  have c1:=hc x List.mem_cons_self
  rw[List.map_cons,aK,show pairD x=.tup [x.1,x.2]from rfl,Ba hs ht]
  simp only
  rw[c1,eX]
  cases q:p x with
  |true=>
   obtain⟨s',t',a2⟩:=go2 (f:=f) (p:=p) xs (acc++[f x]) (.val x.1) (.val x.2) (.inr ⟨_,rfl⟩) (.inr ⟨_,rfl⟩) (fun y hy=>hc y (List.mem_cons_of_mem _ hy)) (fun y hy=>he y (List.mem_cons_of_mem _ hy))
   refine⟨s',t',?_⟩
   rw[if_pos rfl,he x List.mem_cons_self q,bO,a2]
   simp[q]
  |false=>
   obtain⟨s',t',a2⟩:=go2 (f:=f) (p:=p) xs acc (.val x.1) (.val x.2) (.inr ⟨_,rfl⟩) (.inr ⟨_,rfl⟩) (fun y hy=>hc y (List.mem_cons_of_mem _ hy)) (fun y hy=>he y (List.mem_cons_of_mem _ hy))
   refine⟨s',t',?_⟩
   rw[if_neg (by simp),a2]
   simp[q]
end
section
variable{c:Cf}{σ τ:Ev}{it co el:E}{r:Rv}{d:D}{xs:List D}
theorem Uv(f:D->D)(p:D->Bool)(hi:ev c it σ=.ok r τ)(hr:r.jz=some d)(hd:items d=some xs)(hc:∀x∈xs,ev c co (.val x::τ)=.ok (.val (.bl (p x))) (.val x::τ))(he:∀x∈xs,p x=true->ev c el (.val x::τ)=.ok (.val (f x)) (.val x::τ)):
  ev c (.comp 1 (.name 0) it co el) σ=.ok (.new (.lst ((xs.filter p).map f))) τ:=by
 obtain⟨s',_,a⟩:=go1 (f:=f) (p:=p) xs [] .un (.inl rfl) hc he
 rw[kY,hi]
 have b:∀{β:Type}(g:D->Ev->Out β),(Out.ok r τ).ak g=g d τ:=fun g=>by cases r<;>simp[Rv.jz]at hr<;>subst hr<;>rfl
 rw[b]
 simp only[hd]
 rw[show List.replicate 1 Sl.un++τ=.un::τ from rfl,a]
 simp
theorem Qa(f:D->D)(hi:ev c it σ=.ok r τ)(hr:r.jz=some d)(hd:items d=some xs)(he:∀x∈xs,ev c el (.val x::τ)=.ok (.val (f x)) (.val x::τ)):
  ev c (.comp 1 (.name 0) it (.con (.bl true)) el) σ=.ok (.new (.lst (xs.map f))) τ:=by
 have:=Uv (co:=.con (.bl true)) f (fun _=>true) hi hr hd (fun x _=>Hy c _ _) (fun x hx _=>he x hx)
 rw[filter_tt]at this
 exact this
theorem HF{ps:List (D×D)}(f:D×D->D)(p:D×D->Bool)(hi:ev c it σ=.ok r τ)(hr:r.jz=some d)(hd:items d=some (ps.map pairD))(hc:∀x∈ps,ev c co (.val x.1:: .val x.2::τ)=.ok (.val (.bl (p x))) (.val x.1:: .val x.2::τ))
  (he:∀x∈ps,p x=true->ev c el (.val x.1:: .val x.2::τ)=.ok (.val (f x)) (.val x.1:: .val x.2::τ)):
  ev c (.comp 2 (.tup [0,1]) it co el) σ=.ok (.new (.lst ((ps.filter p).map f))) τ:=by
 obtain⟨s',t',a⟩:=go2 (f:=f) (p:=p) ps [] .un .un (.inl rfl) (.inl rfl) hc he
 rw[kY,hi]
 have b:∀{β:Type}(g:D->Ev->Out β),(Out.ok r τ).ak g=g d τ:=fun g=>by cases r<;>simp[Rv.jz]at hr<;>subst hr<;>rfl
 rw[b]
 simp only[hd]
 rw[show List.replicate 2 Sl.un++τ=.un:: .un::τ from rfl,a]
 simp
theorem P0{ps:List (D×D)}(f:D×D->D)(hi:ev c it σ=.ok r τ)(hr:r.jz=some d)(hd:items d=some (ps.map pairD))(he:∀x∈ps,ev c el (.val x.1:: .val x.2::τ)=.ok (.val (f x)) (.val x.1:: .val x.2::τ)):
  ev c (.comp 2 (.tup [0,1]) it (.con (.bl true)) el) σ=.ok (.new (.lst (ps.map f))) τ:=by
 have:=HF (co:=.con (.bl true)) f (fun _=>true) hi hr hd (fun x _=>Hy c _ _) (fun x hx _=>he x hx)
 rw[filter_tt]at this
 exact this
end
section
variable{c:Cf}{σ τ0 τ:Ev}{it co el:E}{r:Rv}{d:D}
end
theorem wG:∀(bs:List Bool),bools (bs.map D.bl)=some bs
 |[]=>rfl
 |b::bs=>by simp[bools,wG bs]
theorem pN:∀{α:Type}(xs:List α),bools (xs.map fun _=>D.bl true)=some (xs.map fun _=>true)
 |_,[]=>rfl
 |_,x::xs=>by simp[bools,pN xs]
theorem yE:∀{α:Type}(xs:List α),(xs.map fun _=>true).all id=true
 |_,[]=>rfl
 |_,x::xs=>by simpa using yE xs
section
variable{c:Cf}{σ τ:Ev}{it el:E}{r:Rv}{d:D}
theorem all1{xs:List D}(hi:ev c it σ=.ok r τ)(hr:r.jz=some d)(hd:items d=some xs)(he:∀x∈xs,ev c el (.val x::τ)=.ok (.val (.bl true)) (.val x::τ)):
  ev c (.bi .all (.comp 1 (.name 0) it (.con (.bl true)) el)) σ=.ok (.val (.bl true)) τ:=by
 have e:=Qa (fun _=>.bl true) hi hr hd he
 rw[sJ]
 simp only[pX]
 rw[e,ju]
 simp only[Hx,Ib,qI,Option.bind_some]
 rw[pN]
 simp only[Option.map_some,rn,yE]
theorem all2{ps:List (D×D)}(hi:ev c it σ=.ok r τ)(hr:r.jz=some d)(hd:items d=some (ps.map pairD))(he:∀x∈ps,ev c el (.val x.1:: .val x.2::τ)=.ok (.val (.bl true)) (.val x.1:: .val x.2::τ)):
  ev c (.bi .all (.comp 2 (.tup [0,1]) it (.con (.bl true)) el)) σ=.ok (.val (.bl true)) τ:=by
 have e:=P0 (fun _=>.bl true) hi hr hd he
 rw[sJ]
 simp only[pX]
 rw[e,ju]
 simp only[Hx,Ib,qI,Option.bind_some]
 rw[pN]
 simp only[Option.map_some,rn,yE]
end
theorem cJ:∀(xs ys:List D),aG xs ys=(xs.zip ys).map pairD
 |[],_=>by simp[aG]
 |_::_,[]=>by simp[aG]
 |x::xs,y::ys=>by simp[aG,cJ xs ys,pairD]
end Mini
end
section
namespace Mini
open PySem
def fin(k:Nat):Fl->Res
 |.next σ=>.ok (.val .non) (σ.take k)
 |.ret r σ=>.ok r (σ.take k)
 |.exc c σ=>.exc c (σ.take k)
 |_=>.bad
theorem aJ(c:Cf)(f:Fn)(ps:List Sl)(h:ps.length=f.pars):dZ c f ps=fin f.pars (ex c f.body (ps++List.replicate (f.names-f.pars) .un)):=by
 unfold dZ
 rw[if_pos h]
 cases ex c f.body (ps++List.replicate (f.names-f.pars) .un)<;>rfl
@[simp]theorem Zo(k σ):fin k (.next σ)=.ok (.val .non) (σ.take k):=rfl
@[simp]theorem aaZ(k r σ):fin k (.ret r σ)=.ok r (σ.take k):=rfl
@[simp]theorem aa0(k c σ):fin k (.exc c σ)=.exc c (σ.take k):=rfl
def jD{α:Type}(b:Bool)(r:Out α):Out α:=if b then .bad else r
def H9(b:Bool)(r:Fl):Fl:=if b then .bad else r
def tW{α:Type}(b:Bool)(r:Option α):Option α:=if b then none else r
@[simp]theorem abf{α:Type}(r:Out α):jD false r=r:=rfl
@[simp]theorem adh(r:Fl):H9 false r=r:=rfl
@[simp]theorem Yq{α:Type}(r:Option α):tW false r=r:=rfl
@[simp]theorem Yp{α:Type}(r:Option α):tW true r=none:=rfl
def vp(i:Nat)(σ:Ev):Option Sl->Out Rv
 |some (.val d)=>.ok (.val d) σ
 |some (.own o)=>.ok (.val o.d) (σ.set i (.val o.d))
 |_=>.bad
@[simp]theorem Xq(i:Nat)(σ:Ev):oA i σ=vp i σ σ[i]? :=rfl
@[simp]theorem Vp(i σ d):vp i σ (some (.val d))=.ok (.val d) σ:=rfl
@[simp]theorem Vq(i σ o):vp i σ (some (.own o))=.ok (.val o.d) (σ.set i (.val o.d)):=rfl
@[simp]theorem Vr(i σ o):vp i σ (some (.bor o))=.bad:=rfl
@[simp]theorem Xr(i σ):vp i σ (some .un)=.bad:=rfl
def vU:Option Sl->Option D
 |some (.val d)=>some d
 |some (.own o)=>some o.d
 |some (.bor o)=>some o.d
 |_=>none
@[simp]theorem Yt(i:Nat)(σ:Ev):aO i σ=vU σ[i]? :=rfl
@[simp]theorem Vw(d):vU (some (.val d))=some d:=rfl
@[simp]theorem Vx(o):vU (some (.own o))=some o.d:=rfl
@[simp]theorem Vy(o):vU (some (.bor o))=some o.d:=rfl
@[simp]theorem Yu:vU (some .un)=none:=rfl
def Et(i:Nat)(σ:Ev)(s:Sl):Option Sl->Option Ev
 |some (.bor _)=>none
 |some _=>some (σ.set i s)
 |none=>none
@[simp]theorem Xd(i:Nat)(s:Sl)(σ:Ev):bY i s σ=Et i σ s σ[i]? :=rfl
@[simp]theorem Xe(i σ s d):Et i σ s (some (.val d))=some (σ.set i s):=rfl
@[simp]theorem Xf(i σ s o):Et i σ s (some (.own o))=some (σ.set i s):=rfl
@[simp]theorem aal(i σ s):Et i σ s (some .un)=some (σ.set i s):=rfl
@[simp]theorem Xg(i σ s o):Et i σ s (some (.bor o))=none:=rfl
def DX(i:Nat)(f:Ob->Option Ob)(σ:Ev):Option Sl->Option Ev
 |some (.own o)=>(f o).map fun q=>σ.set i (.own q)
 |some (.bor o)=>(f o).map fun q=>σ.set i (.bor q)
 |_=>none
def tK(i:Nat)(σ:Ev)(q:Ob):Ev:=σ.set i (.own q)
def Fp(i:Nat)(σ:Ev)(q:Ob):Ev:=σ.set i (.bor q)
@[simp]theorem Vt(i σ q):tK i σ q=σ.set i (.own q):=rfl
@[simp]theorem Vu(i σ q):Fp i σ q=σ.set i (.bor q):=rfl
@[simp]theorem Wy(i:Nat)(f:Ob->Option Ob)(σ:Ev):bM i f σ=DX i f σ σ[i]? :=rfl
@[simp]theorem Vj(i f σ o):DX i f σ (some (.own o))=(f o).map (tK i σ):=rfl
@[simp]theorem Vk(i f σ o):DX i f σ (some (.bor o))=(f o).map (Fp i σ):=rfl
def okB(r:Rv):Option Ev->Out Rv
 |some σ=>.ok r σ
 |none=>.bad
def HS(as:List Rv)(σ:Ev):Res->Out Rv
 |.ok r qs=>okB r (giveBack as qs σ)
 |_=>.bad
def Qd(c:Cf)(f:Nat)(as:List Rv)(σ:Ev):Option (List Sl)->Out Rv
 |none=>.bad
 |some ps=>HS as σ (c.fn f ps)
@[simp]theorem adN(r σ):okB r (some σ)=.ok r σ:=rfl
@[simp]theorem ZD(as σ r qs):HS as σ (.ok r qs)=okB r (giveBack as qs σ):=rfl
@[simp]theorem abb(c f as σ ps):Qd c f as σ (some ps)=HS as σ (c.fn f ps):=rfl
@[simp]theorem ZF(c:Cf)(f:Nat)(as:List Rv)(σ:Ev):pL c f as σ=Qd c f as σ (enter as σ):=rfl
@[simp]theorem aa6(σ):enter [] σ=some []:=rfl
@[simp]theorem aa5(d as σ):enter (.val d::as) σ=(enter as σ).map (.val d:: ·):=rfl
@[simp]theorem aa4(o as σ):enter (.tmp o::as) σ=tW (as.any v6) ((enter as σ).map (.bor o:: ·)):=rfl
def Ur(r:Option (List Sl)):Option Sl->Option (List Sl)
 |some (.own o)=>r.map (.bor o:: ·)
 |some (.bor o)=>r.map (.bor o:: ·)
 |_=>none
@[simp]theorem Zu(r o):Ur r (some (.own o))=r.map (.bor o:: ·):=rfl
@[simp]theorem Zv(r o):Ur r (some (.bor o))=r.map (.bor o:: ·):=rfl
@[simp]theorem aa3(i as σ):enter (.ref i::as) σ=tW (as.any (ig i)) (Ur (enter as σ) σ[i]?):=rfl
@[simp]theorem agg(c:Cf)(i σ):ev c (.var i) σ=oA i σ:=rfl
@[simp]theorem agf(c:Cf)(d σ):ev c (.con d) σ=.ok (.val d) σ:=rfl
@[simp]theorem age(c:Cf)(k σ):ev c (.glob k) σ=match c.gl k with|some d=>.ok (.val d) σ|none=>.bad:=rfl
def QR(ds:List D):Option Rv:=if fits ds.length then some (.val (.tup ds))else none
def Sw(ds:List D):Option Rv:=if fits ds.length then some (.new (.lst ds))else none
def Yy(rs:List Rv)(σ:Ev):Out Rv:=lift σ ((aN rs).bind QR)
def YM(rs:List Rv)(σ:Ev):Out Rv:=lift σ ((aN rs).bind Sw)
@[simp]theorem aaj(ds):QR ds=if fits ds.length then some (.val (.tup ds))else none:=rfl
@[simp]theorem aau(ds):Sw ds=if fits ds.length then some (.new (.lst ds))else none:=rfl
@[simp]theorem aaz(rs σ):Yy rs σ=lift σ ((aN rs).bind QR):=rfl
@[simp]theorem aaF(rs σ):YM rs σ=lift σ ((aN rs).bind Sw):=rfl
@[simp]theorem agd(c:Cf)(es σ):ev c (.tup es) σ=(evs c es σ).bind Yy:=rfl
@[simp]theorem agc(c:Cf)(es σ):ev c (.lis es) σ=(evs c es σ).bind YM:=rfl
def S8(o:Ji)(x y:D)(σ:Ev):Out Rv:=lift σ (binop o x y)
def kOp(c:Cf)(o:Ji)(b:E)(x:D)(σ:Ev):Out Rv:=(ev c b σ).ak (S8 o x)
@[simp]theorem aaD(o x y σ):S8 o x y σ=lift σ (binop o x y):=rfl
@[simp]theorem acr(c o b x σ):kOp c o b x σ=(ev c b σ).ak (S8 o x):=rfl
@[simp]theorem agb(c:Cf)(o a b σ):ev c (.op o a b) σ=(ev c a σ).ak (kOp c o b):=rfl
@[simp]theorem aga(c:Cf)(a σ):ev c (.neg a) σ=(ev c a σ).ak fun x σ=>lift σ (match x with|.int i=>some (.val (.int (-i)))|_=>none):=rfl
def qV(q:Bool):Rv:=.val (.bl q)
@[simp]theorem adL(q):qV q=.val (.bl q):=rfl
def Uw(o:Cm)(x d:D):Option Rv:=(aC o x d).map qV
@[simp]theorem aa9(o x d):Uw o x d=(aC o x d).map qV:=rfl
def v4(o:Cm)(x y:D)(σ:Ev):Out Rv:=lift σ ((aC o x y).map qV)
@[simp]theorem Za(o x y σ):v4 o x y σ=lift σ ((aC o x y).map qV):=rfl
def Lw(c:Cf)(o:Cm)(b:E)(x:D)(σ:Ev):Option Nat->Out Rv
 |some k=>lift σ ((aO k σ).bind (Uw o x))
 |none=>(ev c b σ).ak (v4 o x)
@[simp]theorem acx(c o b x σ k):Lw c o b x σ (some k)=lift σ ((aO k σ).bind (Uw o x)):=rfl
@[simp]theorem acy(c o b x σ):Lw c o b x σ none=(ev c b σ).ak (v4 o x):=rfl
def Pn(c:Cf)(o:Cm)(b:E)(x:D)(σ:Ev):Out Rv:=Lw c o b x σ b.au
@[simp]theorem Zb(c o b x σ):Pn c o b x σ=Lw c o b x σ b.au:=rfl
@[simp]theorem af9(c:Cf)(o a b σ):ev c (.cmp o a b) σ=(ev c a σ).ak (Pn c o b):=rfl
def Lx(c:Cf)(o:Cm)(d:E)(y:D)(q:Bool)(σ:Ev):Out Rv:=if q then(ev c d σ).ak (v4 o y)else .ok (.val (.bl false)) σ
@[simp]theorem acA(c o d y σ):Lx c o d y true σ=(ev c d σ).ak (v4 o y):=rfl
@[simp]theorem acB(c o d y σ):Lx c o d y false σ=.ok (.val (.bl false)) σ:=rfl
def Te(c:Cf)(o p:Cm)(d:E)(x y:D)(σ:Ev):Out Rv:=(lift σ (aC o x y)).bind (Lx c p d y)
@[simp]theorem aaO(c o p d x y σ):Te c o p d x y σ=(lift σ (aC o x y)).bind (Lx c p d y):=rfl
def kCh(c:Cf)(o p:Cm)(b d:E)(x:D)(σ:Ev):Out Rv:=(ev c b σ).ak (Te c o p d x)
@[simp]theorem acz(c o p b d x σ):kCh c o p b d x σ=(ev c b σ).ak (Te c o p d x):=rfl
@[simp]theorem af8(c:Cf)(o₁ o₂ a b d σ):ev c (.chain o₁ o₂ a b d) σ=(ev c a σ).ak (kCh c o₁ o₂ b d):=rfl
@[simp]theorem af7(c:Cf)(es σ):ev c (.and es) σ=eV c es σ:=rfl
@[simp]theorem aey(c:Cf)(es σ):ev c (.or es) σ=ji c es σ:=rfl
def YH(b:Bool)(σ:Ev):Out Rv:=.ok (.val (.bl (!b))) σ
@[simp]theorem aaE(b σ):YH b σ=.ok (.val (.bl (!b))) σ:=rfl
@[simp]theorem aex(c:Cf)(a σ):ev c (.not a) σ=(ev c a σ).bR gR YH:=rfl
def GF(c:Cf)(a b:E)(q:Bool)(σ:Ev):Out Rv:=if q then ev c a σ else ev c b σ
@[simp]theorem aaH(c a b σ):GF c a b true σ=ev c a σ:=rfl
@[simp]theorem aaI(c a b σ):GF c a b false σ=ev c b σ:=rfl
@[simp]theorem aew(c:Cf)(t a b σ):ev c (.ite t a b) σ=(ev c t σ).bR gR (GF c a b):=rfl
def T5(y d:D):Option Rv:=(getD d y).map Rv.val
@[simp]theorem aaT(y d):T5 y d=(getD d y).map Rv.val:=rfl
def Td(k:Nat)(y:D)(σ:Ev):Out Rv:=lift σ ((aO k σ).bind (T5 y))
@[simp]theorem aaK(k y σ):Td k y σ=lift σ ((aO k σ).bind (T5 y)):=rfl
def GJ(x y:D)(σ:Ev):Out Rv:=lift σ ((getD x y).map Rv.val)
@[simp]theorem YS(x y σ):GJ x y σ=lift σ ((getD x y).map Rv.val):=rfl
def GK(c:Cf)(i:E)(x:D)(σ:Ev):Out Rv:=(ev c i σ).ak (GJ x)
@[simp]theorem YT(c i x σ):GK c i x σ=(ev c i σ).ak (GJ x):=rfl
def Tp(c:Cf)(a i:E)(σ:Ev):Option Nat->Out Rv
 |some k=>jD (aO k σ).isNone ((ev c i σ).ak (Td k))
 |none=>(ev c a σ).ak (GK c i)
@[simp]theorem acN(c a i σ k):Tp c a i σ (some k)=jD (aO k σ).isNone ((ev c i σ).ak (Td k)):=rfl
@[simp]theorem acO(c a i σ):Tp c a i σ none=(ev c a σ).ak (GK c i):=rfl
@[simp]theorem aev(c:Cf)(a i σ):ev c (.idx a i) σ=Tp c a i σ a.au:=rfl
def S6(hi:E)(x:D)(l:Option Int)(h:D)(σ:Ev):Out Rv:=lift σ ((b8 hi.je h).bind (gn x l))
@[simp]theorem aaA(hi x l h σ):S6 hi x l h σ=lift σ ((b8 hi.je h).bind (gn x l)):=rfl
def slM(c:Cf)(hi:E)(x:D)(σ:Ev):Option (Option Int)->Out Rv
 |none=>.bad
 |some l=>(ev c hi σ).ak (S6 hi x l)
@[simp]theorem adB(c hi x σ l):slM c hi x σ (some l)=(ev c hi σ).ak (S6 hi x l):=rfl
def S7(c:Cf)(lo hi:E)(x l:D)(σ:Ev):Out Rv:=slM c hi x σ (b8 lo.je l)
@[simp]theorem aaB(c lo hi x l σ):S7 c lo hi x l σ=slM c hi x σ (b8 lo.je l):=rfl
def kSl(c:Cf)(lo hi:E)(x:D)(σ:Ev):Out Rv:=(ev c lo σ).ak (S7 c lo hi x)
@[simp]theorem acq(c lo hi x σ):kSl c lo hi x σ=(ev c lo σ).ak (S7 c lo hi x):=rfl
@[simp]theorem aeu(c:Cf)(a lo hi σ):ev c (.slc a lo hi) σ=(ev c a σ).ak (kSl c lo hi):=rfl
@[simp]theorem aet(c:Cf)(σ):ev c .noneE σ=.ok (.val .non) σ:=rfl
@[simp]theorem aes(c:Cf)(f as σ):ev c (.call f as) σ=(evs c as σ).bind (pL c f):=rfl
def Rj(i:Nat)(σ:Ev):Option Sl->Out Rv
 |some (.own _)=>.ok (.ref i) σ
 |some (.bor _)=>.ok (.ref i) σ
 |_=>.bad
@[simp]theorem Xo(i σ o):Rj i σ (some (.own o))=.ok (.ref i) σ:=rfl
@[simp]theorem Xp(i σ o):Rj i σ (some (.bor o))=.ok (.ref i) σ:=rfl
@[simp]theorem aer(c:Cf)(i σ):ev c (.ref i) σ=Rj i σ σ[i]? :=rfl
@[simp]theorem aeq(c:Cf)(e σ):ev c (.rd e) σ=ev c e σ:=rfl
def YB(x:Rv)(σ:Ev):Out Rv:=lift σ (match x with|.new o=>some (.tmp o)|_=>none)
@[simp]theorem Yz(o σ):YB (.new o) σ=.ok (.tmp o) σ:=rfl
@[simp]theorem aep(c:Cf)(e σ):ev c (.tmp e) σ=(ev c e σ).bind YB:=rfl
def YQ(t:Ty)(x:D)(σ:Ev):Out Rv:=.ok (.val (.bl (fG t x))) σ
@[simp]theorem aaJ(t x σ):YQ t x σ=.ok (.val (.bl (fG t x))) σ:=rfl
@[simp]theorem aeo(c:Cf)(a t σ):ev c (.isi a t) σ=(ev c a σ).ak (YQ t):=rfl
def kBi(b:Bi)(x:D)(σ:Ev):Out Rv:=lift σ (b1 b x)
@[simp]theorem acC(b x σ):kBi b x σ=lift σ (b1 b x):=rfl
def biM(c:Cf)(b:Bi)(a:E)(σ:Ev):Option Nat->Out Rv
 |some k=>lift σ ((aO k σ).bind (b1 b))
 |none=>(ev c a σ).ak (kBi b)
@[simp]theorem aeE(c b a σ k):biM c b a σ (some k)=lift σ ((aO k σ).bind (b1 b)):=rfl
@[simp]theorem aeF(c b a σ):biM c b a σ none=(ev c a σ).ak (kBi b):=rfl
@[simp]theorem aen(c:Cf)(b a σ):ev c (.bi b a) σ=biM c b a σ a.au:=rfl
def YG(x:D)(σ:Ev):Out Rv:=lift σ (match x with|.int n=>if fits n.toNat&&qY n then some (.val (.lst (bH 0 n.toNat)))else none|_=>none)
@[simp]theorem YF(n:Int)(σ):YG (.int n) σ=lift σ (if fits n.toNat&&qY n then some (.val (.lst (bH 0 n.toNat)))else none):=rfl
@[simp]theorem aem(c:Cf)(a σ):ev c (.range1 a) σ=(ev c a σ).ak YG:=rfl
@[simp]theorem ael(c:Cf)(a b σ):ev c (.range2 a b) σ=(ev c a σ).ak fun x σ=>(ev c b σ).ak fun y σ=>lift σ (match x,y with|.int m,.int n=>if fits (n-m).toNat&&qY m&&qY n then some (.val (.lst (bH m (n-m).toNat)))else none|_,_=>none):=rfl
def Qm(xs ys:List D):Rv:=.val (.lst (aG xs ys))
@[simp]theorem Z8(xs ys):Qm xs ys=.val (.lst (aG xs ys)):=rfl
def Qn(y:D)(xs:List D):Option Rv:=(bw y).map (Qm xs)
@[simp]theorem Z9(y xs):Qn y xs=(bw y).map (Qm xs):=rfl
def GC(x y:D)(σ:Ev):Out Rv:=lift σ ((bw x).bind (Qn y))
@[simp]theorem Yv(x y σ):GC x y σ=lift σ ((bw x).bind (Qn y)):=rfl
def Yw(c:Cf)(b:E)(x:D)(σ:Ev):Out Rv:=(ev c b σ).ak (GC x)
@[simp]theorem aax(c b x σ):Yw c b x σ=(ev c b σ).ak (GC x):=rfl
@[simp]theorem aek(c:Cf)(a b σ):ev c (.zip a b) σ=(ev c a σ).ak (Yw c b):=rfl
def GX(x y:D)(σ:Ev):Out Rv:=lift σ (uD x y)
@[simp]theorem Y8(x y σ):GX x y σ=lift σ (uD x y):=rfl
def Y9(c:Cf)(b:E)(x:D)(σ:Ev):Out Rv:=jD (bw x).isNone ((ev c b σ).ak (GX x))
@[simp]theorem aaN(c b x σ):Y9 c b x σ=jD (bw x).isNone ((ev c b σ).ak (GX x)):=rfl
@[simp]theorem aej(c:Cf)(a b σ):ev c (.count a b) σ=(ev c a σ).ak (Y9 c b):=rfl
@[simp]theorem aei(c:Cf)(k a σ):ev c (.popAt k a) σ=jD (!cu (aO k σ)) ((ev c a σ).ak (oG k)):=rfl
def Pk(c:Cf)(nl:Nat)(tg:Tg)(cond elt:E)(x:D)(σ:Ev):Out Rv:=match items x with
  |some xs=>match aK tg (ev c cond) (ev c elt) xs [] (List.replicate nl .un++σ)with
   |.ok ys τ=>.ok (.new (.lst ys)) (τ.drop nl)
   |_=>.bad
  |none=>.bad
@[simp]theorem Y7(c nl tg cond elt x σ):Pk c nl tg cond elt x σ=match items x with
  |some xs=>match aK tg (ev c cond) (ev c elt) xs [] (List.replicate nl .un++σ)with
   |.ok ys τ=>.ok (.new (.lst ys)) (τ.drop nl)
   |_=>.bad
  |none=>.bad:=rfl
@[simp]theorem aeh(c:Cf)(nl tg it cond elt σ):ev c (.comp nl tg it cond elt) σ=(ev c it σ).ak (Pk c nl tg cond elt):=rfl
def GR(x:Rv)(xs:List Rv)(σ:Ev):Out (List Rv):=.ok (argv x::xs) σ
@[simp]theorem Y4(x xs σ):GR x xs σ=.ok (argv x::xs) σ:=rfl
def Y5(c:Cf)(t:E)(x:Rv)(σ:Ev):Out (List Rv):=(evs c t σ).bind (GR x)
@[simp]theorem aaL(c t x σ):Y5 c t x σ=(evs c t σ).bind (GR x):=rfl
@[simp]theorem aec(c:Cf)(σ):evs c .nil σ=.ok [] σ:=rfl
@[simp]theorem aeb(c:Cf)(h t σ):evs c (.cons h t) σ=(ev c h σ).bind (Y5 c t):=rfl
@[simp]theorem af6(c:Cf)(σ):ex c .nil σ=.next σ:=rfl
@[simp]theorem ac9(c:Cf)(h t σ):ex c (.cons h t) σ=(ex c h σ).seq (ex c t):=rfl
@[simp]theorem af5(c:Cf)(σ):ex c .pass σ=.next σ:=rfl
@[simp]theorem af4(c:Cf)(σ):ex c .brk σ=.brk σ:=rfl
@[simp]theorem af3(c:Cf)(σ):ex c .cont σ=.cont σ:=rfl
def w6(i:Nat)(σ:Ev)(s:Sl):Option Ev:=bY i s σ
@[simp]theorem Vn(i σ s):w6 i σ s=bY i s σ:=rfl
def YD(i:Nat)(x:Rv)(σ:Ev):Fl:=mO (x.vm.bind (w6 i σ))
@[simp]theorem aaC(i x σ):YD i x σ=mO (x.vm.bind (w6 i σ)):=rfl
@[simp]theorem af2(c:Cf)(i e σ):ex c (.set i e) σ=(ev c e σ).fl (YD i):=rfl
def O9(is:List Nat)(x:D)(σ:Ev):Fl:=mO (bA (.tup is) x σ)
@[simp]theorem YC(is x σ):O9 is x σ=mO (bA (.tup is) x σ):=rfl
@[simp]theorem af1(c:Cf)(is e σ):ex c (.setT is e) σ=(ev c e σ).iT (O9 is):=rfl
def S9(k:Nat)(x y:D)(σ:Ev):Fl:=mO (bM k (tL y x) σ)
@[simp]theorem aaG(k x y σ):S9 k x y σ=mO (bM k (tL y x) σ):=rfl
def kIx(c:Cf)(k:Nat)(ix:E)(x:D)(σ:Ev):Fl:=H9 (aO k σ).isNone ((ev c ix σ).iT (S9 k x))
@[simp]theorem acs(c k ix x σ):kIx c k ix x σ=H9 (aO k σ).isNone ((ev c ix σ).iT (S9 k x)):=rfl
@[simp]theorem af0(c:Cf)(k ix e σ):ex c (.setIx k ix e) σ=(ev c e σ).iT (kIx c k ix):=rfl
def Pa(_:D)(σ:Ev):Fl:=.next σ
@[simp]theorem YJ(d σ):Pa d σ=.next σ:=rfl
@[simp]theorem afZ(c:Cf)(e σ):ex c (.expr e) σ=(ev c e σ).iT Pa:=rfl
def UV(x:D)(xs:List D):Option (List D):=if fits (xs.length+1)then some (xs++[x])else none
@[simp]theorem abn(x xs):UV x xs=if fits (xs.length+1)then some (xs++[x])else none:=rfl
def Zc(k:Nat)(x:D)(σ:Ev):Fl:=mO (bM k (mL (UV x)) σ)
@[simp]theorem aaP(k x σ):Zc k x σ=mO (bM k (mL (UV x)) σ):=rfl
@[simp]theorem afY(c:Cf)(k e σ):ex c (.append k e) σ=H9 (!cu (aO k σ)) ((ev c e σ).iT (Zc k)):=rfl
@[simp]theorem aea(c:Cf)(k e σ):ex c (.extend k e) σ=if !cu (aO k σ)then .bad else(ev c e σ).iT fun x σ=>mO ((fQ x).bind fun ys=>bM k (mL fun xs=>if fits (xs.length+ys.length)then some (xs++ys)else none) σ):=rfl
def Fd(c:Cf)(e:E)(i:Nat)(σ:Ev):Option Sl->Fl
 |some (.own o)=>.ret (.new o) (σ.set i .un)
 |_=>(ev c e σ).fl lA
@[simp]theorem Xm(c e i σ o):Fd c e i σ (some (.own o))=.ret (.new o) (σ.set i .un):=rfl
@[simp]theorem Xl(c e i σ d):Fd c e i σ (some (.val d))=(ev c e σ).fl lA:=rfl
@[simp]theorem Xn(c e i σ o):Fd c e i σ (some (.bor o))=(ev c e σ).fl lA:=rfl
def Rh(c:Cf)(e:E)(σ:Ev):Option Nat->Fl
 |some i=>Fd c e i σ σ[i]?
 |none=>(ev c e σ).fl lA
@[simp]theorem ab6(c e σ i):Rh c e σ (some i)=Fd c e i σ σ[i]? :=rfl
@[simp]theorem ab7(c e σ):Rh c e σ none=(ev c e σ).fl lA:=rfl
@[simp]theorem ad9(c:Cf)(e σ):ex c (.ret e) σ=Rh c e σ e.au:=rfl
def Tc(c:Cf)(a b:S)(q:Bool)(σ:Ev):Fl:=if q then ex c a σ else ex c b σ
@[simp]theorem acu(c a b σ):Tc c a b true σ=ex c a σ:=rfl
@[simp]theorem acv(c a b σ):Tc c a b false σ=ex c b σ:=rfl
@[simp]theorem ad8(c:Cf)(t a b σ):ex c (.ite t a b) σ=(ev c t σ).Dl (Tc c a b):=rfl
def kFor(c:Cf)(tg:Tg)(b:S)(σ:Ev):Option (List D)->Fl
 |some xs=>aZ tg (ex c b) xs σ
 |none=>.bad
@[simp]theorem acw(c tg b σ xs):kFor c tg b σ (some xs)=aZ tg (ex c b) xs σ:=rfl
def Pj(c:Cf)(tg:Tg)(b:S)(x:D)(σ:Ev):Fl:=kFor c tg b σ (items x)
@[simp]theorem Y0(c tg b x σ):Pj c tg b x σ=kFor c tg b σ (items x):=rfl
@[simp]theorem ad7(c:Cf)(tg it b σ):ex c (.for_ tg it b) σ=(ev c it σ).iT (Pj c tg b):=rfl
@[simp]theorem ad6(c:Cf)(t b σ):ex c (.while_ t b) σ=cg (ev c t) (ex c b) c.turns σ:=rfl
@[simp]theorem ad5(c:Cf)(k σ):ex c (.raise k) σ=.exc k σ:=rfl
def Tf(c:Cf)(e:E)(x:D)(σ:Ev):Out Rv:=match x with|.bl true=>eV c e σ|.bl false=>.ok (.val (.bl false)) σ|_=>.bad
@[simp]theorem acE(c e σ):Tf c e (.bl true) σ=eV c e σ:=rfl
@[simp]theorem acF(c e σ):Tf c e (.bl false) σ=.ok (.val (.bl false)) σ:=rfl
def kOr(c:Cf)(e:E)(x:D)(σ:Ev):Out Rv:=match x with|.bl true=>.ok (.val (.bl true)) σ|.bl false=>ji c e σ|_=>.bad
@[simp]theorem adS(c e σ):kOr c e (.bl true) σ=.ok (.val (.bl true)) σ:=rfl
@[simp]theorem adT(c e σ):kOr c e (.bl false) σ=ji c e σ:=rfl
@[simp]theorem aa2(c:Cf)(h σ):eV c (.cons h .nil) σ=ev c h σ:=rfl
@[simp]theorem aa1(c:Cf)(h a b σ):eV c (.cons h (.cons a b)) σ=(ev c h σ).ak (Tf c (.cons a b)):=rfl
@[simp]theorem adb(c:Cf)(h σ):ji c (.cons h .nil) σ=ev c h σ:=rfl
@[simp]theorem ada(c:Cf)(h a b σ):ji c (.cons h (.cons a b)) σ=(ev c h σ).ak (kOr c (.cons a b)):=rfl
@[simp high]theorem agQ(x0:D):at? [x0] 0=some x0:=rfl
@[simp high]theorem agP(x0 x1:D):at? [x0,x1] 0=some x0:=rfl
@[simp high]theorem agO(x0 x1:D):at? [x0,x1] 1=some x1:=rfl
@[simp high]theorem agN(x0 x1 x2:D):at? [x0,x1,x2] 0=some x0:=rfl
@[simp high]theorem agM(x0 x1 x2:D):at? [x0,x1,x2] 1=some x1:=rfl
@[simp high]theorem agL(x0 x1 x2:D):at? [x0,x1,x2] 2=some x2:=rfl
@[simp high]theorem agK(x0 x1 x2 x3:D):at? [x0,x1,x2,x3] 0=some x0:=rfl
@[simp high]theorem agJ(x0 x1 x2 x3:D):at? [x0,x1,x2,x3] 1=some x1:=rfl
@[simp high]theorem agI(x0 x1 x2 x3:D):at? [x0,x1,x2,x3] 2=some x2:=rfl
@[simp high]theorem agH(x0 x1 x2 x3:D):at? [x0,x1,x2,x3] 3=some x3:=rfl
@[simp]theorem afX(σ):giveBack [] [] σ=some σ:=rfl
@[simp]theorem afW(i as o ps σ):giveBack (.ref i::as) (.bor o::ps) σ=(bM i (fun _=>some o) σ).bind (giveBack as ps):=rfl
@[simp]theorem afV(d as p ps σ):giveBack (.val d::as) (p::ps) σ=giveBack as ps σ:=rfl
@[simp]theorem afU(o as p ps σ):giveBack (.tmp o::as) (p::ps) σ=giveBack as ps σ:=rfl
@[simp]theorem afn(i j):ig i (.ref j)=(i==j):=rfl
@[simp]theorem afm(i d):ig i (.val d)=false:=rfl
@[simp]theorem afl(i o):ig i (.tmp o)=false:=rfl
@[simp]theorem afk(i o):ig i (.new o)=false:=rfl
@[simp]theorem afF(o):v6 (.tmp o)=true:=rfl
@[simp]theorem afE(d):v6 (.val d)=false:=rfl
@[simp]theorem afD(i):v6 (.ref i)=false:=rfl
@[simp]theorem ae3(xs):fG .tup (.tup xs)=true:=rfl
@[simp]theorem ae2(xs):fG .lst (.lst xs)=true:=rfl
@[simp]theorem ae1(x):fG .str (.str x)=true:=rfl
@[simp]theorem ae0(b):fG .bool (.bl b)=true:=rfl
theorem aeY(i):fG .bool (.int i)=false:=rfl
@[simp]theorem aeZ(i):fG .int (.int i)=true:=rfl
@[simp]theorem ac8:fits 0=true:=rfl
@[simp]theorem ac7:fits 1=true:=rfl
@[simp]theorem ac6:fits 2=true:=rfl
@[simp]theorem ac5:fits 3=true:=rfl
@[simp]theorem ac4:fits 4=true:=rfl
@[simp]theorem ac3:fits 5=true:=rfl
@[simp]theorem ac2:fits 6=true:=rfl
@[simp]theorem ac1:fits 7=true:=rfl
@[simp]theorem ac0:fits 8=true:=rfl
@[simp]theorem Zq(i j:Int):binop .fdiv (.int i) (.int j)=if 0<j/\j<1073741824 then some (.val (.int (i/j)))else none:=rfl
@[simp]theorem pow_int(i j:Int):binop .pow (.int i) (.int j)=if 0<=j/\j<=64/\small i=true then some (.val (.int (i ^j.toNat)))else none:=rfl
@[simp↓]theorem ite_tt{α:Type}(a b:α):(if true=true then a else b)=a:=rfl
@[simp↓]theorem ite_ff{α:Type}(a b:α):(if false=true then a else b)=b:=rfl
@[simp]theorem abo(xs ys:List D):binop .add (.tup xs) (.tup ys)=if fits (xs.length+ys.length)then some (.val (.tup (xs++ys)))else none:=rfl
@[simp]theorem abp(xs ys:List D):binop .add (.lst xs) (.lst ys)=if fits (xs.length+ys.length)then some (.new (.lst (xs++ys)))else none:=rfl
def GD(x y:D)(σ:Ev):Out Rv:=lift σ (LR x y)
@[simp]theorem YK(x y σ):GD x y σ=lift σ (LR x y):=rfl
def Pb(c:Cf)(b:E)(x:D)(σ:Ev):Out Rv:=jD (fQ x).isNone ((ev c b σ).ak (GD x))
@[simp]theorem YL(c b x σ):Pb c b x σ=jD (fQ x).isNone ((ev c b σ).ak (GD x)):=rfl
@[simp]theorem aeg(c:Cf)(a b σ):ev c (.index a b) σ=(ev c a σ).ak (Pb c b):=rfl
def Yx(k:Nat)(x:D)(σ:Ev):Fl:=mO (bM k (JC x) σ)
@[simp]theorem aay(k x σ):Yx k x σ=mO (bM k (JC x) σ):=rfl
@[simp]theorem ad4(c:Cf)(k e σ):ex c (.update k e) σ=H9 (!mj (aO k σ)) ((ev c e σ).iT (Yx k)):=rfl
@[simp]theorem aaQ(ks vs:List D):mj (some (.dG ks vs))=true:=rfl
@[simp]theorem abm(ks vs:List D):b1 .copy (.dG ks vs)=some (.new (.dct ks vs)):=rfl
def GP(y k x:D)(σ:Ev):Out Rv:=lift σ ((zO y k x).map Rv.val)
@[simp]theorem YW(y k x σ):GP y k x σ=lift σ ((zO y k x).map Rv.val):=rfl
def GQ(c:Cf)(x:E)(y k:D)(σ:Ev):Out Rv:=(ev c x σ).ak (GP y k)
@[simp]theorem YX(c x y k σ):GQ c x y k σ=(ev c x σ).ak (GP y k):=rfl
def Ph(c:Cf)(k x:E)(y:D)(σ:Ev):Out Rv:=jD (!mj (some y)) ((ev c k σ).ak (GQ c x y))
@[simp]theorem YZ(c k x y σ):Ph c k x y σ=jD (!mj (some y)) ((ev c k σ).ak (GQ c x y)):=rfl
@[simp]theorem aef(c:Cf)(d k x σ):ev c (.get2 d k x) σ=(ev c d σ).ak (Ph c k x):=rfl
def Y6(rs:List Rv)(σ:Ev):Out Rv:=lift σ ((aN rs).bind Mv)
@[simp]theorem aaM(rs σ):Y6 rs σ=lift σ ((aN rs).bind Mv):=rfl
@[simp]theorem aee(c:Cf)(es σ):ev c (.dsp es) σ=(evs c es σ).bind Y6:=rfl
@[simp]theorem aed(c:Cf)(f as hs σ):ev c (.tcall f as hs) σ=(evs c as σ).bind (gm c f hs):=rfl
@[simp high]theorem afT(a0:Sl)(r:Ev):(a0::r)[0]? =some a0:=rfl
@[simp high]theorem afj(a0 v:Sl)(r:Ev):List.set (a0::r) 0 v=v::r:=rfl
@[simp high]theorem afS(a0 a1:Sl)(r:Ev):(a0::a1::r)[1]? =some a1:=rfl
@[simp high]theorem afi(a0 a1 v:Sl)(r:Ev):List.set (a0::a1::r) 1 v=a0::v::r:=rfl
@[simp high]theorem afR(a0 a1 a2:Sl)(r:Ev):(a0::a1::a2::r)[2]? =some a2:=rfl
@[simp high]theorem afh(a0 a1 a2 v:Sl)(r:Ev):List.set (a0::a1::a2::r) 2 v=a0::a1::v::r:=rfl
@[simp high]theorem afQ(a0 a1 a2 a3:Sl)(r:Ev):(a0::a1::a2::a3::r)[3]? =some a3:=rfl
@[simp high]theorem afg(a0 a1 a2 a3 v:Sl)(r:Ev):List.set (a0::a1::a2::a3::r) 3 v=a0::a1::a2::v::r:=rfl
@[simp high]theorem afP(a0 a1 a2 a3 a4:Sl)(r:Ev):(a0::a1::a2::a3::a4::r)[4]? =some a4:=rfl
@[simp high]theorem afe(a0 a1 a2 a3 a4 v:Sl)(r:Ev):List.set (a0::a1::a2::a3::a4::r) 4 v=a0::a1::a2::a3::v::r:=rfl
@[simp high]theorem afO(a0 a1 a2 a3 a4 a5:Sl)(r:Ev):(a0::a1::a2::a3::a4::a5::r)[5]? =some a5:=rfl
@[simp high]theorem afd(a0 a1 a2 a3 a4 a5 v:Sl)(r:Ev):List.set (a0::a1::a2::a3::a4::a5::r) 5 v=a0::a1::a2::a3::a4::v::r:=rfl
@[simp high]theorem afN(a0 a1 a2 a3 a4 a5 a6:Sl)(r:Ev):(a0::a1::a2::a3::a4::a5::a6::r)[6]? =some a6:=rfl
@[simp high]theorem afc(a0 a1 a2 a3 a4 a5 a6 v:Sl)(r:Ev):List.set (a0::a1::a2::a3::a4::a5::a6::r) 6 v=a0::a1::a2::a3::a4::a5::v::r:=rfl
@[simp high]theorem afM(a0 a1 a2 a3 a4 a5 a6 a7:Sl)(r:Ev):(a0::a1::a2::a3::a4::a5::a6::a7::r)[7]? =some a7:=rfl
@[simp high]theorem afb(a0 a1 a2 a3 a4 a5 a6 a7 v:Sl)(r:Ev):List.set (a0::a1::a2::a3::a4::a5::a6::a7::r) 7 v=a0::a1::a2::a3::a4::a5::a6::v::r:=rfl
@[simp high]theorem afL(a0 a1 a2 a3 a4 a5 a6 a7 a8:Sl)(r:Ev):(a0::a1::a2::a3::a4::a5::a6::a7::a8::r)[8]? =some a8:=rfl
@[simp high]theorem afa(a0 a1 a2 a3 a4 a5 a6 a7 a8 v:Sl)(r:Ev):List.set (a0::a1::a2::a3::a4::a5::a6::a7::a8::r) 8 v=a0::a1::a2::a3::a4::a5::a6::a7::v::r:=rfl
@[simp high]theorem afK(a0 a1 a2 a3 a4 a5 a6 a7 a8 a9:Sl)(r:Ev):(a0::a1::a2::a3::a4::a5::a6::a7::a8::a9::r)[9]? =some a9:=rfl
@[simp high]theorem ae9(a0 a1 a2 a3 a4 a5 a6 a7 a8 a9 v:Sl)(r:Ev):List.set (a0::a1::a2::a3::a4::a5::a6::a7::a8::a9::r) 9 v=a0::a1::a2::a3::a4::a5::a6::a7::a8::v::r:=rfl
@[simp high]theorem ad2(a0 a1 a2 a3 a4 a5 a6 a7 a8 a9 a10:Sl)(r:Ev):(a0::a1::a2::a3::a4::a5::a6::a7::a8::a9::a10::r)[10]? =some a10:=rfl
@[simp high]theorem adA(a0 a1 a2 a3 a4 a5 a6 a7 a8 a9 a10 v:Sl)(r:Ev):List.set (a0::a1::a2::a3::a4::a5::a6::a7::a8::a9::a10::r) 10 v=a0::a1::a2::a3::a4::a5::a6::a7::a8::a9::v::r:=rfl
@[simp high]theorem ad1(a0 a1 a2 a3 a4 a5 a6 a7 a8 a9 a10 a11:Sl)(r:Ev):(a0::a1::a2::a3::a4::a5::a6::a7::a8::a9::a10::a11::r)[11]? =some a11:=rfl
@[simp high]theorem adz(a0 a1 a2 a3 a4 a5 a6 a7 a8 a9 a10 a11 v:Sl)(r:Ev):List.set (a0::a1::a2::a3::a4::a5::a6::a7::a8::a9::a10::a11::r) 11 v=a0::a1::a2::a3::a4::a5::a6::a7::a8::a9::a10::v::r:=rfl
@[simp high]theorem ad0(a0 a1 a2 a3 a4 a5 a6 a7 a8 a9 a10 a11 a12:Sl)(r:Ev):(a0::a1::a2::a3::a4::a5::a6::a7::a8::a9::a10::a11::a12::r)[12]? =some a12:=rfl
@[simp high]theorem ady(a0 a1 a2 a3 a4 a5 a6 a7 a8 a9 a10 a11 a12 v:Sl)(r:Ev):List.set (a0::a1::a2::a3::a4::a5::a6::a7::a8::a9::a10::a11::a12::r) 12 v=a0::a1::a2::a3::a4::a5::a6::a7::a8::a9::a10::a11::v::r:=rfl
@[simp high]theorem adZ(a0 a1 a2 a3 a4 a5 a6 a7 a8 a9 a10 a11 a12 a13:Sl)(r:Ev):(a0::a1::a2::a3::a4::a5::a6::a7::a8::a9::a10::a11::a12::a13::r)[13]? =some a13:=rfl
@[simp high]theorem adx(a0 a1 a2 a3 a4 a5 a6 a7 a8 a9 a10 a11 a12 a13 v:Sl)(r:Ev):List.set (a0::a1::a2::a3::a4::a5::a6::a7::a8::a9::a10::a11::a12::a13::r) 13 v=a0::a1::a2::a3::a4::a5::a6::a7::a8::a9::a10::a11::a12::v::r:=rfl
end Mini
end
section
namespace Mini
open PySem L2 PyProof.Rows
abbrev yz:List Value:=[.type "ValueError",.type "Exception",.type "BaseException",.type "object"]
abbrev IK(x:Str)(C:Addr)(mg:Str->Option Value)(h:Heap):Prop:=OwnClsQ x C yz "ValueError.__new__" mg h
structure yH(fs:List Addr)(H H':Hp)(h0 B h:Heap):Prop where
 stays:B.StaysIn h
 keep:∀b o,h0.get? b=some o->H b=none->b∉fs->B.get? b=some o
 slot:∀b o,h0.get? b=some o->H b=none->b∈fs->∃sl,h.get? b=some {o with slots:=sl}
 free:∀b o,h0.get? b=some o->H b=none->H' b=none
 there:∀b o,h0.get? b=some o->b∉fs->∃u,B.get? b=some u
 tups:∀b xs,H b=some (.tup xs)->H' b=some (.tup xs)
 frzs:∀b o u,H b=some (.frz o u)->H' b=some (.frz o u)
 tbls:∀b ps,H b=some (.tbl ps)->∃more,H' b=some (.tbl (ps++more))
theorem yH.un{fs:List Addr}{H H':Hp}{h0 B h:Heap}(L:yH fs H H' h0 B h)(fr:∀b∈fs,H b=none):Un fs [] H H' h0 h:=
 ⟨fun b o q n nf _=>L.stays b o (L.keep b o q n nf),fun b o q n nf _=>L.slot b o q n nf,fun b o q n _=>L.free b o q n,fun b o q _=>by
  by_cases z:b∈fs
  ·obtain⟨sl,e⟩:=L.slot b o q (fr b z) z
   exact⟨_,e⟩
  ·obtain⟨u,e⟩:=L.there b o q z
   exact⟨_,L.stays b u e⟩,L.tups,L.frzs,L.tbls⟩
theorem yH.move{fs:List Addr}{H H':Hp}{h0 B h h1:Heap}(L:yH fs H H' h0 B h)(st:B.StaysIn h1)(up:h.UpToSlots h1)(nf:∀b∈fs,∃o,h.get? b=some o/\∀vs,o.data≠ .fields vs):yH fs H H' h0 B h1:=
 ⟨st,L.keep,fun b o q n z=>by
  obtain⟨sl,e⟩:=L.slot b o q n z
  obtain⟨o',e',d⟩:=nf b z
  obtain⟨sl2,e2⟩:=up b _ e' d
  rw[e]at e'
  cases e'
  exact⟨sl2,e2⟩,L.free,L.there,L.tups,L.frzs,L.tbls⟩
def CXE(C:Addr)(P:Program)(w:World)(base:Heap):yL:=fun outer H s E e s'=>∃a a0 B H',e=.ref a/\s'.os=s.os/\AllBare s'.gens/\yH (frs outer) H H' s.heap B s'.heap/\iV P w H' B/\
 Heap.FlyingW B outer a (.ref C) a0 s'.heap/\s.heap.get? a=none/\H' a=none/\(∀b o,base.get? b=some o->B.get? b=some o)/\E (.ref C) none H'
section
variable{X:Cx}{pins:List (Addr×Obj)}{σ:L2.St}{H:Hp}{s:Shared}
theorem wp_raise{x m:Str}{C:Addr}{k:Nat}{np cp cpos pos:Pos}{Q:Flow->Shared->Prop}{E:Value->Shared->Prop}(O:∀h,X.K.In h->IK x C X.mg h)(hg:Gl X x)(hc:X.calm=true)(I:Inv X pins σ H s)
  (h:∀s2 h' e vs,Inv X pins σ H s2->Heap.MadeExcOf s2.heap h' e (.ref C) vs->E (.ref e) {s2 with heap:=h'})
  (hd:(x==("__debug__":Str))=false:=by decide):
  wpAny (model X.prog X.w) X.A (exec (.Raise (some (.Call (.Name x np) [.Constant (.str m) k cp] [] cpos)) none pos) X.env) Q E s:=by
 obtain⟨tl,N,nm,q,bs,hdct,sn,sub,ab,col,dd,k0,k1,k2,k3,k5,mN,hC,hN,hni,T⟩:=(O _ I.wO).own.obj
 refine wpAny_Raise_call_subT (C:=C) (nm:=nm) (q:=q) (N:=N) (bs:=bs) (bm:=tl) (hdct:=hdct) (sn:=sn) (sub:=sub) (ab:=ab) (col:=col) (dd:=dd) (k0:=k0) (k1:=k1) (k2:=k2) (k3:=k3) (k5:=k5)
  PySem.F.excBase_ValueError (mN:=mN) (T.hasType PySem.F.excBase_ValueError.hasBase) (I.ok.hd hc) rfl hni (jr I hg (O _ I.wO).bound ⟨rfl,?_⟩ hd)
 have sp:∀(R:List Value->Shared->Prop),(∀s2 v,Inv X pins σ H s2->(∀b o,s.heap.get? b=some o->s2.heap.get? b=some o)->R [v] s2)->wpAny (model X.prog X.w) X.A (spliced (backTo cpos (starEach [.Constant (.str m) k cp] X.env))) R E s:=fun R hR=>by
  refine spliced_more (Calls.Constant_str ?_)
  exact spliced_none (hR _ _ (I.tok _) fun b o e=>e)
 exact Calls.evalArgs_plain (sp _ fun s2 v I2 kp=>⟨rfl,by show 1<=sizeLine;decide,kp _ _ hC,hN.keeps kp,T.keeps kp,fun h' e hm=>h s2 h' e _ I2 hm⟩)
end
theorem iV.frames{P:Program}{w:World}{H:Hp}{h h':Heap}{l:List Addr}(ok:iV P w H h)(free:∀b∈l,H b=none)(k:∀b u,b∉l->h.get? b=some u->h'.get? b=some u):iV P w H h':=fun a o e=>
 (ok a o e).stay (fun b u hb q=>k b u (fun z=>by
  have n:=free b z
  rcases hb with rfl|hb
  ·rw[e]at n;cases n
  ·rw[hb]at n;cases n) q) (fun _ z=>z) fun _ _ z=>z
theorem bN.here{P:Program}{w:World}{H:Hp}{h:Heap}{a:Addr}{o:HO}(x:bN P w H h a o):∃u,h.get? a=some u:=by
 cases o with
 |lst xs=>obtain⟨_,_,_,_,e⟩:=x;exact⟨_,e⟩
 |tup xs=>obtain⟨_,_,_,p⟩:=x;obtain⟨_,e,_⟩:=p;exact⟨_,e⟩
 |dK kvs=>obtain⟨_,_,_,_,o,_,_,e,_⟩:=x;exact⟨_,e⟩
 |dT kvs=>obtain⟨_,_,_,_,o,_,_,e,_⟩:=x;exact⟨_,e⟩
 |set S n=>obtain⟨o,_,_,_,e,_⟩:=x;exact⟨_,e⟩
 |ins C dx fs=>obtain⟨_,_,_,e,_⟩:=x;exact⟨_,e⟩
 |own y=>exact x
 |xd fs=>obtain⟨_,⟨_,_,_,e,_⟩,_⟩:=x;exact⟨_,e⟩
 |rng lo hi=>obtain⟨_,_,_,e⟩:=x;exact⟨_,e⟩
 |frz ob u=>obtain⟨e,_⟩:=x;exact⟨_,e⟩
 |tbl ps=>exact⟨_,show h.get? a=some _ from x⟩
 |met f y=>exact⟨_,show h.get? a=some _ from x⟩
 |ext φ=>obtain⟨_,e,_⟩:=x;exact e
theorem xW{CX:yL}{C:Addr}{P:Program}{w:World}{K:PySem.W.Frag}{mg:Str->Option Value}{base:Heap}{N:List Str}{qual:Str}{scope:Scope}{f:Addr}{cd:Value}{A:Around}{outer:List Env}{s s2:Shared}{H H2:Hp}{E:XK}
  {pins:List (Addr×Obj)}{σ:L2.St}{h':Heap}{e:Addr}{vs:List Value}
  (hcx:∀{outer H s E e s'},CXE C P w base outer H s E e s'->CX outer H s E e s')(I:L2.Inv (gP CX P w K mg base N qual scope f cd A outer s H E) pins σ H2 s2)(m:Heap.MadeExcOf s2.heap h' e (.ref C) vs)(hE:E (.ref C) none H2):
  (gP CX P w K mg base N qual scope f cd A outer s H E).xe (.ref e) {s2 with heap:=h'}:=by
 show wpAny _ _ (leaving _ _) _ _ _
 have hst:=I.stack
 have hfree:=I.mY
 have hb:=I.base
 have fl:frs (gP CX P w K mg base N qual scope f cd A outer s H E).stack=s.heap.objs.size::frs outer:=rfl
 rw[fl]at hfree
 have hin:∀env∈(gP CX P w K mg base N qual scope f cd A outer s H E).stack,∀b,env.frame=some b->b∈s.heap.objs.size::frs outer:=fun env he b hb=>by
  rw[<-fl];exact List.mem_filterMap.mpr ⟨env,he,hb⟩
 refine wpAny_leaves_madeW (base:=PySem.W.hideAll s2.heap (s.heap.objs.size::frs outer)) (h:=s2.heap) I.ok.frames rfl (fun b o q=>PySem.W.of_hideAll _ q) (PySem.W.funFrames_hide hst hin) m fun h2 t x1 x2 x3 x4=>?_
 have kp:∀b u,b∉s.heap.objs.size::frs outer->s2.heap.get? b=some u->h2.get? b=some u:=fun b u nb q=>x1.1 b u (PySem.W.hideAll_get _ q nb)
 have up:∀b o,s2.heap.get? b=some o->(∀vs,o.data≠ .fields vs)->∃sl,h2.get? b=some {o with slots:=sl}:=fun b o q n=>x4 b o (m.keeps b o q) n
 have lt:∀b o,s.heap.get? b=some o->b≠s.heap.objs.size:=fun b o q z=>by
  have:=Heap.lt_size q
  rw[z]at this
  exact Nat.lt_irrefl _ this
 have noA:∀b:Addr,b∉(gP CX P w K mg base N qual scope f cd A outer s H E).ex:=fun b z=>absurd (show b∈([]:List Addr)from z) (by simp)
 refine hcx ⟨e,.ref t,_,H2,rfl,I.os,I.bare,⟨x1.1,fun b o q n nf=>?_,fun b o q n nf=>?_,fun b o q n=>hb.free b o q n (noA _),fun b o q nf=>?_,hb.tups,hb.frzs,hb.tbls⟩,?_,x1,?_,?_,fun b o q=>?_,hE⟩
 ·exact PySem.W.hideAll_get _ (hb.keep b o q n nf (noA _)) (fun z=>by rcases List.mem_cons.mp z with z|z;exact lt b o q z;exact nf z)
 ·obtain⟨sl,q2⟩:=hb.slot b o q n nf (noA _)
  have nd:∀vs,o.data≠ .fields vs:=fun vs z=>by
   obtain⟨_,o',q',n'⟩:=hst.mem (b:=b) (by show b∈frs (gP CX P w K mg base N qual scope f cd A outer s H E).stack;rw[fl];exact List.mem_cons_of_mem _ nf)
   rw[q2]at q'
   cases q'
   exact n' vs z
  obtain⟨sl',e2⟩:=up b {o with slots:=sl} q2 nd
  exact⟨sl',e2⟩
 ·obtain⟨o2,q2⟩:=hb.there b o q (noA _)
  exact⟨o2,PySem.W.hideAll_get _ q2 (fun z=>by rcases List.mem_cons.mp z with z|z;exact lt b o q z;exact nf z)⟩
 ·exact iV.frames (l:=s.heap.objs.size::frs outer) I.hok hfree fun b u nb q=>PySem.W.hideAll_get _ q nb
 ·cases q:s.heap.get? e with
  |none=>rfl
  |some o=>
   obtain⟨o2,q2⟩:=hb.there e o q (noA _)
   rw[m.new]at q2
   cases q2
 ·cases q:H2 e with
  |none=>rfl
  |some o=>
   obtain⟨u,z⟩:=bN.here (I.hok e o q)
   rw[m.new]at z
   cases z
 ·refine PySem.W.hideAll_get _ (I.bk b o q) fun z=>?_
  have:=(hst.mem (b:=b) (by rw[<-fl]at z;exact z)).1
  rw[show(gP CX P w K mg base N qual scope f cd A outer s H E).base=base from rfl,q]at this
  cases this
end Mini
end
section
namespace Mini
open PySem PyProof.Rows
def cF:List Str:=["__getattribute__","__getattr__","__class__"]
inductive fW(h:Heap)(bmB:List Value):List Value->Prop
 |base:fW h bmB bmB
 |own {A:Addr} {c0:Value} {dd:Option Addr} {cd:ClassData} {sl:Array (Option Value)} {mA:Str->Option Value} {tl:List Value}:
   h.get? A=some {cls:=c0,dict:=dd,data:=.cls cd,slots:=sl}->h.Ns cd.ns mA->(∀n∈cF,mA n=none)->fW h bmB tl->fW h bmB (.ref A::tl)
theorem fW.hasType{h:Heap}{bmB tl:List Value}(T:fW h bmB tl){X:String}{b:Bool}(hb:bmB.contains (.type X)=b):tl.contains (.type X)=b:=by
 induction T with
 |base=>exact hb
 |own _ _ _ _ ih=>rw[List.contains_cons,ih];cases b<;>rfl
section
variable{M:Model}{prog:Program}{w:World}{A:Around}{E:Value->Shared->Prop}{h:Heap}{g:Array GenState}{d:Drawn}{t:Nat}{os:OsState}{a:Addr}{o:Obj}
 {nm q:Str}{C N:Addr}{bs bm:List Value}{hdct:Bool}{sn:List Str}{sub:List Value}{ab:Bool}{col:Option Bool}{dd:Option Addr}{k0 k1 k2 k3 k5:Option Value}{newId:String}{mN:Str->Option Value}
theorem M8{bmB tl:List Value}{n:Str}{y:Option Value}{Q:Option Value->Shared->Prop}(hn:n∈cF)(T:fW h bmB tl)(hrest:lookupAlong bmB n=pure y)(hq:Q y ⟨h,g,d,t,os⟩):
  wpAny M A (lookupAlong tl n) Q E ⟨h,g,d,t,os⟩:=by
 induction T with
 |base=>rw[hrest];exact wpAny_pure hq
 |own hA hN hni _ ih=>
  rw[lookupAlong_cons]
  refine wpAny_bind (wpAny_classOwn_cls hA hN ?_)
  rw[hni n hn]
  exact ih
theorem oR{n:Str}{y:Option Value}{Q:Option Value->Shared->Prop}(hn:n∈cF)
  (hC:h.get? C=some (excClassObj nm q C N bs bm hdct sn sub ab col dd k0 k1 k2 k3 k5 newId))(hN:h.Ns N mN)(hmN:∀n∈cF,mN n=none)(T:fW h yz bm)
  (hB:typeLookup (.type "ValueError") n=pure y)(hq:Q y ⟨h,g,d,t,os⟩):wpAny M A (typeLookup (.ref C) n) Q E ⟨h,g,d,t,os⟩:=by
 have hrest:lookupAlong yz n=pure y:=by rw[typeLookup_eq,F.attrBase_ValueError.mro]at hB;exact hB
 rw[typeLookup_eq]
 refine wpAny_bind (wpAny_mroOf_exc hC ?_)
 rw[lookupAlong_cons]
 refine wpAny_bind (wpAny_classOwn_exc hC hN ?_)
 rw[hmN n hn]
 exact M8 hn T hrest hq
theorem wC{R:Result->Shared->Prop}(hC:h.get? C=some (excClassObj nm q C N bs bm hdct sn sub ab col dd k0 k1 k2 k3 k5 newId))(T:fW h yz bm)
  (hx:h.get? a=some o)(hc:o.cls=.ref C)(hq:R (.ok (.ret (.ref C))) ⟨h,g,d,t,os⟩):
  codeAny (model prog w) A (.call (.builtin "getset_descriptor.__get__") ⟨[.builtin "object.__class__",.ref a,.ref C],[]⟩) R ⟨h,g,d,t,os⟩:=by
 have hT5:(⟨h,g,d,t,os⟩:Shared).TypeIs (.builtin "object.__class__") "getset_descriptor":=F.typeOf_object_class
 have hcB:(Value.ref C::bm).contains (.type (".".intercalate ("object.__class__".cutAt '.').dropLast))=true:=by
  rw[F.owner_object_class,List.contains_cons,T.hasType (X:="object") (b:=true) (by decide+kernel)];rfl
 refine codeAny_call_builtin F.slot_gs_get.plain F.entry_gs_get (F.slot_gs_get.check _ _ _ _ _ _ _ _ hT5 (F.args_gs_get _ _ _) ?_)
 repeat (any_goals (first|assumption|(with_reducible refine wpAny_loadPart_at hx ?_;rw[hc])|(with_reducible refine wpAny_isSubtype_exc hC ?_;rw[hcB])|wp_step))
 refine⟨Code.quiet_builtin _ (by decide+kernel),codeAny_builtin F.entry_object_class ?_⟩
 repeat (any_goals (first|assumption|(with_reducible refine wpAny_loadPart_at hx ?_;rw[hc])|wp_step))
theorem qu{tk:Tok}{Q:Fin->Shared->Prop}(hC:h.get? C=some (excClassObj nm q C N bs bm hdct sn sub ab col dd k0 k1 k2 k3 k5 newId))(hN:h.Ns N mN)(hmN:∀n∈cF,mN n=none)(T:fW h yz bm)
  (hx:h.get? a=some o)(hc:o.cls=.ref C)(hq:Q (.done (.ret (.ref C))) ⟨h,g,d,t,os⟩):
  wpAny (model prog w) A (Builtin.«object.__getattribute__» ⟨[.ref a,.str "__class__" tk],[]⟩) Q E ⟨h,g,d,t,os⟩:=by
 have hT5:(⟨h,g,d,t,os⟩:Shared).TypeIs (.builtin "object.__class__") "getset_descriptor":=F.typeOf_object_class
 have f5:=F.typeOf_object_class
 have f6:=F.slot_gs_get.lookup
 have f7:=F.slot_gs_set.lookup
 have hmA:("__class__":Str)∈cF:=.tail _ (.tail _ (.head _))
 have lk:typeLookup (.type "ValueError") "__class__"=pure (some (.builtin "object.__class__")):=by rw[typeLookup_type,builtinLookup_eq_fast];kernel_rfl
 repeat (any_goals (first|assumption|(with_reducible refine wpAny_loadPart_at hx ?_;rw[hc])|with_reducible refine oR hmA hC hN hmN T lk ?_|wp_step))
 refine wC hC T hx hc ?_
 repeat (any_goals (first|assumption|wp_step))
theorem yr{nameV:Value}{Q:Unit->Shared->Prop}(hC:h.get? C=some (excClassObj nm q C N bs bm hdct sn sub ab col dd k0 k1 k2 k3 k5 newId))(T:fW h yz bm)
  (hx:h.get? a=some o)(hc:o.cls=.ref C)(hq:Q () ⟨h,g,d,t,os⟩):wpAny M A (checkBuiltinCall "BaseException.__getattribute__" ⟨[.ref a,nameV],[]⟩) Q E ⟨h,g,d,t,os⟩:=by
 have hk:builtinKind "BaseException.__getattribute__"=some .slot:=by decide+kernel
 have hsplit:splitId "BaseException.__getattribute__"=some ("BaseException","__getattribute__"):=by decide+kernel
 have hcB:(Value.ref C::bm).contains (.type "BaseException")=true:=by rw[List.contains_cons,T.hasType F.attrBase_ValueError.hasBase];rfl
 have ha:=F.args_bexc_ga (.ref a) nameV
 simp only[checkBuiltinCall,hk,hsplit]
 refine wpAny_bind ?_
 ·unfold isInstance
  repeat (first|(with_reducible refine wpAny_loadPart_at hx ?_;rw[hc])|(with_reducible refine wpAny_isSubtype_exc hC ?_;rw[hcB])|wp_step)
  exact hq
theorem uE{tk:Tok}{R:Result->Shared->Prop}(hC:h.get? C=some (excClassObj nm q C N bs bm hdct sn sub ab col dd k0 k1 k2 k3 k5 newId))(hN:h.Ns N mN)(hmN:∀n∈cF,mN n=none)(T:fW h yz bm)
  (hx:h.get? a=some o)(hc:o.cls=.ref C)(hq:R (.ok (.ret (.ref C))) ⟨h,g,d,t,os⟩):
  codeAny (model prog w) A (.call (.builtin "BaseException.__getattribute__") ⟨[.ref a,.str "__class__" tk],[]⟩) R ⟨h,g,d,t,os⟩:=
 codeAny_call_builtin F.attrBase_ValueError.ga.plain F.entry_bexc_ga (yr hC T hx hc (qu hC hN hmN T hx hc hq))
theorem yq{tk:Tok}{fill expr:Bool}{Q:Value->Shared->Prop}(hC:h.get? C=some (excClassObj nm q C N bs bm hdct sn sub ab col dd k0 k1 k2 k3 k5 newId))(hN:h.Ns N mN)(hmN:∀n∈cF,mN n=none)(T:fW h yz bm)
  (hx:h.get? a=some o)(hc:o.cls=.ref C)(hq:Q (.ref C) ⟨h,g,d,t,os⟩):wpAny (model prog w) A (getAttrBy (.ref a) (.str "__class__" tk) fill expr) Q E ⟨h,g,d,t,os⟩:=by
 have f3:=F.attrBase_ValueError.ga.bind (.ref a)
 have hx0:(expr&&onTheHeap (Value.builtin "BaseException.__getattribute__"))=false:=by cases expr<;>rfl
 have hx2:(Value.builtin "BaseException.__getattribute__"==Value.builtin "object.__getattribute__")=false:=by decide+kernel
 have hx1:(onTheHeap (Value.ref C)&&Value.builtin "BaseException.__getattribute__"==Value.builtin "object.__getattribute__")=false:=by rw[hx2];rfl
 have hm1:("__getattribute__":Str)∈cF:=.head _
 have hm2:("__getattr__":Str)∈cF:=.tail _ (.head _)
 repeat (any_goals (first|assumption|(with_reducible refine wpAny_loadPart_at hx ?_;rw[hc])|with_reducible refine oR hm1 hC hN hmN T F.attrBase_ValueError.ga.lookup ?_|with_reducible refine oR hm2 hC hN hmN T F.attrBase_ValueError.noGetattr ?_|wp_step))
 refine uE hC hN hmN T hx hc ?_
 repeat (any_goals (first|assumption|wp_step))
theorem uF{Q:Option Value->Shared->Prop}(hC:h.get? C=some (excClassObj nm q C N bs bm hdct sn sub ab col dd k0 k1 k2 k3 k5 newId))(hN:h.Ns N mN)(hmN:∀n∈cF,mN n=none)(T:fW h yz bm)
  (hx:h.get? a=some o)(hc:o.cls=.ref C)(hq:Q (some (.ref C)) ⟨h,g,d,t+1,os⟩):wpAny (model prog w) A (getAttr? (.ref a) "__class__") Q E ⟨h,g,d,t,os⟩:=by
 unfold getAttr? getAttrBy?
 repeat (any_goals (first|assumption|with_reducible apply yq hC hN hmN T hx hc|wp_step))
theorem LK{D:Addr}{dD:Option Addr}{cD:ClassData}{sD:Array (Option Value)}{dep:Int}{tk:Tok}{Q:Fin->Shared->Prop}(hC:h.get? C=some (excClassObj nm q C N bs bm hdct sn sub ab col dd k0 k1 k2 k3 k5 newId))
  (hx:h.get? a=some o)(hc:o.cls=.ref C)(hD:h.get? D=some ⟨.type "type",dD,.cls cD,sD⟩)(ne:(Value.ref C==Value.ref D)=false)(hm:(Value.ref C::bm).contains (.ref D)=true)(hq:Q (.done (.ret (.bool true))) ⟨h,g,d,t,os⟩):
  wpAny (model prog w) A (Builtin.«isinstance.nested» ⟨[.ref a,.ref D,.int dep tk],[]⟩) Q E ⟨h,g,d,t,os⟩:=by
 have hTD:(⟨h,g,d,t,os⟩:Shared).TypeIs (.ref D) "type":=⟨_,hD,rfl⟩
 repeat (any_goals (first|assumption|(with_reducible refine wpAny_loadPart_at hx ?_;rw[hc])|(with_reducible refine wpAny_isSubtype_exc hC ?_;rw[hm])|wp_step))
theorem xX{D:Addr}{dD:Option Addr}{cD:ClassData}{sD:Array (Option Value)}{dep:Int}{tk:Tok}{Q:Fin->Shared->Prop}(hC:h.get? C=some (excClassObj nm q C N bs bm hdct sn sub ab col dd k0 k1 k2 k3 k5 newId))(hN:h.Ns N mN)(hmN:∀n∈cF,mN n=none)(T:fW h yz bm)
  (hx:h.get? a=some o)(hc:o.cls=.ref C)(hD:h.get? D=some ⟨.type "type",dD,.cls cD,sD⟩)(ne:(Value.ref C==Value.ref D)=false)(hm:(Value.ref C::bm).contains (.ref D)=false)(hq:Q (.done (.ret (.bool false))) ⟨h,g,d,t+1,os⟩):
  wpAny (model prog w) A (Builtin.«isinstance.nested» ⟨[.ref a,.ref D,.int dep tk],[]⟩) Q E ⟨h,g,d,t,os⟩:=by
 have hTD:(⟨h,g,d,t,os⟩:Shared).TypeIs (.ref D) "type":=⟨_,hD,rfl⟩
 repeat (any_goals (first|assumption|(with_reducible refine wpAny_loadPart_at hx ?_;rw[hc])|(with_reducible refine wpAny_isSubtype_exc hC ?_;rw[hm])|with_reducible apply uF hC hN hmN T hx hc|wp_step))
theorem LQ{dep:Int}{tk:Tok}{Q:Fin->Shared->Prop}(hC:h.get? C=some (excClassObj nm q C N bs bm hdct sn sub ab col dd k0 k1 k2 k3 k5 newId))
  (hx:h.get? a=some o)(hc:o.cls=.ref C)(hm:(Value.ref C::bm).contains (.type "ValueError")=true)(hq:Q (.done (.ret (.bool true))) ⟨h,g,d,t,os⟩):
  wpAny (model prog w) A (Builtin.«isinstance.nested» ⟨[.ref a,.type "ValueError",.int dep tk],[]⟩) Q E ⟨h,g,d,t,os⟩:=by
 have hty:typeOf (.type "ValueError")=pure (.type "type"):=by kernel_rfl
 have ne:(Value.ref C==Value.type "ValueError")=false:=rfl
 repeat (any_goals (first|assumption|(with_reducible refine wpAny_loadPart_at hx ?_;rw[hc])|(with_reducible refine wpAny_isSubtype_exc hC ?_;rw[hm])|wp_step))
end
end Mini
end
section
namespace Mini
open PySem L2 PyProof.Rows
abbrev uO(X:Cx)(a:Addr)(oe:Obj):Cx:={X with A:=X.A.mark (some (.ref a)),calm:=false,pn:=(a,oe)::X.pn,xe:=fun _ _=>False}
section
variable{X:Cx}{pins:List (Addr×Obj)}{σ:L2.St}{H:Hp}{s:Shared}{a:Addr}{oe:Obj}
theorem R6(ok:X.Ok):(uO X a oe).Ok:=
 ⟨ok.mod,ok.kind,ok.glob,ok.blt,ok.above,ok.inj,ok.has,ok.cab,(fun z=>nomatch z),ok.frames,ok.stk,ok.exf,ok.bs,ok.bsz,ok.noex,ok.exfs,ok.jy,ok.frf⟩
theorem zL(I:L2.Inv X pins σ H s)(he:s.heap.get? a=some oe)(hH:H a=none)(hl:a≠X.env.locals)(hf:a∉X.fs)(hc:∀v,oe.data≠ .cell v):L2.Inv (uO X a oe) pins σ H s:=
 ⟨R6 I.ok,I.os,I.bare,I.base,I.loc,I.cell,I.free,I.freeC,fun p hp=>by
  rcases List.mem_cons.mp (show p∈(a,oe)::(X.pn++pins)from hp)with rfl|hp
  ·exact⟨he,hH,hl,hf,hc⟩
  ·exact I.pin p hp,I.hok,I.len⟩
theorem G7(I:L2.Inv (uO X a oe) pins σ H s)(ok:X.Ok):L2.Inv X pins σ H s:=
 ⟨ok,I.os,I.bare,I.base,I.loc,I.cell,I.free,I.freeC,fun p hp=>I.pin p (List.mem_cons_of_mem _ hp),I.hok,I.len⟩
theorem yC(I:L2.Inv (uO X a oe) pins σ H s):s.heap.get? a=some oe:=(I.pin (a,oe) (List.mem_cons_self)).1
end
structure Ja(C W T:Addr)(h:Heap):Prop where
 obj:∃nm q N bs bm hdct sn sub ab col dd k0 k1 k2 k3 k5 newId mN,h.get? C=some (excClassObj nm q C N bs bm hdct sn sub ab col dd k0 k1 k2 k3 k5 newId)/\h.Ns N mN/\(∀n∈cF,mN n=none)/\fW h yz bm/\bm.contains (.ref W)=true/\bm.contains (.ref T)=false
 w:∃d c l,h.get? W=some ⟨.type "type",d,.cls c,l⟩
 t:∃d c l,h.get? T=some ⟨.type "type",d,.cls c,l⟩
 cw:C≠W
 ct:C≠T
section
variable{X:Cx}{a C W T:Addr}{oe:Obj}
theorem CT(E:∀h,X.K.In h->Ja C W T h)(hc:oe.cls=.ref C):eF (uO X a oe) (.builtin "isinstance") (fun xs H Q=>xs=[.ref a,.ref W]/\Q (.bl true) H):=by
 intro pins s σ H xs us Q I r h
 obtain⟨rfl,q⟩:=h
 obtain⟨u,u',rfl,ru,ru'⟩:=Vals.two r
 cases ru;cases ru'
 obtain⟨⟨nm,q',N,bs,bm,hdct,sn,sub,ab,col,dd,k0,k1,k2,k3,k5,newId,mN,hC,hN,hq,T',cW,cT⟩,⟨dW,cdW,sW,hW⟩,_,n1,_⟩:=E _ I.wO
 have hx:=yC I
 obtain⟨hp,g,d,t,os⟩:=s
 refine call_isinstance_of (LK hC hx hc hW ?_ ?_ ⟨.bl true,H,I,rfl,q⟩) (by intro z;cases z)
 ·exact beq_false_of_ne fun z=>n1 (by cases z;rfl)
 ·rw[List.contains_cons,cW,Bool.or_true]
theorem CV(E:∀h,X.K.In h->Ja C W T h)(hc:oe.cls=.ref C):eF (uO X a oe) (.builtin "isinstance") (fun xs H Q=>xs=[.ref a,.ty "ValueError"]/\Q (.bl true) H):=by
 intro pins s σ H xs us Q I r h
 obtain⟨rfl,q⟩:=h
 obtain⟨u,u',rfl,ru,ru'⟩:=Vals.two r
 cases ru;cases ru'
 obtain⟨⟨nm,q',N,bs,bm,hdct,sn,sub,ab,col,dd,k0,k1,k2,k3,k5,newId,mN,hC,hN,hq,T',cW,cT⟩,_,_,_,_⟩:=E _ I.wO
 have hx:=yC I
 obtain⟨hp,g,d,t,os⟩:=s
 refine call_isinstance_of (LQ hC hx hc ?_ ⟨.bl true,H,I,rfl,q⟩) (by intro z;cases z)
 rw[List.contains_cons,T'.hasType (X:="ValueError") (b:=true) (by decide+kernel),Bool.or_true]
theorem CW(E:∀h,X.K.In h->Ja C W T h)(hc:oe.cls=.ref C):eF (uO X a oe) (.builtin "isinstance") (fun xs H Q=>xs=[.ref a,.ref T]/\Q (.bl false) H):=by
 intro pins s σ H xs us Q I r h
 obtain⟨rfl,q⟩:=h
 obtain⟨u,u',rfl,ru,ru'⟩:=Vals.two r
 cases ru;cases ru'
 obtain⟨⟨nm,q',N,bs,bm,hdct,sn,sub,ab,col,dd,k0,k1,k2,k3,k5,newId,mN,hC,hN,hq,T',cW,cT⟩,_,⟨dT,cdT,sT,hT⟩,_,n2⟩:=E _ I.wO
 have hx:=yC I
 have I':=I.tok (s.toks+1)
 obtain⟨hp,g,d,t,os⟩:=s
 have ne:(Value.ref C==Value.ref T)=false:=beq_false_of_ne fun z=>n2 (by cases z;rfl)
 refine call_isinstance_of (xX hC hN hq T' hx hc hT ne ?_ ⟨.bl false,H,I',rfl,q⟩) (by intro z;cases z)
 rw[List.contains_cons,cT,Bool.or_false]
 exact beq_false_of_ne fun z=>n2 (by cases z;rfl)
end
section
variable{X:Cx}{a C W T:Addr}{oe:Obj}{en wx tx cx:Str}{i:Nat}{q1 q2 q3 q4 q5 q6 q7 q8 q9 r1 r2 r3 r4 r5:Pos}
abbrev Zd(en wx tx:Str)(q1 q2 q3 q4 q5 q6 q7 q8 q9 r1 r2 r3 r4 r5:Pos):Expr:=
 .BoolOp .And [.Call (.Name "isinstance" q1) [.Name en q2,.Name wx q3] [] q4,.Call (.Name "isinstance" q5) [.Name en q6,.Name "ValueError" q7] [] q8,.UnaryOp .Not (.Call (.Name "isinstance" q9) [.Name en r1,.Name tx r2] [] r3) r4] r5
theorem KD(E:∀h,X.K.In h->Ja C W T h)(hc:oe.cls=.ref C)(hN1:X.N[i]? =some en)(vi:UW X.env.scope en)(g1:Gl X "isinstance")(g2:Gl X wx)(g3:Gl X "ValueError")(g4:Gl X tx)
  (m1:X.mg "isinstance"=none)(m2:X.mg wx=some (.ref W))(m3:X.mg "ValueError"=none)(m4:X.mg tx=some (.ref T))(d1:(en==("__debug__":Str))=false)(d2:(en==("__classdict__":Str))=false)(d3:(wx==("__debug__":Str))=false)(d4:(tx==("__debug__":Str))=false):
  PE (uO X a oe) (Zd en wx tx q1 q2 q3 q4 q5 q6 q7 q8 q9 r1 r2 r3 r4 r5) (fun σ H Q=>σ[i]? =some (some (.ref a))/\Q (.bl true) H):=by
 have ve:∀{q:Pos},PE (uO X a oe) (.Name en q) (Av i):=fun{q}=>xK hN1 vi d1 d2
 have A1:=gH (p:=q1) (pos:=q4) (CT (a:=a) E hc) g1 m1 (by kernel_rfl) (bC (ve (q:=q2)) (bC (tQ (v:=.ref W) (pos:=q3) g2 m2 rfl d3) dz)) (by decide+kernel) (by decide+kernel)
 have A2:=gH (p:=q5) (pos:=q8) (CV (a:=a) E hc) g1 m1 (by kernel_rfl) (bC (ve (q:=q6)) (bC (zg (x:="ValueError") (v:=.ty "ValueError") (u:=.type "ValueError") (pos:=q7) g3 m3 (by kernel_rfl) rfl (by decide+kernel) (by decide+kernel)) dz)) (by decide+kernel) (by decide+kernel)
 have A3:=gH (p:=q9) (pos:=r3) (CW (a:=a) E hc) g1 m1 (by kernel_rfl) (bC (ve (q:=r1)) (bC (tQ (v:=.ref T) (pos:=r2) g4 m4 rfl d4) dz)) (by decide+kernel) (by decide+kernel)
 refine PE.imp (xN A1 (xN A2 (xM (RG (pos:=r4) A3)))) fun σ H Q⟨e,q⟩=>?_
 exact⟨_,e,rfl,true,rfl,_,e,rfl,true,rfl,_,e,rfl,false,rfl,q⟩
end
end Mini
end
section
namespace Mini
open PySem L2 PyProof.Rows
def Jc(P:Program)(w:World)(base:Heap):yL:=fun outer H s E e s'=>∃C,CXE C P w base outer H s E e s'
def Og(K:PySem.W.Frag)(n:Nat)(cls:Nat->Option Addr)(f:List Sl->Res):Sp:=fun vs H Q E=>∃ps,vs.length=n/\Sat K ps (vs.map some) H/\noOwn ps/\match f ps with
 |.ok r qs=>∀v H',Cz K ps vs H qs H'->Z1 K H H' r v->Q v H'
 |.exc j qs=>∃C,cls j=some C/\∀H',Cz K ps vs H qs H'->E (.ref C) none H'
 |.bad=>False
def WE(cls:Nat->Option Addr)(E:XK):Wi:=fun j _ _ H=>∃C,cls j=some C/\E (.ref C) none H
section
variable{P:Program}{w:World}{K:PySem.W.Frag}{mg:Str->Option Value}{base:Heap}{cls:Nat->Option Addr}
theorem Hn{x qual:Str}{st:Stmt}{f:Addr}{fd:FuncData}{N ps:List Str}{k:Nat}{c:Cf}{g:Fn}(F:Nj K x qual st f fd)(S:dR N ps (aq st))(hp:g.pars=ps.length)(hn:g.names=N.length)
  (hb:∀(cdv:Value)(A:Around)(outer:List Env)(s:Shared)(H:Hp)(E:XK),gD k (A.deeper (PyProof.Rows.envOfC qual (aq st) s.heap.objs.size f cdv))->IW (gP (Jc P w base) P w K mg base N qual (aq st) f cdv A outer s H E) (WE cls E) c g.body (bW st)):
  fX P w K mg base (Jc P w base) (k+1) f fd ps (Og K ps.length cls (dZ c g)):=by
 obtain⟨oc,od,kV,doc,pm,an,cdv,ct,osl,rfl,lk,hcd⟩:=F.ex
 refine PN lk hcd S (fun vs H Q E h=>?_) fun A outer s H vs Q E hr h=>?_
 ·obtain⟨_,h,_⟩:=h
  exact h
 ·obtain⟨sl,hl,S0,no,q⟩:=h
  refine⟨_,hb cdv A outer s H E hr (sl++List.replicate (g.names-g.pars) .un),?_⟩
  have hlen:sl.length=vs.length:=by simpa using S0.len
  have hst:L2.start N vs=vs.map some++List.replicate (g.names-g.pars) none:=by
   unfold L2.start
   rw[hn,hp,hl]
  have e0:dZ c g sl=match ex c g.body (sl++List.replicate (g.names-g.pars) .un)with
    |.next σ=>.ok (.val .non) (σ.take g.pars)
    |.ret r σ=>.ok r (σ.take g.pars)
    |.exc k σ=>.exc k (σ.take g.pars)
    |_=>.bad:=by
   unfold dZ
   rw[if_pos (by rw[hp,<-hl,hlen])]<;>cases ex c g.body (sl++List.replicate (g.names-g.pars) .un)<;>rfl
  rw[e0]at q
  rw[hst]
  refine⟨S0.pad _,?_⟩
  have hg:vs.length=g.pars:=by rw[hl,hp]
  cases r:ex c g.body (sl++List.replicate (g.names-g.pars) .un)with
  |next env'=>rw[r]at q;exact fun σ' H' N=>q .non H' (N.cz S0 hg) rfl
  |ret rv env'=>
   rw[r]at q
   refine fun v σ' H' N z=>q v H' (N.cz S0 hg) ?_
   cases rv with
   |val d=>exact z
   |new o=>
    obtain⟨a,e1,e2,e3⟩:=z
    refine⟨a,e1,e2,?_⟩
    rcases e3 with e3|⟨i,ys,e3,_⟩
    ·exact e3
    ·by_cases hi:i<sl.length
     ·rw[List.getElem?_append_left hi]at e3
      exact absurd e3 (no i ys)
     ·rw[List.getElem?_append_right (by omega),List.getElem?_replicate]at e3
      split at e3<;>cases e3
   |ref i=>exact z.elim
   |tmp o=>exact z.elim
  |brk env'=>rw[r]at q;exact q.elim
  |cont env'=>rw[r]at q;exact q.elim
  |exc j env'=>
   rw[r]at q
   obtain⟨C,hC,q⟩:=q
   exact fun σ' H' N=>⟨C,hC,q H' (N.cz S0 hg)⟩
  |bad=>rw[r]at q;exact q.elim
theorem Ci{N:List Str}{qual x m:Str}{scope:Scope}{f:Addr}{cd:Value}{A:Around}{outer:List Env}{s:Shared}{H:Hp}{E:XK}{c:Cf}{C:Addr}{j k:Nat}{np cp cpos pos:Pos}(hC:cls j=some C)(O:∀h,K.In h->IK x C mg h)
  (hg:Gl (gP (Jc P w base) P w K mg base N qual scope f cd A outer s H E) x)(hd:(x==("__debug__":Str))=false):
  GS (gP (Jc P w base) P w K mg base N qual scope f cd A outer s H E) (WE cls E) c (.raise j) (.Raise (some (.Call (.Name x np) [.Constant (.str m) k cp] [] cpos)) none pos):=fun env pins s2 σ H2 D I q=>by
 simp only[Qo]at q
 obtain⟨S,q⟩:=q
 obtain⟨C',e,hE⟩:=q σ H2 (Nz.refl S)
 rw[hC]at e
 cases e
 exact wp_raise O hg rfl I (fun s3 h' e vs I3 hm=>xW (fun z=>⟨C,z⟩) I3 hm hE) hd
structure Ae(K:PySem.W.Frag)(mg:Str->Option Value)(cls:Nat->Option Addr)(exs:List Str):Prop where
 zero:cls 0=none
 at_:∀k x,exs[k]? =some x->∃C,cls (k+1)=some C/\∀h,K.In h->IK x C mg h
theorem abA{C:Ct}{N:List Str}{qual:Str}{f:Addr}{cd:Value}{A:Around}{outer:List Env}{s:Shared}{H:Hp}{E:XK}{c:Cf}(hx:Ae K mg cls C.exs):
  Top C (gP (Jc P w base) P w K mg base N qual C.sc f cd A outer s H E) (WE cls E) c:=by
 refine⟨fun _=>rfl,PassesOwn.leaving,fun e g p n m h=>?_⟩
 rw[za h]
 have none_:∀st,GS (gP (Jc P w base) P w K mg base N qual C.sc f cd A outer s H E) (WE cls E) c (.raise 0) st:=fun st env pins s2 σ H2 D I q=>by
  simp only[Qo]at q
  obtain⟨S,q⟩:=q
  obtain⟨C',e,_⟩:=q σ H2 (Nz.refl S)
  rw[hx.zero]at e
  cases e
 unfold xq
 split
 ·split
  ·rename_i hg
   rw[Bool.and_eq_true]at hg
   split
   ·rename_i k hk
    obtain⟨A',h1,h2⟩:=hx.at_ k _ (gj hk)
    refine Ci h1 h2 ?_ (tX hg.2).1
    have:=hg.1
    unfold yc at this
    exact(by simpa using this:C.sc.names.lookup _=some .globalImplicit)
   ·exact none_ _
  ·exact none_ _
 ·exact none_ _
end
end Mini
end
section
namespace Mini
open PySem L2 PyProof.Rows
section
variable{M:Model}{A:Around}{E:Value->Shared->Prop}{nm q nm' q':Str}{C N D N':Addr}{bs bm bs' bm':List Value}{hdct hdct':Bool}{sn sn':List Str}{sub sub':List Value}{ab ab':Bool}{col col':Option Bool}{dd dd':Option Addr}{k0 k1 k2 k3 k5 k0' k1' k2' k3' k5':Option Value}{newId newId':String}
theorem lR{h:Heap}{g:Array GenState}{d:Drawn}{t:Nat}{os:OsState}{e:Addr}{oe:Obj}{Q:Bool->Shared->Prop}
  (hC:h.get? C=some (excClassObj nm q C N bs bm hdct sn sub ab col dd k0 k1 k2 k3 k5 newId))(hD:h.get? D=some (excClassObj nm' q' D N' bs' bm' hdct' sn' sub' ab' col' dd' k0' k1' k2' k3' k5' newId'))(he:h.get? e=some oe)(hcls:oe.cls=.ref C)(hbase:bm'.contains (.type "BaseException")=true)
  (hno:(Value.ref C::bm).contains (.ref D)=false)(hq:Q false ⟨h,g,d,t,os⟩):wpAny M A (excMatches (.ref e) (.ref D)) Q E ⟨h,g,d,t,os⟩:=by
 have hcB:(Value.ref D::bm').contains (.type "BaseException")=true:=by rw[List.contains_cons,hbase,Bool.or_true]
 have f:=tc_notTuple
 unfold excMatches
 repeat (first|(with_reducible refine wpAny_loadPart_at he ?_;rw[hcls])|with_reducible refine wpAny_loadPart_at hD ?_|(with_reducible refine wpAny_isSubtype_exc hD ?_;rw[hcB])|(with_reducible refine wpAny_isSubtype_exc hC ?_;rw[hno])|wp_step)
 exact hq
end
def Qj(C D:Addr)(h:Heap):Prop:=∃nm q N bs bm hdct sn sub ab col dd k0 k1 k2 k3 k5 newId nm' q' N' bs' bm' hdct' sn' sub' ab' col' dd' k0' k1' k2' k3' k5' newId',
 h.get? C=some (excClassObj nm q C N bs bm hdct sn sub ab col dd k0 k1 k2 k3 k5 newId)/\h.get? D=some (excClassObj nm' q' D N' bs' bm' hdct' sn' sub' ab' col' dd' k0' k1' k2' k3' k5' newId')/\bm'.contains (.type "BaseException")=true/\(Value.ref C::bm).contains (.ref D)=false
section
variable{prog:Program}{w:World}{A:Around}{E:Value->Shared->Prop}{s:Shared}{env:Env}
theorem qp{e C D:Addr}{t:Expr}{name:Option Str}{body:List Stmt}{pos:Pos}{rest:List ExceptHandler}{Q:Flow->Shared->Prop}
  (h:wpAny (model prog w) (A.mark (some (.ref e))) (eval t env) (fun c s₁=>c=.ref D/\Qj C D s₁.heap/\(∃oe,s₁.heap.get? e=some oe/\oe.cls=.ref C)/\wpAny (model prog w) A (handleBy (.ref e) env rest) Q E s₁) (notedBy (model prog w) (A.mark (some (.ref e))) env (cameBackBy (model prog w) A env E)) s):
  wpAny (model prog w) A (handleBy (.ref e) env (.ExceptHandler (some t) name body pos::rest)) Q E s:=by
 refine wpAny_handleBy_cons (codeAny_handlers_test (wpAny_mono h (fun c s₁ h₁=>?_) fun _ _ y=>y)) (by intro q;cases q)
 obtain⟨rfl,⟨nm,q,N,bs,bm,hdct,sn,sub,ab,col,dd,k0,k1,k2,k3,k5,newId,nm',q',N',bs',bm',hdct',sn',sub',ab',col',dd',k0',k1',k2',k3',k5',newId',hC,hD,hb,hn⟩,⟨oe,he,hcls⟩,hk⟩:=h₁
 obtain⟨hh,g,d,tk,os⟩:=s₁
 exact lR hC hD he hcls hb hn hk
end
section
variable{X:Cx}{a C W T:Addr}{oe:Obj}{en wx:Str}{k0 i:Nat}{word:Str}{q1 q2 q3 q4 q5 q6 q7 q8 q9 r1 r2 r3 r4:Pos}
theorem K3:fB X (binaryOp .Mult) (fun x y H Q=>∃z,x=.str z/\y=.int 1/\Q (.str z) H):=by
 intro pins s σ H x y v u Q I rx ry h
 obtain⟨z,rfl,rfl,q⟩:=h
 obtain⟨t,rfl⟩:=rx
 obtain⟨t',rfl⟩:=ry
 refine P.mul_str (by decide) (fun _ z=>by simp at z) (fun _ z=>by simp at z) ?_
 rw[if_neg (by decide),if_pos (by simp)]
 exact⟨.str z,H,I,⟨t,rfl⟩,q⟩
theorem KH{bs:List Expr}{bp:Pos}(hB:PE (uO X a oe) (.BoolOp .And bs bp) (fun σ H Q=>σ[i]? =some (some (.ref a))/\Q (.bl true) H))(g4:Gl X "int")(m4:X.mg "int"=none):PE (uO X a oe) (.Call (.Name "int" r2) [.BoolOp .And bs bp] [] r3) (fun σ H Q=>σ[i]? =some (some (.ref a))/\Q (.int 1) H):=
 PE.imp (jl (p:=r2) (pos:=r3) (rR (X:=uO X a oe)) g4 m4 PyProof.Rows.boot_int (bC hB dz) (by decide+kernel) (by decide+kernel)) fun σ H Q⟨e,q⟩=>⟨e,.inr ⟨true,rfl,q⟩⟩
theorem Kz{bs:List Expr}{bp:Pos}(hB:PE (uO X a oe) (.BoolOp .And bs bp) (fun σ H Q=>σ[i]? =some (some (.ref a))/\Q (.bl true) H))(g4:Gl X "int")(m4:X.mg "int"=none):PE (uO X a oe) (.BinOp (.Constant (.str word) k0 r1) .Mult (.Call (.Name "int" r2) [.BoolOp .And bs bp] [] r3) r4) (fun σ H Q=>σ[i]? =some (some (.ref a))/\Q (.str word) H):=
 PE.imp (oJ (pos:=r4) K3 (FW (x:=word) (j:=k0) (pos:=r1)) (KH hB g4 m4)) fun σ H Q⟨e,q⟩=>⟨e,word,rfl,rfl,q⟩
end
end Mini
end
section
namespace Mini
open PySem L2 PyProof.Rows
def Z0(X:Cx)(C:Addr)(h:ExceptHandler):Prop:=∃(dx:Str)(D:Addr)(p:Pos)(n:Option Str)(b:List Stmt)(pos:Pos),h=.ExceptHandler (some (.Name dx p)) n b pos/\Gl X dx/\X.mg dx=some (.ref D)/\(dx==("__debug__":Str))=false/\∀hp,X.K.In hp->Qj C D hp
structure Tells(X:Cx)(C:Addr)(v:V)(hs:List ExceptHandler):Prop where
 ex:∃(hs1 rest:List ExceptHandler)(cx en:Str)(re:Expr)(p5 p7 p8:Pos)(i:Nat),hs=hs1++ .ExceptHandler (some (.Name cx p5)) (some en) [.Return (some re) p7] p8::rest/\(∀h,X.K.In h->IK cx C X.mg h)/\Gl X cx/\(cx==("__debug__":Str))=false/\X.N[i]? =some en/\X.env.scope.names.lookup en=some .local/\
  (∀(a:Addr)(oe:Obj),oe.cls=.ref C->PE (uO X a oe) re (fun σ H Q=>σ[i]? =some (some (.ref a))/\Q v H))/\∀h∈hs1,Z0 X C h
section
variable{X:Cx}{pins:List (Addr×Obj)}{σ:L2.St}{H:Hp}{s:Shared}
theorem Ca{h':Heap}{t':Nat}{m':Str->Option Value}(I:L2.Inv X pins σ H s)(hs:Heap.SameBut X.env.locals s.heap h')(hn:h'.Ns X.env.locals m'):L2.Inv X pins (List.replicate X.N.length none) H {s with heap:=h',toks:=t'}:=by
 have ne:∀{b:Addr}{o:Obj},X.s₀.heap.get? b=some o->b≠X.env.locals:=fun e=>Nat.ne_of_lt (Nat.lt_of_lt_of_le (Heap.lt_size e) I.ok.above)
 refine⟨I.ok,I.os,I.bare,⟨fun b o e n hb hx=>?_,fun b o e n hb hx=>?_,I.base.free,fun b o e hx=>?_,I.base.tups,I.base.frzs,I.base.tbls⟩,⟨m',hn,fun j y v e1 e2 e3=>?_⟩,fun y c e=>?_,I.free,I.freeC,fun p hp=>?_,?_,by simp⟩
 ·exact(hs.2 b (ne e)).trans (I.base.keep b o e n hb hx)
 ·obtain⟨sl,e1⟩:=I.base.slot b o e n hb hx
  exact⟨sl,(hs.2 b (ne e)).trans e1⟩
 ·obtain⟨o',e1⟩:=I.base.there b o e hx
  exact⟨o',(hs.2 b (ne e)).trans e1⟩
 ·rw[List.getElem?_replicate]at e2
  split at e2<;>cases e2
 ·obtain⟨w',z⟩:=I.cell y c e
  exact⟨w',z.sameBut hs (I.Qc y c e)⟩
 ·obtain⟨e,n,ne,nf,d⟩:=I.pin p hp
  exact⟨(hs.2 p.1 ne).trans e,n,ne,nf,d⟩
 ·refine iV.frames (l:=[X.env.locals]) I.hok (fun b z=>?_) fun b u nb q=>(hs.2 b fun z=>nb (by rw[z];exact .head _)).trans q
  rw[List.mem_singleton.mp z];exact I.free
theorem Uy{C:Addr}{hs:List ExceptHandler}{D:Ends}{v:V}{e:Value}{s':Shared}{H1:Hp}{s1:Shared}(I1:L2.Inv X pins σ H1 s1)(c:CXE C X.prog X.w X.base X.stack H1 s1 (fun _ _ H'=>D.rt v H') e s')(stk:X.stack=X.env::X.outer)(Dj:X.env.frame=some X.env.locals)
  (hN:X.N.Nodup)(T:Tells X C v hs):
  wpAny (model X.prog X.w) X.A (noteFrame e X.env) (fun _ s₂=>wpAny (model X.prog X.w) X.A (setFlight e none) (fun _ s₃=>
   wpAny (model X.prog X.w) X.A (handleBy e X.env hs) (SP X pins D) X.xe s₃) X.xe s₂) X.xe s':=by
 obtain⟨hs1,rest,cx,en,re,p5,p7,p8,i,rfl,O,g0,d0,hNi,le,hw,sk⟩:=T.ex
 obtain⟨a,a0,B,H',rfl,os,bare,lt,hokB,fl,an,hHa,bB,q⟩:=c
 have fr:=I1.mY
 have hfr:X.A.frames=some (X.env::X.outer):=by rw[I1.ok.frames,stk]
 have nf:∀{h:Heap},h.FunFrames B X.stack->∀b∈frs X.stack,∃o,h.get? b=some o/\∀vs,o.data≠ .fields vs:=fun F b hb=>(F.mem hb).2
 have inv:∀{h:Heap},yH (frs X.stack) H1 H' s1.heap B h->L2.Inv X pins σ H' {s' with heap:=h}:=fun{h}L=>
  I1.call' (s':={s' with heap:=h}) (ch:=[]) os (L.un fr) (hokB.kept L.stays) bare fun b z=>absurd z (by simp)
 have nl:a≠X.env.locals:=fun z=>by
  obtain⟨m,⟨o,es,ep,ho,_⟩,_⟩:=I1.loc
  rw[<-z,an]at ho;cases ho
 have nfs:a∉X.fs:=fun z=>by
  obtain⟨_,o,ho,_⟩:=I1.stack.mem (b:=a) (by rw[stk];show a∈frs (X.env::X.outer);unfold frs;rw[List.filterMap_cons,Dj];exact List.mem_cons_of_mem _ z)
  rw[an]at ho;cases ho
 have hlk:X.env.kindOf en=some .local:=le
 have hcls:(X.env.scope.kind== .class||(X.env.scope.kind== .module&&X.env.locals !=X.env.globals))=false:=by rw[I1.ok.kind];rfl
 have fl0:=fl
 rw[stk]at fl
 refine wpAny_looks_onW hfr Dj fl fun h1 held up1=>?_
 have L1:=lt.move held.1 up1 (nf fl0.2.2.1)
 refine wpAny_landsW held fun h2 fl2 up2=>?_
 have L2':=L1.move fl2.1 up2 (nf (by rw[stk];exact held.2.2.1))
 obtain⟨oe,vs,hoe,hoc,hod,ho0⟩:=fl2.first
 have Im:=zL (inv L2') hoe hHa nl nfs (fun v z=>by rw[hod]at z;cases z)
 have go:∀hs1:List ExceptHandler,(∀h∈hs1,Z0 X C h)->wpAny (model X.prog X.w) X.A (handleBy (.ref a) X.env (.ExceptHandler (some (.Name cx p5)) (some en) [.Return (some re) p7] p8::rest)) (SP X pins D) X.xe {s' with heap:=h2}->
   wpAny (model X.prog X.w) X.A (handleBy (.ref a) X.env (hs1++ .ExceptHandler (some (.Name cx p5)) (some en) [.Return (some re) p7] p8::rest)) (SP X pins D) X.xe {s' with heap:=h2}:=by
  intro hs1
  induction hs1 with
  |nil=>intro _ z;exact z
  |cons h0 hs1 ih=>
   intro hk z
   obtain⟨dx,D',p,n,b,pos,rfl,gl,mg,db,ns⟩:=hk h0 List.mem_cons_self
   exact qp (jr (X:=uO X a oe) Im gl mg ⟨rfl,ns _ (inv L2').wO,⟨oe,hoe,hoc⟩,ih (fun h hh=>hk h (List.mem_cons_of_mem _ hh)) z⟩ db)
 refine go hs1 sk ?_
 refine handleBy_own_as (C:=C) (x:=cx) (bmB:=yz) (newId:="ValueError.__new__") (mg:=X.mg) (by decide+kernel) (jr (X:=uO X a oe) Im g0 (O _ (inv L2').wO).bound ⟨rfl,O _ (inv L2').wO,⟨oe,hoe,hoc⟩,?_⟩ d0)
 refine lands_againW fl2 fun h3 fl3 up3=>?_
 have L3:=L2'.move fl3.1 up3 (nf (by rw[stk];exact fl2.2.2.1))
 obtain⟨oe3,vs3,hoe3,hoc3,hod3,_⟩:=fl3.first
 have I3:=zL (inv L3) hoe3 hHa nl nfs (fun v z=>by rw[hod3]at z;cases z)
 refine nT (X:=uO X a oe3) I3 hN hNi (.inl le) (v:=.ref a) rfl (fun s4 I4=>?_) (.inr le)
 have hi:i<σ.length:=by rw[I1.len];exact(List.getElem?_eq_some_iff.mp hNi).1
 refine wpAny_mono ((Ko (jL (pos:=p7) (hw a oe3 hoc3))) pins s4 _ H' {nx:=fun _ _=>False,rt:=D.rt} I4 ⟨List.getElem?_set_self hi,q⟩) (fun f s5 h5=>?_) fun _ _ z=>False.elim z
 cases f with
 |ret u=>
  obtain⟨v,σ5,H5,I5,rv,q5⟩:=h5
  have I6:=G7 I5 I1.ok
  obtain⟨m,hn,_⟩:=I6.loc
  exact wpAny_nameGoes hlk hn hcls fun h6 m6 hn6 hs6=>⟨v,_,H5,Ca I6 hs6 hn6,rv,q5⟩
 |next=>obtain⟨_,_,_,z⟩:=h5;exact False.elim z
 |brk=>obtain⟨_,_,_,z⟩:=h5;exact False.elim z
 |cont=>obtain⟨_,_,_,z⟩:=h5;exact False.elim z
end
end Mini
end
section
namespace Mini
open PySem L2 PyProof.Rows
section
variable{X:Cx}{c:Cf}{m:E}{e:Expr}{es:List Expr}{k g:Nat}{fc:Addr}{fdc:FuncData}{ps:List Str}{fx:Str}{cls:Nat->Option Addr}{ws:List (Nat×D)}{h0:ExceptHandler}{hs:List ExceptHandler}{p1 p3 p4 p9:Pos}
theorem Mg(G:fX X.prog X.w X.K X.mg X.base (Jc X.prog X.w X.base) k fc fdc ps (Og X.K ps.length cls (c.fn g)))(hr:gD k X.A)(gf:Gl X fx)(mf:X.mg fx=some (.ref fc))(kp:PySem.W.keepIn X.K (.ref fc)=true)(bf:Binds X.K fdc ps [])
  (df:(fx==("__debug__":Str))=false)(ha:GA X.O1 W0 c m (e::es))(he:starEach (e::es) X.env=(false,eval e X.env)::starEach es X.env)(hpl:(backTo p3 (starEach es X.env)).any (·.1)=false)(hn:∀sl,c.fn g sl=.bad\/sl.length=ps.length)
  (stk:X.stack=X.env::X.outer)(Dj:X.env.frame=some X.env.locals)(hN:X.N.Nodup)(T:∀j w,ws.lookup j=some w->∃C v,cls j=some C/\(∀H,bh X.K H w v)/\Tells X C v (h0::hs)):
  GS X W0 c (.ret (.tcall g m ws)) (.Try [.Return (some (.Call (.Name fx p1) (e::es) [] p3)) p4] (h0::hs) [] [] p9):=by
 intro env pins s σ H D I q
 simp only[uT,E.au,abx]at q
 obtain⟨S,q⟩:=q
 refine wpAny_Try_except (wpAny_execs_cons (wpAny_Return_some (wpAny_Call_Name_kw (jr I gf mf ?_ df))))
 have ha':WX X.O1.K W0 env (evs c m env) σ H (fun vs H1=>∃rs env1,evs c m env=.ok rs env1/\Nx X.K env σ H env1 H1/\gQ X.K σ H H1 rs vs):=by
  refine⟨S,?_⟩
  cases r:evs c m env with
  |bad=>rw[r]at q;exact q.elim
  |exc j env1=>rw[r]at q;exact fun H1 N=>q σ H1 N.z
  |ok rs env1=>exact fun vs H1 N rv=>⟨rs,env1,rfl,N,rv⟩
 refine PySem.W.callWith_K (h₀:=X.base) I.ok.mod.kin kp (wpAny_mono (ha env p3 pins s σ H _ (I.wish _) ha') (fun us s1 hq=>?_) fun _ _ z=>False.elim z) he hpl
 obtain⟨vs,H1,I1,r,rs,env1,er,N,rv⟩:=hq
 have I1:=I1.gU
 refine⟨I1.wO,?_⟩
 rw[er]at q
 simp only[Out.bind,gm]at q
 cases e1:enter rs env1 with
 |none=>rw[e1]at q;exact q.elim
 |some sl=>
  rw[e1]at q
  simp only at q
  have En:=gO N.eY e1 rv
  have hsl:sl.length=ps.length:=by
   rcases hn sl with z|z
   ·rw[z]at q;exact q.elim
   ·exact z
  have sp:Og X.K ps.length cls (c.fn g) vs H1 (fun v H2=>D.rt v H2) (fun Cv _ H2=>∃j w C,cls j=some C/\Cv=.ref C/\ws.lookup j=some w/\∀v,bh X.K H2 w v->D.rt v H2):=by
   refine⟨sl,by rw[<-En.len.1,hsl],En.eY S N.eY N.sub,En.noOwn,?_⟩
   cases e2:c.fn g sl with
   |bad=>rw[e2]at q;exact q.elim
   |ok rv qs=>
    rw[e2]at q
    simp only at q
    intro v H2 C z
    cases e3:giveBack rs qs env1 with
    |none=>rw[e3]at q;exact q.elim
    |some env2=>
     rw[e3]at q
     have N2:=(uH S N En C e3).z
     cases rv with
     |val d=>exact q v σ H2 N2 z
     |new o=>obtain⟨a,z1,z2,z3⟩:=z;exact q v σ H2 N2 ⟨a,z1,z2,.inl (N.dom a z3)⟩
     |ref i=>exact z.elim
     |tmp o=>exact z.elim
   |exc j qs=>
    rw[e2]at q
    simp only at q
    cases e4:ws.lookup j with
    |none=>rw[e4]at q;exact q.elim
    |some w=>
     rw[e4]at q
     cases e3:giveBack rs qs env1 with
     |none=>rw[e3]at q;exact q.elim
     |some env2=>
      rw[e3]at q
      obtain⟨C,v,hC,_⟩:=T j w e4
      exact⟨C,hC,fun H2 cz=>⟨j,w,C,hC,rfl,e4,fun v z=>q v σ H2 (uH S N En cz e3).z z⟩⟩
  have hl:us.length=ps.length:=by rw[<-r.length,<-En.len.1,hsl]
  refine wpAny_call (codeAny_mono (G.run X.A X.stack s1 H1 ⟨us,[]⟩ us vs _ _ hr I1.env0 (by have:=bf s1 us I1.wO (by simpa using hl);rw[List.append_nil]at this;exact this) r sp) fun rr s' hq=>?_)
  cases rr with
  |error ex=>
   obtain⟨C,a,a0,B,H',h1,h2,h3,h4,h5,h6,h7,h8,h9,j,w,C',hj,hC,hw,hD⟩:=hq
   cases hC
   obtain⟨C2,v,hj2,dv,T2⟩:=T j w hw
   rw[hj]at hj2
   cases hj2
   exact Uy I1 ⟨a,a0,B,H',h1,h2,h3,h4,h5,h6,h7,h8,h9,hD v (dv _)⟩ stk Dj hN T2
  |ok fl=>
   cases fl with
   |ret u=>
    obtain⟨v,H',I',rv',q'⟩:=I1.after hq
    exact⟨v,σ,H',I',rv',q'⟩
   |next=>exact False.elim hq
   |brk=>exact False.elim hq
   |cont=>exact False.elim hq
end
end Mini
end
section
namespace Mini
open PySem L2
section
variable{P:Program}{w:World}{K:PySem.W.Frag}{mg:Str->Option Value}{base:Heap}{cls:Nat->Option Addr}
theorem JF{x fx:Str}{st:Stmt}{f fc:Addr}{fd fdc:FuncData}{N ps qs:List Str}{k g:Nat}{c:Cf}{m:E}{e:Expr}{es:List Expr}{ws:List (Nat×D)}{h0:ExceptHandler}{hs:List ExceptHandler}{p1 p3 p4 p9:Pos}
  (F:Nj K x x st f fd)(S:dR N qs (aq st))(hb:bW st=[.Try [.Return (some (.Call (.Name fx p1) (e::es) [] p3)) p4] (h0::hs) [] [] p9])
  (G:fX P w K mg base (Jc P w base) k fc fdc ps (Og K ps.length cls (c.fn g)))(mf:mg fx=some (.ref fc))(kp:PySem.W.keepIn K (.ref fc)=true)(bf:Binds K fdc ps [])(lf:(aq st).names.lookup fx=some .globalImplicit)(df:(fx==("__debug__":Str))=false)
  (ha:∀X:Cx,X.N=N->X.env.scope=aq st->GA X W0 c m (e::es))(he:∀env,starEach (e::es) env=(false,eval e env)::starEach es env)(hpl:∀env,(backTo p3 (starEach es env)).any (·.1)=false)(hn:∀sl,c.fn g sl=.bad\/sl.length=ps.length)
  (T:∀X:Cx,X.K=K->X.mg=mg->X.N=N->X.env.scope=aq st->∀j w,ws.lookup j=some w->∃C v,cls j=some C/\(∀H,bh X.K H w v)/\Tells X C v (h0::hs)):
  fX P w K mg base wM (k+1) f fd qs (jU K qs.length (dZ c ⟨qs.length,N.length,.cons (.ret (.tcall g m ws)) .nil⟩)):=
 zP F S rfl rfl fun cdv A outer s H E hr=>by
  rw[hb]
  exact v9 (Mg (X:=(gP wM P w K mg base N x (aq st) f cdv A outer s H E).O1) G hr lf mf kp bf df (ha _ rfl rfl) (he _) (hpl _) hn rfl rfl S.nd (T _ rfl rfl rfl rfl)) zN
theorem pC{p:Pg}{i n:Nat}{g:Fn}(h:p.fns[i]? =some g):p.fn (n+1) i=dZ (p.cf n) g:=by
 funext ps
 show(match p.fns[i]? with|some g=>dZ (p.cf n) g ps|none=>.bad)=_
 rw[h]
variable{ds:List Df}{iR:List Str}{p:Pg}{fa:Nat->Addr}{fd:Nat->FuncData}{t r:Nat}{dr:Df}
theorem Fz(hfn:∀i d,ds[i]? =some d->jF K mg d (fa i) (fd i))(hsc:∀d∈ds,dR d.N d.ps (aq d.st))(htr:∀(i:Nat)d,i≠t->ds[i]? =some d->∃g,p.fns[i]? =some g/\fnOf ds iR d=some g)
  (hrt:r≠t)(hr0:ds[r]? =some dr)(hex:Ae K mg cls dr.exs)
  (hsp:∀d,ds[t]? =some d->(∃g,p.fns[t]? =some g/\g.pars=d.ps.length)/\∀n,fX P w K mg base (Jc P w base) n (fa r) (fd r) dr.ps (Og K dr.ps.length cls (p.fn n r))->(∀sl,p.fn n r sl=.bad\/sl.length=dr.ps.length)->fX P w K mg base wM (n+1) (fa t) (fd t) d.ps (jU K d.ps.length (p.fn (n+1) t)))
  (hbi:∀x∈nA,mg x=none)(hgl:∀(k:Nat)x,iR[k]? =some x->∃d v u,p.gl k=some d/\mg x=some u/\RelV v u/\∀H,bh K H d v):
  ∀(n i:Nat)d,ds[i]? =some d->fX P w K mg base wM n (fa i) (fd i) d.ps (jU K d.ps.length (p.fn n i)):=by
 have len:∀(n g:Nat)d2,ds[g]? =some d2->∀sl,p.fn n g sl=.bad\/sl.length=d2.ps.length:=fun n g d2 q sl=>by
  cases n with
  |zero=>exact .inl rfl
  |succ n=>
   by_cases hgr:g=t
   ·subst hgr
    obtain⟨⟨g2,h1,h2⟩,_⟩:=hsp d2 q
    rw[pC h1,<-h2]
    exact qJ (p.cf n) _ sl
   ·obtain⟨g2,hg2,ht2⟩:=htr g d2 hgr q
    unfold fnOf at ht2
    simp only[Option.map_eq_some_iff]at ht2
    obtain⟨b2,hb2,rfl⟩:=ht2
    rw[pC hg2]
    exact qJ (p.cf n) _ sl
 have xok:∀(n:Nat)(d:Df)(X:Cx),(∀g d2,ds[g]? =some d2->fX P w K mg base wM n (fa g) (fd g) d2.ps (jU K d2.ps.length (p.fn n g)))->X.prog=P->X.w=w->X.K=K->X.mg=mg->X.base=base->X.N=d.N->X.env.scope=aq d.st->X.calm=true->d.N.Nodup->gD n X.A->iz (Mz ds iR d) X (p.cf n):=fun n d X IH e1 e2 e3 e4 e5 e6 e7 e8 nd hr=>by
  subst e1 e2 e3 e4 e5
  refine⟨e6,e7,nd,e8,?_,hbi,fun k x hk=>?_,fun g x fl hk=>?_⟩
  ·have:=hr.un
   omega
  ·obtain⟨dd,v,u,h1,h2,h3,h4⟩:=hgl k x hk
   exact⟨dd,h1,v,u,h2,h3,h4⟩
  ·have hk':(ds.map fun d=>(d.x,d.fl))[g]? =some (x,fl):=hk
   rw[List.getElem?_map]at hk'
   cases q:ds[g]? with
   |none=>rw[q]at hk';cases hk'
   |some d2=>
    rw[q]at hk'
    simp at hk'
    obtain⟨rfl,rfl⟩:=hk'
    have D2:=hfn g d2 q
    exact⟨n,fa g,fd g,d2.ps,IH g d2 q,hr,D2.at_,D2.fu.kp,D2.bi,len n g d2 q⟩
 intro n
 induction n using Nat.strongRecOn with
 |_ n ih=>
 intro i d e
 cases n with
 |zero=>
  have no:∀vs H Q E,¬jU K d.ps.length (p.fn 0 i) vs H Q E:=fun vs H Q E h=>by
   obtain⟨_,_,_,_,z⟩:=h
   exact z
  exact⟨fun vs H Q E h=>absurd h (no vs H Q E),fun A outer s H args us vs Q E _ _ _ _ h=>absurd h (no vs H Q E)⟩
 |succ n=>
  by_cases hir:i=t
  ·subst hir
   refine(hsp d e).2 n ?_ (len n r dr hr0)
   cases n with
   |zero=>
    have no:∀vs H Q E,¬Og K dr.ps.length cls (p.fn 0 r) vs H Q E:=fun vs H Q E h=>by
     obtain⟨_,_,_,_,z⟩:=h
     exact z
    exact⟨fun vs H Q E h=>absurd h (no vs H Q E),fun A outer s H args us vs Q E _ _ _ _ h=>absurd h (no vs H Q E)⟩
   |succ n=>
    have D:=hfn r dr hr0
    obtain⟨g,hg,ht⟩:=htr r dr hrt hr0
    unfold fnOf at ht
    simp only[Option.map_eq_some_iff]at ht
    obtain⟨b,hb,rfl⟩:=ht
    have S:=hsc dr (List.mem_of_getElem? hr0)
    rw[pC hg]
    refine Hn D.fu S rfl rfl fun cdv A outer s H E hr=>?_
    exact(ihS (p.cf n) 60).ss (Mz ds iR dr) _ (WE cls E) _ b (xok n dr _ (ih n (Nat.lt_succ_of_lt (Nat.lt_succ_self n))) rfl rfl rfl rfl rfl rfl rfl rfl S.nd hr) (abA hex) hb
  ·have D:=hfn i d e
   obtain⟨g,hg,ht⟩:=htr i d hir e
   unfold fnOf at ht
   simp only[Option.map_eq_some_iff]at ht
   obtain⟨b,hb,rfl⟩:=ht
   have S:=hsc d (List.mem_of_getElem? e)
   rw[pC hg]
   refine zP D.fu S rfl rfl fun cdv A outer s H E hr=>?_
   exact(ihS (p.cf n) 60).ss (Mz ds iR d) _ W0 _ b (xok n d _ (ih n (Nat.lt_succ_self n)) rfl rfl rfl rfl rfl rfl rfl rfl S.nd hr) (.plain (fun _=>rfl) PassesOwn.never) hb
end
end Mini
end
section
namespace Mini
open PySem L2
def RC(ds:List Df)(iR:List Str)(vals:List D)(turns t:Nat)(tf:Fn):Pg:=
 {fns:=(ds.map fun d=>(fnOf ds iR d).getD {pars:=0,names:=0,body:=.nil}).set t tf,gl:=fun k=>vals[k]?,turns:=turns}
def Wz(ds:List Df)(iR:List Str)(t:Nat):Bool:=(List.range ds.length).all fun i=>i==t||match ds[i]? with|some d=>(fnOf ds iR d).isSome|none=>true
theorem Li{a w:D}{j:Nat}(h:[(1,a)].lookup j=some w):j=1/\w=a:=by
 simp only[List.lookup]at h
 split at h
 ·rename_i e;cases h;exact⟨by simpa using e,rfl⟩
 ·cases h
theorem Uo{X:Cx}{c:Cf}{i j:Nat}{x y:Str}{p q:Pos}(h:fZ X i x)(g:fZ X j y):GA X W0 c (.cons (.var i) (.cons (.var j) .nil)) [.Name x p,.Name y q]:=m8 h.ge (m8 g.ge yf rfl) rfl
section
variable{K:PySem.W.Frag}{h:Heap}{mg:Str->Option Value}
theorem Ii{l:PySem.W.OpenLaw}{w:World}{fa:Addr}{ds:List Df}{iR:List Str}{vals:List D}{L n t r:Nat}{dL dr dt:Df}{y:Str}{tf:Fn}{cls:Nat->Option Addr}(X:K.In h)(G:h.Ns mainGlobals mg)(hfa:mg "law"=some (.ref fa))(hx:dL.x="law")(hy:dL.ps=[y])(hL:ds[L]? =some dL)(b:Ag ds)
  (scp:ds.all JW=true)(Eb:Wz ds iR t=true)(A:AllIn K (ds.map fun d=>(d.x,d.st)))(B:uN K iR vals)(Z:Jd K nA)(hrt:r≠t)(hr0:ds[r]? =some dr)(ht0:ds[t]? =some dt)(tp:tf.pars=dt.ps.length)(hex:Ae K mg cls dr.exs)
  (told:∀(P:Program)(w:World)(base:Heap)(fr ft:Addr)(fdr fdt:FuncData),jF K mg dr fr fdr->jF K mg dt ft fdt->dR dt.N dt.ps (aq dt.st)->∀(c:Cf)(n:Nat),fX P w K mg base (Jc P w base) n fr fdr dr.ps (Og K dr.ps.length cls (c.fn r))->(∀sl,c.fn r sl=.bad\/sl.length=dr.ps.length)->
   fX P w K mg base wM (n+1) ft fdt dt.ps (jU K dt.ps.length (dZ c tf))):
  ∃fd:FuncData,(∀(s:Shared)(v:Value),BindsTo s fd ⟨[v],[]⟩ [(y,v)])/\∀base:Heap,K.In base->base.Ns mainGlobals mg->fX l.prog w K mg base wM n fa fd [y] (jU K 1 ((RC ds iR vals 1000 t tf).fn n L)):=by
 obtain⟨fs,A,C⟩:=Il X G ds b A
 obtain⟨q,e1,e2,e3⟩:=C L dL hL
 have e:=hfa.symm.trans (hx▸e2.at_)
 cases e
 refine⟨q.2,fun s v=>?_,fun base _ _=>?_⟩
 ·have:=e3 s [v] (by rw[hy];rfl)
  rw[hy]at this
  exact this
 ·have hS:∀d∈ds,dR d.N d.ps (aq d.st):=fun d hd=>JV (List.all_eq_true.mp scp d hd)
  have z1:∀(i:Nat)d,ds[i]? =some d->jF K mg d (((fs[i]?).map (·.1)).getD 0) (((fs[i]?).map (·.2)).getD q.2):=fun i d e=>by
   obtain⟨q',e1,e2⟩:=A.at i d e
   simp only[e1,Option.map_some,Option.getD_some]
   exact e2
  have tl:t<ds.length:=(List.getElem?_eq_some_iff.mp ht0).1
  have z2:∀(i:Nat)d,i≠t->ds[i]? =some d->∃g,(RC ds iR vals 1000 t tf).fns[i]? =some g/\fnOf ds iR d=some g:=fun i d hi e=>by
   have il:i<ds.length:=(List.getElem?_eq_some_iff.mp e).1
   have hs:=List.all_eq_true.mp Eb i (List.mem_range.mpr il)
   simp only[e,Bool.or_eq_true,beq_iff_eq,hi,false_or]at hs
   obtain⟨g,hg⟩:=Option.isSome_iff_exists.mp hs
   refine⟨g,?_,hg⟩
   show((ds.map fun d=>(fnOf ds iR d).getD {pars:=0,names:=0,body:=.nil}).set t tf)[i]? =some g
   rw[List.getElem?_set_ne (Ne.symm hi),List.getElem?_map,e]
   simp[hg]
  have z3:∀(k:Nat)x,iR[k]? =some x->∃d v u,(RC ds iR vals 1000 t tf).gl k=some d/\mg x=some u/\RelV v u/\∀H,bh K H d v:=fun k x e=>by
   obtain⟨dd,e1,v,u,z1,z2,z3⟩:=(Ik X G iR vals B).at k x e
   exact⟨dd,v,u,e1,z1,z2,z3⟩
  have zt:(RC ds iR vals 1000 t tf).fns[t]? =some tf:=by
   show((ds.map fun d=>(fnOf ds iR d).getD {pars:=0,names:=0,body:=.nil}).set t tf)[t]? =_
   rw[List.getElem?_set_self (by simpa using tl)]
  have:=Fz (P:=l.prog) (w:=w) (base:=base) (p:=RC ds iR vals 1000 t tf) z1 hS z2 hrt hr0 hex (fun d hd=>by
   rw[ht0]at hd
   cases hd
   refine⟨⟨tf,zt,tp⟩,fun n g hn=>?_⟩
   rw[pC zt]
   exact told _ _ _ _ _ _ _ (z1 r dr hr0) (z1 t dt ht0) (hS dt (List.mem_of_getElem? ht0)) ((RC ds iR vals 1000 t tf).cf n) n g hn) (Ij X G _ Z) z3 n L dL hL
  rw[hy]at this
  simp only[e1,Option.map_some,Option.getD_some]at this
  exact this
end
end Mini
end
section
namespace Tx
open PySem L2 Mini
def top(i:Nat):Stmt:=PySem.Challenge.pw_anywait_k24_held.main.body.getD i (.Pass ⟨0,0,0,0⟩)
abbrev s0:Stmt:=top 13
abbrev d0:Df:=cN "checked" s0 [false]
abbrev s1:Stmt:=top 14
abbrev d1:Df:=cN "is_net" s1 [false]
abbrev s2:Stmt:=top 15
abbrev d2:Df:=cN "has_parts" s2 [false]
abbrev s3:Stmt:=top 16
abbrev d3:Df:=cN "is_tuple" s3 [false,false,false]
abbrev s4:Stmt:=top 17
abbrev d4:Df:=cN "is_name" s4 [false]
abbrev s5:Stmt:=top 18
abbrev d5:Df:=cN "are_unlike" s5 [false]
abbrev s6:Stmt:=top 19
abbrev d6:Df:=cN "is_row" s6 [false,false]
abbrev s7:Stmt:=top 20
abbrev d7:Df:=cN "is_wire" s7 [false,false]
abbrev s8:Stmt:=top 21
abbrev d8:Df:=cN "are_wires" s8 [false,false,false,false]
abbrev s9:Stmt:=top 22
abbrev d9:Df:=cN "are_rows" s9 [false,false]
abbrev Jg:Stmt:=top 23
abbrev d10:Df:=cN "is_kind" Jg [false,false,false]
abbrev Jf:Stmt:=top 24
abbrev d11:Df:=cN "is_held" Jf [false,false,false]
abbrev s12:Stmt:=top 25
abbrev d12:Df:=cN "wire_names" s12 [false]
abbrev qe:Stmt:=top 27
abbrev VL:Df:={cN "held" qe [false,false]with exs:=["NoTalk"]}
abbrev s14:Stmt:=top 28
abbrev d14:Df:=cN "is_point" s14 [false,false]
abbrev s15:Stmt:=top 29
abbrev d15:Df:=cN "with_point" s15 [false,false]
abbrev s16:Stmt:=top 30
abbrev d16:Df:=cN "held_kind" s16 [false,false]
abbrev s17:Stmt:=top 32
abbrev d17:Df:=cN "_law_cell_at" s17 [false,false]
abbrev s18:Stmt:=top 33
abbrev d18:Df:=cN "_law_mixed" s18 [false,false,false]
abbrev s19:Stmt:=top 34
abbrev d19:Df:=cN "_law_next" s19 [false,true,false]
abbrev s20:Stmt:=top 35
abbrev d20:Df:=cN "_law_some" s20 [false,true,false,false,false]
abbrev s21:Stmt:=top 36
abbrev d21:Df:=cN "_law_table" s21 [false,true,false]
abbrev s22:Stmt:=top 37
abbrev d22:Df:=cN "_law_kind" s22 [false,true,false,false]
abbrev s23:Stmt:=top 38
abbrev d23:Df:=cN "_law_net" s23 [false,true,false,false]
abbrev s24:Stmt:=top 39
abbrev d24:Df:=cN "_law_talk" s24 [false,true,false,false]
abbrev s25:Stmt:=top 40
abbrev d25:Df:=cN "_law_ring" s25 [false,true]
abbrev s26:Stmt:=top 41
abbrev d26:Df:=cN "_law_chain" s26 [false,true]
abbrev s27:Stmt:=top 42
abbrev d27:Df:=cN "_law_meeting" s27 [false,true]
abbrev s28:Stmt:=top 43
abbrev d28:Df:=cN "_law_spoilt_kind" s28 [false,true,false]
abbrev s29:Stmt:=top 44
abbrev d29:Df:=cN "_law_case" s29 [false,false]
abbrev s30:Stmt:=top 45
abbrev d30:Df:=cN "_law_names" s30 [false]
abbrev s31:Stmt:=top 46
abbrev z7:Df:=cN "_law_told" s31 [false,false]
abbrev s32:Stmt:=top 47
abbrev d32:Df:=cN "_law_deep" s32 [false]
abbrev s33:Stmt:=top 48
abbrev d33:Df:=cN "law" s33 [false]
def ds:List Df:=[d0,d1,d2,d3,d4,d5,d6,d7,d8,d9,d10,d11,d12,VL,d14,d15,d16,d17,d18,d19,d20,d21,d22,d23,d24,d25,d26,d27,d28,d29,d30,z7,d32,d33]
def iR:List Str:=["LETTERS","LONGEST_NAME","WORDS","MOST_INPUTS","MOST_GATES","MOST_WIRES","MOST_TABLE_WIRES","DEEPEST_HELD"]
def vals:List D:=[.str "abcdefghijklmnopqrstuvwxyz",.int (6),.tup [.str "input",.str "gate",.str "start",.str "out",.str "state",.str "same",.str "not",.str "and",.str "or",.str "both",.str "held",.str "table",.str "on",.str "off"],.int (3),.int (5),.int (4),.int (8),.int (3)]
def tf:Fn:=⟨2,3,.cons (.ret (.tcall 13 (.cons (.var 0) (.cons (.var 1) .nil)) [(1,.str "none")])) .nil⟩
def pg:Pg:=RC ds iR vals 1000 31 tf
theorem scp:ds.all JW=true:=by decide+kernel
theorem Eb:Wz ds iR 31=true:=by decide+kernel
theorem bd:Ag ds:=⟨fun _ _ _ _ _ _ us hl=>by obtain⟨_,rfl⟩:=ql hl;rfl,fun _ _ _ _ _ _ us hl=>by obtain⟨_,rfl⟩:=ql hl;rfl,fun _ _ _ _ _ _ us hl=>by obtain⟨_,rfl⟩:=ql hl;rfl,fun _ _ _ _ _ _ us hl=>by obtain⟨_,_,_,rfl⟩:=vW hl;rfl,fun _ _ _ _ _ _ us hl=>by obtain⟨_,rfl⟩:=ql hl;rfl,fun _ _ _ _ _ _ us hl=>by obtain⟨_,rfl⟩:=ql hl;rfl,fun _ _ _ _ _ _ us hl=>by obtain⟨_,_,rfl⟩:=j5 hl;rfl,fun _ _ _ _ _ _ us hl=>by obtain⟨_,_,rfl⟩:=j5 hl;rfl,fun _ _ _ _ _ _ us hl=>by obtain⟨_,_,_,_,rfl⟩:=Gw hl;rfl,fun _ _ _ _ _ _ us hl=>by obtain⟨_,_,rfl⟩:=j5 hl;rfl,fun _ _ _ _ _ _ us hl=>by obtain⟨_,_,_,rfl⟩:=vW hl;rfl,fun _ _ _ _ _ _ us hl=>by obtain⟨_,_,_,rfl⟩:=vW hl;rfl,fun _ _ _ _ _ _ us hl=>by obtain⟨_,rfl⟩:=ql hl;rfl,fun _ _ _ _ _ _ us hl=>by obtain⟨_,_,rfl⟩:=j5 hl;rfl,fun _ _ _ _ _ _ us hl=>by obtain⟨_,_,rfl⟩:=j5 hl;rfl,fun _ _ _ _ _ _ us hl=>by obtain⟨_,_,rfl⟩:=j5 hl;rfl,fun _ _ _ _ _ _ us hl=>by obtain⟨_,_,rfl⟩:=j5 hl;rfl,fun _ _ _ _ _ _ us hl=>by obtain⟨_,_,rfl⟩:=j5 hl;rfl,fun _ _ _ _ _ _ us hl=>by obtain⟨_,_,_,rfl⟩:=vW hl;rfl,fun _ _ _ _ _ _ us hl=>by obtain⟨_,_,_,rfl⟩:=vW hl;rfl,fun _ _ _ _ _ _ us hl=>by obtain⟨_,_,_,_,_,rfl⟩:=aco hl;rfl,fun _ _ _ _ _ _ us hl=>by obtain⟨_,_,_,rfl⟩:=vW hl;rfl,fun _ _ _ _ _ _ us hl=>by obtain⟨_,_,_,_,rfl⟩:=Gw hl;rfl,fun _ _ _ _ _ _ us hl=>by obtain⟨_,_,_,_,rfl⟩:=Gw hl;rfl,fun _ _ _ _ _ _ us hl=>by obtain⟨_,_,_,_,rfl⟩:=Gw hl;rfl,fun _ _ _ _ _ _ us hl=>by obtain⟨_,_,rfl⟩:=j5 hl;rfl,fun _ _ _ _ _ _ us hl=>by obtain⟨_,_,rfl⟩:=j5 hl;rfl,fun _ _ _ _ _ _ us hl=>by obtain⟨_,_,rfl⟩:=j5 hl;rfl,fun _ _ _ _ _ _ us hl=>by obtain⟨_,_,_,rfl⟩:=vW hl;rfl,fun _ _ _ _ _ _ us hl=>by obtain⟨_,_,rfl⟩:=j5 hl;rfl,fun _ _ _ _ _ _ us hl=>by obtain⟨_,rfl⟩:=ql hl;rfl,fun _ _ _ _ _ _ us hl=>by obtain⟨_,_,rfl⟩:=j5 hl;rfl,fun _ _ _ _ _ _ us hl=>by obtain⟨_,rfl⟩:=ql hl;rfl,fun _ _ _ _ _ _ us hl=>by obtain⟨_,rfl⟩:=ql hl;rfl,trivial⟩
def nms:List (Str×Stmt):=("checked",s0)::("is_net",s1)::("has_parts",s2)::("is_tuple",s3)::("is_name",s4)::("are_unlike",s5)::("is_row",s6)::("is_wire",s7)::("are_wires",s8)::("are_rows",s9)::("is_kind",Jg)::("is_held",Jf)::("wire_names",s12)::("held",qe)::("is_point",s14)::("with_point",s15)::("held_kind",s16)::("_law_cell_at",s17)::("_law_mixed",s18)::("_law_next",s19)::("_law_some",s20)::("_law_table",s21)::("_law_kind",s22)::("_law_net",s23)::("_law_talk",s24)::("_law_ring",s25)::("_law_chain",s26)::("_law_meeting",s27)::("_law_spoilt_kind",s28)::("_law_case",s29)::("_law_names",s30)::("_law_told",s31)::("_law_deep",s32)::("law",s33)::[]
end Tx
end
section
open PySem
section
open Mini
namespace Tx
theorem bD{n i:Nat}{g:Fn}(h:pg.fns[i]? =some g)(ps:List Sl):pg.fn (n+1) i ps=dZ (pg.cf n) g ps:=by
 show(match pg.fns[i]? with|some g=>dZ (pg.cf n) g ps|none=>.bad)=_
 rw[h]
def sE:Fn:=⟨1,1,(.cons (.ite (.not (.call 1 (.cons (.var 0) .nil))) (.cons (.raise 0) .nil) .nil) (.cons (.ret (.var 0)) .nil))⟩
theorem Bk(n:Nat)(p0:Sl):pg.fn (n+1) 0 [p0]=fin 1 (ex (pg.cf n) sE.body [p0]):=(bD (by kernel_rfl) _).trans (aJ _ _ _ rfl)
def wI:Fn:=⟨1,2,(.cons (.ite (.or (.cons (.not (.call 3 (.cons (.var 0) (.cons (.con (.int (3))) (.cons (.con (.int (3))) .nil))))) (.cons (.not (.call 2 (.cons (.var 0) .nil))) .nil))) (.cons (.ret (.con (.bl false))) .nil) .nil) (.cons (.set 1 (.call 12 (.cons (.var 0) .nil))) (.cons (.ite (.or (.cons (.not (.bi .all (.comp 1 (.name 0) (.var 1) (.con (.bl true)) (.call 4 (.cons (.var 0) .nil))))) (.cons (.not (.call 5 (.cons (.var 1) .nil))) .nil))) (.cons (.ret (.con (.bl false))) .nil) .nil) (.cons (.ret (.and (.cons (.bi .all (.comp 2 (.tup [0,1]) (.idx (.var 0) (.con (.int (1)))) (.con (.bl true)) (.call 10 (.cons (.var 1) (.cons (.var 3) (.cons (.con (.int (0))) .nil)))))) (.cons (.call 6 (.cons (.idx (.var 0) (.con (.int (2)))) (.cons (.bi .len (.var 1)) .nil))) .nil)))) .nil))))⟩
theorem Fi(n:Nat)(p0:Sl):pg.fn (n+1) 1 [p0]=fin 1 (ex (pg.cf n) wI.body [p0,.un]):=(bD (by kernel_rfl) _).trans (aJ _ _ _ rfl)
def mG:Fn:=⟨1,1,(.cons (.ite (.or (.cons (.not (.call 3 (.cons (.idx (.var 0) (.con (.int (0)))) (.cons (.con (.int (0))) (.cons (.glob 3) .nil))))) (.cons (.not (.call 3 (.cons (.idx (.var 0) (.con (.int (1)))) (.cons (.con (.int (1))) (.cons (.glob 4) .nil))))) .nil))) (.cons (.ret (.con (.bl false))) .nil) .nil) (.cons (.ret (.bi .all (.comp 1 (.name 0) (.idx (.var 0) (.con (.int (1)))) (.con (.bl true)) (.call 3 (.cons (.var 0) (.cons (.con (.int (2))) (.cons (.con (.int (2))) .nil))))))) .nil))⟩
theorem vC(n:Nat)(p0:Sl):pg.fn (n+1) 2 [p0]=fin 1 (ex (pg.cf n) mG.body [p0]):=(bD (by kernel_rfl) _).trans (aJ _ _ _ rfl)
def iu:Fn:=⟨3,3,(.cons (.ret (.and (.cons (.isi (.var 0) .tup) (.cons (.chain .le .le (.var 1) (.bi .len (.var 0)) (.var 2)) .nil)))) .nil)⟩
theorem jJ(n:Nat)(p0 p1 p2:Sl):pg.fn (n+1) 3 [p0,p1,p2]=fin 3 (ex (pg.cf n) iu.body [p0,p1,p2]):=(bD (by kernel_rfl) _).trans (aJ _ _ _ rfl)
def De:Fn:=⟨1,1,(.cons (.ite (.or (.cons (.not (.isi (.var 0) .str)) (.cons (.not (.chain .le .le (.con (.int (1))) (.bi .len (.var 0)) (.glob 1))) .nil))) (.cons (.ret (.con (.bl false))) .nil) .nil) (.cons (.ret (.and (.cons (.bi .all (.comp 1 (.name 0) (.var 0) (.con (.bl true)) (.cmp .isin (.var 0) (.glob 0)))) (.cons (.cmp .notin (.var 0) (.glob 2)) .nil)))) .nil))⟩
theorem Bj(n:Nat)(p0:Sl):pg.fn (n+1) 4 [p0]=fin 1 (ex (pg.cf n) De.body [p0]):=(bD (by kernel_rfl) _).trans (aJ _ _ _ rfl)
def kJ:Fn:=⟨1,1,(.cons (.ret (.bi .all (.comp 1 (.name 0) (.var 0) (.con (.bl true)) (.cmp .eq (.count (.var 1) (.var 0)) (.con (.int (1))))))) .nil)⟩
theorem tH(n:Nat)(p0:Sl):pg.fn (n+1) 5 [p0]=fin 1 (ex (pg.cf n) kJ.body [p0]):=(bD (by kernel_rfl) _).trans (aJ _ _ _ rfl)
def wH:Fn:=⟨2,2,(.cons (.ret (.and (.cons (.call 3 (.cons (.var 0) (.cons (.var 1) (.cons (.var 1) .nil)))) (.cons (.bi .all (.comp 1 (.name 0) (.var 0) (.con (.bl true)) (.isi (.var 0) .bool))) .nil)))) .nil)⟩
theorem Fg(n:Nat)(p0 p1:Sl):pg.fn (n+1) 6 [p0,p1]=fin 2 (ex (pg.cf n) wH.body [p0,p1]):=(bD (by kernel_rfl) _).trans (aJ _ _ _ rfl)
def fK:Fn:=⟨2,2,(.cons (.ret (.and (.cons (.isi (.var 0) .str) (.cons (.cmp .isin (.var 0) (.var 1)) .nil)))) .nil)⟩
theorem gG(n:Nat)(p0 p1:Sl):pg.fn (n+1) 7 [p0,p1]=fin 2 (ex (pg.cf n) fK.body [p0,p1]):=(bD (by kernel_rfl) _).trans (aJ _ _ _ rfl)
def mH:Fn:=⟨4,4,(.cons (.ite (.not (.call 3 (.cons (.var 0) (.cons (.var 2) (.cons (.var 3) .nil))))) (.cons (.ret (.con (.bl false))) .nil) .nil) (.cons (.ret (.and (.cons (.bi .all (.comp 1 (.name 0) (.var 0) (.con (.bl true)) (.call 7 (.cons (.var 0) (.cons (.var 2) .nil))))) (.cons (.call 5 (.cons (.var 0) .nil)) .nil)))) .nil))⟩
theorem vD(n:Nat)(p0 p1 p2 p3:Sl):pg.fn (n+1) 8 [p0,p1,p2,p3]=fin 4 (ex (pg.cf n) mH.body [p0,p1,p2,p3]):=(bD (by kernel_rfl) _).trans (aJ _ _ _ rfl)
def pW:Fn:=⟨2,2,(.cons (.ite (.or (.cons (.not (.isi (.var 0) .tup)) (.cons (.not (.bi .all (.comp 1 (.name 0) (.var 0) (.con (.bl true)) (.call 6 (.cons (.var 0) (.cons (.var 2) .nil)))))) .nil))) (.cons (.ret (.con (.bl false))) .nil) .nil) (.cons (.ret (.bi .all (.comp 2 (.tup [0,1]) (.zip (.var 0) (.slc (.var 0) (.con (.int (1))) .noneE)) (.con (.bl true)) (.cmp .lt (.var 0) (.var 1))))) .nil))⟩
theorem xG(n:Nat)(p0 p1:Sl):pg.fn (n+1) 9 [p0,p1]=fin 2 (ex (pg.cf n) pW.body [p0,p1]):=(bD (by kernel_rfl) _).trans (aJ _ _ _ rfl)
def b7:Fn:=⟨3,5,(.cons (.ite (.or (.cons (.not (.call 3 (.cons (.var 0) (.cons (.con (.int (2))) (.cons (.con (.int (4))) .nil))))) (.cons (.not (.isi (.idx (.var 0) (.con (.int (0)))) .str)) .nil))) (.cons (.ret (.con (.bl false))) .nil) .nil) (.cons (.set 3 (.idx (.var 0) (.con (.int (0))))) (.cons (.set 4 (.bi .len (.var 0))) (.cons (.ite (.cmp .isin (.var 3) (.tup (.cons (.con (.str "same")) (.cons (.con (.str "not")) .nil)))) (.cons (.ret (.and (.cons (.cmp .eq (.var 4) (.con (.int (2)))) (.cons (.call 7 (.cons (.idx (.var 0) (.con (.int (1)))) (.cons (.var 1) .nil))) .nil)))) .nil) .nil) (.cons (.ite (.cmp .isin (.var 3) (.tup (.cons (.con (.str "and")) (.cons (.con (.str "or")) .nil)))) (.cons (.ret (.and (.cons (.cmp .eq (.var 4) (.con (.int (2)))) (.cons (.call 8 (.cons (.idx (.var 0) (.con (.int (1)))) (.cons (.var 1) (.cons (.con (.int (1))) (.cons (.glob 5) .nil))))) .nil)))) .nil) .nil) (.cons (.ite (.cmp .eq (.var 3) (.con (.str "both"))) (.cons (.ret (.and (.cons (.cmp .eq (.var 4) (.con (.int (2)))) (.cons (.call 8 (.cons (.idx (.var 0) (.con (.int (1)))) (.cons (.var 1) (.cons (.con (.int (2))) (.cons (.glob 5) .nil))))) .nil)))) .nil) .nil) (.cons (.ite (.cmp .eq (.var 3) (.con (.str "table"))) (.cons (.ret (.and (.cons (.cmp .eq (.var 4) (.con (.int (3)))) (.cons (.call 8 (.cons (.idx (.var 0) (.con (.int (1)))) (.cons (.var 1) (.cons (.con (.int (1))) (.cons (.glob 6) .nil))))) (.cons (.call 9 (.cons (.idx (.var 0) (.con (.int (2)))) (.cons (.bi .len (.idx (.var 0) (.con (.int (1))))) .nil))) .nil))))) .nil) .nil) (.cons (.ite (.cmp .eq (.var 3) (.con (.str "held"))) (.cons (.ret (.and (.cons (.cmp .eq (.var 4) (.con (.int (4)))) (.cons (.cmp .lt (.var 2) (.glob 7)) (.cons (.call 11 (.cons (.var 0) (.cons (.var 1) (.cons (.op .add (.var 2) (.con (.int (1)))) .nil)))) .nil))))) .nil) .nil) (.cons (.ret (.con (.bl false))) .nil)))))))))⟩
theorem cM(n:Nat)(p0 p1 p2:Sl):pg.fn (n+1) 10 [p0,p1,p2]=fin 3 (ex (pg.cf n) b7.body [p0,p1,p2,.un,.un]):=(bD (by kernel_rfl) _).trans (aJ _ _ _ rfl)
def lV:Fn:=⟨3,3,(.cons (.ret (.and (.cons (.call 10 (.cons (.idx (.var 0) (.con (.int (1)))) (.cons (.var 1) (.cons (.var 2) .nil)))) (.cons (.call 7 (.cons (.idx (.var 0) (.con (.int (2)))) (.cons (.var 1) .nil))) (.cons (.isi (.idx (.var 0) (.con (.int (3)))) .bool) .nil))))) .nil)⟩
theorem qQ(n:Nat)(p0 p1 p2:Sl):pg.fn (n+1) 11 [p0,p1,p2]=fin 3 (ex (pg.cf n) lV.body [p0,p1,p2]):=(bD (by kernel_rfl) _).trans (aJ _ _ _ rfl)
def kI:Fn:=⟨1,1,(.cons (.ret (.op .add (.bi .list (.idx (.var 0) (.con (.int (0))))) (.comp 1 (.name 0) (.idx (.var 0) (.con (.int (1)))) (.con (.bl true)) (.idx (.var 0) (.con (.int (0))))))) .nil)⟩
theorem tB(n:Nat)(p0:Sl):pg.fn (n+1) 12 [p0]=fin 1 (ex (pg.cf n) kI.body [p0]):=(bD (by kernel_rfl) _).trans (aJ _ _ _ rfl)
def Ia:Fn:=⟨2,4,(.cons (.set 2 (.call 0 (.cons (.var 0) .nil))) (.cons (.ite (.not (.isi (.var 1) .tup)) (.cons (.raise 1) .nil) .nil) (.cons (.for_ (.name 3) (.var 1) (.cons (.ite (.not (.call 14 (.cons (.var 2) (.cons (.var 3) .nil)))) (.cons (.raise 1) .nil) .nil) (.cons (.set 2 (.call 15 (.cons (.var 2) (.cons (.var 3) .nil)))) .nil))) (.cons (.ret (.var 2)) .nil))))⟩
theorem tE(n:Nat)(p0 p1:Sl):pg.fn (n+1) 13 [p0,p1]=fin 2 (ex (pg.cf n) Ia.body [p0,p1,.un,.un]):=(bD (by kernel_rfl) _).trans (aJ _ _ _ rfl)
def iw:Fn:=⟨2,3,(.cons (.set 2 (.bi .dict (.idx (.var 0) (.con (.int (1)))))) (.cons (.ite (.or (.cons (.not (.call 3 (.cons (.var 1) (.cons (.con (.int (3))) (.cons (.con (.int (3))) .nil))))) (.cons (.not (.call 7 (.cons (.idx (.var 1) (.con (.int (0)))) (.cons (.var 2) .nil)))) .nil))) (.cons (.ret (.con (.bl false))) .nil) .nil) (.cons (.ret (.call 10 (.cons (.call 16 (.cons (.idx (.var 2) (.idx (.var 1) (.con (.int (0))))) (.cons (.var 1) .nil))) (.cons (.call 12 (.cons (.var 0) .nil)) (.cons (.con (.int (0))) .nil))))) .nil)))⟩
theorem jK(n:Nat)(p0 p1:Sl):pg.fn (n+1) 14 [p0,p1]=fin 2 (ex (pg.cf n) iw.body [p0,p1,.un]):=(bD (by kernel_rfl) _).trans (aJ _ _ _ rfl)
def kE:Fn:=⟨2,3,(.cons (.set 2 (.comp 2 (.tup [0,1]) (.idx (.var 0) (.con (.int (1)))) (.con (.bl true)) (.tup (.cons (.var 0) (.cons (.ite (.cmp .eq (.var 0) (.idx (.var 3) (.con (.int (0))))) (.call 16 (.cons (.var 1) (.cons (.var 3) .nil))) (.var 1)) .nil))))) (.cons (.ret (.tup (.cons (.idx (.var 0) (.con (.int (0)))) (.cons (.bi .tuple (.var 2)) (.cons (.idx (.var 0) (.con (.int (2)))) .nil))))) .nil))⟩
theorem tu(n:Nat)(p0 p1:Sl):pg.fn (n+1) 15 [p0,p1]=fin 2 (ex (pg.cf n) kE.body [p0,p1,.un]):=(bD (by kernel_rfl) _).trans (aJ _ _ _ rfl)
def mF:Fn:=⟨2,2,(.cons (.ret (.tup (.cons (.con (.str "held")) (.cons (.var 0) (.cons (.idx (.var 1) (.con (.int (1)))) (.cons (.idx (.var 1) (.con (.int (2)))) .nil)))))) .nil)⟩
theorem vB(n:Nat)(p0 p1:Sl):pg.fn (n+1) 16 [p0,p1]=fin 2 (ex (pg.cf n) mF.body [p0,p1]):=(bD (by kernel_rfl) _).trans (aJ _ _ _ rfl)
def eQ:Fn:=⟨2,2,(.cons (.ite (.cmp .lt (.var 1) (.bi .len (.var 0))) (.cons (.ret (.idx (.var 0) (.var 1))) .nil) .nil) (.cons (.ite (.cmp .eq (.var 0) (.lis .nil)) (.cons (.ret (.con (.int (0)))) .nil) .nil) (.cons (.ret (.op .add (.op .mul (.idx (.var 0) (.op .mod (.var 1) (.bi .len (.var 0)))) (.con (.int (31)))) (.var 1))) .nil)))⟩
theorem gA(n:Nat)(p0 p1:Sl):pg.fn (n+1) 17 [p0,p1]=fin 2 (ex (pg.cf n) eQ.body [p0,p1]):=(bD (by kernel_rfl) _).trans (aJ _ _ _ rfl)
def mC:Fn:=⟨3,4,(.cons (.set 3 (.op .mod (.op .mul (.op .add (.op .add (.call 17 (.cons (.var 0) (.cons (.var 1) .nil))) (.op .mul (.con (.int (7919))) (.var 1))) (.con (.int (1)))) (.con (.int (48271)))) (.con (.int (2147483647))))) (.cons (.ret (.op .mod (.op .mod (.op .add (.op .add (.op .mul (.var 3) (.var 3)) (.op .mul (.con (.int (7))) (.var 3))) (.var 1)) (.con (.int (2147483629)))) (.var 2))) .nil))⟩
theorem vz(n:Nat)(p0 p1 p2:Sl):pg.fn (n+1) 18 [p0,p1,p2]=fin 3 (ex (pg.cf n) mC.body [p0,p1,p2,.un]):=(bD (by kernel_rfl) _).trans (aJ _ _ _ rfl)
def pU:Fn:=⟨3,3,(.cons (.setIx 1 (.con (.int (0))) (.op .add (.idx (.var 1) (.con (.int (0)))) (.con (.int (1))))) (.cons (.ret (.call 18 (.cons (.var 0) (.cons (.idx (.var 1) (.con (.int (0)))) (.cons (.var 2) .nil))))) .nil))⟩
theorem xF(n:Nat)(p0 p1 p2:Sl):pg.fn (n+1) 19 [p0,p1,p2]=fin 3 (ex (pg.cf n) pU.body [p0,p1,p2]):=(bD (by kernel_rfl) _).trans (aJ _ _ _ rfl)
def pQ:Fn:=⟨5,6,(.cons (.set 5 (.bi .list (.var 2))) (.cons (.while_ (.and (.cons (.cmp .gt (.bi .len (.var 5)) (.var 3)) (.cons (.or (.cons (.cmp .gt (.bi .len (.var 5)) (.var 4)) (.cons (.cmp .eq (.call 19 (.cons (.var 0) (.cons (.ref 1) (.cons (.con (.int (2))) .nil)))) (.con (.int (1)))) .nil))) .nil))) (.cons (.expr (.popAt 5 (.call 19 (.cons (.var 0) (.cons (.ref 1) (.cons (.bi .len (.var 5)) .nil)))))) .nil)) (.cons (.ret (.bi .tuple (.var 5))) .nil)))⟩
theorem xu(n:Nat)(p0 p1 p2 p3 p4:Sl):pg.fn (n+1) 20 [p0,p1,p2,p3,p4]=fin 5 (ex (pg.cf n) pQ.body [p0,p1,p2,p3,p4,.un]):=(bD (by kernel_rfl) _).trans (aJ _ _ _ rfl)
def my:Fn:=⟨3,6,(.cons (.set 3 (.call 20 (.cons (.var 0) (.cons (.ref 1) (.cons (.var 2) (.cons (.con (.int (1))) (.cons (.con (.int (3))) .nil))))))) (.cons (.set 4 (.lis (.cons (.tup .nil) .nil))) (.cons (.for_ (.name 5) (.var 3) (.cons (.set 4 (.op .add (.comp 1 (.name 0) (.var 4) (.con (.bl true)) (.op .add (.var 0) (.tup (.cons (.con (.bl false)) .nil)))) (.comp 1 (.name 0) (.var 4) (.con (.bl true)) (.op .add (.var 0) (.tup (.cons (.con (.bl true)) .nil)))))) .nil)) (.cons (.ret (.tup (.cons (.con (.str "table")) (.cons (.var 3) (.cons (.bi .tuple (.bi .sorted (.comp 1 (.name 0) (.var 4) (.cmp .eq (.call 19 (.cons (.var 1) (.cons (.ref 2) (.cons (.con (.int (2))) .nil)))) (.con (.int (1)))) (.var 0)))) .nil))))) .nil))))⟩
theorem vq(n:Nat)(p0 p1 p2:Sl):pg.fn (n+1) 21 [p0,p1,p2]=fin 3 (ex (pg.cf n) my.body [p0,p1,p2,.un,.un,.un]):=(bD (by kernel_rfl) _).trans (aJ _ _ _ rfl)
def dC:Fn:=⟨4,6,(.cons (.set 4 (.call 19 (.cons (.var 0) (.cons (.ref 1) (.cons (.con (.int (9))) .nil))))) (.cons (.ite (.or (.cons (.cmp .lt (.var 4) (.con (.int (4)))) (.cons (.cmp .lt (.bi .len (.var 2)) (.con (.int (2)))) .nil))) (.cons (.ret (.tup (.cons (.idx (.lis (.cons (.con (.str "same")) (.cons (.con (.str "not")) .nil))) (.op .mod (.var 4) (.con (.int (2))))) (.cons (.idx (.var 2) (.call 19 (.cons (.var 0) (.cons (.ref 1) (.cons (.bi .len (.var 2)) .nil))))) .nil)))) .nil) .nil) (.cons (.ite (.cmp .lt (.var 4) (.con (.int (7)))) (.cons (.ret (.tup (.cons (.idx (.lis (.cons (.con (.str "and")) (.cons (.con (.str "or")) (.cons (.con (.str "both")) .nil)))) (.op .sub (.var 4) (.con (.int (4))))) (.cons (.call 20 (.cons (.var 0) (.cons (.ref 1) (.cons (.var 2) (.cons (.con (.int (2))) (.cons (.con (.int (3))) .nil)))))) .nil)))) .nil) .nil) (.cons (.ite (.or (.cons (.cmp .eq (.var 4) (.con (.int (7)))) (.cons (.cmp .eq (.var 3) (.con (.int (0)))) .nil))) (.cons (.ret (.call 21 (.cons (.var 0) (.cons (.ref 1) (.cons (.var 2) .nil))))) .nil) .nil) (.cons (.set 5 (.call 22 (.cons (.var 0) (.cons (.ref 1) (.cons (.var 2) (.cons (.op .sub (.var 3) (.con (.int (1)))) .nil)))))) (.cons (.ret (.tup (.cons (.con (.str "held")) (.cons (.var 5) (.cons (.idx (.var 2) (.call 19 (.cons (.var 0) (.cons (.ref 1) (.cons (.bi .len (.var 2)) .nil))))) (.cons (.cmp .eq (.call 19 (.cons (.var 0) (.cons (.ref 1) (.cons (.con (.int (2))) .nil)))) (.con (.int (1)))) .nil)))))) .nil))))))⟩
theorem gZ(n:Nat)(p0 p1 p2 p3:Sl):pg.fn (n+1) 22 [p0,p1,p2,p3]=fin 4 (ex (pg.cf n) dC.body [p0,p1,p2,p3,.un,.un]):=(bD (by kernel_rfl) _).trans (aJ _ _ _ rfl)
def sy:Fn:=⟨4,8,(.cons (.set 4 (.slc (.tup (.cons (.con (.str "a")) (.cons (.con (.str "b")) (.cons (.con (.str "come")) .nil)))) .noneE (.call 19 (.cons (.var 0) (.cons (.ref 1) (.cons (.op .add (.var 2) (.con (.int (1)))) .nil)))))) (.cons (.set 5 (.slc (.tup (.cons (.con (.str "p")) (.cons (.con (.str "q")) (.cons (.con (.str "rr")) (.cons (.con (.str "go")) (.cons (.con (.str "abcdef")) .nil)))))) .noneE (.op .add (.con (.int (1))) (.call 19 (.cons (.var 0) (.cons (.ref 1) (.cons (.var 3) .nil))))))) (.cons (.set 6 (.op .add (.var 4) (.var 5))) (.cons (.set 7 (.bi .tuple (.comp 1 (.name 0) (.var 5) (.con (.bl true)) (.tup (.cons (.var 0) (.cons (.call 22 (.cons (.var 1) (.cons (.ref 2) (.cons (.var 7) (.cons (.con (.int (1))) .nil))))) .nil)))))) (.cons (.ret (.tup (.cons (.var 4) (.cons (.var 7) (.cons (.bi .tuple (.comp 1 (.name 0) (.var 6) (.con (.bl true)) (.cmp .eq (.call 19 (.cons (.var 1) (.cons (.ref 2) (.cons (.con (.int (2))) .nil)))) (.con (.int (1)))))) .nil))))) .nil)))))⟩
theorem Bh(n:Nat)(p0 p1 p2 p3:Sl):pg.fn (n+1) 23 [p0,p1,p2,p3]=fin 4 (ex (pg.cf n) sy.body [p0,p1,p2,p3,.un,.un,.un,.un]):=(bD (by kernel_rfl) _).trans (aJ _ _ _ rfl)
def pP:Fn:=⟨4,9,(.cons (.set 4 (.bi .tuple (.comp 1 (.name 0) (.idx (.var 2) (.con (.int (1)))) (.cmp .gt (.call 19 (.cons (.var 1) (.cons (.ref 2) (.cons (.con (.int (3))) .nil)))) (.con (.int (0)))) (.idx (.var 0) (.con (.int (0))))))) (.cons (.set 5 (.op .add (.con (.int (1))) (.call 19 (.cons (.var 0) (.cons (.ref 1) (.cons (.var 3) .nil)))))) (.cons (.set 6 (.lis .nil)) (.cons (.for_ (.name 7) (.range1 (.var 5)) (.cons (.set 8 (.comp 1 (.name 0) (.op .add (.idx (.var 2) (.con (.int (0)))) (.var 4)) (.cmp .eq (.call 19 (.cons (.var 1) (.cons (.ref 2) (.cons (.con (.int (2))) .nil)))) (.con (.int (1)))) (.var 0))) (.cons (.append 6 (.bi .tuple (.comp 1 (.name 0) (.var 8) (.con (.bl true)) (.tup (.cons (.var 0) (.cons (.call 19 (.cons (.var 1) (.cons (.ref 2) (.cons (.var 6) .nil)))) .nil)))))) .nil))) (.cons (.ret (.tup (.cons (.var 4) (.cons (.bi .tuple (.var 6)) .nil)))) .nil)))))⟩
theorem xr(n:Nat)(p0 p1 p2 p3:Sl):pg.fn (n+1) 24 [p0,p1,p2,p3]=fin 4 (ex (pg.cf n) pP.body [p0,p1,p2,p3,.un,.un,.un,.un,.un]):=(bD (by kernel_rfl) _).trans (aJ _ _ _ rfl)
def pR:Fn:=⟨2,5,(.cons (.set 2 (.slc (.lis (.cons (.con (.str "p")) (.cons (.con (.str "q")) (.cons (.con (.str "rr")) (.cons (.con (.str "go")) (.cons (.con (.str "abcdef")) .nil)))))) .noneE (.op .add (.con (.int (3))) (.call 19 (.cons (.var 0) (.cons (.ref 1) (.cons (.con (.int (3))) .nil))))))) (.cons (.set 3 (.lis .nil)) (.cons (.for_ (.name 4) (.range1 (.bi .len (.var 2))) (.cons (.append 3 (.tup (.cons (.idx (.var 2) (.var 4)) (.cons (.tup (.cons (.con (.str "held")) (.cons (.tup (.cons (.con (.str "same")) (.cons (.idx (.var 2) (.op .sub (.var 4) (.con (.int (1))))) .nil))) (.cons (.idx (.var 2) (.op .mod (.op .add (.var 4) (.con (.int (1)))) (.bi .len (.var 2)))) (.cons (.con (.bl false)) .nil))))) .nil)))) .nil)) (.cons (.ret (.tup (.cons (.tup .nil) (.cons (.bi .tuple (.var 3)) (.cons (.bi .tuple (.comp 1 (.name 0) (.var 2) (.con (.bl true)) (.cmp .eq (.call 19 (.cons (.var 1) (.cons (.ref 2) (.cons (.con (.int (2))) .nil)))) (.con (.int (1)))))) .nil))))) .nil))))⟩
theorem xx(n:Nat)(p0 p1:Sl):pg.fn (n+1) 25 [p0,p1]=fin 2 (ex (pg.cf n) pR.body [p0,p1,.un,.un,.un]):=(bD (by kernel_rfl) _).trans (aJ _ _ _ rfl)
def mD:Fn:=⟨2,8,(.cons (.set 2 (.slc (.lis (.cons (.con (.str "p")) (.cons (.con (.str "q")) (.cons (.con (.str "rr")) (.cons (.con (.str "go")) .nil))))) .noneE (.op .add (.con (.int (1))) (.call 19 (.cons (.var 0) (.cons (.ref 1) (.cons (.con (.int (4))) .nil))))))) (.cons (.set 3 (.con (.str "a"))) (.cons (.set 4 (.lis (.cons (.cmp .eq (.call 19 (.cons (.var 0) (.cons (.ref 1) (.cons (.con (.int (2))) .nil)))) (.con (.int (1)))) .nil))) (.cons (.set 5 (.lis .nil)) (.cons (.for_ (.name 6) (.var 2) (.cons (.set 7 (.call 19 (.cons (.var 0) (.cons (.ref 1) (.cons (.con (.int (2))) .nil))))) (.cons (.append 5 (.tup (.cons (.var 6) (.cons (.tup (.cons (.idx (.lis (.cons (.con (.str "same")) (.cons (.con (.str "not")) .nil))) (.var 7)) (.cons (.var 3) .nil))) .nil)))) (.cons (.append 4 (.cmp .eq (.idx (.var 4) (.neg (.con (.int (1))))) (.cmp .eq (.var 7) (.con (.int (0)))))) (.cons (.set 3 (.var 6)) .nil))))) (.cons (.ret (.tup (.cons (.tup (.cons (.tup (.cons (.con (.str "a")) .nil)) (.cons (.bi .tuple (.var 5)) (.cons (.bi .tuple (.var 4)) .nil)))) (.cons (.tup (.cons (.tup (.cons (.idx (.var 2) (.neg (.con (.int (1))))) .nil)) (.cons (.tup (.cons (.tup (.cons (.tup (.cons (.con (.str "a")) (.cons (.con (.int (1))) .nil))) .nil)) (.cons (.tup (.cons (.tup (.cons (.idx (.var 2) (.neg (.con (.int (1))))) (.cons (.con (.int (0))) .nil))) .nil)) .nil))) .nil))) .nil)))) .nil))))))⟩
theorem vA(n:Nat)(p0 p1:Sl):pg.fn (n+1) 26 [p0,p1]=fin 2 (ex (pg.cf n) mD.body [p0,p1,.un,.un,.un,.un,.un,.un]):=(bD (by kernel_rfl) _).trans (aJ _ _ _ rfl)
def aF:Fn:=⟨2,8,(.cons (.set 2 (.call 19 (.cons (.var 0) (.cons (.ref 1) (.cons (.con (.int (6))) .nil))))) (.cons (.set 3 (.tup (.cons (.idx (.lis (.cons (.con (.str "both")) (.cons (.con (.str "both")) (.cons (.con (.str "and")) (.cons (.con (.str "or")) (.cons (.con (.str "both")) (.cons (.con (.str "both")) .nil))))))) (.var 2)) (.cons (.tup (.cons (.con (.str "a")) (.cons (.con (.str "b")) .nil))) .nil)))) (.cons (.ite (.cmp .gt (.var 2) (.con (.int (3)))) (.cons (.set 3 (.tup (.cons (.con (.str "held")) (.cons (.tup (.cons (.con (.str "same")) (.cons (.con (.str "a")) .nil))) (.cons (.con (.str "b")) (.cons (.con (.bl true)) .nil)))))) .nil) .nil) (.cons (.set 4 (.tup (.cons (.tup (.cons (.tup (.cons (.con (.str "a")) (.cons (.con (.int (1))) .nil))) (.cons (.tup (.cons (.con (.str "b")) (.cons (.con (.int (2))) .nil))) .nil))) (.cons (.tup (.cons (.tup (.cons (.con (.str "b")) (.cons (.con (.int (3))) .nil))) .nil)) (.cons (.tup (.cons (.tup (.cons (.con (.str "a")) (.cons (.con (.int (3))) .nil))) .nil)) (.cons (.tup (.cons (.tup (.cons (.con (.str "p")) (.cons (.con (.int (0))) .nil))) .nil)) .nil)))))) (.cons (.set 5 (.lis (.cons (.tup (.cons (.con (.str "p")) (.cons (.var 3) .nil))) .nil))) (.cons (.ite (.cmp .eq (.call 19 (.cons (.var 0) (.cons (.ref 1) (.cons (.con (.int (2))) .nil)))) (.con (.int (1)))) (.cons (.append 5 (.tup (.cons (.con (.str "q")) (.cons (.tup (.cons (.idx (.lis (.cons (.con (.str "same")) (.cons (.con (.str "not")) .nil))) (.call 19 (.cons (.var 0) (.cons (.ref 1) (.cons (.con (.int (2))) .nil))))) (.cons (.con (.str "p")) .nil))) .nil)))) .nil) .nil) (.cons (.set 6 (.cmp .eq (.call 19 (.cons (.var 0) (.cons (.ref 1) (.cons (.con (.int (2))) .nil)))) (.con (.int (1))))) (.cons (.set 7 (.lis (.cons (.var 6) (.cons (.var 6) (.cons (.var 6) .nil))))) (.cons (.ite (.cmp .gt (.bi .len (.var 5)) (.con (.int (1)))) (.cons (.append 7 (.cmp .eq (.var 6) (.cmp .eq (.idx (.idx (.idx (.var 5) (.con (.int (1)))) (.con (.int (1)))) (.con (.int (0)))) (.con (.str "same"))))) .nil) .nil) (.cons (.ret (.tup (.cons (.tup (.cons (.tup (.cons (.con (.str "a")) (.cons (.con (.str "b")) .nil))) (.cons (.bi .tuple (.var 5)) (.cons (.bi .tuple (.var 7)) .nil)))) (.cons (.tup (.cons (.tup (.cons (.con (.str "p")) .nil)) (.cons (.var 4) .nil))) .nil)))) .nil))))))))))⟩
theorem gw(n:Nat)(p0 p1:Sl):pg.fn (n+1) 27 [p0,p1]=fin 2 (ex (pg.cf n) aF.body [p0,p1,.un,.un,.un,.un,.un,.un]):=(bD (by kernel_rfl) _).trans (aJ _ _ _ rfl)
def cA:Fn:=⟨3,6,(.cons (.set 3 (.op .add (.idx (.var 2) (.con (.int (0)))) (.bi .tuple (.comp 1 (.name 0) (.idx (.var 2) (.con (.int (1)))) (.con (.bl true)) (.idx (.var 0) (.con (.int (0)))))))) (.cons (.set 4 (.call 19 (.cons (.var 0) (.cons (.ref 1) (.cons (.bi .len (.idx (.var 2) (.con (.int (1))))) .nil))))) (.cons (.set 5 (.bi .list (.idx (.var 2) (.con (.int (1)))))) (.cons (.setIx 5 (.var 4) (.tup (.cons (.idx (.idx (.var 5) (.var 4)) (.con (.int (0)))) (.cons (.call 22 (.cons (.var 0) (.cons (.ref 1) (.cons (.var 3) (.cons (.con (.int (1))) .nil))))) .nil)))) (.cons (.ret (.tup (.cons (.idx (.var 2) (.con (.int (0)))) (.cons (.bi .tuple (.var 5)) (.cons (.idx (.var 2) (.con (.int (2)))) .nil))))) .nil)))))⟩
theorem jW(n:Nat)(p0 p1 p2:Sl):pg.fn (n+1) 28 [p0,p1,p2]=fin 3 (ex (pg.cf n) cA.body [p0,p1,p2,.un,.un,.un]):=(bD (by kernel_rfl) _).trans (aJ _ _ _ rfl)
def aP:Fn:=⟨2,6,(.cons (.set 2 (.lis (.cons (.var 1) .nil))) (.cons (.set 3 (.call 19 (.cons (.var 0) (.cons (.ref 2) (.cons (.con (.int (8))) .nil))))) (.cons (.ite (.cmp .lt (.var 3) (.con (.int (2)))) (.cons (.set 4 (.call 23 (.cons (.var 0) (.cons (.ref 2) (.cons (.con (.int (2))) (.cons (.con (.int (4))) .nil)))))) (.cons (.ret (.tup (.cons (.var 4) (.cons (.call 24 (.cons (.var 0) (.cons (.ref 2) (.cons (.var 4) (.cons (.con (.int (4))) .nil))))) .nil)))) .nil)) .nil) (.cons (.ite (.cmp .eq (.var 3) (.con (.int (2)))) (.cons (.ret (.tup (.cons (.call 23 (.cons (.var 0) (.cons (.ref 2) (.cons (.con (.int (0))) (.cons (.con (.int (4))) .nil))))) (.cons (.tup (.cons (.tup .nil) (.cons (.tup (.cons (.tup .nil) .nil)) .nil))) .nil)))) .nil) .nil) (.cons (.ite (.cmp .eq (.var 3) (.con (.int (3)))) (.cons (.set 4 (.call 25 (.cons (.var 0) (.cons (.ref 2) .nil)))) (.cons (.ite (.cmp .eq (.call 19 (.cons (.var 0) (.cons (.ref 2) (.cons (.con (.int (2))) .nil)))) (.con (.int (1)))) (.cons (.ret (.tup (.cons (.var 4) (.cons (.tup (.cons (.tup .nil) (.cons (.tup (.cons (.tup .nil) .nil)) .nil))) .nil)))) .nil) .nil) (.cons (.ret (.tup (.cons (.var 4) (.cons (.tup (.cons (.tup (.cons (.con (.str "q")) .nil)) (.cons (.tup (.cons (.tup (.cons (.tup (.cons (.con (.str "q")) (.cons (.con (.int (1))) .nil))) .nil)) (.cons (.tup (.cons (.tup (.cons (.con (.str "q")) (.cons (.con (.int (0))) .nil))) .nil)) .nil))) .nil))) .nil)))) .nil))) .nil) (.cons (.ite (.cmp .lt (.var 3) (.con (.int (6)))) (.cons (.setT [4,5] (.call 26 (.cons (.var 0) (.cons (.ref 2) .nil)))) .nil) (.cons (.setT [4,5] (.call 27 (.cons (.var 0) (.cons (.ref 2) .nil)))) .nil)) (.cons (.ite (.and (.cons (.cmp .eq (.op .mod (.var 3) (.con (.int (2)))) (.con (.int (1)))) (.cons (.cmp .eq (.call 19 (.cons (.var 0) (.cons (.ref 2) (.cons (.con (.int (2))) .nil)))) (.con (.int (1)))) .nil))) (.cons (.set 4 (.call 28 (.cons (.var 0) (.cons (.ref 2) (.cons (.var 4) .nil))))) .nil) .nil) (.cons (.ret (.tup (.cons (.var 4) (.cons (.var 5) .nil)))) .nil))))))))⟩
theorem dq(n:Nat)(p0 p1:Sl):pg.fn (n+1) 29 [p0,p1]=fin 2 (ex (pg.cf n) aP.body [p0,p1,.un,.un,.un,.un]):=(bD (by kernel_rfl) _).trans (aJ _ _ _ rfl)
def mz:Fn:=⟨1,1,(.cons (.ret (.op .add (.bi .list (.idx (.var 0) (.con (.int (0))))) (.comp 1 (.name 0) (.idx (.var 0) (.con (.int (1)))) (.con (.bl true)) (.idx (.var 0) (.con (.int (0))))))) .nil)⟩
theorem vy(n:Nat)(p0:Sl):pg.fn (n+1) 30 [p0]=fin 1 (ex (pg.cf n) mz.body [p0]):=(bD (by kernel_rfl) _).trans (aJ _ _ _ rfl)
def fV:Fn:=⟨2,3,(.cons (.ret (.tcall 13 (.cons (.var 0) (.cons (.var 1) .nil)) [(1,(.str "none"))])) .nil)⟩
theorem gY(n:Nat)(p0 p1:Sl):pg.fn (n+1) 31 [p0,p1]=fin 2 (ex (pg.cf n) fV.body [p0,p1,.un]):=(bD (by kernel_rfl) _).trans (aJ _ _ _ rfl)
def cI:Fn:=⟨1,1,(.cons (.ite (.cmp .ne (.idx (.var 0) (.con (.int (0)))) (.con (.str "held"))) (.cons (.ret (.con (.int (0)))) .nil) .nil) (.cons (.ret (.op .add (.con (.int (1))) (.call 32 (.cons (.idx (.var 0) (.con (.int (1)))) .nil)))) .nil))⟩
theorem dj(n:Nat)(p0:Sl):pg.fn (n+1) 32 [p0]=fin 1 (ex (pg.cf n) cI.body [p0]):=(bD (by kernel_rfl) _).trans (aJ _ _ _ rfl)
def jk:Fn:=⟨1,14,(.cons (.setT [1,2] (.call 29 (.cons (.var 0) (.cons (.con (.int (14))) .nil)))) (.cons (.set 3 (.call 30 (.cons (.var 1) .nil))) (.cons (.set 4 (.lis .nil)) (.cons (.for_ (.name 5) (.range1 (.call 18 (.cons (.var 0) (.cons (.con (.int (0))) (.cons (.con (.int (4))) .nil))))) (.cons (.set 6 (.idx (.idx (.idx (.var 1) (.con (.int (1)))) (.call 18 (.cons (.var 0) (.cons (.op .add (.con (.int (1))) (.op .mul (.con (.int (3))) (.var 5))) (.cons (.bi .len (.idx (.var 1) (.con (.int (1))))) .nil))))) (.con (.int (0))))) (.cons (.append 4 (.tup (.cons (.var 6) (.cons (.idx (.var 3) (.call 18 (.cons (.var 0) (.cons (.op .add (.con (.int (2))) (.op .mul (.con (.int (3))) (.var 5))) (.cons (.bi .len (.var 3)) .nil))))) (.cons (.cmp .eq (.call 18 (.cons (.var 0) (.cons (.op .add (.con (.int (3))) (.op .mul (.con (.int (3))) (.var 5))) (.cons (.con (.int (2))) .nil)))) (.con (.int (1)))) .nil))))) .nil))) (.cons (.ite (.cmp .eq (.call 18 (.cons (.var 0) (.cons (.con (.int (11))) (.cons (.con (.int (3))) .nil)))) (.con (.int (1)))) (.cons (.set 6 (.idx (.idx (.idx (.var 1) (.con (.int (1)))) (.con (.int (0)))) (.con (.int (0))))) (.cons (.set 7 (.lis (.cons (.tup (.cons (.con (.str "zz")) (.cons (.var 6) (.cons (.con (.bl true)) .nil)))) (.cons (.tup (.cons (.var 6) (.cons (.con (.str "zz")) (.cons (.con (.bl true)) .nil)))) (.cons (.tup (.cons (.var 6) (.cons (.var 6) (.cons (.con (.int (1))) .nil)))) (.cons (.lis (.cons (.var 6) (.cons (.var 6) (.cons (.con (.bl true)) .nil)))) (.cons (.con .non) (.cons (.tup (.cons (.var 6) (.cons (.var 6) .nil))) .nil)))))))) (.cons (.extend 7 (.lis (.cons (.tup (.cons (.var 6) (.cons (.var 6) (.cons (.con .non) .nil)))) (.cons (.tup (.cons (.var 6) (.cons (.tup (.cons (.var 6) .nil)) (.cons (.con (.bl true)) .nil)))) (.cons (.tup (.cons (.tup (.cons (.var 6) .nil)) (.cons (.var 6) (.cons (.con (.bl true)) .nil)))) .nil))))) (.cons (.ite (.cmp .ne (.idx (.var 1) (.con (.int (0)))) (.tup .nil)) (.cons (.append 7 (.tup (.cons (.idx (.idx (.var 1) (.con (.int (0)))) (.con (.int (0)))) (.cons (.var 6) (.cons (.con (.bl true)) .nil))))) .nil) .nil) (.cons (.set 8 (.op .add (.var 4) (.lis (.cons (.idx (.var 7) (.call 18 (.cons (.var 0) (.cons (.con (.int (12))) (.cons (.bi .len (.var 7)) .nil))))) .nil)))) (.cons (.ret (.and (.cons (.cmp .eq (.call 31 (.cons (.var 1) (.cons (.bi .tuple (.var 8)) .nil))) (.con (.str "none"))) (.cons (.cmp .eq (.call 31 (.cons (.var 1) (.cons (.lis (.cons (.tup (.cons (.con (.str "p")) (.cons (.con (.str "p")) (.cons (.con (.bl true)) .nil)))) .nil)) .nil))) (.con (.str "none"))) .nil)))) .nil)))))) .nil) (.cons (.set 9 (.lis .nil)) (.cons (.for_ (.tup [10,11]) (.idx (.var 1) (.con (.int (1)))) (.cons (.for_ (.name 12) (.var 4) (.cons (.ite (.cmp .eq (.idx (.var 12) (.con (.int (0)))) (.var 10)) (.cons (.set 11 (.tup (.cons (.con (.str "held")) (.cons (.var 11) (.cons (.idx (.var 12) (.con (.int (1)))) (.cons (.idx (.var 12) (.con (.int (2)))) .nil)))))) .nil) .nil) .nil)) (.cons (.append 9 (.tup (.cons (.var 10) (.cons (.var 11) .nil)))) .nil))) (.cons (.set 13 (.call 31 (.cons (.var 1) (.cons (.bi .tuple (.var 4)) .nil)))) (.cons (.ite (.cmp .ne (.comp 2 (.tup [0,1]) (.var 9) (.cmp .gt (.call 32 (.cons (.var 1) .nil)) (.con (.int (3)))) (.var 1)) (.lis .nil)) (.cons (.ret (.cmp .eq (.var 13) (.con (.str "none")))) .nil) .nil) (.cons (.ret (.cmp .eq (.var 13) (.tup (.cons (.idx (.var 1) (.con (.int (0)))) (.cons (.bi .tuple (.var 9)) (.cons (.idx (.var 1) (.con (.int (2)))) .nil)))))) .nil))))))))))⟩
theorem XD(n:Nat)(p0:Sl):pg.fn (n+1) 33 [p0]=fin 1 (ex (pg.cf n) jk.body [p0,.un,.un,.un,.un,.un,.un,.un,.un,.un,.un,.un,.un,.un]):=(bD (by kernel_rfl) _).trans (aJ _ _ _ rfl)
end Tx
end
end
section
open PySem Mini
namespace Tx
abbrev sc(ns:List Int):D:=.lst (ns.map .int)
theorem Ig(ns:List Int)(i:Int)(h0:0<=i)(h:i<ns.length):∃r:Int,at? (ns.map D.int) i=some (.int r):=by
 unfold at? ix?
 rw[List.length_map,if_neg (by omega:¬i<0)]
 rw[if_pos ⟨h0,h⟩]
 have:i.toNat<ns.length:=by omega
 exact⟨ns[i.toNat],by simp[this]⟩
theorem Gp(ns:List Int):iQ (ns.map D.int)=true:=by
 induction ns with
 |nil=>rfl
 |cons i r ih=>simp[iQ,nd,ih]
theorem CG(ns:List Int):eZ (ns.map D.int)=0:=by
 induction ns with
 |nil=>rfl
 |cons i r ih=>simp[eZ,dep,ih]
theorem Hr(ns:List Int):aC .eq (.lst (ns.map .int)) (.lst [])=some ns.isEmpty:=by
 cases ns with
 |nil=>rfl
 |cons i ns=>simp[aC,jj,flat,nd,iQ,dep,eZ,bZ,mU,Gp,CG]
theorem yu(n:Nat)(ns:List Int)(k:Int)(hk:0<=k):∃r:Int,pg.fn (n+1) 17 [.val (sc ns),.val (.int k)]=.ok (.val (.int r)) [.val (sc ns),.val (.int k)]:=by
 by_cases h:k<ns.length
 ·obtain⟨r,e⟩:=Ig ns k hk h
  exact⟨r,by rw[gA];simp[eQ,h,e]⟩
 ·by_cases hn:ns=[]
  ·subst hn
   have h0:¬k<0:=by omega
   exact⟨0,by rw[gA];simp[eQ,h0,aN,fits,Hr []]⟩
  ·have hl':0<ns.length:=List.length_pos_iff.mpr hn
   have hl:(0:Int)<ns.length:=by omega
   obtain⟨r,e⟩:=Ig ns (k%ns.length) (Int.emod_nonneg _ (by omega)) (Int.emod_lt_of_pos _ hl)
   have he:ns.isEmpty=false:=by simpa using hn
   exact⟨r*31+k,by rw[gA];simp[eQ,h,e,aN,fits,Hr,he,hl,hl',small]⟩
@[simp]theorem aeD(n:Nat):(pg.cf n).fn=pg.fn n:=rfl
@[simp]theorem aeC(n:Nat):(pg.cf n).gl=pg.gl:=rfl
@[simp]theorem ZC(n:Nat):(pg.cf n).turns=1000:=rfl
theorem fM(n:Nat)(ns:List Int)(k many:Int)(hk:0<=k)(hm:0<many):∃r:Int,0<=r/\r<many/\
  pg.fn (n+2) 18 [.val (sc ns),.val (.int k),.val (.int many)]=.ok (.val (.int r)) [.val (sc ns),.val (.int k),.val (.int many)]:=by
 obtain⟨c,e⟩:=yu n ns k hk
 have b:∀x:Int,small (x%2147483647)=true:=fun x=>by
  have h1:=Int.emod_nonneg x (by omega:(2147483647:Int)≠0)
  have h2:=Int.emod_lt_of_pos x (by omega:(0:Int)<2147483647)
  simp[small]
  omega
 have s1:small 7919=true:=by decide
 have s2:small 48271=true:=by decide
 have s3:small 7=true:=by decide
 refine⟨_,?_,?_,by rw[vz];simp[mC,e,s1,s2,s3,b,hm];rfl⟩
 ·exact Int.emod_nonneg _ (by omega)
 ·exact Int.emod_lt_of_pos _ hm
theorem Jh{k:Int}(h:0<=k):0<=k+1:=Int.le_trans h (Int.le_add_one (Int.le_refl k))
theorem aY(n:Nat)(ns:List Int)(k many:Int)(hk:0<=k)(hm:0<many):∃r:Int,0<=r/\r<many/\
  pg.fn (n+3) 19 [.val (sc ns),.bor (.lst [.int k]),.val (.int many)]=.ok (.val (.int r)) [.val (sc ns),.bor (.lst [.int (k+1)]),.val (.int many)]:=by
 obtain⟨r,h1,h2,e⟩:=fM n ns (k+1) many (Jh hk) hm
 refine⟨r,h1,h2,?_⟩
 rw[xF]
 simp[pU,at?,ix?,tL,e]
end Tx
end
section
open PySem Mini
namespace Tx
def lY:E:=(.and (.cons (.cmp .gt (.bi .len (.var 5)) (.var 3)) (.cons (.or (.cons (.cmp .gt (.bi .len (.var 5)) (.var 4)) (.cons (.cmp .eq (.call 19 (.cons (.var 0) (.cons (.ref 1) (.cons (.con (.int (2))) .nil)))) (.con (.int (1)))) .nil))) .nil)))
def qG:S:=(.cons (.expr (.popAt 5 (.call 19 (.cons (.var 0) (.cons (.ref 1) (.cons (.bi .len (.var 5)) .nil)))))) .nil)
abbrev someσ(ns:List Int)(k:Int)(xs:List D)(least most:Int)(row:List D):Ev:=[.val (sc ns),.bor (.lst [.int k]),.val (.tup xs),.val (.int least),.val (.int most),.own (.lst row)]
theorem Ep(n:Nat)(ns:List Int)(k:Int)(hk:0<=k)(xs row:List D)(least most:Int)(h0:0<row.length)(hf:row.length<=1000):
  ∃j:Nat,j<row.length/\ex (pg.cf (n+3)) qG (someσ ns k xs least most row)=.next (someσ ns (k+1) xs least most (row.eraseIdx j)):=by
 obtain⟨r,h1,h2,e⟩:=aY n ns k row.length hk (by omega)
 refine⟨r.toNat,by omega,?_⟩
 have f:fits row.length=true:=by simp[fits];omega
 have hx:ix? row.length r=some r.toNat:=by
  unfold ix?
  rw[if_neg (by omega:¬r<0),if_pos ⟨h1,h2⟩]
 have hr:row[r.toNat]? =some (row[r.toNat]'(by omega)):=List.getElem?_eq_getElem (by omega)
 simp[qG,e,cu,oG,f,hx,hr,mL]
theorem Ay(n:Nat)(ns:List Int)(xs:List D)(least most:Int)(hx:xs.length<=1000)(hl:0<=least)(hlm:least<=most):∀(L:Nat)(row:List D)(k:Int)(fuel:Nat),row.length=L->L<fuel->0<=k->row.Sublist xs->least<=row.length->
  ∃ys k',ys.Sublist xs/\least<=ys.length/\ys.length<=most/\0<=k'/\cg (ev (pg.cf (n+3)) lY) (ex (pg.cf (n+3)) qG) fuel (someσ ns k xs least most row)=.next (someσ ns k' xs least most ys):=by
 intro L
 induction L with
 |zero=>
  intro row k fuel hL hf hk hs hr
  obtain⟨fuel,rfl⟩:∃f,fuel=f+1:=⟨fuel-1,by omega⟩
  have:¬least<row.length:=by omega
  exact⟨row,k,hs,hr,by omega,hk,by simp[cg,lY,this]⟩
 |succ L ih=>
  intro row k fuel hL hf hk hs hr
  obtain⟨fuel,rfl⟩:∃f,fuel=f+1:=⟨fuel-1,by omega⟩
  have hrl:=hs.length_le
  by_cases h1:least<row.length
  ·--the row is longer than the least
   have cont:∀k1:Int,0<=k1->∃ys k',ys.Sublist xs/\least<=ys.length/\ys.length<=most/\0<=k'/\
     (ex (pg.cf (n+3)) qG (someσ ns k1 xs least most row)).turn (cg (ev (pg.cf (n+3)) lY) (ex (pg.cf (n+3)) qG) fuel)=.next (someσ ns k' xs least most ys):=fun k1 hk1=>by
    obtain⟨j,hj,e⟩:=Ep n ns k1 hk1 xs row least most (by omega) (by omega)
    have el:(row.eraseIdx j).length=L:=by rw[List.length_eraseIdx_of_lt hj];omega
    obtain⟨ys,k',a1,a2,a3,a4,a5⟩:=ih (row.eraseIdx j) (k1+1) fuel el (by omega) (by omega) ((List.eraseIdx_sublist row j).trans hs) (by omega)
    exact⟨ys,k',a1,a2,a3,a4,by rw[e];exact a5⟩
   by_cases h2:most<row.length
   ·obtain⟨ys,k',a1,a2,a3,a4,a5⟩:=cont k hk
    refine⟨ys,k',a1,a2,a3,a4,?_⟩
    rw[<-a5]
    simp[cg,lY,h1,h2]
   ·obtain⟨r,b1,b2,e⟩:=aY n ns k 2 hk (by omega)
    by_cases h3:r=1
    ·subst h3
     obtain⟨ys,k',a1,a2,a3,a4,a5⟩:=cont (k+1) (by omega)
     refine⟨ys,k',a1,a2,a3,a4,?_⟩
     rw[<-a5]
     simp[cg,lY,h1,h2,e]
    ·exact⟨row,k+1,hs,by omega,by omega,by omega,by simp[cg,lY,h1,h2,e,h3]⟩
  ·exact⟨row,k,hs,by omega,by omega,hk,by simp[cg,lY,h1]⟩
theorem yS(n:Nat)(ns:List Int)(k:Int)(hk:0<=k)(xs:List D)(least most:Int)(hx:xs.length<=900)(hl:0<=least)(hlm:least<=most)(hxl:least<=xs.length):
  ∃ys k',ys.Sublist xs/\least<=ys.length/\ys.length<=most/\0<=k'/\
   pg.fn (n+4) 20 [.val (sc ns),.bor (.lst [.int k]),.val (.tup xs),.val (.int least),.val (.int most)]=.ok (.val (.tup ys)) [.val (sc ns),.bor (.lst [.int k']),.val (.tup xs),.val (.int least),.val (.int most)]:=by
 obtain⟨ys,k',a1,a2,a3,a4,a5⟩:=Ay n ns xs least most (by omega) hl hlm xs.length xs k 1000 rfl (by omega) hk (List.Sublist.refl _) hxl
 refine⟨ys,k',a1,a2,a3,a4,?_⟩
 rw[xu]
 have hb:pQ.body=.cons (.set 5 (.bi .list (.var 2))) (.cons (.while_ lY qG) (.cons (.ret (.bi .tuple (.var 5))) .nil)):=rfl
 rw[hb]
 simp[a5]
end Tx
end
section
open PySem Mini
namespace Tx
def p6(s:Sl):Prop:=s=.un\/∃d,s=.val d
theorem jb{s:Sl}(h:p6 s)(d:D)(r:Ev):bA (.name 0) d (s::r)=some (.val d::r):=by
 rcases h with rfl|⟨e,rfl⟩<;>simp[bA]
def kj:E:=(.cmp .eq (.call 19 (.cons (.var 1) (.cons (.ref 2) (.cons (.con (.int (2))) .nil)))) (.con (.int (1))))
theorem uC(n:Nat)(ns:List Int)(k:Int)(hk:0<=k)(d:D)(rest:Ev):∃b:Bool,ev (pg.cf (n+3)) kj (.val d:: .val (sc ns):: .bor (.lst [.int k])::rest)=.ok (.val (.bl b)) (.val d:: .val (sc ns):: .bor (.lst [.int (k+1)])::rest):=by
 obtain⟨r,h1,h2,e⟩:=aY n ns k 2 hk (by omega)
 exact⟨r==1,by simp[kj,e]⟩
theorem HH(n:Nat)(ns:List Int)(rest:Ev):∀(xs acc:List D)(k:Int)(s:Sl),0<=k->p6 s->∃bs k' s',bs.length=xs.length/\0<=k'/\p6 s'/\
  aK (.name 0) (ev (pg.cf (n+3)) kj) (ev (pg.cf (n+3)) (.var 0)) xs acc (s:: .val (sc ns):: .bor (.lst [.int k])::rest)=.ok (acc++jC bs xs) (s':: .val (sc ns):: .bor (.lst [.int k'])::rest)
 |[]=>fun acc k s hk hs=>⟨[],k,s,rfl,hk,hs,by simp[aK,jC]⟩
 |x::xs=>fun acc k s hk hs=>by
  obtain⟨b,e⟩:=uC n ns k hk x rest
  cases b with
  |true=>
   obtain⟨bs,k',s',a1,a2,a3,a4⟩:=HH n ns rest xs (acc++[x]) (k+1) (.val x) (by omega) (.inr ⟨x,rfl⟩)
   refine⟨true::bs,k',s',by simp[a1],a2,a3,?_⟩
   rw[aK,jb hs]
   simp only[e,eX,if_true]
   have e0:ev (pg.cf (n+3)) (.var 0) (.val x:: .val (sc ns):: .bor (.lst [.int (k+1)])::rest)=.ok (.val x) (.val x:: .val (sc ns):: .bor (.lst [.int (k+1)])::rest):=by simp
   rw[e0,bO,a4]
   simp[jC]
  |false=>
   obtain⟨bs,k',s',a1,a2,a3,a4⟩:=HH n ns rest xs acc (k+1) (.val x) (by omega) (.inr ⟨x,rfl⟩)
   refine⟨false::bs,k',s',by simp[a1],a2,a3,?_⟩
   rw[aK,jb hs]
   simp only[e,eX,Bool.false_eq_true,if_false]
   rw[a4]
   simp[jC]
def Nb(b:Bool):E:=(.comp 1 (.name 0) (.var 4) (.con (.bl true)) (.op .add (.var 0) (.tup (.cons (.con (.bl b)) .nil))))
def sY:S:=(.cons (.set 4 (.op .add (Nb false) (Nb true))) .nil)
theorem Io(c:Cf)(b:Bool)(rest:Ev):∀(rs:List (List Bool))(acc:List D)(s:Sl),p6 s->(∀r∈rs,r.length<=1000)->∃s',p6 s'/\
  aK (.name 0) (ev c (.con (.bl true))) (ev c (.op .add (.var 0) (.tup (.cons (.con (.bl b)) .nil)))) (rs.map aV) acc (s::rest)=.ok (acc++(rs.map (· ++[b])).map aV) (s'::rest)
 |[]=>fun acc s hs _=>⟨s,hs,by simp[aK]⟩
 |r::rs=>fun acc s hs hl=>by
  obtain⟨s',a1,a2⟩:=Io c b rest rs (acc++[aV (r++[b])]) (.val (aV r)) (.inr ⟨_,rfl⟩) fun q hq=>hl q (List.mem_cons_of_mem _ hq)
  have h1:=hl r List.mem_cons_self
  refine⟨s',a1,?_⟩
  rw[List.map_cons,aK,jb hs]
  have e0:ev c (.op .add (.var 0) (.tup (.cons (.con (.bl b)) .nil))) (.val (aV r)::rest)=.ok (.val (aV (r++[b]))) (.val (aV r)::rest):=by
   have f:fits (r.length+1)=true:=by simp[fits];omega
   simp[aN,aV,f]
  have e1:ev c (.con (.bl true)) (.val (aV r)::rest)=.ok (.val (.bl true)) (.val (aV r)::rest):=by simp
  simp only[e1,eX,if_true]
  rw[e0,bO,a2]
  simp
theorem Ip(c:Cf)(b:Bool)(rs:List (List Bool))(hl:∀r∈rs,r.length<=1000){s:Sl}(hs:s=.own (.lst (rs.map aV))\/s=.val (.lst (rs.map aV)))(s0 s1 s2 s3 s5:Sl):ev c (Nb b) [s0,s1,s2,s3,s,s5]=.ok (.new (.lst ((rs.map (· ++[b])).map aV))) [s0,s1,s2,s3,.val (.lst (rs.map aV)),s5]:=by
 obtain⟨s',_,a⟩:=Io c b [s0,s1,s2,s3,.val (.lst (rs.map aV)),s5] rs [] .un (.inl rfl) hl
 have h:ev c (.var 4) [s0,s1,s2,s3,s,s5]=.ok (.val (.lst (rs.map aV))) [s0,s1,s2,s3,.val (.lst (rs.map aV)),s5]:=by
  rcases hs with rfl|rfl<;>simp
 unfold Nb
 rw[kY,h,bO]
 simp only[items]
 rw[show List.replicate 1 Sl.un++[s0,s1,s2,s3,.val (.lst (rs.map aV)),s5]=Sl.un::[s0,s1,s2,s3,.val (.lst (rs.map aV)),s5]from rfl,a]
 simp
theorem Bf(c:Cf)(rs:List (List Bool))(hl:∀r∈rs,r.length<=1000)(hn:rs.length<=1000){s:Sl}(hs:s=.own (.lst (rs.map aV)))(s0 s1 s2 s3 s5:Sl):
  ex c sY [s0,s1,s2,s3,s,s5]=.next [s0,s1,s2,s3,.own (.lst ((rs.map (· ++[false])++rs.map (· ++[true])).map aV)),s5]:=by
 have f:fits (rs.length+rs.length)=true:=by simp[fits];omega
 unfold sY
 simp only[x_0,x_1,x_5,Wq]
 rw[Ip c false rs hl (.inl hs),ju]
 simp only[Hx]
 rw[Ip c true rs hl (.inr rfl),ju]
 simp[f]
theorem qL(c:Cf)(s0 s1 s2 s3:Sl):∀(ys:List D)(k:Nat)(s5:Sl),p6 s5->k+ys.length<=9->∃s5',p6 s5'/\aZ (.name 5) (ex c sY) ys [s0,s1,s2,s3,.own (.lst ((cU k).map aV)),s5]=.next [s0,s1,s2,s3,.own (.lst ((cU (k+ys.length)).map aV)),s5']
 |[]=>fun k s5 h5 _=>⟨s5,h5,by simp[aZ]⟩
 |y::ys=>fun k s5 h5 hk=>by
  simp only[List.length_cons]at hk
  obtain⟨s5',a1,a2⟩:=qL c s0 s1 s2 s3 ys (k+1) (.val y) (.inr ⟨y,rfl⟩) (by omega)
  refine⟨s5',a1,?_⟩
  have st:bA (.name 5) y [s0,s1,s2,s3,.own (.lst ((cU k).map aV)),s5]=some [s0,s1,s2,s3,.own (.lst ((cU k).map aV)),.val y]:=by
   rcases h5 with rfl|⟨e,rfl⟩<;>simp[bA]
  have lens:∀k,∀r∈cU k,r.length=k:=by
   intro k
   induction k with
   |zero=>intro r hr;simp[cU]at hr;subst hr;rfl
   |succ k ih=>
    intro r hr
    simp only[cU,List.mem_append,List.mem_map]at hr
    rcases hr with ⟨q,hq,rfl⟩|⟨q,hq,rfl⟩<;>simp[ih q hq]
  have hn:(cU k).length<=1000:=by
   rw[lw]
   have:2 ^k<=2 ^9:=Nat.pow_le_pow_right (by omega) (by omega)
   omega
  rw[aZ,st]
  simp only
  rw[Bf c (cU k) (fun r hr=>by rw[lens k r hr];omega) hn rfl,kZ]
  rw[show(cU k).map (· ++[false])++(cU k).map (· ++[true])=cU (k+1)from rfl,a2]
  rw[show k+1+ys.length=k+(y::ys).length by simp;omega]
def nq:E:=.comp 1 (.name 0) (.var 4) kj (.var 0)
theorem ym(n:Nat)(ns:List Int)(k:Int)(hk:0<=k)(zs:List D)(s2 s3 s5:Sl):∃bs k',bs.length=zs.length/\0<=k'/\
  ev (pg.cf (n+3)) nq [.val (sc ns),.bor (.lst [.int k]),s2,s3,.own (.lst zs),s5]=.ok (.new (.lst (jC bs zs))) [.val (sc ns),.bor (.lst [.int k']),s2,s3,.val (.lst zs),s5]:=by
 obtain⟨bs,k',s',c1,c2,c3,c4⟩:=HH n ns [s2,s3,.val (.lst zs),s5] zs [] k .un hk (.inl rfl)
 refine⟨bs,k',c1,c2,?_⟩
 have h:ev (pg.cf (n+3)) (.var 4) [.val (sc ns),.bor (.lst [.int k]),s2,s3,.own (.lst zs),s5]=.ok (.val (.lst zs)) [.val (sc ns),.bor (.lst [.int k]),s2,s3,.val (.lst zs),s5]:=by simp
 unfold nq
 rw[kY,h,bO]
 simp only[items]
 rw[show List.replicate 1 Sl.un++[.val (sc ns),.bor (.lst [.int k]),s2,s3,.val (.lst zs),s5]=Sl.un:: .val (sc ns):: .bor (.lst [.int k])::[s2,s3,.val (.lst zs),s5]from rfl,c4]
 simp
theorem Ej(n:Nat)(ns:List Int)(k:Int)(hk:0<=k)(xs:List D)(hx:xs.length<=900)(h1:1<=xs.length):
  ∃ys rs k',ys.Sublist xs/\1<=ys.length/\ys.length<=3/\(∀r∈rs,r.length=ys.length)/\v7 rs=true/\0<=k'/\
   pg.fn (n+5) 21 [.val (sc ns),.bor (.lst [.int k]),.val (.tup xs)]=.ok (.val (.tup [.str "table",.tup ys,.tup (rs.map aV)])) [.val (sc ns),.bor (.lst [.int k']),.val (.tup xs)]:=by
 obtain⟨ys,k1,a1,a2,a3,a4,a5⟩:=yS n ns k hk xs 1 3 hx (by omega) (by omega) (by omega)
 obtain⟨s5,b1,b2⟩:=qL (pg.cf (n+4)) (.val (sc ns)) (.bor (.lst [.int k1])) (.val (.tup xs)) (.val (.tup ys)) ys 0 .un (.inl rfl) (by omega)
 obtain⟨bs,k2,c1,c2,c4⟩:=ym (n+1) ns k1 a4 ((cU ys.length).map aV) (.val (.tup xs)) (.val (.tup ys)) s5
 rw[List.length_map,lw]at c1
 obtain⟨rs,d1,d2,d3⟩:=Ax ys.length (by omega) (by omega) bs c1
 refine⟨ys,rs,k2,a1,by omega,by omega,d2,d3,c2,?_⟩
 rw[vq]
 have hb:my=⟨3,6,.cons (.set 3 (.call 20 (.cons (.var 0) (.cons (.ref 1) (.cons (.var 2) (.cons (.con (.int (1))) (.cons (.con (.int (3))) .nil))))))) (.cons (.set 4 (.lis (.cons (.tup .nil) .nil))) (.cons (.for_ (.name 5) (.var 3) sY)
  (.cons (.ret (.tup (.cons (.con (.str "table")) (.cons (.var 3) (.cons (.bi .tuple (.bi .sorted nq)) .nil))))) .nil)))⟩:=rfl
 rw[hb]
 have e1:([D.tup []]:List D)=(cU 0).map aV:=rfl
 simp only[Nat.zero_add]at b2
 have e2:(cU 0).length=1:=rfl
 have q:nq.au=none:=rfl
 simp[a5,aN,items,e1,e2,b2,c4,d1,q]
end Tx
end
section
open PySem Mini
namespace Tx
inductive aU(xs:List D):Nat->D->Prop
 |same {n:Nat} {x:D}:x∈xs->aU xs n (.tup [.str "same",x])
 |not {n:Nat} {x:D}:x∈xs->aU xs n (.tup [.str "not",x])
 |and {n:Nat} {ys:List D}:ys.Sublist xs->2<=ys.length->ys.length<=3->aU xs n (.tup [.str "and",.tup ys])
 |or {n:Nat} {ys:List D}:ys.Sublist xs->2<=ys.length->ys.length<=3->aU xs n (.tup [.str "or",.tup ys])
 |both {n:Nat} {ys:List D}:ys.Sublist xs->2<=ys.length->ys.length<=3->aU xs n (.tup [.str "both",.tup ys])
 |table {n:Nat} {ys:List D} {rs:List (List Bool)}:ys.Sublist xs->1<=ys.length->ys.length<=3->(∀r∈rs,r.length=ys.length)->v7 rs=true->aU xs n (.tup [.str "table",.tup ys,.tup (rs.map aV)])
 |held {n:Nat} {k x:D} {b:Bool}:aU xs n k->x∈xs->aU xs (n+1) (.tup [.str "held",k,x,.bl b])
theorem Ie(xs:List D)(r:Int)(h1:0<=r)(h2:r<xs.length):∃d,at? xs r=some d/\d∈xs:=by
 unfold at? ix?
 rw[if_neg (Int.not_lt.mpr h1),if_pos ⟨h1,h2⟩]
 have:r.toNat<xs.length:=(Int.toNat_lt h1).mpr h2
 exact⟨xs[r.toNat],by simp[this],List.getElem_mem this⟩
theorem Lh(r:Int):r%2=0\/r%2=1:=by omega
theorem Hm{r:Int}(h1:¬r<4)(h2:r<7):r-4=0\/r-4=1\/r-4=2:=by omega
theorem eight{r:Int}(h1:¬r<7)(h2:r<9)(h3:¬r=7):r=8:=by omega
theorem Ut(n:Nat):¬((n:Int)+1=0):=by omega
theorem rB(m:Nat)(ns:List Int)(xs:List D)(hx:xs.length<=900)(h1:1<=xs.length)(deep:Nat)
  (rec:∀dp,deep=dp+1->∀k:Int,0<=k->∃d k',aU xs dp d/\0<=k'/\pg.fn (m+5) 22 [.val (sc ns),.bor (.lst [.int k]),.val (.tup xs),.val (.int dp)]=.ok (.val d) [.val (sc ns),.bor (.lst [.int k']),.val (.tup xs),.val (.int dp)])
  (k:Int)(hk:0<=k):∃d k',aU xs deep d/\0<=k'/\
  pg.fn (m+6) 22 [.val (sc ns),.bor (.lst [.int k]),.val (.tup xs),.val (.int deep)]=.ok (.val d) [.val (sc ns),.bor (.lst [.int k']),.val (.tup xs),.val (.int deep)]:=by
 obtain⟨r,r1,r2,er⟩:=aY (m+2) ns k 9 hk (by decide)
 have hk1:=Jh hk
 by_cases c1:r<4\/xs.length<2
 ·obtain⟨q,q1,q2,eq⟩:=aY (m+2) ns (k+1) xs.length hk1 (Int.ofNat_lt.mpr h1)
  obtain⟨x,ex,mx⟩:=Ie xs q q1 q2
  obtain⟨w,ew,kw⟩:∃w,at? [.str "same",.str "not"] (r%2)=some (.str w)/\aU xs deep (.tup [.str w,x]):=by
   rcases Lh r with h|h<;>rw[h]
   ·exact⟨_,rfl,.same mx⟩
   ·exact⟨_,rfl,.not mx⟩
  refine⟨_,k+1+1,kw,Jh hk1,?_⟩
  rw[gZ]
  by_cases c4:r<4
  ·simp[dC,er,c4,eq,ex,aN,ew]
  ·have c6:=c1.resolve_left c4
   have c5:(xs.length:Int)<2:=Int.ofNat_lt.mpr c6
   simp[dC,er,c4,c5,c6,eq,ex,aN,ew]
 ·have c2:¬r<4:=fun h=>c1 (.inl h)
  have c3':¬xs.length<2:=fun h=>c1 (.inr h)
  have c3:¬(xs.length:Int)<2:=fun h=>c3' (Int.ofNat_lt.mp h)
  by_cases c7:r<7
  ·obtain⟨ys,k',a1,a2,a3,a4,a5⟩:=yS (m+1) ns (k+1) hk1 xs 2 3 hx (by decide) (by decide) (Int.not_lt.mp c3)
   have a2:2<=ys.length:=Int.ofNat_le.mp a2
   have a3:ys.length<=3:=Int.ofNat_le.mp a3
   obtain⟨w,ew,kw⟩:∃w,at? [.str "and",.str "or",.str "both"] (r-4)=some (.str w)/\aU xs deep (.tup [.str w,.tup ys]):=by
    rcases Hm c2 c7 with h|h|h<;>rw[h]
    ·exact⟨_,rfl,.and a1 a2 a3⟩
    ·exact⟨_,rfl,.or a1 a2 a3⟩
    ·exact⟨_,rfl,.both a1 a2 a3⟩
   exact⟨_,k',kw,a4,by rw[gZ];simp[dC,er,c2,c3,c3',c7,a5,aN,ew]⟩
  ·by_cases c8:r=7\/deep=0
   ·obtain⟨ys,rs,k',a1,a2,a3,a4,a5,a6,a7⟩:=Ej m ns (k+1) hk1 xs hx h1
    refine⟨_,k',.table a1 a2 a3 a4 a5,a6,?_⟩
    rw[gZ]
    by_cases c9:r=7
    ·subst c9
     simp[dC,er,c3,c3',a7]
    ·have c10:deep=0:=c8.resolve_left c9
     subst c10
     have c9b:(r==7)=false:=beq_false_of_ne c9
     simp[dC,er,c2,c3,c3',c7,c9,c9b,a7]
   ·obtain⟨dp,rfl⟩:=Nat.exists_eq_succ_of_ne_zero (fun h=>c8 (.inr h))
    have c9:r=8:=eight c7 r2 fun h=>c8 (.inl h)
    subst c9
    obtain⟨d,k1,b1,b2,b3⟩:=rec dp rfl (k+1) hk1
    obtain⟨q,q1,q2,eq⟩:=aY (m+2) ns k1 xs.length b2 (Int.ofNat_lt.mpr h1)
    obtain⟨x,ex,mx⟩:=Ie xs q q1 q2
    obtain⟨z,z1,z2,ez⟩:=aY (m+2) ns (k1+1) 2 (Jh b2) (by decide)
    refine⟨_,k1+1+1,.held (b:=z==1) b1 mx,Jh (Jh b2),?_⟩
    rw[gZ]
    have e1:¬((dp:Int)+1=0):=Ut dp
    have e0:((dp:Int)+1==0)=false:=beq_false_of_ne e1
    have e2:(dp:Int)+1-1=dp:=Int.add_sub_cancel _ _
    simp[dC,er,c3,c3',e0,e1,e2,b3,eq,ex,ez,aN]
theorem acK(m deep:Nat):m+deep+1+5=m+6+deep:=by omega
theorem acJ(m deep:Nat):m+6+(deep+1)=m+deep+1+6:=by omega
theorem ud(ns:List Int)(xs:List D)(hx:xs.length<=900)(h1:1<=xs.length):∀(deep m:Nat)(k:Int),0<=k->∃d k',aU xs deep d/\0<=k'/\
  pg.fn (m+6+deep) 22 [.val (sc ns),.bor (.lst [.int k]),.val (.tup xs),.val (.int deep)]=.ok (.val d) [.val (sc ns),.bor (.lst [.int k']),.val (.tup xs),.val (.int deep)]
 |0=>fun m k hk=>rB m ns xs hx h1 0 (fun dp h=>nomatch h) k hk
 |deep+1=>fun m k hk=>by
  have:=rB (m+deep+1) ns xs hx h1 (deep+1) (fun dp h k hk=>by
   cases h
   have q:=ud ns xs hx h1 deep m k hk
   rw[acK m deep]
   exact q) k hk
  rw[acJ m deep]
  exact this
end Tx
end
section
open PySem Mini
namespace Tx
def zH:E:=(.tup (.cons (.var 0) (.cons (.call 22 (.cons (.var 1) (.cons (.ref 2) (.cons (.var 7) (.cons (.con (.int (1))) .nil))))) .nil)))
theorem Gz(n:Nat)(ns:List Int)(k:Int)(hk:0<=k)(xs:List D)(hx:xs.length<=900)(h1:1<=xs.length)(x:D)(s3 s4 s5 s6 s8:Sl):∃d k',aU xs 1 d/\0<=k'/\
  ev (pg.cf (n+7)) zH [.val x,.val (sc ns),.bor (.lst [.int k]),s3,s4,s5,s6,.val (.tup xs),s8]=.ok (.val (.tup [x,d])) [.val x,.val (sc ns),.bor (.lst [.int k']),s3,s4,s5,s6,.val (.tup xs),s8]:=by
 obtain⟨d,k',a1,a2,a3⟩:=ud ns xs hx h1 1 n k hk
 refine⟨d,k',a1,a2,?_⟩
 simp only[Int.natCast_one,show n+6+1=n+7 from rfl]at a3
 simp[zH,a3,aN]
theorem vY(n:Nat)(ns:List Int)(xs:List D)(hx:xs.length<=900)(h1:1<=xs.length)(s3 s4 s5 s6 s8:Sl):∀(row acc:List D)(k:Int)(s:Sl),0<=k->p6 s->∃ks k' s',ks.length=row.length/\(∀d∈ks,aU xs 1 d)/\0<=k'/\p6 s'/\
  aK (.name 0) (ev (pg.cf (n+7)) (.con (.bl true))) (ev (pg.cf (n+7)) zH) row acc [s,.val (sc ns),.bor (.lst [.int k]),s3,s4,s5,s6,.val (.tup xs),s8]
   =.ok (acc++aG row ks) [s',.val (sc ns),.bor (.lst [.int k']),s3,s4,s5,s6,.val (.tup xs),s8]
 |[]=>fun acc k s hk hs=>⟨[],k,s,rfl,fun d h=>(by cases h),hk,hs,by simp[aK,aG]⟩
 |x::row=>fun acc k s hk hs=>by
  obtain⟨d,k1,a1,a2,a3⟩:=Gz n ns k hk xs hx h1 x s3 s4 s5 s6 s8
  obtain⟨ks,k',s',b1,b2,b3,b4,b5⟩:=vY n ns xs hx h1 s3 s4 s5 s6 s8 row (acc++[.tup [x,d]]) k1 (.val x) a2 (.inr ⟨x,rfl⟩)
  refine⟨d::ks,k',s',by simp[b1],fun e h=>?_,b3,b4,?_⟩
  ·rcases List.mem_cons.mp h with rfl|h
   ·exact a1
   ·exact b2 e h
  ·rw[aK,jb hs]
   have e1:∀σ,ev (pg.cf (n+7)) (.con (.bl true)) σ=.ok (.val (.bl true)) σ:=fun σ=>by simp
   simp only[e1,eX,if_true]
   rw[a3,bO,b5]
   simp[aG]
theorem pD(n:Nat)(ns:List Int)(rest:Ev):∀(xs acc:List D)(k:Int)(s:Sl),0<=k->p6 s->∃(bs:List Bool)(k':Int)(s':Sl),bs.length=xs.length/\0<=k'/\p6 s'/\
  aK (.name 0) (ev (pg.cf (n+3)) (.con (.bl true))) (ev (pg.cf (n+3)) kj) xs acc (s:: .val (sc ns):: .bor (.lst [.int k])::rest)=.ok (acc++bs.map .bl) (s':: .val (sc ns):: .bor (.lst [.int k'])::rest)
 |[]=>fun acc k s hk hs=>⟨[],k,s,rfl,hk,hs,by simp[aK]⟩
 |x::xs=>fun acc k s hk hs=>by
  obtain⟨b,e⟩:=uC n ns k hk x rest
  obtain⟨bs,k',s',a1,a2,a3,a4⟩:=pD n ns rest xs (acc++[.bl b]) (k+1) (.val x) (Jh hk) (.inr ⟨x,rfl⟩)
  refine⟨b::bs,k',s',by simp[a1],a2,a3,?_⟩
  rw[aK,jb hs]
  have e1:∀σ,ev (pg.cf (n+3)) (.con (.bl true)) σ=.ok (.val (.bl true)) σ:=fun σ=>by simp
  simp only[e1,eX,if_true]
  rw[e,bO,a4]
  simp
def zq:E:=(.comp 1 (.name 0) (.var 5) (.con (.bl true)) zH)
def zG:E:=(.comp 1 (.name 0) (.var 6) (.con (.bl true)) kj)
def tY:S:=(.cons (.set 6 (.op .add (.var 4) (.var 5))) (.cons (.set 7 (.bi .tuple zq)) (.cons (.ret (.tup (.cons (.var 4) (.cons (.var 7) (.cons (.bi .tuple zG) .nil))))) .nil)))
theorem Gk(n:Nat)(ns:List Int)(k:Int)(hk:0<=k)(heard row:List D)(hx:heard.length+row.length<=900)(h1:1<=row.length)(s2 s3:Sl):∃(ks:List D)(ls:List Bool)(k':Int),ks.length=row.length/\(∀d∈ks,aU (heard++row) 1 d)/\ls.length=(heard++row).length/\0<=k'/\
  ex (pg.cf (n+7)) tY [.val (sc ns),.bor (.lst [.int k]),s2,s3,.val (.tup heard),.val (.tup row),.un,.un]
   =.ret (.val (.tup [.tup heard,.tup (aG row ks),.tup (ls.map .bl)])) [.val (sc ns),.bor (.lst [.int k']),s2,s3,.val (.tup heard),.val (.tup row),.val (.tup (heard++row)),.val (.tup (aG row ks))]:=by
 obtain⟨ks,k1,s',a1,a2,a3,a4,a5⟩:=vY n ns (heard++row) (by simpa using hx) (by simp;omega) s2 s3 (.val (.tup heard)) (.val (.tup row)) .un row [] k .un hk (.inl rfl)
 obtain⟨ls,k',s'',b1,b2,b3,b4⟩:=pD (n+4) ns [s2,s3,.val (.tup heard),.val (.tup row),.val (.tup (heard++row)),.val (.tup (aG row ks))] (heard++row) [] k1 .un a3 (.inl rfl)
 refine⟨ks,ls,k',a1,a2,b1,b2,?_⟩
 have f:fits (heard.length+row.length)=true:=by simp[fits];omega
 have em:ev (pg.cf (n+7)) zq [.val (sc ns),.bor (.lst [.int k]),s2,s3,.val (.tup heard),.val (.tup row),.val (.tup (heard++row)),.un]=.ok (.new (.lst (aG row ks))) [.val (sc ns),.bor (.lst [.int k1]),s2,s3,.val (.tup heard),.val (.tup row),.val (.tup (heard++row)),.un]:=by
  have h:ev (pg.cf (n+7)) (.var 5) [.val (sc ns),.bor (.lst [.int k]),s2,s3,.val (.tup heard),.val (.tup row),.val (.tup (heard++row)),.un]=.ok (.val (.tup row)) [.val (sc ns),.bor (.lst [.int k]),s2,s3,.val (.tup heard),.val (.tup row),.val (.tup (heard++row)),.un]:=by simp
  unfold zq
  rw[kY,h,bO]
  simp only[items]
  rw[show List.replicate 1 Sl.un++[.val (sc ns),.bor (.lst [.int k]),s2,s3,.val (.tup heard),.val (.tup row),.val (.tup (heard++row)),.un]=[.un,.val (sc ns),.bor (.lst [.int k]),s2,s3,.val (.tup heard),.val (.tup row),.val (.tup (heard++row)),.un]from rfl,a5]
  simp
 have el:ev (pg.cf (n+7)) zG [.val (sc ns),.bor (.lst [.int k1]),s2,s3,.val (.tup heard),.val (.tup row),.val (.tup (heard++row)),.val (.tup (aG row ks))]=.ok (.new (.lst (ls.map .bl))) [.val (sc ns),.bor (.lst [.int k']),s2,s3,.val (.tup heard),.val (.tup row),.val (.tup (heard++row)),.val (.tup (aG row ks))]:=by
  have h:ev (pg.cf (n+7)) (.var 6) [.val (sc ns),.bor (.lst [.int k1]),s2,s3,.val (.tup heard),.val (.tup row),.val (.tup (heard++row)),.val (.tup (aG row ks))]=.ok (.val (.tup (heard++row))) [.val (sc ns),.bor (.lst [.int k1]),s2,s3,.val (.tup heard),.val (.tup row),.val (.tup (heard++row)),.val (.tup (aG row ks))]:=by simp
  unfold zG
  rw[kY,h,bO]
  simp only[items]
  rw[show List.replicate 1 Sl.un++[.val (sc ns),.bor (.lst [.int k1]),s2,s3,.val (.tup heard),.val (.tup row),.val (.tup (heard++row)),.val (.tup (aG row ks))]=.un:: .val (sc ns):: .bor (.lst [.int k1])::[s2,s3,.val (.tup heard),.val (.tup row),.val (.tup (heard++row)),.val (.tup (aG row ks))]from rfl,b4]
  simp
 have q1:zq.au=none:=rfl
 have q2:zG.au=none:=rfl
 simp[tY,f,em,el,q1,q2,aN]
def hd(h:Nat):List D:=([.str "a",.str "b",.str "come"]:List D).take h
def bG(g:Nat):List D:=([.str "p",.str "q",.str "rr",.str "go",.str "abcdef"]:List D).take g
theorem jf{h:Nat}(h2:h<=2):(hd h).length=h:=List.length_take_of_le (Nat.le_succ_of_le h2)
theorem di{g:Nat}(g4:g<=5):(bG g).length=g:=List.length_take_of_le g4
def aH(h g:Nat)(ks:List D)(ls:List Bool):D:=.tup [.tup (hd h),.tup (aG (bG g) ks),.tup (ls.map .bl)]
structure cB(h g:Nat)(ks:List D)(ls:List Bool):Prop where
 h2:h<=2
 g1:1<=g
 g5:g<=5
 kl:ks.length=g
 kk:∀d∈ks,aU (hd h++bG g) 1 d
 ll:ls.length=h+g
theorem Sx{ni:Int}{h:Nat}(i2:ni<=2)(r2:(h:Int)<ni+1):h<=2:=by omega
theorem Gm(n:Nat)(ns:List Int)(k:Int)(hk:0<=k)(ni:Int)(i0:0<=ni)(i2:ni<=2):∃h g ks ls k',cB h g ks ls/\0<=k'/\
  pg.fn (n+8) 23 [.val (sc ns),.bor (.lst [.int k]),.val (.int ni),.val (.int 4)]=.ok (.val (aH h g ks ls)) [.val (sc ns),.bor (.lst [.int k']),.val (.int ni),.val (.int 4)]:=by
 obtain⟨r,r1,r2,er⟩:=aY (n+4) ns k (ni+1) hk (Int.lt_add_one_of_le i0)
 obtain⟨q,q1,q2,eq⟩:=aY (n+4) ns (k+1) 4 (Jh hk) (by decide)
 obtain⟨h,rfl⟩:=Int.eq_ofNat_of_zero_le r1
 obtain⟨g,rfl⟩:=Int.eq_ofNat_of_zero_le q1
 have h2:h<=2:=Sx i2 r2
 have g3:g<4:=Int.ofNat_lt.mp q2
 have g1:1<=1+g:=Nat.le_add_right 1 g
 have g5:1+g<=5:=Nat.add_le_add_left (Nat.le_of_lt g3) 1
 have lh:=jf h2
 have lg:=di g5
 obtain⟨ks,ls,k',a1,a2,a3,a4,a5⟩:=Gk n ns (k+1+1) (Jh (Jh hk)) (hd h) (bG (1+g)) (by rw[lh,lg];exact Nat.le_trans (Nat.add_le_add h2 g5) (by decide)) (by rw[lg];exact g1) (.val (.int ni)) (.val (.int 4))
 refine⟨h,1+g,ks,ls,k',⟨h2,g1,g5,a1.trans lg,a2,by rw[a3,List.length_append,lh,lg]⟩,a4,?_⟩
 rw[Bh]
 have hb:sy=⟨4,8,(.cons (.set 4 (.slc (.tup (.cons (.con (.str "a")) (.cons (.con (.str "b")) (.cons (.con (.str "come")) .nil)))) .noneE (.call 19 (.cons (.var 0) (.cons (.ref 1) (.cons (.op .add (.var 2) (.con (.int (1)))) .nil)))))) (.cons (.set 5 (.slc (.tup (.cons (.con (.str "p")) (.cons (.con (.str "q")) (.cons (.con (.str "rr")) (.cons (.con (.str "go")) (.cons (.con (.str "abcdef")) .nil)))))) .noneE (.op .add (.con (.int (1))) (.call 19 (.cons (.var 0) (.cons (.ref 1) (.cons (.var 3) .nil))))))) tY))⟩:=rfl
 rw[hb]
 have c1:gn (.tup [.str "a",.str "b",.str "come"]) none (some (h:Int))=some (.val (.tup (hd h))):=by
  rcases h with _|_|_|h
  ·rfl
  ·rfl
  ·rfl
  ·exact absurd h2 (by simp)
 have c2:gn (.tup [.str "p",.str "q",.str "rr",.str "go",.str "abcdef"]) none (some (1+(g:Int)))=some (.val (.tup (bG (1+g)))):=by
  rcases g with _|_|_|_|g
  ·rfl
  ·rfl
  ·rfl
  ·rfl
  ·exact absurd g3 (by simp)
 simp[er,eq,aN,b8,E.je,c1,c2,a5,aH]
end Tx
end
section
open PySem Mini
namespace Tx
theorem aL(n:Nat)(xs:List D)(a b:Int)(h1:a<=xs.length)(h2:xs.length<=b):pg.fn (n+1) 3 [.val (.tup xs),.val (.int a),.val (.int b)]=.ok (.val (.bl true)) [.val (.tup xs),.val (.int a),.val (.int b)]:=by
 rw[jJ]
 simp[iu,h1,h2]
def Qe:E:=.bi .all (.comp 1 (.name 0) (.var 0) (.con (.bl true)) (.isi (.var 0) .bool))
theorem rG(n:Nat)(bs:List Bool)(m:Int)(h:m=bs.length):pg.fn (n+2) 6 [.val (aV bs),.val (.int m)]=.ok (.val (.bl true)) [.val (aV bs),.val (.int m)]:=by
 subst h
 have e:ev (pg.cf (n+1)) Qe [.val (aV bs),.val (.int bs.length)]=.ok (.val (.bl true)) [.val (aV bs),.val (.int bs.length)]:=by
  refine all1 (d:=aV bs) (xs:=bs.map .bl) (r:=.val (aV bs)) (by simp) rfl rfl fun x hx=>?_
  obtain⟨b,_,rfl⟩:=List.mem_map.mp hx
  simp
 have t:pg.fn (n+1) 3 [.val (aV bs),.val (.int bs.length),.val (.int bs.length)]=.ok (.val (.bl true)) [.val (aV bs),.val (.int bs.length),.val (.int bs.length)]:=aL n (bs.map .bl) bs.length bs.length (by simp) (by simp)
 rw[Fg]
 have hb:wH=⟨2,2,(.cons (.ret (.and (.cons (.call 3 (.cons (.var 0) (.cons (.var 1) (.cons (.var 1) .nil)))) (.cons Qe .nil)))) .nil)⟩:=rfl
 rw[hb]
 simp[t,e]
def iM(xs:List D):Prop:=∀x∈xs,∃s,x=.str s
theorem lQ{xs:List D}(h:iM xs):xs.all flat=true:=by
 rw[List.all_eq_true]
 intro x hx
 obtain⟨s,rfl⟩:=h x hx
 rfl
theorem zM{xs:List D}{x:D}(hx:x∈xs)(h:iM xs):cV x xs=true:=by
 induction xs with
 |nil=>cases hx
 |cons y ys ih=>
  unfold cV
  rcases List.mem_cons.mp hx with rfl|hx
  ·obtain⟨s,rfl⟩:=h x List.mem_cons_self
   simp[bZ]
  ·simp[ih hx fun z hz=>h z (List.mem_cons_of_mem _ hz)]
theorem yj{xs:List D}(h:iM xs)(nd:xs.Nodup){x:D}(hx:x∈xs):eO x xs=1:=by
 induction xs with
 |nil=>cases hx
 |cons y ys ih=>
  have hys:iM ys:=fun z hz=>h z (List.mem_cons_of_mem _ hz)
  obtain⟨s,rfl⟩:=h y List.mem_cons_self
  rw[List.nodup_cons]at nd
  have zero:∀{zs:List D},iM zs->D.str s∉zs->eO (.str s) zs=0:=by
   intro zs
   induction zs with
   |nil=>intro _ _;rfl
   |cons z zs ihz=>
    intro hz hn
    obtain⟨q,rfl⟩:=hz z List.mem_cons_self
    have ne:q≠s:=fun e=>hn (by rw[e];exact List.mem_cons_self)
    simp[eO,bZ,ne,ihz (fun w hw=>hz w (List.mem_cons_of_mem _ hw)) fun hw=>hn (List.mem_cons_of_mem _ hw)]
  rcases List.mem_cons.mp hx with rfl|hx
  ·simp[eO,bZ,zero hys nd.1]
  ·obtain⟨q,rfl⟩:=hys x hx
   have ne:s≠q:=fun e=>nd.1 (by rw[e];exact hx)
   simp[eO,bZ,ne,ih hys nd.2 hx]
theorem dB(n:Nat){xs:List D}{d:D}(dd:d=.tup xs\/d=.lst xs)(h:iM xs){x:D}(hx:x∈xs):pg.fn (n+1) 7 [.val x,.val d]=.ok (.val (.bl true)) [.val x,.val d]:=by
 obtain⟨s,rfl⟩:=h x hx
 rw[gG]
 have o:lN (.str s) xs=true:=by
  unfold lN
  rw[lQ h]
  rfl
 have e:aC .isin (.str s) d=some true:=by
  rcases dd with rfl|rfl<;>(show(if lN (.str s) xs then some (cV (.str s) xs)else none)=_;rw[o,zM hx h];rfl)
 simp[fK,e]
def sS:E:=.bi .all (.comp 1 (.name 0) (.var 0) (.con (.bl true)) (.cmp .eq (.count (.var 1) (.var 0)) (.con (.int (1)))))
theorem jE(n:Nat){xs:List D}{d:D}(hd:d=.tup xs\/d=.lst xs)(h:iM xs)(nd:xs.Nodup):pg.fn (n+1) 5 [.val d]=.ok (.val (.bl true)) [.val d]:=by
 have f:=lQ h
 have e:ev (pg.cf n) sS [.val d]=.ok (.val (.bl true)) [.val d]:=by
  refine all1 (d:=d) (xs:=xs) (r:=.val d) (by simp) rfl (by rcases hd with rfl|rfl<;>rfl) fun x hx=>?_
  have c:=yj h nd hx
  obtain⟨s,rfl⟩:=h x hx
  have e1:uD (.tup xs) (.str s)=some (.val (.int 1)):=by
   simp only[uD]
   rw[f,c]
   rfl
  have e2:uD (.lst xs) (.str s)=some (.val (.int 1)):=e1
  rcases hd with rfl|rfl<;>simp[e1,e2]
 have hb:kJ=⟨1,1,(.cons (.ret sS) .nil)⟩:=rfl
 rw[tH,hb]
 have q:sS.au=none:=rfl
 simp[e,q]
def ww:D->D
 |.tup (a::_)=>a
 |_=>.non
theorem sI:∀(gs ks:List D),ks.length=gs.length->(aG gs ks).map ww=gs
 |[],ks=>fun _=>by simp[aG]
 |g::gs,[]=>fun h=>by simp at h
 |g::gs,k::ks=>fun h=>by simp[aG,ww,sI gs ks (by simpa using h)]
def wu(it:E):E:=.comp 1 (.name 0) it (.con (.bl true)) (.idx (.var 0) (.con (.int (0))))
theorem pB{c:Cf}{σ:Ev}{it:E}(gs ks:List D)(hl:ks.length=gs.length)(hi:ev c it σ=.ok (.val (.tup (aG gs ks))) σ):ev c (wu it) σ=.ok (.new (.lst gs)) σ:=by
 have:=Qa (el:=.idx (.var 0) (.con (.int (0)))) ww hi rfl rfl fun y hy=>by
  rw[cJ]at hy
  obtain⟨p,_,rfl⟩:=List.mem_map.mp hy
  simp[pairD,ww]
 rw[sI gs ks hl]at this
 exact this
theorem jB(n:Nat)(hs gs:List D)(ks:List D)(x:D)(hl:ks.length=gs.length)(hf:hs.length+gs.length<=1000):
  pg.fn (n+1) 12 [.val (.tup [.tup hs,.tup (aG gs ks),x])]=.ok (.new (.lst (hs++gs))) [.val (.tup [.tup hs,.tup (aG gs ks),x])]:=by
 have e:=pB (c:=pg.cf n) (it:=.idx (.var 0) (.con (.int (1)))) (σ:=[.val (.tup [.tup hs,.tup (aG gs ks),x])]) gs ks hl (by simp)
 have f:fits (hs.length+gs.length)=true:=by simp[fits];omega
 have hb:kI=⟨1,1,.cons (.ret (.op .add (.bi .list (.idx (.var 0) (.con (.int (0))))) (wu (.idx (.var 0) (.con (.int (1))))))) .nil⟩:=rfl
 rw[tB,hb]
 simp[e,f]
end Tx
end
section
open PySem Mini
namespace Tx
@[simp↓]theorem Nt:decide (Str.ofString "same"=Str.ofString "same")=true:=rfl
@[simp↓]theorem Vb:decide (Str.ofString "not"=Str.ofString "not")=true:=rfl
@[simp↓]theorem Vg:decide (Str.ofString "and"=Str.ofString "and")=true:=rfl
@[simp↓]theorem aae:decide (Str.ofString "or"=Str.ofString "or")=true:=rfl
@[simp↓]theorem NZ:decide (Str.ofString "both"=Str.ofString "both")=true:=rfl
@[simp↓]theorem Je:decide (Str.ofString "table"=Str.ofString "table")=true:=rfl
@[simp↓]theorem NK:decide (Str.ofString "held"=Str.ofString "held")=true:=rfl
@[simp]theorem Qq:decide (Str.ofString "same"=Str.ofString "not")=false:=rfl
@[simp]theorem Qs:decide (Str.ofString "same"=Str.ofString "and")=false:=rfl
@[simp]theorem U7:decide (Str.ofString "same"=Str.ofString "or")=false:=rfl
@[simp]theorem Nv:decide (Str.ofString "same"=Str.ofString "both")=false:=rfl
@[simp]theorem Jp:decide (Str.ofString "same"=Str.ofString "table")=false:=rfl
@[simp]theorem Nu:decide (Str.ofString "same"=Str.ofString "held")=false:=rfl
@[simp]theorem Qu:decide (Str.ofString "not"=Str.ofString "same")=false:=rfl
@[simp]theorem Vc:decide (Str.ofString "not"=Str.ofString "and")=false:=rfl
@[simp]theorem Wm:decide (Str.ofString "not"=Str.ofString "or")=false:=rfl
@[simp]theorem Qw:decide (Str.ofString "not"=Str.ofString "both")=false:=rfl
@[simp]theorem Ny:decide (Str.ofString "not"=Str.ofString "table")=false:=rfl
@[simp]theorem Qv:decide (Str.ofString "not"=Str.ofString "held")=false:=rfl
@[simp]theorem QC:decide (Str.ofString "and"=Str.ofString "same")=false:=rfl
@[simp]theorem Vf:decide (Str.ofString "and"=Str.ofString "not")=false:=rfl
@[simp]theorem Wn:decide (Str.ofString "and"=Str.ofString "or")=false:=rfl
@[simp]theorem QF:decide (Str.ofString "and"=Str.ofString "both")=false:=rfl
@[simp]theorem N7:decide (Str.ofString "and"=Str.ofString "table")=false:=rfl
@[simp]theorem QD:decide (Str.ofString "and"=Str.ofString "held")=false:=rfl
@[simp]theorem U8:decide (Str.ofString "or"=Str.ofString "same")=false:=rfl
@[simp]theorem Wk:decide (Str.ofString "or"=Str.ofString "not")=false:=rfl
@[simp]theorem Wl:decide (Str.ofString "or"=Str.ofString "and")=false:=rfl
@[simp]theorem Va:decide (Str.ofString "or"=Str.ofString "both")=false:=rfl
@[simp]theorem Qt:decide (Str.ofString "or"=Str.ofString "table")=false:=rfl
@[simp]theorem U9:decide (Str.ofString "or"=Str.ofString "held")=false:=rfl
@[simp]theorem NQ:decide (Str.ofString "both"=Str.ofString "same")=false:=rfl
@[simp]theorem Qz:decide (Str.ofString "both"=Str.ofString "not")=false:=rfl
@[simp]theorem QB:decide (Str.ofString "both"=Str.ofString "and")=false:=rfl
@[simp]theorem Ve:decide (Str.ofString "both"=Str.ofString "or")=false:=rfl
@[simp]theorem Jr:decide (Str.ofString "both"=Str.ofString "table")=false:=rfl
@[simp]theorem NT:decide (Str.ofString "both"=Str.ofString "held")=false:=rfl
@[simp]theorem Jl:decide (Str.ofString "table"=Str.ofString "same")=false:=rfl
@[simp]theorem Nq:decide (Str.ofString "table"=Str.ofString "not")=false:=rfl
@[simp]theorem Nr:decide (Str.ofString "table"=Str.ofString "and")=false:=rfl
@[simp]theorem Qp:decide (Str.ofString "table"=Str.ofString "or")=false:=rfl
@[simp]theorem Jo:decide (Str.ofString "table"=Str.ofString "both")=false:=rfl
@[simp]theorem Jm:decide (Str.ofString "table"=Str.ofString "held")=false:=rfl
@[simp]theorem NB:decide (Str.ofString "held"=Str.ofString "same")=false:=rfl
@[simp]theorem Qx:decide (Str.ofString "held"=Str.ofString "not")=false:=rfl
@[simp]theorem Qy:decide (Str.ofString "held"=Str.ofString "and")=false:=rfl
@[simp]theorem Vd:decide (Str.ofString "held"=Str.ofString "or")=false:=rfl
@[simp]theorem NP:decide (Str.ofString "held"=Str.ofString "both")=false:=rfl
@[simp]theorem Jq:decide (Str.ofString "held"=Str.ofString "table")=false:=rfl
@[simp]theorem Py:aC .isin (.str "same") (.tup [.str "same",.str "not"])=some true:=rfl
@[simp]theorem Tr:aC .isin (.str "not") (.tup [.str "same",.str "not"])=some true:=rfl
@[simp]theorem Tv:aC .isin (.str "and") (.tup [.str "same",.str "not"])=some false:=rfl
@[simp]theorem VF:aC .isin (.str "or") (.tup [.str "same",.str "not"])=some false:=rfl
@[simp]theorem PB:aC .isin (.str "both") (.tup [.str "same",.str "not"])=some false:=rfl
@[simp]theorem Ma:aC .isin (.str "table") (.tup [.str "same",.str "not"])=some false:=rfl
@[simp]theorem Pz:aC .isin (.str "held") (.tup [.str "same",.str "not"])=some false:=rfl
@[simp]theorem Tq:aC .isin (.str "same") (.tup [.str "and",.str "or"])=some false:=rfl
@[simp]theorem VG:aC .isin (.str "not") (.tup [.str "and",.str "or"])=some false:=rfl
@[simp]theorem VH:aC .isin (.str "and") (.tup [.str "and",.str "or"])=some true:=rfl
@[simp]theorem Ze:aC .isin (.str "or") (.tup [.str "and",.str "or"])=some true:=rfl
@[simp]theorem Tu:aC .isin (.str "both") (.tup [.str "and",.str "or"])=some false:=rfl
@[simp]theorem Px:aC .isin (.str "table") (.tup [.str "and",.str "or"])=some false:=rfl
@[simp]theorem Tt:aC .isin (.str "held") (.tup [.str "and",.str "or"])=some false:=rfl
theorem gl5:pg.gl 5=some (.int 4):=rfl
theorem gl6:pg.gl 6=some (.int 8):=rfl
theorem gl7:pg.gl 7=some (.int 3):=rfl
def Ds:E:=.bi .all (.comp 1 (.name 0) (.var 0) (.con (.bl true)) (.call 7 (.cons (.var 0) (.cons (.var 2) .nil))))
theorem fH(n:Nat){xs ys:List D}{d:D}(dd:d=.tup xs\/d=.lst xs)(h:iM xs)(nd:xs.Nodup)(hs:ys.Sublist xs)(a b:Int)(h1:a<=ys.length)(h2:ys.length<=b):
  pg.fn (n+2) 8 [.val (.tup ys),.val d,.val (.int a),.val (.int b)]=.ok (.val (.bl true)) [.val (.tup ys),.val d,.val (.int a),.val (.int b)]:=by
 have hy:iM ys:=fun z hz=>h z (hs.subset hz)
 have e:ev (pg.cf (n+1)) Ds [.val (.tup ys),.val d,.val (.int a),.val (.int b)]=.ok (.val (.bl true)) [.val (.tup ys),.val d,.val (.int a),.val (.int b)]:=by
  refine all1 (d:=.tup ys) (xs:=ys) (r:=.val (.tup ys)) (by simp) rfl rfl fun x hx=>?_
  have w:=dB n dd h (hs.subset hx)
  simp[w]
 have u:=jE n (.inl rfl) hy (hs.nodup nd)
 have t:=aL n ys a b h1 h2
 have hb:mH=⟨4,4,(.cons (.ite (.not (.call 3 (.cons (.var 0) (.cons (.var 2) (.cons (.var 3) .nil))))) (.cons (.ret (.con (.bl false))) .nil) .nil) (.cons (.ret (.and (.cons Ds (.cons (.call 5 (.cons (.var 0) .nil)) .nil)))) .nil))⟩:=rfl
 rw[vD,hb]
 simp[t,e,u]
theorem ade(xs:List D):cut xs (some 1) none=xs.tail:=by
 cases xs with
 |nil=>rfl
 |cons x xs=>
  have:clip (xs.length+1) 1=1:=by simp[clip];omega
  simp[cut,this]
theorem rH:∀(rs:List (List Bool)),v7 rs=true->∀p∈rs.zip rs.tail,iK p.1 p.2=true
 |[]=>fun _ p h=>by simp at h
 |[a]=>fun _ p h=>by simp at h
 |a::b::r=>fun hi p h=>by
  simp only[v7,Bool.and_eq_true]at hi
  simp only[List.tail_cons,List.zip_cons_cons,List.mem_cons]at h
  rcases h with rfl|h
  ·exact hi.1
  ·exact rH (b::r) hi.2 p (by simpa using h)
def Oi:E:=.bi .all (.comp 1 (.name 0) (.var 0) (.con (.bl true)) (.call 6 (.cons (.var 0) (.cons (.var 2) .nil))))
def upC:E:=.bi .all (.comp 2 (.tup [0,1]) (.zip (.var 0) (.slc (.var 0) (.con (.int (1))) .noneE)) (.con (.bl true)) (.cmp .lt (.var 0) (.var 1)))
theorem wK(n:Nat)(rs:List (List Bool))(m:Nat)(h:∀r∈rs,r.length=m)(hi:v7 rs=true):
  pg.fn (n+3) 9 [.val (.tup (rs.map aV)),.val (.int m)]=.ok (.val (.bl true)) [.val (.tup (rs.map aV)),.val (.int m)]:=by
 have e1:ev (pg.cf (n+2)) Oi [.val (.tup (rs.map aV)),.val (.int m)]=.ok (.val (.bl true)) [.val (.tup (rs.map aV)),.val (.int m)]:=by
  refine all1 (d:=.tup (rs.map aV)) (xs:=rs.map aV) (r:=.val (.tup (rs.map aV))) (by simp) rfl rfl fun x hx=>?_
  obtain⟨r,hr,rfl⟩:=List.mem_map.mp hx
  have w:=rG n r m (by rw[h r hr])
  simp[w]
 have e2:ev (pg.cf (n+2)) upC [.val (.tup (rs.map aV)),.val (.int m)]=.ok (.val (.bl true)) [.val (.tup (rs.map aV)),.val (.int m)]:=by
  have hz:aG (rs.map aV) (rs.map aV).tail=((rs.zip rs.tail).map fun p=>(aV p.1,aV p.2)).map pairD:=by
   rw[cJ,<-List.map_tail,List.zip_map]
   rfl
  refine all2 (d:=.lst (aG (rs.map aV) (rs.map aV).tail)) (ps:=(rs.zip rs.tail).map fun p=>(aV p.1,aV p.2)) (r:=.val (.lst (aG (rs.map aV) (rs.map aV).tail))) ?_ rfl (by show some _=some _;rw[hz]) fun x hx=>?_
  ·simp[b8,E.je,gn,ade]
  ·obtain⟨p,hp,rfl⟩:=List.mem_map.mp hx
   have l:=rH rs hi p hp
   have lt:aC .lt (aV p.1) (aV p.2)=some true:=by
    simp[aC,ltD,aV,wG,l]
   simp[lt]
 have hb:pW=⟨2,2,(.cons (.ite (.or (.cons (.not (.isi (.var 0) .tup)) (.cons (.not Oi) .nil))) (.cons (.ret (.con (.bl false))) .nil) .nil) (.cons (.ret upC) .nil))⟩:=rfl
 have q:upC.au=none:=rfl
 rw[xG,hb]
 simp[e1,e2,q]
theorem BR(n k:Nat):n+4+2*k=n+2+2*k+1+1:=by omega
theorem Ly(n k:Nat):n+1+2*k+2=n+2+2*k+1:=by omega
theorem acI(n k:Nat):n+2*k+3=n+2+2*k+1:=by omega
theorem acH(n k:Nat):n+3+2*k+1=n+4+2*k:=by omega
theorem acG(n k:Nat):n+4+2*(k+1)=n+4+2*k+1+1:=by omega
theorem zB{a:Nat}{c d:Nat}(h1:c<=a)(h2:d<=c):(d:Int)<=a:=Int.ofNat_le.mpr (Nat.le_trans h2 h1)
theorem zE{a:Nat}{c d:Nat}(h1:a<=c)(h2:c<=d):(a:Int)<=d:=Int.ofNat_le.mpr (Nat.le_trans h1 h2)
theorem oZ{xs:List D}(h:iM xs)(nd:xs.Nodup):∀{k:Nat}{d:D},aU xs k d->∀(n:Nat)(dp:Int),dp+k<=3->
  pg.fn (n+4+2*k) 10 [.val d,.val (.lst xs),.val (.int dp)]=.ok (.val (.bl true)) [.val d,.val (.lst xs),.val (.int dp)]:=by
 intro k d hk
 induction hk with
 | @same k x hx=>
  intro n dp _
  have t:=aL (n+2+2*k) [.str "same",x] 2 4 (by simp) (by simp)
  have w:=dB (n+2+2*k) (.inr rfl) h hx
  rw[BR,cM]
  simp[b7,t,w,aN]
 | @not k x hx=>
  intro n dp _
  have t:=aL (n+2+2*k) [.str "not",x] 2 4 (by simp) (by simp)
  have w:=dB (n+2+2*k) (.inr rfl) h hx
  rw[BR,cM]
  simp[b7,t,w,aN]
 | @and k ys hs h1 h2=>
  intro n dp _
  have t:=aL (n+2+2*k) [.str "and",.tup ys] 2 4 (by simp) (by simp)
  have w:=fH (n+1+2*k) (.inr rfl) h nd hs 1 4 (zB h1 (by decide)) (zE h2 (by decide))
  rw[Ly]at w
  rw[BR,cM]
  simp[b7,t,w,aN,gl5]
 | @or k ys hs h1 h2=>
  intro n dp _
  have t:=aL (n+2+2*k) [.str "or",.tup ys] 2 4 (by simp) (by simp)
  have w:=fH (n+1+2*k) (.inr rfl) h nd hs 1 4 (zB h1 (by decide)) (zE h2 (by decide))
  rw[Ly]at w
  rw[BR,cM]
  simp[b7,t,w,aN,gl5]
 | @both k ys hs h1 h2=>
  intro n dp _
  have t:=aL (n+2+2*k) [.str "both",.tup ys] 2 4 (by simp) (by simp)
  have w:=fH (n+1+2*k) (.inr rfl) h nd hs 2 4 (zB h1 (by decide)) (zE h2 (by decide))
  rw[Ly]at w
  rw[BR,cM]
  simp[b7,t,w,aN,gl5]
 | @table k ys rs hs h1 h2 hr hi=>
  intro n dp _
  have t:=aL (n+2+2*k) [.str "table",.tup ys,.tup (rs.map aV)] 2 4 (by simp) (by simp)
  have w:=fH (n+1+2*k) (.inr rfl) h nd hs 1 8 (zB h1 (by decide)) (zE h2 (by decide))
  rw[Ly]at w
  have z:=wK (n+2*k) rs ys.length hr hi
  rw[acI]at z
  rw[BR,cM]
  simp[b7,t,w,z,aN,gl6]
 | @held k d x b hk hx ih=>
  intro n dp hd
  have t:=aL (n+4+2*k) [.str "held",d,x,.bl b] 2 4 (by simp) (by simp)
  have i:=ih n (dp+1) (by omega)
  have w:=dB (n+3+2*k) (.inr rfl) h hx
  rw[acH]at w
  have hl:pg.fn (n+4+2*k+1) 11 [.val (.tup [.str "held",d,x,.bl b]),.val (.lst xs),.val (.int (dp+1))]=.ok (.val (.bl true)) [.val (.tup [.str "held",d,x,.bl b]),.val (.lst xs),.val (.int (dp+1))]:=by
   rw[qQ]
   simp[lV,i,w]
  have lt:dp<3:=by omega
  rw[acG,cM]
  simp[b7,t,hl,aN,gl7,lt]
end Tx
end
section
open PySem Mini
namespace Tx
def O3(h g:Nat):List Str:=(["a","b","come"]:List Str).take h++(["p","q","rr","go","abcdef"]:List Str).take g
def names(h g:Nat):List D:=hd h++bG g
theorem j0(h g:Nat):names h g=(O3 h g).map .str:=by
 simp[names,O3,hd,bG,List.map_take]
theorem qg{ss:List Str}(h:ss.Nodup):(ss.map D.str).Nodup:=by
 induction ss with
 |nil=>simp
 |cons s ss ih=>
  rw[List.nodup_cons]at h
  rw[List.map_cons,List.nodup_cons]
  exact⟨fun z=>h.1 (by simpa using z),ih h.2⟩
theorem names_nodup{h g:Nat}(h2:h<=2)(g1:1<=g)(g4:g<=5):(names h g).Nodup:=by
 rw[j0]
 refine qg ?_
 exact((List.take_sublist h _).append (List.take_sublist g _)).nodup (by decide)
theorem cG(h g:Nat):iM (names h g):=fun x hx=>by
 rw[j0]at hx
 obtain⟨s,_,rfl⟩:=List.mem_map.mp hx
 exact⟨s,rfl⟩
theorem lH{h g:Nat}(h2:h<=2)(g4:g<=5):(names h g).length=h+g:=by
 rw[names,List.length_append,jf h2,di g4]
theorem Le(n:Nat)(s:Str)(hs:s∈O3 3 5):pg.fn (n+1) 4 [.val (.str s)]=.ok (.val (.bl true)) [.val (.str s)]:=by
 have:O3 3 5=(["a","b","come","p","q","rr","go","abcdef"]:List Str):=by rfl
 rw[this]at hs
 rw[Bj]
 simp only[List.mem_cons,List.not_mem_nil,or_false]at hs
 rcases hs with rfl|rfl|rfl|rfl|rfl|rfl|rfl|rfl<;>kernel_rfl
theorem zp{h g:Nat}{s:Str}(hs:s∈O3 h g):s∈O3 3 5:=by
 unfold O3 at*
 rw[List.mem_append]at*
 rcases hs with hs|hs
 ·exact .inl (by have:=List.mem_of_mem_take hs;simpa using this)
 ·exact .inr (by have:=List.mem_of_mem_take hs;simpa using this)
theorem gl3:pg.gl 3=some (.int 3):=rfl
theorem gl4:pg.gl 4=some (.int 5):=rfl
def xO:E:=.bi .all (.comp 1 (.name 0) (.idx (.var 0) (.con (.int (1)))) (.con (.bl true)) (.call 3 (.cons (.var 0) (.cons (.con (.int (2))) (.cons (.con (.int (2))) .nil)))))
theorem sH{xs ys:List D}(h:ys.length=xs.length):(aG xs ys).length=xs.length:=by
 rw[cJ];simp[h]
section
variable{h g:Nat}{ks:List D}{ls:List Bool}
def g8(h g:Nat)(ks:List D)(X:D):D:=.tup [.tup (hd h),.tup (aG (bG g) ks),X]
theorem v8(n:Nat)(O:cB h g ks ls)(X:D):pg.fn (n+2) 2 [.val (g8 h g ks X)]=.ok (.val (.bl true)) [.val (g8 h g ks X)]:=by
 have lg:=di O.g5
 have lh:=jf O.h2
 have lz:(aG (bG g) ks).length=g:=by rw[sH (by rw[lg,O.kl]),lg]
 have e:ev (pg.cf (n+1)) xO [.val (g8 h g ks X)]=.ok (.val (.bl true)) [.val (g8 h g ks X)]:=by
  refine all1 (d:=.tup (aG (bG g) ks)) (xs:=aG (bG g) ks) (r:=.val (.tup (aG (bG g) ks))) (by simp[g8]) rfl rfl fun x hx=>?_
  rw[cJ]at hx
  obtain⟨p,_,rfl⟩:=List.mem_map.mp hx
  have t:=aL n [p.1,p.2] 2 2 (by simp) (by simp)
  simp[pairD,t]
 have t1:=aL n (hd h) 0 3 (by omega) (by have:=O.h2;omega)
 have t2:=aL n (aG (bG g) ks) 1 5 (by have:=O.g1;omega) (by have:=O.g5;omega)
 have hb:mG=⟨1,1,(.cons (.ite (.or (.cons (.not (.call 3 (.cons (.idx (.var 0) (.con (.int (0)))) (.cons (.con (.int (0))) (.cons (.glob 3) .nil))))) (.cons (.not (.call 3 (.cons (.idx (.var 0) (.con (.int (1)))) (.cons (.con (.int (1))) (.cons (.glob 4) .nil))))) .nil))) (.cons (.ret (.con (.bl false))) .nil) .nil) (.cons (.ret xO) .nil))⟩:=rfl
 have q:xO.au=none:=rfl
 rw[vC,hb]
 simp only[g8]at*
 simp[t1,t2,gl3,gl4,e,q]
def O6:E:=.bi .all (.comp 1 (.name 0) (.var 1) (.con (.bl true)) (.call 4 (.cons (.var 0) .nil)))
def O8:E:=.bi .all (.comp 2 (.tup [0,1]) (.idx (.var 0) (.con (.int (1)))) (.con (.bl true)) (.call 10 (.cons (.var 1) (.cons (.var 3) (.cons (.con (.int (0))) .nil)))))
theorem G6(n:Nat)(O:cB h g ks ls)(X:D)(b:Bool)(t5:pg.fn (n+6) 6 [.val X,.val (.int (names h g).length)]=.ok (.val (.bl b)) [.val X,.val (.int (names h g).length)]):pg.fn (n+7) 1 [.val (g8 h g ks X)]=.ok (.val (.bl b)) [.val (g8 h g ks X)]:=by
 have lg:=di O.g5
 have lh:=jf O.h2
 have T:=cG h g
 have Nd:=names_nodup O.h2 O.g1 O.g5
 have L:=lH (g:=g) O.h2 O.g5
 have t1:=aL (n+5) [.tup (hd h),.tup (aG (bG g) ks),X] 3 3 (by simp) (by simp)
 have t2:=v8 (n+4) O X
 have t3:=jB (n+5) (hd h) (bG g) ks X (by rw[O.kl,lg]) (by have:=O.h2;have:=O.g5;omega)
 have t4:=jE (n+5) (d:=.lst (names h g)) (.inr rfl) T Nd
 have e1:ev (pg.cf (n+6)) O6 [.val (g8 h g ks X),.own (.lst (names h g))]=.ok (.val (.bl true)) [.val (g8 h g ks X),.val (.lst (names h g))]:=by
  refine all1 (d:=.lst (names h g)) (xs:=names h g) (r:=.val (.lst (names h g))) (by simp) rfl rfl fun x hx=>?_
  rw[j0]at hx
  obtain⟨s,hs,rfl⟩:=List.mem_map.mp hx
  have w:=Le (n+5) s (zp hs)
  simp[w]
 have e2:ev (pg.cf (n+6)) O8 [.val (g8 h g ks X),.val (.lst (names h g))]=.ok (.val (.bl true)) [.val (g8 h g ks X),.val (.lst (names h g))]:=by
  refine all2 (d:=.tup (aG (bG g) ks)) (ps:=(bG g).zip ks) (r:=.val (.tup (aG (bG g) ks))) (by simp[g8]) rfl (by show some _=some _;rw[cJ]) fun x hx=>?_
  have hk:=O.kk x.2 (List.of_mem_zip hx).2
  have w:=oZ T Nd hk n 0 (by decide)
  rw[show n+4+2*1=n+6 from rfl]at w
  simp[w]
 have hb:wI=⟨1,2,(.cons (.ite (.or (.cons (.not (.call 3 (.cons (.var 0) (.cons (.con (.int (3))) (.cons (.con (.int (3))) .nil))))) (.cons (.not (.call 2 (.cons (.var 0) .nil))) .nil))) (.cons (.ret (.con (.bl false))) .nil) .nil) (.cons (.set 1 (.call 12 (.cons (.var 0) .nil))) (.cons (.ite (.or (.cons (.not O6) (.cons (.not (.call 5 (.cons (.var 1) .nil))) .nil))) (.cons (.ret (.con (.bl false))) .nil) .nil) (.cons (.ret (.and (.cons O8 (.cons (.call 6 (.cons (.idx (.var 0) (.con (.int (2)))) (.cons (.bi .len (.var 1)) .nil))) .nil)))) .nil))))⟩:=rfl
 rw[Fi,hb]
 have nn:hd h++bG g=names h g:=rfl
 rw[nn]at t3
 have g2:getD (g8 h g ks X) (.int 2)=some X:=by simp[g8]
 have t1':pg.fn (n+6) 3 [.val (g8 h g ks X),.val (.int 3),.val (.int 3)]=.ok (.val (.bl true)) [.val (g8 h g ks X),.val (.int 3),.val (.int 3)]:=t1
 have t3':pg.fn (n+6) 12 [.val (g8 h g ks X)]=.ok (.new (.lst (names h g))) [.val (g8 h g ks X)]:=t3
 simp[t1',t2,t3',e1,t4,e2,g2,t5]
theorem BW(n:Nat)(O:cB h g ks ls):pg.fn (n+7) 1 [.val (aH h g ks ls)]=.ok (.val (.bl true)) [.val (aH h g ks ls)]:=
 G6 n O (aV ls) true (rG (n+4) ls (names h g).length (by rw[lH O.h2 O.g5,O.ll]))
theorem jP(n:Nat)(O:cB h g ks ls):pg.fn (n+8) 0 [.val (aH h g ks ls)]=.ok (.val (aH h g ks ls)) [.val (aH h g ks ls)]:=by
 have t:=BW n O
 rw[Bk]
 simp[sE,t]
end
end Tx
end
section
open PySem Mini
namespace Tx
theorem goD(τ:Int->Ev){cond elt:Ev->Out Rv}(P:D->D->Prop)(all:Bool):∀(xs acc:List D)(k:Int)(s:Sl),0<=k->bK s->
  (∀x∈xs,∀k,0<=k->∃b k',0<=k'/\(all=true->b=true)/\cond (.val x::τ k)=.ok (.val (.bl b)) (.val x::τ k'))->
  (∀x∈xs,∀k,0<=k->∃y k',0<=k'/\P x y/\elt (.val x::τ k)=.ok (.val y) (.val x::τ k'))->
  ∃(zs:List (D×D))(k':Int)(s':Sl),(zs.map (·.1)).Sublist xs/\(all=true->zs.map (·.1)=xs)/\(∀p∈zs,P p.1 p.2)/\0<=k'/\aK (.name 0) cond elt xs acc (s::τ k)=.ok (acc++zs.map (·.2)) (s'::τ k')
 |[]=>fun acc k s hk _ _ _=>⟨[],k,s,List.Sublist.refl _,fun _=>rfl,fun p h=>(by cases h),hk,by simp[aK]⟩
 |x::xs=>fun acc k s hk hs hc he=>by
  obtain⟨b,k1,a1,a2,a3⟩:=hc x List.mem_cons_self k hk
  rw[aK,qH hs]
  simp only[a3,eX]
  cases b with
  |true=>
   obtain⟨y,k2,b1,b2,b3⟩:=he x List.mem_cons_self k1 a1
   obtain⟨zs,k',s',c1,c2,c3,c4,c5⟩:=goD τ (cond:=cond) (elt:=elt) P all xs (acc++[y]) k2 (.val x) b1 (.inr ⟨_,rfl⟩) (fun z hz=>hc z (List.mem_cons_of_mem _ hz)) fun z hz=>he z (List.mem_cons_of_mem _ hz)
   refine⟨(x,y)::zs,k',s',c1.cons_cons x,fun h=>by simp[c2 h],fun p hp=>?_,c4,?_⟩
   ·rcases List.mem_cons.mp hp with rfl|hp
    ·exact b2
    ·exact c3 p hp
   ·rw[if_pos rfl,b3,bO,c5]
    simp
  |false=>
   obtain⟨zs,k',s',c1,c2,c3,c4,c5⟩:=goD τ (cond:=cond) (elt:=elt) P all xs acc k1 (.val x) a1 (.inr ⟨_,rfl⟩) (fun z hz=>hc z (List.mem_cons_of_mem _ hz)) fun z hz=>he z (List.mem_cons_of_mem _ hz)
   exact⟨zs,k',s',c1.cons x,fun h=>by simpa using a2 h,c3,c4,by rw[if_neg (by simp),c5]⟩
theorem HD{c:Cf}{σ:Ev}{it co el:E}{r:Rv}{d:D}{xs:List D}(τ:Int->Ev)(P:D->D->Prop)(all:Bool){k:Int}(hk:0<=k)(hi:ev c it σ=.ok r (τ k))(hr:r.jz=some d)(hd:items d=some xs)
  (hc:∀x∈xs,∀k,0<=k->∃b k',0<=k'/\(all=true->b=true)/\ev c co (.val x::τ k)=.ok (.val (.bl b)) (.val x::τ k'))
  (he:∀x∈xs,∀k,0<=k->∃y k',0<=k'/\P x y/\ev c el (.val x::τ k)=.ok (.val y) (.val x::τ k')):
  ∃(zs:List (D×D))(k':Int),(zs.map (·.1)).Sublist xs/\(all=true->zs.map (·.1)=xs)/\(∀p∈zs,P p.1 p.2)/\0<=k'/\ev c (.comp 1 (.name 0) it co el) σ=.ok (.new (.lst (zs.map (·.2)))) (τ k'):=by
 obtain⟨zs,k',s',a1,a2,a3,a4,a5⟩:=goD τ (cond:=ev c co) (elt:=ev c el) P all xs [] k .un hk (.inl rfl) hc he
 refine⟨zs,k',a1,a2,a3,a4,?_⟩
 rw[kY,hi]
 have b:∀{β:Type}(g:D->Ev->Out β),(Out.ok r (τ k)).ak g=g d (τ k):=fun g=>by cases r<;>simp[Rv.jz]at hr<;>subst hr<;>rfl
 rw[b]
 simp only[hd]
 rw[show List.replicate 1 Sl.un++τ k=.un::τ k from rfl,a5]
 simp
def Gq(m:D×Nat):D:=.tup [m.1,.int m.2]
def sV(st:List (D×Nat)):D:=.tup (st.map Gq)
def dH(os:List D)(sts:List (List (D×Nat))):D:=.tup [.tup os,.tup (sts.map sV)]
structure iB(h g:Nat)(os:List D)(sts:List (List (D×Nat))):Prop where
 ou:os.Sublist (bG g)
 s1:1<=sts.length
 s4:sts.length<=4
 mv:∀st∈sts,(st.map (·.1)).Sublist (hd h++os)/\∀m∈st,m.2<sts.length
def KR:E:=.comp 1 (.name 0) (.idx (.var 2) (.con (.int (1)))) (.cmp .gt (.call 19 (.cons (.var 1) (.cons (.ref 2) (.cons (.con (.int (3))) .nil)))) (.con (.int (0)))) (.idx (.var 0) (.con (.int (0))))
def Oh:E:=.comp 1 (.name 0) (.op .add (.idx (.var 2) (.con (.int (0)))) (.var 4)) kj (.var 0)
def Sg:E:=(.tup (.cons (.var 0) (.cons (.call 19 (.cons (.var 1) (.cons (.ref 2) (.cons (.var 6) .nil)))) .nil)))
def Sh:E:=.comp 1 (.name 0) (.var 8) (.con (.bl true)) Sg
def uV:S:=(.cons (.set 8 Oh) (.cons (.append 6 (.bi .tuple Sh)) .nil))
theorem QW{zs:List (D×D)}{xs:List D}(h:(zs.map (·.1)).Sublist xs)(e:∀p∈zs,p.2=p.1):(zs.map (·.2)).Sublist xs:=by
 rw[show zs.map (·.2)=zs.map (·.1)from List.map_congr_left e];exact h
section
variable(n:Nat)(ns:List Int)(hs os gs:List D)(x:D)(s3 s5 s6 s7 s8:Sl)
theorem Er(k:Int)(hk:0<=k)(hl:hs.length+os.length<=900):∃(ys:List D)(k':Int),ys.Sublist (hs++os)/\0<=k'/\
  ev (pg.cf (n+3)) Oh [.val (sc ns),.bor (.lst [.int k]),.val (.tup [.tup hs,.tup gs,x]),s3,.val (.tup os),s5,s6,s7,s8]=.ok (.new (.lst ys)) [.val (sc ns),.bor (.lst [.int k']),.val (.tup [.tup hs,.tup gs,x]),s3,.val (.tup os),s5,s6,s7,s8]:=by
 have f:fits (hs.length+os.length)=true:=by simp[fits];omega
 obtain⟨zs,k',a1,a2,a3,a4,a5⟩:=HD (c:=pg.cf (n+3)) (it:=(.op .add (.idx (.var 2) (.con (.int (0)))) (.var 4))) (co:=kj) (el:=.var 0) (σ:=[.val (sc ns),.bor (.lst [.int k]),.val (.tup [.tup hs,.tup gs,x]),s3,.val (.tup os),s5,s6,s7,s8]) (k:=k) (fun k=>[.val (sc ns),.bor (.lst [.int k]),.val (.tup [.tup hs,.tup gs,x]),s3,.val (.tup os),s5,s6,s7,s8])
  (fun x y=>y=x) false hk (r:=.val (.tup (hs++os))) (d:=.tup (hs++os)) (xs:=hs++os) (by simp[f]) rfl rfl
  (fun x _ k hk=>by obtain⟨b,e⟩:=uC n ns k hk x [.val (.tup [.tup hs,.tup gs,_]),s3,.val (.tup os),s5,s6,s7,s8];exact⟨b,k+1,by omega,by simp,e⟩) fun x _ k hk=>⟨x,k,hk,rfl,by simp⟩
 exact⟨_,k',QW a1 a3,a4,a5⟩
theorem Lg(k:Int)(hk:0<=k)(ys:List D)(many:Nat)(h1:1<=many)(net:D)(s4:Sl):∃(st:List (D×Nat))(k':Int),st.map (·.1)=ys/\(∀m∈st,m.2<many)/\0<=k'/\
  ev (pg.cf (n+3)) Sh [.val (sc ns),.bor (.lst [.int k]),.val net,s3,s4,.val (.int many),s6,s7,.own (.lst ys)]=.ok (.new (.lst (st.map Gq))) [.val (sc ns),.bor (.lst [.int k']),.val net,s3,s4,.val (.int many),s6,s7,.val (.lst ys)]:=by
 obtain⟨zs,k',a1,a2,a3,a4,a5⟩:=HD (c:=pg.cf (n+3)) (it:=.var 8) (co:=.con (.bl true)) (el:=Sg) (σ:=[.val (sc ns),.bor (.lst [.int k]),.val net,s3,s4,.val (.int many),s6,s7,.own (.lst ys)]) (k:=k) (fun k=>[.val (sc ns),.bor (.lst [.int k]),.val net,s3,s4,.val (.int many),s6,s7,.val (.lst ys)])
  (fun x y=>∃j:Nat,j<many/\y=Gq (x,j)) true hk (r:=.val (.lst ys)) (d:=.lst ys) (xs:=ys) (by simp) rfl rfl
  (fun x _ k hk=>⟨true,k,hk,fun _=>rfl,by simp⟩) fun x _ k hk=>by
   obtain⟨q,q1,q2,e⟩:=aY n ns k many hk (by omega)
   obtain⟨j,rfl⟩:∃j:Nat,q=j:=⟨q.toNat,by omega⟩
   exact⟨_,k+1,by omega,⟨j,by omega,rfl⟩,by simp[Sg,e,aN,Gq]⟩
 have pick:∀(zs:List (D×D)),(∀p∈zs,∃j:Nat,j<many/\p.2=Gq (p.1,j))->∃st:List (D×Nat),st.map (·.1)=zs.map (·.1)/\(∀m∈st,m.2<many)/\st.map Gq=zs.map (·.2):=by
  intro zs
  induction zs with
  |nil=>exact fun _=>⟨[],rfl,fun m h=>(by cases h),rfl⟩
  |cons z zs ih=>
   intro h
   obtain⟨j,j1,j2⟩:=h z List.mem_cons_self
   obtain⟨st,b1,b2,b3⟩:=ih fun p hp=>h p (List.mem_cons_of_mem _ hp)
   refine⟨(z.1,j)::st,by simp[b1],fun m hm=>?_,by simp[b3,j2]⟩
   rcases List.mem_cons.mp hm with rfl|hm
   ·exact j1
   ·exact b2 m hm
 obtain⟨st,b1,b2,b3⟩:=pick zs a3
 exact⟨st,k',by rw[b1,a2 rfl],b2,a4,by rw[b3];exact a5⟩
theorem Aq(k:Int)(hk:0<=k)(hl:hs.length+os.length<=900)(many:Nat)(h1:1<=many)(acc:List D)(ha:acc.length<=1000)(h8:bK s8):∃(st:List (D×Nat))(k':Int)(s':Sl),(st.map (·.1)).Sublist (hs++os)/\(∀m∈st,m.2<many)/\0<=k'/\bK s'/\
  ex (pg.cf (n+3)) uV [.val (sc ns),.bor (.lst [.int k]),.val (.tup [.tup hs,.tup gs,x]),s3,.val (.tup os),.val (.int many),.own (.lst acc),s7,s8]=.next [.val (sc ns),.bor (.lst [.int k']),.val (.tup [.tup hs,.tup gs,x]),s3,.val (.tup os),.val (.int many),.own (.lst (acc++[sV st])),s7,s']:=by
 obtain⟨ys,k1,a1,a2,a3⟩:=Er n ns hs os gs x s3 (.val (.int many)) (.own (.lst acc)) s7 s8 k hk hl
 obtain⟨st,k',b1,b2,b3,b4⟩:=Lg n ns s3 (.own (.lst acc)) s7 k1 a2 ys many h1 (.tup [.tup hs,.tup gs,x]) (.val (.tup os))
 have f:fits (acc.length+1)=true:=by simp[fits];omega
 have q:Sh.au=none:=rfl
 refine⟨st,k',.val (.lst ys),by rw[b1];exact a1,b2,b3,.inr ⟨_,rfl⟩,?_⟩
 rcases h8 with rfl|⟨e,rfl⟩<;>simp[uV,a3,b4,cu,mL,f,q,sV]
theorem qC(hl:hs.length+os.length<=900)(many:Nat)(h1:1<=many):∀(xs:List D)(acc:List (List (D×Nat)))(k:Int)(s7 s8:Sl),0<=k->bK s7->bK s8->acc.length+xs.length<=1000->∃(sts:List (List (D×Nat)))(k':Int)(t7 t8:Sl),sts.length=xs.length/\(∀st∈sts,(st.map (·.1)).Sublist (hs++os)/\∀m∈st,m.2<many)/\0<=k'/\
  aZ (.name 7) (ex (pg.cf (n+3)) uV) xs [.val (sc ns),.bor (.lst [.int k]),.val (.tup [.tup hs,.tup gs,x]),s3,.val (.tup os),.val (.int many),.own (.lst (acc.map sV)),s7,s8]=.next [.val (sc ns),.bor (.lst [.int k']),.val (.tup [.tup hs,.tup gs,x]),s3,.val (.tup os),.val (.int many),.own (.lst ((acc++sts).map sV)),t7,t8]
 |[]=>fun acc k s7 s8 hk _ _ _=>⟨[],k,s7,s8,rfl,fun st h=>(by cases h),hk,by simp[aZ]⟩
 |y::xs=>fun acc k s7 s8 hk h7 h8 hx=>by
  simp only[List.length_cons]at hx
  obtain⟨st,k1,s',a1,a2,a3,a4,a5⟩:=Aq n ns hs os gs x s3 (.val y) s8 k hk hl many h1 (acc.map sV) (by simp;omega) h8
  obtain⟨sts,k',t7,t8,b1,b2,b3,b4⟩:=qC hl many h1 xs (acc++[st]) k1 (.val y) s' a3 (.inr ⟨_,rfl⟩) a4 (by simp;omega)
  refine⟨st::sts,k',t7,t8,by simp[b1],fun q hq=>?_,b3,?_⟩
  ·rcases List.mem_cons.mp hq with rfl|hq
   ·exact⟨a1,a2⟩
   ·exact b2 q hq
  ·rw[aZ]
   have st1:bA (.name 7) y [.val (sc ns),.bor (.lst [.int k]),.val (.tup [.tup hs,.tup gs,x]),s3,.val (.tup os),.val (.int many),.own (.lst (acc.map sV)),s7,s8]=some [.val (sc ns),.bor (.lst [.int k]),.val (.tup [.tup hs,.tup gs,x]),s3,.val (.tup os),.val (.int many),.own (.lst (acc.map sV)),.val y,s8]:=by
    rcases h7 with rfl|⟨e,rfl⟩<;>simp[bA]
   rw[st1]
   simp only
   rw[a5,kZ]
   rw[show acc.map sV++[sV st]=(acc++[st]).map sV by simp,b4]
   simp
end
theorem lC:∀(m:Nat)(lo:Int),(bH lo m).length=m
 |0=>fun _=>rfl
 |m+1=>fun lo=>by simp[bH,lC m]
theorem KQ(n:Nat)(ns:List Int)(k:Int)(hk:0<=k)(hs gs ks:List D)(x:D)(hl:ks.length=gs.length)(s3 s4 s5 s6 s7 s8:Sl):∃(os:List D)(k':Int),os.Sublist gs/\0<=k'/\
  ev (pg.cf (n+3)) KR [.val (sc ns),.bor (.lst [.int k]),.val (.tup [.tup hs,.tup (aG gs ks),x]),s3,s4,s5,s6,s7,s8]=.ok (.new (.lst os)) [.val (sc ns),.bor (.lst [.int k']),.val (.tup [.tup hs,.tup (aG gs ks),x]),s3,s4,s5,s6,s7,s8]:=by
 obtain⟨zs,k',a1,a2,a3,a4,a5⟩:=HD (c:=pg.cf (n+3)) (it:=(.idx (.var 2) (.con (.int (1))))) (co:=(.cmp .gt (.call 19 (.cons (.var 1) (.cons (.ref 2) (.cons (.con (.int (3))) .nil)))) (.con (.int (0))))) (el:=(.idx (.var 0) (.con (.int (0))))) (σ:=[.val (sc ns),.bor (.lst [.int k]),.val (.tup [.tup hs,.tup (aG gs ks),x]),s3,s4,s5,s6,s7,s8]) (k:=k) (fun k=>[.val (sc ns),.bor (.lst [.int k]),.val (.tup [.tup hs,.tup (aG gs ks),x]),s3,s4,s5,s6,s7,s8])
  (fun x y=>y=ww x) false hk (r:=.val (.tup (aG gs ks))) (d:=.tup (aG gs ks)) (xs:=aG gs ks) (by simp) rfl rfl
  (fun x _ k hk=>by
   obtain⟨q,_,_,e⟩:=aY n ns k 3 hk (by omega)
   exact⟨decide (0<q),k+1,by omega,by simp,by simp[e]⟩) fun x hx k hk=>by
   rw[cJ]at hx
   obtain⟨p,_,rfl⟩:=List.mem_map.mp hx
   exact⟨_,k,hk,rfl,by simp[pairD,ww]⟩
 refine⟨_,k',?_,a4,a5⟩
 have:=a1.map ww
 rw[sI gs ks hl]at this
 rw[show zs.map (·.2)=(zs.map (·.1)).map ww by rw[List.map_map];exact List.map_congr_left a3]
 exact this
theorem JG(n:Nat)(ns:List Int)(k:Int)(hk:0<=k){h g:Nat}{ks:List D}{ls:List Bool}(O:cB h g ks ls):∃os sts k',iB h g os sts/\0<=k'/\
  pg.fn (n+4) 24 [.val (sc ns),.bor (.lst [.int k]),.val (aH h g ks ls),.val (.int 4)]=.ok (.val (dH os sts)) [.val (sc ns),.bor (.lst [.int k']),.val (aH h g ks ls),.val (.int 4)]:=by
 have lg:=di O.g5
 have lh:=jf O.h2
 obtain⟨os,k1,a1,a2,a3⟩:=KQ n ns k hk (hd h) (bG g) ks (.tup (ls.map .bl)) (by rw[O.kl,lg]) (.val (.int 4)) .un .un .un .un .un
 obtain⟨q,q1,q2,eq⟩:=aY n ns k1 4 a2 (by omega)
 obtain⟨m,rfl⟩:∃m:Nat,q=m:=⟨q.toNat,by omega⟩
 have lo:=a1.length_le
 have:=O.h2
 have:=O.g5
 obtain⟨sts,k',t7,t8,b1,b2,b3,b4⟩:=qC n ns (hd h) os (aG (bG g) ks) (.tup (ls.map .bl)) (.val (.int 4)) (by omega) (1+m) (by omega) (bH 0 (1+m)) [] (k1+1) .un .un (by omega) (.inl rfl) (.inl rfl) (by simp[lC];omega)
 rw[lC]at b1
 refine⟨os,sts,k',⟨a1,by omega,by omega,fun st hst=>?_⟩,b3,?_⟩
 ·rw[b1];exact b2 st hst
 ·have hb:pP=⟨4,9,.cons (.set 4 (.bi .tuple KR)) (.cons (.set 5 (.op .add (.con (.int (1))) (.call 19 (.cons (.var 0) (.cons (.ref 1) (.cons (.var 3) .nil)))))) (.cons (.set 6 (.lis .nil)) (.cons (.for_ (.name 7) (.range1 (.var 5)) uV) (.cons (.ret (.tup (.cons (.var 4) (.cons (.bi .tuple (.var 6)) .nil)))) .nil))))⟩:=rfl
  rw[xr,hb]
  have q0:KR.au=none:=rfl
  have fm:fits (1+m)=true:=by simp[fits];omega
  have md:qY (1+(m:Int))=true:=by simp[qY];omega
  have tn:(1+(m:Int)).toNat=1+m:=by omega
  have b4':aZ (.name 7) (ex (pg.cf (n+3)) uV) (bH 0 (1+m)) [.val (sc ns),.bor (.lst [.int (k1+1)]),.val (aH h g ks ls),.val (.int 4),.val (.tup os),.val (.int (1+(m:Int))),.own (.lst []),.un,.un]=.next [.val (sc ns),.bor (.lst [.int k']),.val (aH h g ks ls),.val (.int 4),.val (.tup os),.val (.int (1+(m:Int))),.own (.lst (sts.map sV)),t7,t8]:=by simpa[aH]using b4
  have a3':ev (pg.cf (n+3)) KR [.val (sc ns),.bor (.lst [.int k]),.val (aH h g ks ls),.val (.int 4),.un,.un,.un,.un,.un]=.ok (.new (.lst os)) [.val (sc ns),.bor (.lst [.int k1]),.val (aH h g ks ls),.val (.int 4),.un,.un,.un,.un,.un]:=a3
  simp[a3',q0,eq,aN,fm,md,tn,b4',items,dH]
end Tx
end
section
open PySem Mini
namespace Tx
def zF:E:=(.comp 1 (.name 0) (.var 2) (.con (.bl true)) kj)
theorem Gy(n:Nat)(ns:List Int)(k:Int)(hk:0<=k)(xs:List D)(s3 s4:Sl):∃(bs:List Bool)(k':Int),bs.length=xs.length/\0<=k'/\
  ev (pg.cf (n+3)) zF [.val (sc ns),.bor (.lst [.int k]),.own (.lst xs),s3,s4]=.ok (.new (.lst (bs.map .bl))) [.val (sc ns),.bor (.lst [.int k']),.val (.lst xs),s3,s4]:=by
 obtain⟨bs,k',s',a1,a2,a3,a4⟩:=pD n ns [.val (.lst xs),s3,s4] xs [] k .un hk (.inl rfl)
 refine⟨bs,k',a1,a2,?_⟩
 have h:ev (pg.cf (n+3)) (.var 2) [.val (sc ns),.bor (.lst [.int k]),.own (.lst xs),s3,s4]=.ok (.val (.lst xs)) [.val (sc ns),.bor (.lst [.int k]),.val (.lst xs),s3,s4]:=by simp
 unfold zF
 rw[kY,h,bO]
 simp only[items]
 rw[show List.replicate 1 Sl.un++[.val (sc ns),.bor (.lst [.int k]),.val (.lst xs),s3,s4]=.un:: .val (sc ns):: .bor (.lst [.int k])::[.val (.lst xs),s3,s4]from rfl,a4]
 simp
def Fb:S:=(.cons (.append 3 (.tup (.cons (.idx (.var 2) (.var 4)) (.cons (.tup (.cons (.con (.str "held")) (.cons (.tup (.cons (.con (.str "same")) (.cons (.idx (.var 2) (.op .sub (.var 4) (.con (.int (1))))) .nil))) (.cons (.idx (.var 2) (.op .mod (.op .add (.var 4) (.con (.int (1)))) (.bi .len (.var 2)))) (.cons (.con (.bl false)) .nil))))) .nil)))) .nil)
def rk(a b:String):D:=.tup [.str "held",.tup [.str "same",.str a],.str b,.bl false]
def qN:Nat->List D
 |3=>[rk "rr" "q",rk "p" "rr",rk "q" "p"]
 |4=>[rk "go" "q",rk "p" "rr",rk "q" "go",rk "rr" "p"]
 |_=>[rk "abcdef" "q",rk "p" "rr",rk "q" "go",rk "rr" "abcdef",rk "go" "p"]
theorem Bg(c:Cf)(s0 s1:Sl)(g:Nat)(hg:g=3\/g=4\/g=5):∃s4,aZ (.name 4) (ex c Fb) (bH 0 g) [s0,s1,.own (.lst (bG g)),.own (.lst []),.un]=.next [s0,s1,.own (.lst (bG g)),.own (.lst (aG (bG g) (qN g))),s4]:=by
 refine⟨.val (.int (g-1)),?_⟩
 rcases hg with rfl|rfl|rfl
 all_goals
  simp[Fb,aZ,bH,bA,bY,bG,at?,ix?,aN,cu,mL,qN,rk,aG]
  try rfl
theorem xg(g:Nat)(hg:g=3\/g=4\/g=5):∀d∈qN g,aU (hd 0++bG g) 1 d:=by
 intro d h
 rcases hg with rfl|rfl|rfl<;>simp only[qN,List.mem_cons,List.not_mem_nil,or_false]at h<;>rcases h with rfl|rfl|rfl|rfl|rfl<;>exact .held (.same (by simp[hd,bG])) (by simp[hd,bG])
theorem J9(n:Nat)(ns:List Int)(k:Int)(hk:0<=k):∃g ks ls k',cB 0 g ks ls/\3<=g/\0<=k'/\pg.fn (n+4) 25 [.val (sc ns),.bor (.lst [.int k])]=.ok (.val (aH 0 g ks ls)) [.val (sc ns),.bor (.lst [.int k'])]:=by
 obtain⟨r,r1,r2,er⟩:=aY n ns k 3 hk (by omega)
 obtain⟨g,hg,hr⟩:∃g:Nat,(g=3\/g=4\/g=5)/\3+r=g:=⟨(3+r).toNat,by omega,by omega⟩
 have lg:(bG g).length=g:=di (by omega)
 obtain⟨s4,a⟩:=Bg (pg.cf (n+3)) (.val (sc ns)) (.bor (.lst [.int (k+1)])) g hg
 obtain⟨bs,k',b1,b2,b3⟩:=Gy n ns (k+1) (by omega) (bG g) (.own (.lst (aG (bG g) (qN g)))) s4
 refine⟨g,qN g,bs,k',⟨by omega,by omega,by omega,?_,xg g hg,by omega⟩,by omega,b2,?_⟩
 ·rcases hg with rfl|rfl|rfl<;>rfl
 ·have hb:pR=⟨2,5,(.cons (.set 2 (.slc (.lis (.cons (.con (.str "p")) (.cons (.con (.str "q")) (.cons (.con (.str "rr")) (.cons (.con (.str "go")) (.cons (.con (.str "abcdef")) .nil)))))) .noneE (.op .add (.con (.int (3))) (.call 19 (.cons (.var 0) (.cons (.ref 1) (.cons (.con (.int (3))) .nil))))))) (.cons (.set 3 (.lis .nil)) (.cons (.for_ (.name 4) (.range1 (.bi .len (.var 2))) Fb) (.cons (.ret (.tup (.cons (.tup .nil) (.cons (.bi .tuple (.var 3)) (.cons (.bi .tuple zF) .nil))))) .nil))))⟩:=rfl
  rw[xx,hb]
  have sl:gn (.lst [.str "p",.str "q",.str "rr",.str "go",.str "abcdef"]) none (some (g:Int))=some (.new (.lst (bG g))):=by
   rcases hg with rfl|rfl|rfl<;>rfl
  have fg:fits g=true:=by simp[fits];omega
  have md:qY (g:Int)=true:=by simp[qY];omega
  have q:zF.au=none:=rfl
  simp[er,hr,sl,aN,b8,E.je,lg,fg,md,items,a,b3,q,aH,hd]
def lU:S:=(.cons (.set 7 (.call 19 (.cons (.var 0) (.cons (.ref 1) (.cons (.con (.int (2))) .nil))))) (.cons (.append 5 (.tup (.cons (.var 6) (.cons (.tup (.cons (.idx (.lis (.cons (.con (.str "same")) (.cons (.con (.str "not")) .nil))) (.var 7)) (.cons (.var 3) .nil))) .nil)))) (.cons (.append 4 (.cmp .eq (.idx (.var 4) (.neg (.con (.int (1))))) (.cmp .eq (.var 7) (.con (.int (0)))))) (.cons (.set 3 (.var 6)) .nil))))
theorem MT(xs:List D)(b:D):at? (xs++[b]) (-1)=some b:=by
 unfold at? ix?
 have e:(-1+((xs.length:Int)+1)).toNat=xs.length:=by omega
 have e2:(0:Int)<= -1+((xs.length:Int)+1):=by omega
 have e3: -1+((xs.length:Int)+1)< (xs.length:Int)+1:=by omega
 simp[e,e2,e3]
theorem yt(n:Nat)(ns:List Int)(k:Int)(hk:0<=k)(s2 s7:Sl)(h7:bK s7)(a x:D)(ls:List Bool)(l:Bool)(acc:List D)(hl:ls.length<=1000)(ha:acc.length<=1000):
  ∃(w:Str)(b:Bool)(t7:Sl),(w="same"\/w="not")/\bK t7/\ex (pg.cf (n+3)) lU [.val (sc ns),.bor (.lst [.int k]),s2,.val a,.own (.lst ((ls++[l]).map .bl)),.own (.lst acc),.val x,s7]
   =.next [.val (sc ns),.bor (.lst [.int (k+1)]),s2,.val x,.own (.lst ((ls++[l]++[b]).map .bl)),.own (.lst (acc++[.tup [x,.tup [.str w,a]]])),.val x,t7]:=by
 obtain⟨r,r1,r2,er⟩:=aY n ns k 2 hk (by omega)
 have fa:fits (acc.length+1)=true:=by simp[fits];omega
 have fb:fits (ls.length+1+1)=true:=by simp[fits];omega
 have al:at? (ls.map D.bl++[.bl l]) (-1)=some (.bl l):=MT _ _
 rcases (by omega:r=0\/r=1)with rfl|rfl
 ·refine⟨"same",l==true,.val (.int 0),.inl rfl,.inr ⟨_,rfl⟩,?_⟩
  rcases h7 with rfl|⟨e,rfl⟩<;>simp[lU,er,aN,fa,fb,cu,mL,al]
 ·refine⟨"not",l==false,.val (.int 1),.inr rfl,.inr ⟨_,rfl⟩,?_⟩
  rcases h7 with rfl|⟨e,rfl⟩<;>simp[lU,er,aN,fa,fb,cu,mL,al]
theorem pI(n:Nat)(ns:List Int)(s2:Sl):∀(xs acc:List D)(k:Int)(s6 s7:Sl)(a:D)(ls:List Bool)(l:Bool),0<=k->bK s6->bK s7->ls.length+xs.length<=1000->acc.length+xs.length<=1000->
  ∃(ks:List D)(bs:List Bool)(k':Int)(t3 t6 t7:Sl),ks.length=xs.length/\bs.length=xs.length/\0<=k'/\(∀d∈ks,∃y∈a::xs,d=.tup [.str "same",y]\/d=.tup [.str "not",y])/\
   aZ (.name 6) (ex (pg.cf (n+3)) lU) xs [.val (sc ns),.bor (.lst [.int k]),s2,.val a,.own (.lst ((ls++[l]).map .bl)),.own (.lst acc),s6,s7]=.next [.val (sc ns),.bor (.lst [.int k']),s2,t3,.own (.lst ((ls++[l]++bs).map .bl)),.own (.lst (acc++aG xs ks)),t6,t7]
 |[]=>fun acc k s6 s7 a ls l hk _ _ _ _=>⟨[],[],k,.val a,s6,s7,rfl,rfl,hk,fun d h=>(by cases h),by simp[aZ,aG]⟩
 |x::xs=>fun acc k s6 s7 a ls l hk h6 h7 hl ha=>by
  simp only[List.length_cons]at hl ha
  obtain⟨w,b,t,a1,a2,a3⟩:=yt n ns k hk s2 s7 h7 a x ls l acc (by omega) (by omega)
  obtain⟨ks,bs,k',t3,t6,t7,b1,b2,b3,b4,b5⟩:=pI n ns s2 xs (acc++[.tup [x,.tup [.str w,a]]]) (k+1) (.val x) t x (ls++[l]) b (by omega) (.inr ⟨_,rfl⟩) a2 (by simp;omega) (by simp;omega)
  refine⟨.tup [.str w,a]::ks,b::bs,k',t3,t6,t7,by simp[b1],by simp[b2],b3,fun d hd=>?_,?_⟩
  ·rcases List.mem_cons.mp hd with rfl|hd
   ·exact⟨a,List.mem_cons_self,by rcases a1 with rfl|rfl<;>simp⟩
   ·obtain⟨y,hy,e⟩:=b4 d hd
    exact⟨y,List.mem_cons_of_mem _ hy,e⟩
  ·have st:bA (.name 6) x [.val (sc ns),.bor (.lst [.int k]),s2,.val a,.own (.lst ((ls++[l]).map .bl)),.own (.lst acc),s6,s7]=some [.val (sc ns),.bor (.lst [.int k]),s2,.val a,.own (.lst ((ls++[l]).map .bl)),.own (.lst acc),.val x,s7]:=by
    rcases h6 with rfl|⟨e,rfl⟩<;>simp[bA]
   rw[aZ,st]
   simp only
   rw[a3,kZ,b5]
   simp[aG]
def adn(d:D):Prop:=∃h g ks ls os sts,cB h g ks ls/\iB h g os sts/\d=.tup [aH h g ks ls,dH os sts]
theorem HN(n:Nat)(ns:List Int)(k:Int)(hk:0<=k):∃h g ks ls os sts k',cB h g ks ls/\iB h g os sts/\0<=k'/\pg.fn (n+4) 26 [.val (sc ns),.bor (.lst [.int k])]=.ok (.val (.tup [aH h g ks ls,dH os sts])) [.val (sc ns),.bor (.lst [.int k'])]:=by
 obtain⟨r,r1,r2,er⟩:=aY n ns k 4 hk (by omega)
 obtain⟨g,hg,hr⟩:∃g:Nat,(g=1\/g=2\/g=3\/g=4)/\1+r=g:=⟨(1+r).toNat,by omega,by omega⟩
 have lg:(bG g).length=g:=di (by omega)
 obtain⟨q,q1,q2,eq⟩:=aY n ns (k+1) 2 (by omega) (by omega)
 obtain⟨ks,bs,k',t3,t6,t7,b1,b2,b3,b4,b5⟩:=pI n ns (.val (.lst (bG g))) (bG g) [] (k+1+1) .un .un (.str "a") [] (q==1) (by omega) (.inl rfl) (.inl rfl) (by simp;omega) (by simp;omega)
 obtain⟨z,z1,z2⟩:∃z,at? (bG g) (-1)=some z/\z∈bG g:=by
  rcases hg with rfl|rfl|rfl|rfl
  ·exact⟨.str "p",rfl,by simp[bG]⟩
  ·exact⟨.str "q",rfl,by simp[bG]⟩
  ·exact⟨.str "rr",rfl,by simp[bG]⟩
  ·exact⟨.str "go",rfl,by simp[bG]⟩
 refine⟨1,g,ks,(q==1)::bs,[z],[[(.str "a",1)],[(z,0)]],k',⟨by omega,by omega,by omega,by omega,fun d dm=>?_,by simp[b2,lg];omega⟩,⟨by simpa using z2,by simp,by simp,fun st h=>?_⟩,b3,?_⟩
 ·obtain⟨y,hy,e⟩:=b4 d dm
  have hy':y∈hd 1++bG g:=by simpa[hd]using hy
  rcases e with rfl|rfl
  ·exact .same hy'
  ·exact .not hy'
 ·simp only[List.mem_cons,List.not_mem_nil,or_false]at h
  rcases h with rfl|rfl<;>simp[hd]
 ·have hb:mD=⟨2,8,(.cons (.set 2 (.slc (.lis (.cons (.con (.str "p")) (.cons (.con (.str "q")) (.cons (.con (.str "rr")) (.cons (.con (.str "go")) .nil))))) .noneE (.op .add (.con (.int (1))) (.call 19 (.cons (.var 0) (.cons (.ref 1) (.cons (.con (.int (4))) .nil))))))) (.cons (.set 3 (.con (.str "a"))) (.cons (.set 4 (.lis (.cons (.cmp .eq (.call 19 (.cons (.var 0) (.cons (.ref 1) (.cons (.con (.int (2))) .nil)))) (.con (.int (1)))) .nil))) (.cons (.set 5 (.lis .nil)) (.cons (.for_ (.name 6) (.var 2) lU) (.cons (.ret (.tup (.cons (.tup (.cons (.tup (.cons (.con (.str "a")) .nil)) (.cons (.bi .tuple (.var 5)) (.cons (.bi .tuple (.var 4)) .nil)))) (.cons (.tup (.cons (.tup (.cons (.idx (.var 2) (.neg (.con (.int (1))))) .nil)) (.cons (.tup (.cons (.tup (.cons (.tup (.cons (.con (.str "a")) (.cons (.con (.int (1))) .nil))) .nil)) (.cons (.tup (.cons (.tup (.cons (.idx (.var 2) (.neg (.con (.int (1))))) (.cons (.con (.int (0))) .nil))) .nil)) .nil))) .nil))) .nil)))) .nil))))))⟩:=rfl
  rw[vA,hb]
  have sl:gn (.lst [.str "p",.str "q",.str "rr",.str "go"]) none (some (g:Int))=some (.new (.lst (bG g))):=by
   rcases hg with rfl|rfl|rfl|rfl<;>rfl
  have b5':aZ (.name 6) (ex (pg.cf (n+3)) lU) (bG g) [.val (sc ns),.bor (.lst [.int (k+1+1)]),.val (.lst (bG g)),.val (.str "a"),.own (.lst [.bl (q==1)]),.own (.lst []),.un,.un]=.next [.val (sc ns),.bor (.lst [.int k']),.val (.lst (bG g)),t3,.own (.lst (.bl (q==1)::bs.map .bl)),.own (.lst (aG (bG g) ks)),t6,t7]:=by simpa using b5
  simp[er,hr,eq,sl,aN,b8,E.je,items,b5',z1,aH,dH,sV,Gq,hd]
end Tx
end
section
open PySem Mini
namespace Tx
def dU:S->S
 |.cons _ t=>t
 |s=>s
def hdS:S->S
 |.cons t _=>t
 |s=>s
def vQ:S:=dU (dU (dU aF.body))
theorem Bw(n:Nat)(ns:List Int)(k:Int)(hk:0<=k):∃(kd:D)(s2:Sl),(∀g,aU (hd 2++bG g) 1 kd)/\
  ex (pg.cf (n+3)) aF.body [.val (sc ns),.bor (.lst [.int k]),.un,.un,.un,.un,.un,.un]=ex (pg.cf (n+3)) vQ [.val (sc ns),.bor (.lst [.int (k+1)]),s2,.val kd,.un,.un,.un,.un]:=by
 obtain⟨r,r1,r2,er⟩:=aY n ns k 6 hk (by omega)
 have hb:aF.body=.cons (hdS aF.body) (.cons (hdS (dU aF.body)) (.cons (hdS (dU (dU aF.body))) vQ)):=rfl
 have sb:∀g,([.str "a",.str "b"]:List D).Sublist (hd 2++bG g):=fun g=>List.sublist_append_left _ _
 have at6:∀(xs:List D)(i:Nat),i<xs.length->at? xs (i:Int)=xs[i]? :=iy
 have hh:∀g,aU (hd 2++bG g) 1 (.tup [.str "held",.tup [.str "same",.str "a"],.str "b",.bl true]):=fun g=>.held (.same (by simp[hd])) (by simp[hd])
 rcases (by omega:r=0\/r=1\/r=2\/r=3\/r=4\/r=5)with rfl|rfl|rfl|rfl|rfl|rfl
 ·refine⟨.tup [.str "both",.tup [.str "a",.str "b"]],.val (.int 0),fun g=>.both (sb g) (by simp) (by simp),?_⟩
  rw[hb];simp[aF,hdS,dU,er,aN,at?,ix?]
 ·refine⟨.tup [.str "both",.tup [.str "a",.str "b"]],.val (.int 1),fun g=>.both (sb g) (by simp) (by simp),?_⟩
  rw[hb];simp[aF,hdS,dU,er,aN,at?,ix?]
 ·refine⟨.tup [.str "and",.tup [.str "a",.str "b"]],.val (.int 2),fun g=>.and (sb g) (by simp) (by simp),?_⟩
  rw[hb];simp[aF,hdS,dU,er,aN,at?,ix?]
 ·refine⟨.tup [.str "or",.tup [.str "a",.str "b"]],.val (.int 3),fun g=>.or (sb g) (by simp) (by simp),?_⟩
  rw[hb];simp[aF,hdS,dU,er,aN,at?,ix?]
 ·refine⟨_,.val (.int 4),hh,?_⟩
  rw[hb];simp[aF,hdS,dU,er,aN,at?,ix?]
 ·refine⟨_,.val (.int 5),hh,?_⟩
  rw[hb];simp[aF,hdS,dU,er,aN,at?,ix?]
def dJ:List (List (D×Nat)):=[[(.str "a",1),(.str "b",2)],[(.str "b",3)],[(.str "a",3)],[(.str "p",0)]]
theorem lJ(g:Nat)(h1:1<=g):iB 2 g [.str "p"] dJ:=by
 refine⟨?_,by simp[dJ],by simp[dJ],fun st h=>?_⟩
 ·obtain⟨j,rfl⟩:∃j,g=j+1:=⟨g-1,by omega⟩
  simp[bG]
 ·simp only[dJ,List.mem_cons,List.not_mem_nil,or_false]at h
  rcases h with rfl|rfl|rfl|rfl<;>simp[hd,dJ]
theorem xU(n:Nat)(ns:List Int)(k:Int)(hk:0<=k):∃h g ks ls os sts k',cB h g ks ls/\iB h g os sts/\0<=k'/\pg.fn (n+4) 27 [.val (sc ns),.bor (.lst [.int k])]=.ok (.val (.tup [aH h g ks ls,dH os sts])) [.val (sc ns),.bor (.lst [.int k'])]:=by
 obtain⟨kd,s2,a1,a2⟩:=Bw n ns k hk
 obtain⟨q,q1,q2,eq⟩:=aY n ns (k+1) 2 (by omega) (by omega)
 rcases (by omega:q=0\/q=1)with rfl|rfl
 ·obtain⟨z,z1,z2,ez⟩:=aY n ns (k+1+1) 2 (by omega) (by omega)
  refine⟨2,1,[kd],[z==1,z==1,z==1],[.str "p"],dJ,k+1+1+1,⟨by omega,by omega,by omega,rfl,fun d h=>?_,rfl⟩,lJ 1 (by omega),by omega,?_⟩
  ·cases List.mem_singleton.mp h;exact a1 1
  ·rw[gw,a2]
   simp[vQ,aF,dU,eq,ez,aN,aH,hd,bG,aG,dH,sV,Gq,dJ]
 ·obtain⟨w,w1,w2,ew⟩:=aY n ns (k+1+1) 2 (by omega) (by omega)
  obtain⟨z,z1,z2,ez⟩:=aY n ns (k+1+1+1) 2 (by omega) (by omega)
  rcases (by omega:w=0\/w=1)with rfl|rfl
  ·refine⟨2,2,[kd,.tup [.str "same",.str "p"]],[z==1,z==1,z==1,z==1],[.str "p"],dJ,k+1+1+1+1,⟨by omega,by omega,by omega,rfl,fun d h=>?_,rfl⟩,lJ 2 (by omega),by omega,?_⟩
   ·simp only[List.mem_cons,List.not_mem_nil,or_false]at h
    rcases h with rfl|rfl
    ·exact a1 2
    ·exact .same (by simp[hd,bG])
   ·rw[gw,a2]
    simp[vQ,aF,dU,eq,ew,ez,aN,aH,hd,bG,aG,dH,sV,Gq,dJ,cu,mL]
  ·refine⟨2,2,[kd,.tup [.str "not",.str "p"]],[z==1,z==1,z==1, !(z==1)],[.str "p"],dJ,k+1+1+1+1,⟨by omega,by omega,by omega,rfl,fun d h=>?_,rfl⟩,lJ 2 (by omega),by omega,?_⟩
   ·simp only[List.mem_cons,List.not_mem_nil,or_false]at h
    rcases h with rfl|rfl
    ·exact a1 2
    ·exact .not (by simp[hd,bG])
   ·rw[gw,a2]
    simp[vQ,aF,dU,eq,ew,ez,aN,aH,hd,bG,aG,dH,sV,Gq,dJ,cu,mL]
end Tx
end
section
open PySem Mini
namespace Tx
theorem yM:∀(gs ks:List D)(i:Nat)(x d:D),gs[i]? =some x->ks.length=gs.length->(aG gs ks).set i (.tup [x,d])=aG gs (ks.set i d)
 |[],_,_=>fun _ _ h _=>by simp at h
 |g::gs,[],_=>fun _ _ _ h=>by simp at h
 |g::gs,k::ks,0=>fun x d h _=>by simp at h;subst h;simp[aG]
 |g::gs,k::ks,i+1=>fun x d h hl=>by simp[aG,yM gs ks i x d (by simpa using h) (by simpa using hl)]
theorem zip_get:∀(gs ks:List D)(i:Nat),i<gs.length->ks.length=gs.length->∃x d,(aG gs ks)[i]? =some (.tup [x,d])/\gs[i]? =some x
 |[],_,_=>fun h _=>by simp at h
 |g::gs,[],_=>fun _ h=>by simp at h
 |g::gs,k::ks,0=>fun _ _=>⟨g,k,by simp[aG],rfl⟩
 |g::gs,k::ks,i+1=>fun h hl=>by
  obtain⟨x,d,a,b⟩:=zip_get gs ks i (by simpa using h) (by simpa using hl)
  exact⟨x,d,by simp[aG,a],by simpa using b⟩
theorem Aw(n:Nat)(ns:List Int)(k:Int)(hk:0<=k){h g:Nat}{ks:List D}{ls:List Bool}(O:cB h g ks ls):∃ks' k',cB h g ks' ls/\0<=k'/\
  pg.fn (n+8) 28 [.val (sc ns),.bor (.lst [.int k]),.val (aH h g ks ls)]=.ok (.val (aH h g ks' ls)) [.val (sc ns),.bor (.lst [.int k']),.val (aH h g ks ls)]:=by
 have lg:=di O.g5
 have lh:=jf O.h2
 have h2:=O.h2
 have g1:=O.g1
 have g5:=O.g5
 have kl:=O.kl
 have lz:(aG (bG g) ks).length=g:=by rw[sH (by rw[lg,kl]),lg]
 obtain⟨q,q1,q2,eq⟩:=aY (n+4) ns k g hk (by omega)
 obtain⟨i,rfl⟩:∃i:Nat,q=i:=⟨q.toNat,by omega⟩
 obtain⟨d,k',a1,a2,a3⟩:=ud ns (hd h++bG g) (by simp;omega) (by simp;omega) 1 n (k+1) (by omega)
 simp only[Int.natCast_one,show n+6+1=n+7 from rfl]at a3
 obtain⟨x,y,b1,b2⟩:=zip_get (bG g) ks i (by omega) (by omega)
 refine⟨ks.set i d,k',⟨h2,g1,g5,by simp[kl],fun e he=>?_,O.ll⟩,a2,?_⟩
 ·rcases List.mem_or_eq_of_mem_set he with he|rfl
  ·exact O.kk e he
  ·exact a1
 ·have gc:=pB (c:=pg.cf (n+7)) (it:=.idx (.var 2) (.con (.int (1)))) (σ:=[.val (sc ns),.bor (.lst [.int k]),.val (aH h g ks ls),.un,.un,.un]) (bG g) ks (by omega) (by simp[aH])
  have hb:cA=⟨3,6,.cons (.set 3 (.op .add (.idx (.var 2) (.con (.int (0)))) (.bi .tuple (wu (.idx (.var 2) (.con (.int (1)))))))) (dU cA.body)⟩:=rfl
  have f:fits ((hd h).length+(bG g).length)=true:=by simp[fits];omega
  have i1:at? (aG (bG g) ks) (i:Int)=some (.tup [x,y]):=by rw[iy _ _ (by omega),b1]
  have i2:ix? g (i:Int)=some i:=by simp[ix?];omega
  have zs:=yM (bG g) ks i x d b2 (by omega)
  have q0:∀it,(wu it).au=none:=fun _=>rfl
  have n0:getD (aH h g ks ls) (.int 0)=some (.tup (hd h)):=by simp[aH]
  have n1:getD (aH h g ks ls) (.int 1)=some (.tup (aG (bG g) ks)):=by simp[aH]
  have n2:getD (aH h g ks ls) (.int 2)=some (.tup (ls.map .bl)):=by simp[aH]
  rw[jW,hb]
  simp[cA,dU,gc,q0,f,n0,n1,n2,lz,eq,a3,i1,i2,tL,zs,aN]
  simp[aH]
theorem qT(h g:Nat):iB h g [] [[]]:=⟨by simp,by simp,by simp,fun st h=>by cases List.mem_singleton.mp h;simp⟩
theorem Rr(g:Nat)(h3:3<=g):iB 0 g [.str "q"] [[(.str "q",1)],[(.str "q",0)]]:=by
 refine⟨?_,by simp,by simp,fun st h=>?_⟩
 ·obtain⟨j,rfl⟩:∃j,g=j+2:=⟨g-2,by omega⟩
  simp[bG]
 ·simp only[List.mem_cons,List.not_mem_nil,or_false]at h
  rcases h with rfl|rfl<;>simp[hd]
def pJ:S:=dU (dU (dU (dU (dU aP.body))))
def wF:S:=dU pJ
theorem MK(n:Nat)(ns:List Int)(k:Int)(hk:0<=k):∃h g ks ls os sts,cB h g ks ls/\iB h g os sts/\pg.fn (n+9) 29 [.val (sc ns),.val (.int k)]=.ok (.val (.tup [aH h g ks ls,dH os sts])) [.val (sc ns),.val (.int k)]:=by
 obtain⟨r,r1,r2,er⟩:=aY (n+5) ns k 8 hk (by omega)
 by_cases c2:r<2
 ·obtain⟨h,g,ks,ls,k1,O,a1,a2⟩:=Gm n ns (k+1) (by omega) 2 (by omega) (by omega)
  obtain⟨os,sts,k2,T,b1,b2⟩:=JG (n+4) ns k1 a1 O
  exact⟨h,g,ks,ls,os,sts,O,T,by rw[dq];simp[aP,er,c2,a2,b2,aN]⟩
 have c2b:¬r<2:=c2
 by_cases c3:r=2
 ·subst c3
  obtain⟨h,g,ks,ls,k1,O,a1,a2⟩:=Gm n ns (k+1) (by omega) 0 (by omega) (by omega)
  exact⟨h,g,ks,ls,[],[[]],O,qT h g,by rw[dq];simp[aP,er,a2,aN,dH,sV]⟩
 by_cases c4:r=3
 ·subst c4
  obtain⟨g,ks,ls,k1,O,g3,a1,a2⟩:=J9 (n+4) ns (k+1) (by omega)
  obtain⟨q,q1,q2,eq⟩:=aY (n+5) ns k1 2 a1 (by omega)
  rcases (by omega:q=1\/q=0)with rfl|rfl
  ·exact⟨0,g,ks,ls,[],[[]],O,qT 0 g,by rw[dq];simp[aP,er,a2,eq,aN,dH,sV]⟩
  ·exact⟨0,g,ks,ls,_,_,O,Rr g g3,by rw[dq];simp[aP,er,a2,eq,aN,dH,sV,Gq]⟩
 have e2:(r==2)=false:=by simpa using c3
 have e3:(r==3)=false:=by simpa using c4
 have main:∃h g ks ls os sts k1,cB h g ks ls/\iB h g os sts/\0<=k1/\ex (pg.cf (n+8)) aP.body [.val (sc ns),.val (.int k),.un,.un,.un,.un]=ex (pg.cf (n+8)) wF [.val (sc ns),.val (.int k),.own (.lst [.int k1]),.val (.int r),.val (aH h g ks ls),.val (dH os sts)]:=by
  have hb:aP.body=.cons (hdS aP.body) (.cons (hdS (dU aP.body)) (.cons (hdS (dU (dU aP.body))) (.cons (hdS (dU (dU (dU aP.body)))) (.cons (hdS (dU (dU (dU (dU aP.body))))) (.cons (hdS pJ) wF))))):=rfl
  by_cases c6:r<6
  ·obtain⟨h,g,ks,ls,os,sts,k1,O,T,a1,a2⟩:=HN (n+4) ns (k+1) (by omega)
   refine⟨h,g,ks,ls,os,sts,k1,O,T,a1,?_⟩
   rw[hb]
   simp[aP,hdS,dU,pJ,er,c2,e2,e3,c3,c4,c6,a2,aN,bA,gq,bY]
  ·obtain⟨h,g,ks,ls,os,sts,k1,O,T,a1,a2⟩:=xU (n+4) ns (k+1) (by omega)
   refine⟨h,g,ks,ls,os,sts,k1,O,T,a1,?_⟩
   rw[hb]
   simp[aP,hdS,dU,pJ,er,c2,e2,e3,c3,c4,c6,a2,aN,bA,gq,bY]
 obtain⟨h,g,ks,ls,os,sts,k1,O,T,a1,a2⟩:=main
 by_cases c7:r%2=1
 ·obtain⟨q,q1,q2,eq⟩:=aY (n+5) ns k1 2 a1 (by omega)
  rcases (by omega:q=1\/q=0)with rfl|rfl
  ·obtain⟨ks',k2,O',b1,b2⟩:=Aw n ns (k1+1) (by omega) O
   refine⟨h,g,ks',ls,os,sts,O',T,?_⟩
   rw[dq,a2]
   simp[wF,pJ,aP,dU,c7,eq,b2,aN]
  ·refine⟨h,g,ks,ls,os,sts,O,T,?_⟩
   rw[dq,a2]
   simp[wF,pJ,aP,dU,c7,eq,aN]
 ·refine⟨h,g,ks,ls,os,sts,O,T,?_⟩
  have c8:r%2=0:=by omega
  rw[dq,a2]
  simp[wF,pJ,aP,dU,c8,aN]
end Tx
end
section
open PySem Mini
namespace Tx
mutual
theorem zU:∀d:D,nd d=true->bZ d d=true
 |.non=>fun _=>rfl
 |.bl b=>fun _=>by simp[bZ]
 |.int i=>fun _=>by simp[bZ]
 |.str x=>fun _=>by simp[bZ]
 |.tup xs=>fun h=>by simpa[bZ]using pF xs (by simpa[nd]using h)
 |.lst xs=>fun h=>by simpa[bZ]using pF xs (by simpa[nd]using h)
 |.dG _ _=>fun h=>by simp[nd]at h
theorem pF:∀xs:List D,iQ xs=true->mU xs xs=true
 |[]=>fun _=>rfl
 |x::xs=>fun h=>by
  simp only[iQ,Bool.and_eq_true]at h
  simp[mU,zU x h.1,pF xs h.2]
end
theorem fD:∀xs:List D,(∀x∈xs,nd x=true)->iQ xs=true
 |[]=>fun _=>rfl
 |x::xs=>fun h=>by simp[iQ,h x List.mem_cons_self,fD xs fun y hy=>h y (List.mem_cons_of_mem _ hy)]
theorem dN{k:Nat}:∀xs:List D,(∀x∈xs,dep x<=k)->eZ xs<=k
 |[]=>fun _=>by simp[eZ]
 |x::xs=>fun h=>by
  have:=h x List.mem_cons_self
  have:=dN xs fun y hy=>h y (List.mem_cons_of_mem _ hy)
  simp[eZ];omega
theorem vN{h g:Nat}:∀x∈names h g,nd x=true/\dep x=0:=fun x hx=>by
 have ok:∀s∈O3 3 5,sOk s=true:=by decide+kernel
 rw[j0]at hx
 obtain⟨s,hs,rfl⟩:=List.mem_map.mp hx
 exact⟨by simpa[nd]using ok s (zp hs),by simp[dep]⟩
theorem Lq{xs:List D}(hx:∀x∈xs,nd x=true/\dep x=0){k:Nat}{d:D}(K:aU xs k d):nd d=true/\dep d<=3+k:=by
 have ok:∀s∈(["same","not","and","or","both","table","held"]:List Str),nd (.str s)=true:=by decide+kernel
 have sub:∀{ys:List D},ys.Sublist xs->iQ ys=true/\eZ ys<=0:=fun{ys}s=>⟨fD _ fun y hy=>(hx y (s.subset hy)).1,dN _ fun y hy=>Nat.le_of_eq (hx y (s.subset hy)).2⟩
 have o1:=ok "same" (by simp)
 have o2:=ok "not" (by simp)
 have o3:=ok "and" (by simp)
 have o4:=ok "or" (by simp)
 have o5:=ok "both" (by simp)
 have o6:=ok "table" (by simp)
 have o7:=ok "held" (by simp)
 induction K with
 | @same n x mx=>have:=hx x mx;refine⟨by simp[nd,iQ]at*;simp[*],?_⟩;simp[dep,eZ,this.2];omega
 | @not n x mx=>have:=hx x mx;refine⟨by simp[nd,iQ]at*;simp[*],?_⟩;simp[dep,eZ,this.2];omega
 | @and n ys s _ _=>have:=sub s;refine⟨by simp[nd,iQ]at*;simp[*],?_⟩;simp only[dep,eZ];omega
 | @or n ys s _ _=>have:=sub s;refine⟨by simp[nd,iQ]at*;simp[*],?_⟩;simp only[dep,eZ];omega
 | @both n ys s _ _=>have:=sub s;refine⟨by simp[nd,iQ]at*;simp[*],?_⟩;simp only[dep,eZ];omega
 | @table n ys rs s _ _ _ _=>
  have:=sub s
  have r1:iQ (rs.map aV)=true:=fD _ fun y hy=>by
   obtain⟨r,_,rfl⟩:=List.mem_map.mp hy
   exact fD _ fun z hz=>by obtain⟨b,_,rfl⟩:=List.mem_map.mp hz;rfl
  have r2:eZ (rs.map aV)<=1:=dN _ fun y hy=>by
   obtain⟨r,_,rfl⟩:=List.mem_map.mp hy
   have:=dN (k:=0) (r.map D.bl) fun z hz=>by obtain⟨b,_,rfl⟩:=List.mem_map.mp hz;exact Nat.le_refl _
   show eZ (r.map D.bl)+1<=1
   omega
  refine⟨by simp only[nd,iQ,this.1,r1];simpa[nd]using o6,?_⟩
  simp only[dep,eZ]
  omega
 | @held n k x b _ mx ih=>
  have:=hx x mx
  refine⟨by simp only[nd,iQ,ih.1,this.1];simpa[nd]using o7,?_⟩
  have i2:=ih.2
  have t2:=this.2
  simp only[dep,eZ]at*
  omega
section
variable{h g:Nat}{ks:List D}{ls:List Bool}
theorem uc(n:Nat)(O:cB h g ks ls):pg.fn (n+1) 30 [.val (aH h g ks ls)]=.ok (.new (.lst (names h g))) [.val (aH h g ks ls)]:=by
 have e:=pB (c:=pg.cf n) (it:=.idx (.var 0) (.con (.int (1)))) (σ:=[.val (aH h g ks ls)]) (bG g) ks (by rw[O.kl,di O.g5]) (by simp[aH])
 have f:fits ((hd h).length+(bG g).length)=true:=by rw[jf O.h2,di O.g5];have:=O.h2;have:=O.g5;simp[fits];omega
 have hb:mz=⟨1,1,.cons (.ret (.op .add (.bi .list (.idx (.var 0) (.con (.int (0))))) (wu (.idx (.var 0) (.con (.int (1))))))) .nil⟩:=rfl
 rw[vy,hb]
 have g0:getD (aH h g ks ls) (.int 0)=some (.tup (hd h)):=by simp[aH]
 simp[e,f,g0,names]
end
theorem Zt{d:D}(h:nd d=true/\dep d<=50):aC .eq d d=some true:=by
 show(if jj d d then some (bZ d d)else none)=_
 rw[zU _ h.1]
 simp[jj,h.1,h.2]
end Tx
end
section
open PySem Mini
namespace Tx
def jt:D->Nat
 |.tup [_,k,_,_]=>jt k+1
 |_=>0
theorem fU(a k b c:D):jt (.tup [a,k,b,c])=jt k+1:=by rw[jt]
theorem jO(a b:D):jt (.tup [a,b])=0:=by rw[jt];simp
theorem Us(a b c:D):jt (.tup [a,b,c])=0:=by rw[jt];simp
theorem BV(n:Nat){xs:List D}(h:iM xs)(s:Str):pg.fn (n+1) 7 [.val (.str s),.val (.lst xs)]=.ok (.val (.bl (cV (.str s) xs))) [.val (.str s),.val (.lst xs)]:=by
 rw[gG]
 have o:lN (.str s) xs=true:=by
  unfold lN
  rw[lQ h]
  rfl
 have e:aC .isin (.str s) (.lst xs)=some (cV (.str s) xs):=by show(if lN (.str s) xs then some (cV (.str s) xs)else none)=_;rw[o];rfl
 simp[fK,e]
theorem oY(n:Nat){x:D}(hx:fG .str x=false)(d:D):pg.fn (n+1) 7 [.val x,.val d]=.ok (.val (.bl false)) [.val x,.val d]:=by
 rw[gG]
 simp[fK,hx]
theorem Hb(n:Nat){xs:List D}{d y z:D}{dp:Int}{b w:Bool}(hd:dp<3)(i:pg.fn (n+1) 10 [.val d,.val (.lst xs),.val (.int (dp+1))]=.ok (.val (.bl b)) [.val d,.val (.lst xs),.val (.int (dp+1))])
  (hw:pg.fn (n+1) 7 [.val y,.val (.lst xs)]=.ok (.val (.bl w)) [.val y,.val (.lst xs)]):
  pg.fn (n+3) 10 [.val (.tup [.str "held",d,y,z]),.val (.lst xs),.val (.int dp)]=.ok (.val (.bl (b&&(w&&fG .bool z)))) [.val (.tup [.str "held",d,y,z]),.val (.lst xs),.val (.int dp)]:=by
 have t:=aL (n+1) [.str "held",d,y,z] 2 4 (by simp) (by simp)
 have hl:pg.fn (n+2) 11 [.val (.tup [.str "held",d,y,z]),.val (.lst xs),.val (.int (dp+1))]=.ok (.val (.bl (b&&(w&&fG .bool z)))) [.val (.tup [.str "held",d,y,z]),.val (.lst xs),.val (.int (dp+1))]:=by
  rw[qQ]
  cases b<;>cases w<;>simp[lV,i,hw]
 rw[cM]
 simp[b7,t,hl,aN,gl7,hd]
theorem Ce(n:Nat){xs:List D}{d y z:D}:pg.fn (n+3) 10 [.val (.tup [.str "held",d,y,z]),.val (.lst xs),.val (.int 3)]=.ok (.val (.bl false)) [.val (.tup [.str "held",d,y,z]),.val (.lst xs),.val (.int 3)]:=by
 have t:=aL (n+1) [.str "held",d,y,z] 2 4 (by simp) (by simp)
 rw[cM]
 simp[b7,t,aN,gl7]
theorem aU.base{xs:List D}{k:Nat}{d:D}(h:aU xs k d)(h0:jt d=0):aU xs 0 d:=by
 cases h with
 |same h=>exact .same h
 |not h=>exact .not h
 |and a b c=>exact .and a b c
 |or a b c=>exact .or a b c
 |both a b c=>exact .both a b c
 |table a b c d e=>exact .table a b c d e
 |held _ _=>rw[fU]at h0;omega
theorem BX{xs:List D}(h:iM xs)(nd:xs.Nodup):∀{k:Nat}{d:D},aU xs k d->∀(n dp:Nat),dp<=3->
  pg.fn (n+4+2*k) 10 [.val d,.val (.lst xs),.val (.int dp)]=.ok (.val (.bl (decide (dp+jt d<=3)))) [.val d,.val (.lst xs),.val (.int dp)]:=by
 intro k d hk
 have low:∀{k:Nat}{d:D},aU xs k d->jt d=0->∀(n dp:Nat),dp<=3->pg.fn (n+4+2*k) 10 [.val d,.val (.lst xs),.val (.int dp)]=.ok (.val (.bl (decide (dp+jt d<=3)))) [.val d,.val (.lst xs),.val (.int dp)]:=fun{k d}K z n dp hdp=>by
  have:=oZ h nd (K.base z) (n+2*k) dp (by simp;omega)
  rw[z,decide_eq_true (by omega),show n+4+2*k=n+2*k+4+2*0 by omega]
  exact this
 induction hk with
 |same hx=>exact low (k:=_) (.same hx) (jO _ _)
 |not hx=>exact low (.not hx) (jO _ _)
 |and a b c=>exact low (.and a b c) (jO _ _)
 |or a b c=>exact low (.or a b c) (jO _ _)
 |both a b c=>exact low (.both a b c) (jO _ _)
 |table a b c d e=>exact low (.table a b c d e) (Us _ _ _)
 | @held k d x b hk hx ih=>
  intro n dp hdp
  rw[fU]
  by_cases e:dp=3
  ·subst e
   rw[decide_eq_false (by omega),show n+4+2*(k+1)=n+3+2*k+3 by omega]
   exact Ce _
  ·have i:=ih n (dp+1) (by omega)
   have w:=dB (n+3+2*k) (.inr rfl) h hx
   rw[show n+4+2*k=n+3+2*k+1 by omega,Int.natCast_add]at i
   have:=Hb (n+3+2*k) (z:=.bl b) (by omega) i w
   rw[show n+4+2*(k+1)=n+3+2*k+3 by omega,this,show dp+(jt d+1)=dp+1+jt d by omega]
   simp[fG]
theorem Mx{xs:List D}:∀{k:Nat}{d:D},aU xs k d->∀n:Nat,pg.fn (n+1+k) 32 [.val d]=.ok (.val (.int (jt d))) [.val d]:=by
 intro k d hk
 induction hk with
 |same=>intro n;rw[show∀k,n+1+k=n+k+1 by intro k;omega,dj];simp[cI,jO]
 |not=>intro n;rw[show∀k,n+1+k=n+k+1 by intro k;omega,dj];simp[cI,jO]
 |and=>intro n;rw[show∀k,n+1+k=n+k+1 by intro k;omega,dj];simp[cI,jO]
 |or=>intro n;rw[show∀k,n+1+k=n+k+1 by intro k;omega,dj];simp[cI,jO]
 |both=>intro n;rw[show∀k,n+1+k=n+k+1 by intro k;omega,dj];simp[cI,jO]
 |table=>intro n;rw[show∀k,n+1+k=n+k+1 by intro k;omega,dj];simp[cI,Us]
 | @held k d x b hk hx ih=>
  intro n
  have i:=ih n
  rw[show n+1+(k+1)=n+1+k+1 by omega,dj]
  simp[cI,i,fU]
  omega
end Tx
end
section
open PySem Mini
namespace Tx
theorem aU.up{xs:List D}{k:Nat}{d:D}(h:aU xs k d):∀{m:Nat},k<=m->aU xs m d:=by
 induction h with
 |same h=>intro m _;exact .same h
 |not h=>intro m _;exact .not h
 |and a b c=>intro m _;exact .and a b c
 |or a b c=>intro m _;exact .or a b c
 |both a b c=>intro m _;exact .both a b c
 |table a b c d e=>intro m _;exact .table a b c d e
 |held _ hx ih=>
  intro m hm
  obtain⟨m,rfl⟩:∃q,m=q+1:=⟨m-1,by omega⟩
  exact .held (ih (by omega)) hx
theorem aU.ex{xs:List D}{k:Nat}{d:D}(h:aU xs k d):aU xs (jt d) d/\jt d<=k:=by
 induction h with
 |same h=>exact⟨.same h,by rw[jO];omega⟩
 |not h=>exact⟨.not h,by rw[jO];omega⟩
 |and a b c=>exact⟨.and a b c,by rw[jO];omega⟩
 |or a b c=>exact⟨.or a b c,by rw[jO];omega⟩
 |both a b c=>exact⟨.both a b c,by rw[jO];omega⟩
 |table a b c d e=>exact⟨.table a b c d e,by rw[Us];omega⟩
 |held _ hx ih=>rw[fU];exact⟨.held ih.1 hx,by have:=ih.2;omega⟩
structure Pt where
 x:D
 y:D
 b:Bool
def dX(p:Pt):D:=.tup [p.x,p.y,.bl p.b]
def stp(p:Pt)(q:D×D):D×D:=(q.1,if bZ q.1 p.x then .tup [.str "held",q.2,p.y,.bl p.b]else q.2)
def bF(h:Nat)(prs:List (D×D))(ls:List Bool):D:=.tup [.tup (hd h),.tup (prs.map pairD),.tup (ls.map .bl)]
structure cY(h g k:Nat)(prs:List (D×D)):Prop where
 h2:h<=2
 g1:1<=g
 g5:g<=5
 keys:prs.map (·.1)=bG g
 kk:∀q∈prs,aU (names h g) k q.2
structure mX(h g:Nat)(p:Pt):Prop where
 x:p.x∈bG g
 y:p.y∈names h g
theorem mZ(g:Nat):iM (bG g):=fun x hx=>cG 0 g x (by simpa[names,hd]using hx)
theorem Ey{g:Nat}(g1:1<=g)(g5:g<=5):(bG g).Nodup:=by
 have:=names_nodup (h:=0) (by omega) g1 g5
 simpa[names,hd]using this
theorem ue:∀{prs:List (D×D)},(prs.map (·.1)).Nodup->∀{p q:D×D},p∈prs->q∈prs->p.1=q.1->p=q
 |[],_,_,_,h,_,_=>by cases h
 |r::prs,nd,p,q,hp,hq,e=>by
  rw[List.map_cons,List.nodup_cons]at nd
  rcases List.mem_cons.mp hp with hp1|hp1<;>rcases List.mem_cons.mp hq with hq1|hq1
  ·rw[hp1,hq1]
  ·rw[hp1]at e;exact absurd (List.mem_map_of_mem (f:=(·.1)) hq1) (by rw[<-e];exact nd.1)
  ·rw[hq1]at e;exact absurd (List.mem_map_of_mem (f:=(·.1)) hp1) (by rw[e];exact nd.1)
  ·exact ue nd.2 hp1 hq1 e
theorem m9{x y:D}(hx:∃s,x=.str s)(hy:∃s,y=.str s):bZ x y=true↔x=y:=by
 obtain⟨s,rfl⟩:=hx
 obtain⟨t,rfl⟩:=hy
 simp[bZ]
theorem m7{s:Str}:∀{ks:List D},iM ks->D.str s∉ks->cV (.str s) ks=false
 |[]=>fun _ _=>rfl
 |y::ys=>fun h hn=>by
  obtain⟨q,rfl⟩:=h y List.mem_cons_self
  have ne:¬q=s:=fun c=>hn (by rw[c];exact List.mem_cons_self)
  simp[cV,bZ,ne,m7 (fun x hx=>h x (List.mem_cons_of_mem _ hx)) fun c=>hn (List.mem_cons_of_mem _ c)]
theorem j8:∀(prs:List (D×D))(ks vs:List D),iM (ks++prs.map (·.1))->(ks++prs.map (·.1)).Nodup->dictOf ks vs (prs.map pairD)=some (ks++prs.map (·.1),vs++prs.map (·.2))
 |[]=>fun ks vs _ _=>by simp[dictOf]
 |m::st=>fun ks vs h nd=>by
  obtain⟨s,e⟩:=h m.1 (by simp)
  have hn:m.1∉ks:=fun hm=>by
   rw[show(m::st).map (·.1)=m.1::st.map (·.1)from rfl,List.nodup_append]at nd
   exact nd.2.2 _ hm _ List.mem_cons_self rfl
  have no:cV m.1 ks=false:=by
   rw[e]at hn⊢
   exact m7 (fun x hx=>h x (List.mem_append_left _ hx)) hn
  have r:=j8 st (ks++[m.1]) (vs++[m.2]) (by simpa using h) (by simpa using nd)
  have kk:keyOk m.1=true:=by rw[e];rfl
  rw[List.map_cons,show pairD m=.tup [m.1,m.2]from rfl,dictOf,if_pos kk]
  simp only[putD,no]
  rw[if_neg (by simp),r]
  simp
theorem vR{q:D×D}:∀{prs:List (D×D)},iM (prs.map (·.1))->(prs.map (·.1)).Nodup->q∈prs->j4 q.1 (prs.map (·.1)) (prs.map (·.2))=some q.2
 |[]=>fun _ _ h=>by cases h
 |r::prs=>fun t nd h=>by
  have e:bZ r.1 q.1=true↔r.1=q.1:=m9 (t r.1 (by simp)) (t q.1 (List.mem_map_of_mem h))
  simp only[List.map_cons,j4]
  by_cases c:r.1=q.1
  ·rw[if_pos (e.mpr c),ue nd List.mem_cons_self h c]
  ·rw[if_neg fun z=>c (e.mp z)]
   rcases List.mem_cons.mp h with rfl|h
   ·exact absurd rfl c
   ·rw[List.map_cons,List.nodup_cons]at nd
    exact vR (fun x hx=>t x (List.mem_cons_of_mem _ hx)) nd.2 h
theorem yN:∀prs:List (D×D),aG (prs.map (·.1)) (prs.map (·.2))=prs.map pairD
 |[]=>rfl
 |p::prs=>by simp[aG,pairD,yN prs]
section
variable{h g k:Nat}{prs:List (D×D)}{ls:List Bool}
theorem cY.tx(O:cY h g k prs):iM (prs.map (·.1)):=by rw[O.keys];exact mZ g
theorem cY.nd(O:cY h g k prs):(prs.map (·.1)).Nodup:=by rw[O.keys];exact Ey O.g1 O.g5
theorem cY.at(O:cY h g k prs){x:D}(hx:x∈bG g):∃q∈prs,q.1=x:=by
 rw[<-O.keys]at hx
 obtain⟨q,hq,e⟩:=List.mem_map.mp hx
 exact⟨q,hq,e⟩
theorem cY.step(O:cY h g k prs){p:Pt}(P:mX h g p):cY h g (k+1) (prs.map (stp p)):=
 ⟨O.h2,O.g1,O.g5,by rw[<-O.keys,List.map_map];rfl,fun q hq=>by
  obtain⟨r,hr,rfl⟩:=List.mem_map.mp hq
  simp only[stp]
  split
  ·exact .held (O.kk r hr) P.y
  ·exact(O.kk r hr).up (by omega)⟩
theorem cY.low(O:cY h g k prs){m:Nat}(d:∀q∈prs,jt q.2<=m):cY h g m prs:=⟨O.h2,O.g1,O.g5,O.keys,fun q hq=>(O.kk q hq).ex.1.up (d q hq)⟩
theorem abw(n:Nat)(O:cY h g k prs)(ls:List Bool):pg.fn (n+1) 12 [.val (bF h prs ls)]=.ok (.new (.lst (names h g))) [.val (bF h prs ls)]:=by
 have hz:prs.map pairD=aG (bG g) (prs.map (·.2)):=by rw[<-O.keys,yN]
 have:=jB n (hd h) (bG g) (prs.map (·.2)) (.tup (ls.map .bl)) (by rw[<-O.keys];simp) (by rw[jf O.h2,di O.g5];have:=O.h2;have:=O.g5;omega)
 rw[<-hz]at this
 exact this
theorem j6(n:Nat)(k x y z:D):pg.fn (n+1) 16 [.val k,.val (.tup [x,y,z])]=.ok (.val (.tup [.str "held",k,y,z])) [.val k,.val (.tup [x,y,z])]:=by
 rw[vB]
 simp[mF,aN]
theorem zc(n:Nat)(O:cY h g 3 prs)(ls:List Bool){q:D×D}(hq:q∈prs){y z:D}{w:Bool}(hw:pg.fn (n+11) 7 [.val y,.val (.lst (names h g))]=.ok (.val (.bl w)) [.val y,.val (.lst (names h g))]):
  pg.fn (n+14) 14 [.val (bF h prs ls),.val (.tup [q.1,y,z])]=.ok (.val (.bl (decide (jt q.2+1<=3)&&(w&&fG .bool z)))) [.val (bF h prs ls),.val (.tup [q.1,y,z])]:=by
 have T:=cG h g
 have Nd:=names_nodup O.h2 O.g1 O.g5
 have d:=j8 prs [] [] (by simpa using O.tx) (by simpa using O.nd)
 have l:=vR O.tx O.nd hq
 obtain⟨s,es⟩:=O.tx q.1 (List.mem_map_of_mem hq)
 have t:=aL (n+12) [q.1,y,z] 3 3 (by simp) (by simp)
 have i1:cV (.str s) (prs.map (·.1))=true:=by rw[<-es];exact zM (List.mem_map_of_mem hq) O.tx
 have w1:pg.fn (n+13) 7 [.val q.1,.val (.dG (prs.map (·.1)) (prs.map (·.2)))]=.ok (.val (.bl true)) [.val q.1,.val (.dG (prs.map (·.1)) (prs.map (·.2)))]:=by
  rw[gG,es]
  have e:aC .isin (.str s) (.dG (prs.map (·.1)) (prs.map (·.2)))=some true:=by show(if keyOk (.str s)then some (cV (.str s) (prs.map (·.1)))else none)=_;rw[i1];rfl
  simp[fK,e]
 have hk:=j6 (n+12) q.2 q.1 y z
 have nn:=abw (n+12) O ls
 have i:=BX T Nd (O.kk q hq) (n+1) 1 (by omega)
 have hb:=Hb (n+10) (dp:=0) (z:=z) (by omega) i hw
 have g2:getD (.dG (prs.map (·.1)) (prs.map (·.2))) q.1=some q.2:=by
  rw[es]at l⊢
  show(if keyOk (.str s)then j4 (.str s) (prs.map (·.1)) (prs.map (·.2))else none)=_
  rw[l];rfl
 have n1:getD (bF h prs ls) (.int 1)=some (.tup (prs.map pairD)):=by simp[bF]
 rw[show 1+jt q.2=jt q.2+1 by omega]at hb
 rw[jK]
 simp[iw,n1,d,t,w1,g2,hk,nn,hb]
theorem FN(n:Nat)(O:cY h g k prs)(ls:List Bool){x:D}(hx:fG .str x=true->∃s,x=.str s/\D.str s∉bG g)(y z:D):
  pg.fn (n+4) 14 [.val (bF h prs ls),.val (.tup [x,y,z])]=.ok (.val (.bl false)) [.val (bF h prs ls),.val (.tup [x,y,z])]:=by
 have d:=j8 prs [] [] (by simpa using O.tx) (by simpa using O.nd)
 have t:=aL (n+2) [x,y,z] 3 3 (by simp) (by simp)
 have n1:getD (bF h prs ls) (.int 1)=some (.tup (prs.map pairD)):=by simp[bF]
 have w1:pg.fn (n+3) 7 [.val x,.val (.dG (prs.map (·.1)) (prs.map (·.2)))]=.ok (.val (.bl false)) [.val x,.val (.dG (prs.map (·.1)) (prs.map (·.2)))]:=by
  cases c:fG .str x with
  |false=>exact oY _ c _
  |true=>
   obtain⟨s,rfl,hs⟩:=hx c
   have i1:cV (.str s) (prs.map (·.1))=false:=m7 O.tx (by rw[O.keys];exact hs)
   rw[gG]
   have e:aC .isin (.str s) (.dG (prs.map (·.1)) (prs.map (·.2)))=some false:=by show(if keyOk (.str s)then some (cV (.str s) (prs.map (·.1)))else none)=_;rw[i1];rfl
   simp[fK,e]
 rw[jK]
 simp[iw,n1,d,t,w1]
theorem vH(n:Nat)(O:cY h g k prs)(ls:List Bool){x:D}(hx:pg.fn (n+3) 3 [.val x,.val (.int 3),.val (.int 3)]=.ok (.val (.bl false)) [.val x,.val (.int 3),.val (.int 3)]):
  pg.fn (n+4) 14 [.val (bF h prs ls),.val x]=.ok (.val (.bl false)) [.val (bF h prs ls),.val x]:=by
 have d:=j8 prs [] [] (by simpa using O.tx) (by simpa using O.nd)
 have n1:getD (bF h prs ls) (.int 1)=some (.tup (prs.map pairD)):=by simp[bF]
 rw[jK]
 simp[iw,n1,d,hx]
def wpC:E:=(.comp 2 (.tup [0,1]) (.idx (.var 0) (.con (.int (1)))) (.con (.bl true)) (.tup (.cons (.var 0) (.cons (.ite (.cmp .eq (.var 0) (.idx (.var 3) (.con (.int (0))))) (.call 16 (.cons (.var 1) (.cons (.var 3) .nil))) (.var 1)) .nil))))
theorem qb(n:Nat)(O:cY h g k prs)(ls:List Bool){p:Pt}(P:mX h g p):pg.fn (n+2) 15 [.val (bF h prs ls),.val (dX p)]=.ok (.val (bF h (prs.map (stp p)) ls)) [.val (bF h prs ls),.val (dX p)]:=by
 have e:ev (pg.cf (n+1)) wpC [.val (bF h prs ls),.val (dX p),.un]=.ok (.new (.lst (prs.map fun q=>pairD (stp p q)))) [.val (bF h prs ls),.val (dX p),.un]:=by
  refine P0 (d:=.tup (prs.map pairD)) (ps:=prs) (r:=.val (.tup (prs.map pairD))) (fun q=>pairD (stp p q)) (by simp[bF]) rfl rfl fun q hq=>?_
  obtain⟨s,es⟩:=O.tx q.1 (List.mem_map_of_mem hq)
  obtain⟨t,et⟩:=mZ g p.x P.x
  have hk:=j6 n q.2 p.x p.y (.bl p.b)
  have pd:getD (dX p) (.int 0)=some p.x:=by simp[dX]
  have pe:dX p=.tup [p.x,p.y,.bl p.b]:=rfl
  rw[<-pe]at hk
  cases c:decide (s=t)<;>simp[pd,et,es,c,hk,stp,pairD,aN,bZ]
 have hb:kE=⟨2,3,(.cons (.set 2 wpC) (.cons (.ret (.tup (.cons (.idx (.var 0) (.con (.int (0)))) (.cons (.bi .tuple (.var 2)) (.cons (.idx (.var 0) (.con (.int (2)))) .nil))))) .nil))⟩:=rfl
 rw[tu,hb]
 have n0:getD (bF h prs ls) (.int 0)=some (.tup (hd h)):=by simp[bF]
 have n2:getD (bF h prs ls) (.int 2)=some (.tup (ls.map .bl)):=by simp[bF]
 simp[e,n0,n2,aN]
 simp[bF]
end
end Tx
end
section
open PySem Mini
namespace Tx
def cC(pts:List Pt)(q:D×D):D×D:=pts.foldl (fun q p=>stp p q) q
def lowP(prs:List (D×D)):Bool:=prs.all fun q=>decide (jt q.2<=3)
def OJ:List Pt->List (D×D)->Bool
 |[],_=>true
 |p::ps,prs=>lowP (prs.map (stp p))&&OJ ps (prs.map (stp p))
theorem JK(p:Pt)(q:D×D):jt q.2<=jt (stp p q).2:=by
 simp only[stp]
 split
 ·rw[fU];omega
 ·exact Nat.le_refl _
theorem zR:∀(pts:List Pt)(q:D×D),jt q.2<=jt (cC pts q).2
 |[]=>fun q=>Nat.le_refl _
 |p::pts=>fun q=>Nat.le_trans (JK p q) (zR pts (stp p q))
theorem zj:∀(pts:List Pt)(prs:List (D×D)),lowP prs=true->OJ pts prs=lowP (prs.map (cC pts))
 |[]=>fun prs h=>by rw[show prs.map (cC [])=prs from List.map_id prs,h];rfl
 |p::pts=>fun prs h=>by
  have e:prs.map (cC (p::pts))=(prs.map (stp p)).map (cC pts):=by rw[List.map_map];rfl
  rw[OJ,e]
  cases c:lowP (prs.map (stp p))with
  |true=>rw[Bool.true_and,zj pts _ c]
  |false=>
   rw[Bool.false_and]
   refine Eq.symm ?_
   simp only[lowP,List.all_eq_false]at c⊢
   obtain⟨q,hq,hn⟩:=c
   refine⟨cC pts q,List.mem_map_of_mem hq,fun z=>hn ?_⟩
   have:=zR pts q
   simp only[decide_eq_true_eq]at z⊢
   omega
section
variable{h g k:Nat}{prs:List (D×D)}{ls:List Bool}
theorem cY.ack(O:cY h g 3 prs):lowP prs=true:=List.all_eq_true.mpr fun q hq=>decide_eq_true (O.kk q hq).ex.2
theorem Gu(O:cY h g 3 prs){q:D×D}(hq:q∈prs){p:Pt}(e:q.1=p.x):lowP (prs.map (stp p))=decide (jt q.2+1<=3):=by
 have tx:∀r∈prs,bZ r.1 p.x=true↔r=q:=fun r hr=>by
  rw[<-e,m9 (O.tx r.1 (List.mem_map_of_mem hr)) (O.tx q.1 (List.mem_map_of_mem hq))]
  exact⟨fun z=>ue O.nd hr hq z,fun z=>by rw[z]⟩
 rw[Bool.eq_iff_iff,decide_eq_true_eq,lowP,List.all_eq_true]
 constructor
 ·intro z
  have:=z (stp p q) (List.mem_map_of_mem hq)
  simp only[stp,if_pos ((tx q hq).mpr rfl),fU,decide_eq_true_eq]at this
  exact this
 ·intro z r0 hr0
  obtain⟨r,hr,rfl⟩:=List.mem_map.mp hr0
  refine decide_eq_true ?_
  simp only[stp]
  split
  ·rename_i c
   rw[(tx r hr).mp c,fU]
   exact z
  ·exact(O.kk r hr).ex.2
theorem FJ(n:Nat)(O:cY h g 3 prs)(ls:List Bool){p:Pt}(P:mX h g p):pg.fn (n+14) 14 [.val (bF h prs ls),.val (dX p)]=.ok (.val (.bl (lowP (prs.map (stp p))))) [.val (bF h prs ls),.val (dX p)]:=by
 obtain⟨q,hq,e⟩:=O.at P.x
 have w:=dB (n+10) (.inr rfl) (cG h g) P.y
 have:=zc n O ls hq (z:=.bl p.b) w
 rw[Gu O hq e]
 rw[e]at this
 simpa[fG,dX]using this
abbrev VJ:S:=(.cons (.ite (.not (.call 14 (.cons (.var 2) (.cons (.var 3) .nil)))) (.cons (.raise 1) .nil) .nil) (.cons (.set 2 (.call 15 (.cons (.var 2) (.cons (.var 3) .nil)))) .nil))
def Bad(h g:Nat)(d:D):Prop:=∀(prs:List (D×D))(ls:List Bool)(n:Nat),cY h g 3 prs->pg.fn (n+14) 14 [.val (bF h prs ls),.val d]=.ok (.val (.bl false)) [.val (bF h prs ls),.val d]
theorem ul(n:Nat)(a b:Sl)(ls:List Bool):∀(pts:List Pt)(prs:List (D×D))(rest:List D)(s:Sl),bK s->cY h g 3 prs->(∀p∈pts,mX h g p)->
  ∃s',bK s'/\((OJ pts prs=true/\cY h g 3 (prs.map (cC pts))/\aZ (.name 3) (ex (pg.cf (n+14)) VJ) (pts.map dX++rest) [a,b,.val (bF h prs ls),s]=aZ (.name 3) (ex (pg.cf (n+14)) VJ) rest [a,b,.val (bF h (prs.map (cC pts)) ls),s'])
   \/(OJ pts prs=false/\∃m,aZ (.name 3) (ex (pg.cf (n+14)) VJ) (pts.map dX++rest) [a,b,.val (bF h prs ls),s]=.exc 1 [a,b,m,s']))
 |[]=>fun prs rest s hs O _=>⟨s,hs,.inl ⟨rfl,by rw[show prs.map (cC [])=prs from List.map_id prs];exact O,by rw[show prs.map (cC [])=prs from List.map_id prs];rfl⟩⟩
 |p::pts=>fun prs rest s hs O hp=>by
  have P:=hp p List.mem_cons_self
  have e:=FJ n O ls P
  have w:=qb (n+12) O ls P
  have st:bA (.name 3) (dX p) [a,b,.val (bF h prs ls),s]=some [a,b,.val (bF h prs ls),.val (dX p)]:=by
   rcases hs with rfl|⟨d,rfl⟩<;>simp[bA,bY]
  have ef:prs.map (cC (p::pts))=(prs.map (stp p)).map (cC pts):=by rw[List.map_map];rfl
  cases c:lowP (prs.map (stp p))with
  |false=>
   rw[c]at e
   refine⟨.val (dX p),.inr ⟨_,rfl⟩,.inr ⟨by rw[OJ,c];rfl,.val (bF h prs ls),?_⟩⟩
   simp[aZ,st,e]
  |true=>
   rw[c]at e
   have O2:cY h g 3 (prs.map (stp p)):=(O.step P).low fun q hq=>by simpa using List.all_eq_true.mp c q hq
   obtain⟨s',hs',r⟩:=ul n a b ls pts (prs.map (stp p)) rest (.val (dX p)) (.inr ⟨_,rfl⟩) O2 fun q hq=>hp q (List.mem_cons_of_mem _ hq)
   have go:aZ (.name 3) (ex (pg.cf (n+14)) VJ) ((p::pts).map dX++rest) [a,b,.val (bF h prs ls),s]=aZ (.name 3) (ex (pg.cf (n+14)) VJ) (pts.map dX++rest) [a,b,.val (bF h (prs.map (stp p)) ls),.val (dX p)]:=by
    simp[aZ,st,e,w]
   refine⟨s',hs',?_⟩
   rw[OJ,c,ef,go]
   simpa using r
theorem O5(O:cB h g ks ls):aH h g ks ls=bF h ((bG g).zip ks) ls:=by simp[aH,bF,cJ]
theorem Kr(O:cB h g ks ls):cY h g 3 ((bG g).zip ks):=
 ⟨O.h2,O.g1,O.g5,by rw[List.map_fst_zip (by rw[di O.g5,O.kl];exact Nat.le_refl _)],fun q hq=>(O.kk q.2 (List.of_mem_zip hq).2).up (by omega)⟩
def Zg:S:=.cons (.for_ (.name 3) (.var 1) VJ) (.cons (.ret (.var 2)) .nil)
theorem jw:Ia=⟨2,4,(.cons (.set 2 (.call 0 (.cons (.var 0) .nil))) (.cons (.ite (.not (.isi (.var 1) .tup)) (.cons (.raise 1) .nil) .nil) Zg))⟩:=rfl
theorem Ed{ks:List D}(n:Nat)(O:cB h g ks ls){pts:List Pt}(hp:∀p∈pts,mX h g p):pg.fn (n+16) 31 [.val (aH h g ks ls),.val (.tup (pts.map dX))]
  =.ok (.val (if OJ pts ((bG g).zip ks)then bF h (((bG g).zip ks).map (cC pts)) ls else .str "none")) [.val (aH h g ks ls),.val (.tup (pts.map dX))]:=by
 have c:=jP (n+6) O
 have nP:=O5 O
 obtain⟨s',hs',r⟩:=ul n (.val (aH h g ks ls)) (.val (.tup (pts.map dX))) ls pts _ [] .un (.inl rfl) (Kr O) hp
 rw[List.append_nil,<-nP]at r
 have hi:ev (pg.cf (n+14)) (.var 1) [.val (aH h g ks ls),.val (.tup (pts.map dX)),.val (aH h g ks ls),.un]=.ok (.val (.tup (pts.map dX))) [.val (aH h g ks ls),.val (.tup (pts.map dX)),.val (aH h g ks ls),.un]:=by simp
 have q:∀(f:Nat)(a:E)(h:List (Nat×D)),(E.tcall f a h).au=none:=fun _ _ _=>rfl
 rcases r with ⟨o,_,r⟩|⟨o,m,r⟩
 ·have hh:pg.fn (n+15) 13 [.val (aH h g ks ls),.val (.tup (pts.map dX))]=.ok (.val (bF h (((bG g).zip ks).map (cC pts)) ls)) [.val (aH h g ks ls),.val (.tup (pts.map dX))]:=by
   rw[tE,jw]
   simp[c,Zg,items,r,aZ]
  rw[o,gY]
  simp[fV,gm,hh,q]
 ·have hh:pg.fn (n+15) 13 [.val (aH h g ks ls),.val (.tup (pts.map dX))]=.exc 1 [.val (aH h g ks ls),.val (.tup (pts.map dX))]:=by
   rw[tE,jw]
   simp[c,Zg,items,r]
  rw[o,gY]
  simp[fV,gm,hh,q,List.lookup]
theorem Eg{ks:List D}(n:Nat)(O:cB h g ks ls){pts:List Pt}(hp:∀p∈pts,mX h g p){d:D}(B:Bad h g d):pg.fn (n+16) 31 [.val (aH h g ks ls),.val (.tup (pts.map dX++[d]))]
  =.ok (.val (.str "none")) [.val (aH h g ks ls),.val (.tup (pts.map dX++[d]))]:=by
 have c:=jP (n+6) O
 have nP:=O5 O
 obtain⟨s',hs',r⟩:=ul n (.val (aH h g ks ls)) (.val (.tup (pts.map dX++[d]))) ls pts _ [d] .un (.inl rfl) (Kr O) hp
 rw[<-nP]at r
 have q:∀(f:Nat)(a:E)(h:List (Nat×D)),(E.tcall f a h).au=none:=fun _ _ _=>rfl
 have hh:pg.fn (n+15) 13 [.val (aH h g ks ls),.val (.tup (pts.map dX++[d]))]=.exc 1 [.val (aH h g ks ls),.val (.tup (pts.map dX++[d]))]:=by
  rw[tE,jw]
  rcases r with ⟨o,O2,r⟩|⟨o,m,r⟩
  ·have e:=B _ ls n O2
   have st:bA (.name 3) d [.val (aH h g ks ls),.val (.tup (pts.map dX++[d])),.val (bF h (((bG g).zip ks).map (cC pts)) ls),s']=some [.val (aH h g ks ls),.val (.tup (pts.map dX++[d])),.val (bF h (((bG g).zip ks).map (cC pts)) ls),.val d]:=by
    rcases hs' with rfl|⟨d,rfl⟩<;>simp[bA,bY]
   simp[c,Zg,items,r,aZ,st,e]
  ·simp[c,Zg,items,r]
 rw[gY]
 simp[fV,gm,hh,q,List.lookup]
theorem Ef{ks:List D}(n:Nat)(O:cB h g ks ls)(xs:List D):pg.fn (n+16) 31 [.val (aH h g ks ls),.val (.lst xs)]=.ok (.val (.str "none")) [.val (aH h g ks ls),.val (.lst xs)]:=by
 have c:=jP (n+6) O
 have q:∀(f:Nat)(a:E)(h:List (Nat×D)),(E.tcall f a h).au=none:=fun _ _ _=>rfl
 have hh:pg.fn (n+15) 13 [.val (aH h g ks ls),.val (.lst xs)]=.exc 1 [.val (aH h g ks ls),.val (.lst xs)]:=by
  rw[tE,jw]
  simp[c,fG]
 rw[gY]
 simp[fV,gm,hh,q,List.lookup]
end
end Tx
end
section
open PySem Mini
namespace Tx
section
variable{h g:Nat}{ks:List D}{ls:List Bool}
theorem v5(n:Nat){x:D}(hx:fG .tup x=false)(a b:Int):pg.fn (n+1) 3 [.val x,.val (.int a),.val (.int b)]=.ok (.val (.bl false)) [.val x,.val (.int a),.val (.int b)]:=by
 rw[jJ]
 simp[iu,hx]
theorem H8{x:D}(hx:fG .tup x=false):Bad h g x:=fun prs ls n O=>vH (n+10) O ls (v5 _ hx _ _)
theorem MP(a b:D):Bad h g (.tup [a,b]):=fun prs ls n O=>vH (n+10) O ls (by rw[jJ];simp[iu])
theorem HY{x:D}(hx:fG .str x=true->∃s,x=.str s/\D.str s∉bG g)(y z:D):Bad h g (.tup [x,y,z]):=fun prs ls n O=>FN (n+10) O ls hx y z
theorem Ac{x y z:D}(hx:x∈bG g){w:Bool}(hw:∀n,pg.fn (n+1) 7 [.val y,.val (.lst (names h g))]=.ok (.val (.bl w)) [.val y,.val (.lst (names h g))])(hz:(w&&fG .bool z)=false):Bad h g (.tup [x,y,z]):=fun prs ls n O=>by
 obtain⟨q,hq,rfl⟩:=O.at hx
 have:=zc n O ls hq (z:=z) (hw (n+10))
 rw[hz,Bool.and_false]at this
 exact this
theorem Nm(g:Nat):D.str "zz"∉bG g:=fun z=>by
 have:=List.mem_of_mem_take z
 simp at this
 exact absurd this (by decide+kernel)
theorem Ql(h g:Nat):D.str "zz"∉names h g:=fun z=>by
 rcases List.mem_append.mp z with z|z
 ·have:=List.mem_of_mem_take z
  simp at this
  exact absurd this (by decide+kernel)
 ·exact Nm g z
def pO(a:D):List D:=[.tup [.str "zz",a,.bl true],.tup [a,.str "zz",.bl true],.tup [a,a,.int 1],.lst [a,a,.bl true],.non,.tup [a,a]]++[.tup [a,a,.non],.tup [a,.tup [a],.bl true],.tup [.tup [a],a,.bl true]]
theorem ZK{a:D}(ha:a∈bG g):∀d∈pO a,Bad h g d:=fun d hd=>by
 have w:∀n,pg.fn (n+1) 7 [.val a,.val (.lst (names h g))]=.ok (.val (.bl true)) [.val a,.val (.lst (names h g))]:=fun n=>dB n (.inr rfl) (cG h g) (List.mem_append_right _ ha)
 simp only[pO,List.cons_append,List.nil_append,List.mem_cons,List.not_mem_nil,or_false]at hd
 rcases hd with rfl|rfl|rfl|rfl|rfl|rfl|rfl|rfl|rfl
 ·exact HY (fun _=>⟨_,rfl,Nm g⟩) _ _
 ·exact Ac ha (w:=false) (fun n=>by rw[BV n (cG h g),m7 (cG h g) (Ql h g)]) rfl
 ·exact Ac ha w rfl
 ·exact H8 rfl
 ·exact H8 rfl
 ·exact MP _ _
 ·exact Ac ha w rfl
 ·exact Ac ha (w:=false) (fun n=>oY n rfl _) rfl
 ·exact HY (fun z=>by cases z) _ _
theorem UG{x:D}(hx:x∈hd h)(O:cB h g ks ls)(y z:D):Bad h g (.tup [x,y,z]):=by
 refine HY (fun _=>?_) _ _
 obtain⟨s,rfl⟩:=cG h g x (List.mem_append_left _ hx)
 refine⟨s,rfl,fun hs=>?_⟩
 have nd:=names_nodup O.h2 O.g1 O.g5
 rw[names,List.nodup_append]at nd
 exact nd.2.2 _ hx _ hs rfl
def ptB:S:=(.cons (.set 6 (.idx (.idx (.idx (.var 1) (.con (.int (1)))) (.call 18 (.cons (.var 0) (.cons (.op .add (.con (.int (1))) (.op .mul (.con (.int (3))) (.var 5))) (.cons (.bi .len (.idx (.var 1) (.con (.int (1))))) .nil))))) (.con (.int (0))))) (.cons (.append 4 (.tup (.cons (.var 6) (.cons (.idx (.var 3) (.call 18 (.cons (.var 0) (.cons (.op .add (.con (.int (2))) (.op .mul (.con (.int (3))) (.var 5))) (.cons (.bi .len (.var 3)) .nil))))) (.cons (.cmp .eq (.call 18 (.cons (.var 0) (.cons (.op .add (.con (.int (3))) (.op .mul (.con (.int (3))) (.var 5))) (.cons (.con (.int (2))) .nil)))) (.con (.int (1)))) .nil))))) .nil))
abbrev lσ(ns:List Int)(N T n3 s4 s5 s6:Sl)(r:Ev):Ev:=.val (sc ns)::N::T::n3::s4::s5::s6::r
theorem Fq(n:Nat)(ns:List Int)(O:cB h g ks ls)(T:Sl)(r:Ev):∀(m:Nat)(lo:Int)(pts:List Pt)(s5 s6:Sl),0<=lo->m+pts.length<=100->bK s5->bK s6->(∀p∈pts,mX h g p)->∃(pts':List Pt)(s5' s6':Sl),pts'.length=m+pts.length/\bK s5'/\bK s6'/\(∀p∈pts',mX h g p)/\
  aZ (.name 5) (ex (pg.cf (n+2)) ptB) (bH lo m) (lσ ns (.val (aH h g ks ls)) T (.own (.lst (names h g))) (.own (.lst (pts.map dX))) s5 s6 r)=.next (lσ ns (.val (aH h g ks ls)) T (.own (.lst (names h g))) (.own (.lst (pts'.map dX))) s5' s6' r)
 |0=>fun lo pts s5 s6 _ _ h5 h6 hp=>⟨pts,s5,s6,by simp,h5,h6,hp,rfl⟩
 |m+1=>fun lo pts s5 s6 hlo hm h5 h6 hp=>by
  have lg:=di O.g5
  have kl:=O.kl
  have g1:=O.g1
  have L:=lH (g:=g) O.h2 O.g5
  have lz:(aG (bG g) ks).length=g:=by rw[sH (by rw[lg,kl]),lg]
  obtain⟨a,a1,a2,ea⟩:=fM n ns (1+3*lo) g (by omega) (by omega)
  obtain⟨b,b1,b2,eb⟩:=fM n ns (2+3*lo) ((h:Int)+g) (by omega) (by omega)
  obtain⟨c,c1,c2,ec⟩:=fM n ns (3+3*lo) 2 (by omega) (by omega)
  obtain⟨a,rfl⟩:=Int.eq_ofNat_of_zero_le a1
  obtain⟨b,rfl⟩:=Int.eq_ofNat_of_zero_le b1
  obtain⟨x,d,e1,e2⟩:=zip_get (bG g) ks a (by omega) (by omega)
  obtain⟨y,e3⟩:∃y,(names h g)[b]? =some y:=⟨_,List.getElem?_eq_getElem (by omega)⟩
  have hx:x∈bG g:=List.mem_of_getElem? e2
  have hy:y∈names h g:=List.mem_of_getElem? e3
  obtain⟨pts',s5',s6',q1,q2,q3,q4,q5⟩:=Fq n ns O T r m (lo+1) (pts++[⟨x,y,c==1⟩]) (.val (.int lo)) (.val x) (by omega) (by simp;omega) (.inr ⟨_,rfl⟩) (.inr ⟨_,rfl⟩) (fun p hp'=>by
   rcases List.mem_append.mp hp' with z|z
   ·exact hp p z
   ·rw[List.mem_singleton.mp z];exact⟨hx,hy⟩)
  refine⟨pts',s5',s6',by rw[q1];simp;omega,q2,q3,q4,?_⟩
  rw[<-q5]
  have st:bA (.name 5) (.int lo) (lσ ns (.val (aH h g ks ls)) T (.own (.lst (names h g))) (.own (.lst (pts.map dX))) s5 s6 r)=some (lσ ns (.val (aH h g ks ls)) T (.own (.lst (names h g))) (.own (.lst (pts.map dX))) (.val (.int lo)) s6 r):=by
   rcases h5 with rfl|⟨d,rfl⟩<;>simp[bA,bY]
  have i1:at? (aG (bG g) ks) (a:Int)=some (.tup [x,d]):=by rw[iy _ _ (by omega),e1]
  have i2:at? (names h g) (b:Int)=some y:=by rw[iy _ _ (by omega),e3]
  have n1:getD (aH h g ks ls) (.int 1)=some (.tup (aG (bG g) ks)):=by simp[aH]
  have f:fits (pts.length+1)=true:=by simp[fits];omega
  have sm:small 3=true:=by decide
  have L':((names h g).length:Int)=(h:Int)+g:=by rw[L];simp
  rw[bH,aZ,st]
  rcases h6 with rfl|⟨d6,rfl⟩<;>simp[ptB,n1,lz,ea,i1,L',eb,i2,ec,sm,cu,mL,f,aN,dX,List.map_append]
end
end Tx
end
section
open PySem Mini
namespace Tx
def LC:S->S
 |.ite _ a _=>a
 |s=>s
def inB:S:=(.cons (.ite (.cmp .eq (.idx (.var 12) (.con (.int (0)))) (.var 10)) (.cons (.set 11 (.tup (.cons (.con (.str "held")) (.cons (.var 11) (.cons (.idx (.var 12) (.con (.int (1)))) (.cons (.idx (.var 12) (.con (.int (2)))) .nil)))))) .nil) .nil) .nil)
def gtB:S:=(.cons (.for_ (.name 12) (.var 4) inB) (.cons (.append 9 (.tup (.cons (.var 10) (.cons (.var 11) .nil)))) .nil))
section
variable{h g:Nat}{ks:List D}{ls:List Bool}(c:Cf)(a0 a1 a2 a3 a5 a6 a7 a8 qe:Sl)
theorem Pu(s4 s9:Sl){x:D}(hx:∃s,x=.str s):∀(pts:List Pt)(k:D)(s:Sl),bK s->(∀p∈pts,mX h g p)->∃s',bK s'/\
  aZ (.name 12) (ex c inB) (pts.map dX) [a0,a1,a2,a3,s4,a5,a6,a7,a8,s9,.val x,.val k,s,qe]=.next [a0,a1,a2,a3,s4,a5,a6,a7,a8,s9,.val x,.val (cC pts (x,k)).2,s',qe]
 |[]=>fun k s hs _=>⟨s,hs,rfl⟩
 |p::pts=>fun k s hs hp=>by
  have e1:(stp p (x,k)).1=x:=rfl
  obtain⟨s',h1,h2⟩:=Pu s4 s9 hx pts (stp p (x,k)).2 (.val (dX p)) (.inr ⟨_,rfl⟩) fun q hq=>hp q (List.mem_cons_of_mem _ hq)
  refine⟨s',h1,?_⟩
  rw[show cC (p::pts) (x,k)=cC pts (x,(stp p (x,k)).2)from rfl,<-h2]
  obtain⟨t,et⟩:=mZ g p.x (hp p List.mem_cons_self).x
  obtain⟨u,rfl⟩:=hx
  have g0:getD (dX p) (.int 0)=some (.str t):=by simp[dX,et]
  have g1:getD (dX p) (.int 1)=some p.y:=by simp[dX]
  have g2:getD (dX p) (.int 2)=some (.bl p.b):=by simp[dX]
  rw[List.map_cons,aZ]
  have st:bA (.name 12) (dX p) [a0,a1,a2,a3,s4,a5,a6,a7,a8,s9,.val (.str u),.val k,s,qe]=some [a0,a1,a2,a3,s4,a5,a6,a7,a8,s9,.val (.str u),.val k,.val (dX p),qe]:=by
   rcases hs with rfl|⟨d,rfl⟩<;>simp[bA,bY]
  rw[st]
  by_cases e:t=u
  ·have q:bZ (.str u) p.x=true:=(m9 ⟨u,rfl⟩ ⟨t,et⟩).mpr (by rw[et,e])
   rw[show(stp p (.str u,k)).2=.tup [.str "held",k,p.y,.bl p.b]from if_pos q]
   simp[inB,g0,g1,g2,e,aN]
  ·have q:¬bZ (.str u) p.x=true:=fun z=>e (by have:=(m9 ⟨u,rfl⟩ ⟨t,et⟩).mp z;rw[et]at this;cases this;rfl)
   rw[show(stp p (.str u,k)).2=k from if_neg q]
   simp[inB,g0,e]
theorem PJ(L:List D)(pts:List Pt)(hp:∀p∈pts,mX h g p)(hL:L=pts.map dX):∀(prs acc:List (D×D))(s4 Jg Jf s12:Sl),(s4=.own (.lst L)\/s4=.val (.lst L))->bK Jg->bK Jf->bK s12->(∀q∈prs,∃s,q.1=.str s)->acc.length+prs.length<=100->∃s4' s10' s11' s12',(s4'=.own (.lst L)\/s4'=.val (.lst L))/\bK s10'/\bK s11'/\bK s12'/\
  aZ (.tup [10,11]) (ex c gtB) (prs.map pairD) [a0,a1,a2,a3,s4,a5,a6,a7,a8,.own (.lst (acc.map pairD)),Jg,Jf,s12,qe]=.next [a0,a1,a2,a3,s4',a5,a6,a7,a8,.own (.lst ((acc++prs.map (cC pts)).map pairD)),s10',s11',s12',qe]
 |[]=>fun acc s4 Jg Jf s12 h4 h10 h11 h12 _ _=>⟨s4,Jg,Jf,s12,h4,h10,h11,h12,by simp[aZ]⟩
 |q::prs=>fun acc s4 Jg Jf s12 h4 h10 h11 h12 hq hl=>by
  obtain⟨s',f1,f2⟩:=Pu c a0 a1 a2 a3 a5 a6 a7 a8 qe (.val (.lst L)) (.own (.lst (acc.map pairD))) (hq q List.mem_cons_self) pts q.2 s12 h12 hp
  have e1:(cC pts q).1=q.1:=by
   have:∀(pts:List Pt)(q:D×D),(cC pts q).1=q.1:=fun pts=>by
    induction pts with
    |nil=>intro q;rfl
    |cons p pts ih=>intro q;exact ih (stp p q)
   exact this pts q
  obtain⟨s4',s10',s11',s12',b1,b2,b3,b4,b5⟩:=PJ L pts hp hL prs (acc++[cC pts q]) (.val (.lst L)) (.val q.1) (.val (cC pts q).2) s' (.inr rfl) (.inr ⟨_,rfl⟩) (.inr ⟨_,rfl⟩) f1 (fun r hr=>hq r (List.mem_cons_of_mem _ hr)) (by simp at hl⊢;omega)
  refine⟨s4',s10',s11',s12',b1,b2,b3,b4,?_⟩
  rw[List.map_cons,aZ]
  have st:bA (.tup [10,11]) (pairD q) [a0,a1,a2,a3,s4,a5,a6,a7,a8,.own (.lst (acc.map pairD)),Jg,Jf,s12,qe]=some [a0,a1,a2,a3,s4,a5,a6,a7,a8,.own (.lst (acc.map pairD)),.val q.1,.val q.2,s12,qe]:=by
   rcases h10 with rfl|⟨d,rfl⟩<;>rcases h11 with rfl|⟨d,rfl⟩<;>simp[bA,gq,bY,pairD]
  have f:fits (acc.length+1)=true:=by simp at hl;simp[fits];omega
  have rd:ev c (.var 4) [a0,a1,a2,a3,s4,a5,a6,a7,a8,.own (.lst (acc.map pairD)),.val q.1,.val q.2,s12,qe]=.ok (.val (.lst L)) [a0,a1,a2,a3,.val (.lst L),a5,a6,a7,a8,.own (.lst (acc.map pairD)),.val q.1,.val q.2,s12,qe]:=by
   rcases h4 with rfl|rfl<;>simp[Ob.d]
  rw[st]
  have fo:ex c (.for_ (.name 12) (.var 4) inB) [a0,a1,a2,a3,s4,a5,a6,a7,a8,.own (.lst (acc.map pairD)),.val q.1,.val q.2,s12,qe]=.next [a0,a1,a2,a3,.val (.lst L),a5,a6,a7,a8,.own (.lst (acc.map pairD)),.val q.1,.val (cC pts q).2,s',qe]:=by
   rw[Wj,rd]
   simp only[Mu,items]
   rw[hL]
   rw[hL]at f2
   exact f2
  have go:ex c gtB [a0,a1,a2,a3,s4,a5,a6,a7,a8,.own (.lst (acc.map pairD)),.val q.1,.val q.2,s12,qe]=.next [a0,a1,a2,a3,.val (.lst L),a5,a6,a7,a8,.own (.lst ((acc++[cC pts q]).map pairD)),.val q.1,.val (cC pts q).2,s',qe]:=by
   have ap:ex c (.append 9 (.tup (.cons (.var 10) (.cons (.var 11) .nil)))) [a0,a1,a2,a3,.val (.lst L),a5,a6,a7,a8,.own (.lst (acc.map pairD)),.val q.1,.val (cC pts q).2,s',qe]=.next [a0,a1,a2,a3,.val (.lst L),a5,a6,a7,a8,.own (.lst ((acc++[cC pts q]).map pairD)),.val q.1,.val (cC pts q).2,s',qe]:=by
    simp[cu,mL,f,aN,pairD,e1]
   simp only[gtB,ac9,fo]
   simp[ap]
  simp only[go]
  rw[show acc++(q::prs).map (cC pts)=acc++[cC pts q]++prs.map (cC pts) by simp,<-b5]
  rfl
end
end Tx
end
section
open PySem Mini
namespace Tx
def vX:S:=dU (dU (dU (dU jk.body)))
def Sy:S:=dU vX
def Dd:S:=LC (hdS vX)
section
variable{h g:Nat}{ks:List D}{ls:List Bool}
theorem JZ{g:Nat}(g1:1<=g):∃xs,bG g=.str "p"::xs:=by
 obtain⟨j,rfl⟩:∃j,g=j+1:=⟨g-1,by omega⟩
 exact⟨_,rfl⟩
theorem R7(h:Nat):aC .ne (.tup (hd h)) (.tup [])=some (!(hd h).isEmpty):=by
 have nn:=fun x hx=>vN (h:=h) (g:=0) x (List.mem_append_left _ hx)
 have a:=fD (hd h) fun x hx=>(nn x hx).1
 have b:=dN (k:=0) (hd h) fun x hx=>Nat.le_of_eq (nn x hx).2
 have c:bZ (.tup (hd h)) (.tup [])=(hd h).isEmpty:=by cases hd h<;>simp[bZ,mU]
 have d:eZ (hd h)+1<=50:=by omega
 show(if jj (.tup (hd h)) (.tup [])then some (!bZ (.tup (hd h)) (.tup []))else none)=_
 rw[c,show jj (.tup (hd h)) (.tup [])=true by simp[jj,nd,iQ,dep,a,d]]
 rfl
theorem Ln(ns:List Int)(O:cB h g ks ls){pts:List Pt}(hp:∀p∈pts,mX h g p)(hl:pts.length<=3)(T:Sl){s5 s6:Sl}(h6:bK s6):∃σ,
  ex (pg.cf 59) Dd [.val (sc ns),.val (aH h g ks ls),T,.own (.lst (names h g)),.own (.lst (pts.map dX)),s5,s6,.un,.un,.un,.un,.un,.un,.un]=.ret (.val (.bl true)) σ:=by
 obtain⟨xs,er⟩:=JZ O.g1
 have kl:=O.kl
 have lg:=di O.g5
 have g1:=O.g1
 obtain⟨k0,ks',rfl⟩:∃k0 ks',ks=k0::ks':=by
  cases ks with
  |nil=>simp at kl;omega
  |cons a b=>exact⟨a,b,rfl⟩
 have i0:at? (aG (bG g) (k0::ks')) 0=some (.tup [.str "p",k0]):=by rw[er,aG];simp[at?,ix?]
 have pin:D.str "p"∈bG g:=by rw[er];exact List.mem_cons_self
 have n0:getD (aH h g (k0::ks') ls) (.int 0)=some (.tup (hd h)):=by simp[aH]
 have n1:getD (aH h g (k0::ks') ls) (.int 1)=some (.tup (aG (bG g) (k0::ks'))):=by simp[aH]
 have fin:∀(L:List D)(T7:Ev),(∀d∈L,Bad h g d)->0<L.length->L.length<=100->∃σ,ex (pg.cf 59) (dU (dU (dU (dU Dd)))) [.val (sc ns),.val (aH h g (k0::ks') ls),T,.own (.lst (names h g)),.own (.lst (pts.map dX)),s5,.val (.str "p"),.own (.lst L),.un,.un,.un,.un,.un,.un]=.ret (.val (.bl true)) σ:=fun L T7 hL l0 l1=>by
  obtain⟨r,r1,r2,e⟩:=fM 57 ns 12 L.length (by omega) (by omega)
  obtain⟨r,rfl⟩:=Int.eq_ofNat_of_zero_le r1
  obtain⟨d,ed⟩:∃d,L[r]? =some d:=⟨_,List.getElem?_eq_getElem (by omega)⟩
  have B:=hL d (List.mem_of_getElem? ed)
  have i1:at? L (r:Int)=some d:=by rw[iy _ _ (by omega),ed]
  have t1:=Eg 43 O hp B
  have t2:=Ef 43 O [.tup [.str "p",.str "p",.bl true]]
  have f:fits (pts.length+1)=true:=by simp[fits];omega
  simp[Dd,LC,hdS,vX,dU,jk,e,i1,f,aN,Ob.d,t1,t2]
 have B0:∀d∈pO (.str "p"),Bad h g d:=ZK pin
 have f9:fits 9=true:=by decide
 have f10:fits 10=true:=by decide
 have ne:=R7 h
 cases eh:hd h with
 |nil=>
  obtain⟨σ,e⟩:=fin (pO (.str "p")) [] B0 (by simp[pO]) (by simp[pO])
  refine⟨σ,?_⟩
  rw[<-e]
  rw[eh]at ne n0
  rcases h6 with rfl|⟨d6,rfl⟩<;>simp[Dd,LC,hdS,vX,dU,jk,n0,n1,i0,aN,cu,fQ,mL,ne,pO,Ob.d,fits]
 |cons x hs=>
  have Bx:Bad h g (.tup [x,.str "p",.bl true]):=UG (by rw[eh];exact List.mem_cons_self) O _ _
  obtain⟨σ,e⟩:=fin (pO (.str "p")++[.tup [x,.str "p",.bl true]]) [] (fun d hd=>by
   rcases List.mem_append.mp hd with z|z
   ·exact B0 d z
   ·rw[List.mem_singleton.mp z];exact Bx) (by simp[pO]) (by simp[pO])
  refine⟨σ,?_⟩
  rw[<-e]
  rw[eh]at ne n0
  have ix:at? (x::hs) 0=some x:=by simp[at?,ix?]
  rcases h6 with rfl|⟨d6,rfl⟩<;>simp[Dd,LC,hdS,vX,dU,jk,n0,n1,i0,ix,aN,cu,fQ,mL,ne,pO,Ob.d,fits]
end
end Tx
end
section
open PySem Mini
namespace Tx
section
variable{h g k:Nat}{ks:List D}{ls:List Bool}{prs:List (D×D)}
theorem cY.fin:∀{pts:List Pt}{k:Nat}{prs:List (D×D)},cY h g k prs->(∀p∈pts,mX h g p)->cY h g (k+pts.length) (prs.map (cC pts))
 |[],k,prs,O,_=>by rw[show prs.map (cC [])=prs from List.map_id prs];exact O
 |p::pts,k,prs,O,hp=>by
  have:=cY.fin (O.step (hp p List.mem_cons_self)) fun q hq=>hp q (List.mem_cons_of_mem _ hq)
  rw[List.map_map]at this
  rw[show k+(p::pts).length=k+1+pts.length by simp;omega]
  exact this
theorem Bl(O:cY h g k prs)(hk:k<=10):(∀q∈prs,nd q.2=true/\dep q.2<=13)/\nd (bF h prs ls)=true/\dep (bF h prs ls)<=50:=by
 have nn:=vN (h:=h) (g:=g)
 have K:∀q∈prs,nd q.2=true/\dep q.2<=13:=fun q hq=>by
  have:=Lq nn (O.kk q hq)
  exact⟨this.1,by omega⟩
 have H:∀x∈hd h,nd x=true/\dep x=0:=fun x hx=>nn x (List.mem_append_left _ hx)
 have Z:∀x∈prs.map pairD,nd x=true/\dep x<=14:=fun x hx=>by
  obtain⟨p,hp,rfl⟩:=List.mem_map.mp hx
  have a:=nn p.1 (List.mem_append_right _ (by rw[<-O.keys];exact List.mem_map_of_mem hp))
  have b:=K p hp
  refine⟨by simp[pairD,nd,iQ,a.1,b.1],?_⟩
  have:=a.2
  have:=b.2
  simp only[pairD,dep,eZ]
  omega
 have B:∀x∈ls.map D.bl,nd x=true/\dep x=0:=fun x hx=>by obtain⟨b,_,rfl⟩:=List.mem_map.mp hx;exact⟨rfl,rfl⟩
 have d1:=dN (k:=0) (hd h) fun x hx=>Nat.le_of_eq (H x hx).2
 have d2:=dN (k:=14) (prs.map pairD) fun x hx=>(Z x hx).2
 have d3:=dN (k:=0) (ls.map D.bl) fun x hx=>Nat.le_of_eq (B x hx).2
 refine⟨K,by simp only[bF,nd,iQ,fD _ fun x hx=>(H x hx).1,fD _ fun x hx=>(Z x hx).1,fD _ fun x hx=>(B x hx).1];rfl,?_⟩
 simp only[bF,dep,eZ]
 omega
theorem R9{L:List D}(hL:∀x∈L,nd x=true/\dep x<=13):aC .ne (.lst L) (.lst [])=some (!L.isEmpty):=by
 have a:=fD L fun x hx=>(hL x hx).1
 have b:=dN (k:=13) L fun x hx=>(hL x hx).2
 have c:bZ (.lst L) (.lst [])=L.isEmpty:=by cases L<;>simp[bZ,mU]
 have d:eZ L+1<=50:=by omega
 show(if jj (.lst L) (.lst [])then some (!bZ (.lst L) (.lst []))else none)=_
 rw[c,show jj (.lst L) (.lst [])=true by simp[jj,nd,iQ,dep,a,d]]
 rfl
def PX:E:=(.comp 2 (.tup [0,1]) (.var 9) (.cmp .gt (.call 32 (.cons (.var 1) .nil)) (.con (.int (3)))) (.var 1))
def SJ:S:=dU (dU (dU Sy))
theorem Lp:SJ=.cons (.ite (.cmp .ne PX (.lis .nil)) (.cons (.ret (.cmp .eq (.var 13) (.con (.str "none")))) .nil) .nil) (.cons (.ret (.cmp .eq (.var 13) (.tup (.cons (.idx (.var 1) (.con (.int (0)))) (.cons (.bi .tuple (.var 9)) (.cons (.idx (.var 1) (.con (.int (2)))) .nil)))))) .nil):=rfl
theorem Lk(O:cB h g ks ls)(P:cY h g k prs)(hk:k<=10)(A:D)(hA:A=if lowP prs then bF h prs ls else .str "none")(a0 a2 a3 a4 a5 a6 a7 a8 a10 a11 a12:Sl):
  ex (pg.cf 59) SJ [a0,.val (aH h g ks ls),a2,a3,a4,a5,a6,a7,a8,.own (.lst (prs.map pairD)),a10,a11,a12,.val A]=.ret (.val (.bl true)) [a0,.val (aH h g ks ls),a2,a3,a4,a5,a6,a7,a8,.val (.lst (prs.map pairD)),a10,a11,a12,.val A]:=by
 have pl:=Bl (ls:=ls) P hk
 have e:ev (pg.cf 59) PX [a0,.val (aH h g ks ls),a2,a3,a4,a5,a6,a7,a8,.own (.lst (prs.map pairD)),a10,a11,a12,.val A]=.ok (.new (.lst ((prs.filter fun q=>decide (3<jt q.2)).map (·.2)))) [a0,.val (aH h g ks ls),a2,a3,a4,a5,a6,a7,a8,.val (.lst (prs.map pairD)),a10,a11,a12,.val A]:=by
  refine HF (d:=.lst (prs.map pairD)) (ps:=prs) (r:=.val (.lst (prs.map pairD))) (fun q=>q.2) (fun q=>decide (3<jt q.2)) (by simp[Ob.d]) rfl rfl (fun q hq=>?_) fun q hq _=>by simp
  have dp:=Mx (P.kk q hq) (58-k)
  rw[show 58-k+1+k=59 by omega]at dp
  have:(3:Int)<jt q.2↔3<jt q.2:=by omega
  simp[dp,this]
 have n0:getD (aH h g ks ls) (.int 0)=some (.tup (hd h)):=by simp[aH]
 have n2:getD (aH h g ks ls) (.int 2)=some (.tup (ls.map .bl)):=by simp[aH]
 have ne:=R9 (L:=(prs.filter fun q=>decide (3<jt q.2)).map (·.2)) fun x hx=>by
  obtain⟨q,hq,rfl⟩:=List.mem_map.mp hx
  exact pl.1 q (List.mem_filter.mp hq).1
 rw[Lp]
 cases c:lowP prs with
 |true=>
  rw[c]at hA
  have em:(prs.filter fun q=>decide (3<jt q.2))=[]:=List.filter_eq_nil_iff.mpr fun q hq=>by
   have:=List.all_eq_true.mp c q hq
   simp at this⊢
   exact this
  rw[em,List.map_nil]at ne e
  have q:=Zt pl.2
  have hA':A=bF h prs ls:=hA
  subst hA'
  rw[show bF h prs ls=.tup [.tup (hd h),.tup (prs.map pairD),.tup (ls.map .bl)]from rfl]at q e⊢
  simp[e,aN,ne,Ob.d,n0,n2,q]
 |false=>
  rw[c]at hA
  have em:(((prs.filter fun q=>decide (3<jt q.2)).map (·.2)).isEmpty)=false:=by
   simp only[lowP,List.all_eq_false]at c
   obtain⟨q,hq,hn⟩:=c
   rw[List.isEmpty_eq_false_iff]
   refine List.ne_nil_of_mem (List.mem_map_of_mem (List.mem_filter.mpr ⟨hq,?_⟩))
   simp at hn⊢
   exact hn
  rw[em]at ne
  have hA':A=.str "none":=hA
  subst hA'
  simp[e,aN,ne,Ob.d]
end
theorem math(ns:List Int)(hl:ns.length<=63):∃qs,pg.fn 60 33 [.val (.lst (ns.map .int))]=.ok (.val (.bl true)) qs:=by
 obtain⟨h,g,ks,ls,os,sts,O,T,e⟩:=MK 50 ns 14 (by omega)
 have ln:=uc 58 O
 obtain⟨m,m1,m2,em⟩:=fM 57 ns 0 4 (by omega) (by omega)
 obtain⟨r,r1,r2,er⟩:=fM 57 ns 11 3 (by omega) (by omega)
 obtain⟨m,rfl⟩:=Int.eq_ofNat_of_zero_le m1
 obtain⟨pts,s5,s6,q1,q2,q3,q4,q5⟩:=Fq 57 ns O (.val (dH os sts)) [.un,.un,.un,.un,.un,.un,.un] m 0 [] .un .un (by omega) (by simp;omega) (.inl rfl) (.inl rfl) (fun p hp=>by cases hp)
 have pl:pts.length<=3:=by simp at q1;omega
 have f1:fits m=true:=by simp[fits];omega
 have f2:qY m=true:=by simp[qY];omega
 have hb:jk.body=.cons (hdS jk.body) (.cons (hdS (dU jk.body)) (.cons (hdS (dU (dU jk.body))) (.cons (.for_ (.name 5) (.range1 (.call 18 (.cons (.var 0) (.cons (.con (.int (0))) (.cons (.con (.int (4))) .nil))))) ptB) vX))):=rfl
 have st:ex (pg.cf 59) jk.body [.val (sc ns),.un,.un,.un,.un,.un,.un,.un,.un,.un,.un,.un,.un,.un]=ex (pg.cf 59) vX (lσ ns (.val (aH h g ks ls)) (.val (dH os sts)) (.own (.lst (names h g))) (.own (.lst (pts.map dX))) s5 s6 [.un,.un,.un,.un,.un,.un,.un]):=by
  rw[hb]
  simp only[List.map_nil,lσ]at q5
  simp[hdS,dU,jk,e,ln,em,f1,f2,aN,items,bA,gq,bY,q5]
 rw[show(60:Nat)=59+1 from rfl,XD,st]
 have hU:vX=.cons (.ite (.cmp .eq (.call 18 (.cons (.var 0) (.cons (.con (.int (11))) (.cons (.con (.int (3))) .nil)))) (.con (.int (1)))) Dd .nil) Sy:=rfl
 rw[hU]
 by_cases c:r=1
 ·subst c
  obtain⟨σ,eb⟩:=Ln ns O q4 pl (.val (dH os sts)) (s5:=s5) q3
  exact⟨σ.take 1,by simp only[lσ];simp[er,eb]⟩
 ·obtain⟨s4',s10',s11',s12',b1,b2,b3,b4,b5⟩:=PJ (pg.cf 59) (.val (sc ns)) (.val (aH h g ks ls)) (.val (dH os sts)) (.own (.lst (names h g))) s5 s6 .un .un .un (pts.map dX) pts q4 rfl ((bG g).zip ks) [] (.own (.lst (pts.map dX))) .un .un .un (.inl rfl) (.inl rfl) (.inl rfl) (.inl rfl) (fun q hq=>mZ g q.1 (List.of_mem_zip hq).1) (by have:=di O.g5;have:=O.g5;simp;omega)
  have t:=Ed 43 O q4
  have P:=(Kr O).fin q4
  rw[zj _ _ (Kr O).ack]at t
  rw[List.nil_append,List.map_nil]at b5
  generalize ((bG g).zip ks).map (cC pts)=G at t P b5
  have ee:=Lk O P (by omega) _ rfl (.val (sc ns)) (.val (dH os sts)) (.own (.lst (names h g))) s4' s5 s6 .un .un s10' s11' s12'
  have hV:Sy=.cons (.set 9 (.lis .nil)) (.cons (.for_ (.tup [10,11]) (.idx (.var 1) (.con (.int (1)))) gtB) (.cons (.set 13 (.call 31 (.cons (.var 1) (.cons (.bi .tuple (.var 4)) .nil)))) SJ)):=rfl
  have n1:getD (aH h g ks ls) (.int 1)=some (.tup (((bG g).zip ks).map pairD)):=by simp[aH,cJ]
  have c':(r==1)=false:=by simpa using c
  refine⟨[.val (sc ns)],?_⟩
  rw[hV]
  simp only[lσ]
  rcases b1 with rfl|rfl<;>simp[er,c',aN,n1,items,b5,t,Ob.d,ee]
end Tx
end
namespace Tx
open PySem PySem.W L2 Mini
def gE(P:Params)(x:Str)(i:Nat)(v:Value):DictEntry:=⟨PyData.keyHash P x,.str x i,v⟩
def fO(x:Str)(st:Stmt)(m:Value)(c:Addr):Obj:=⟨.type "function",none,.func (PySem.W.fnOf x x (dg st) (bW st) (aq st) .none .none .none m none (.ref c) .none), #[]⟩
def cO(x:Str)(a:Nat)(l n:Int)(r s:Nat)(u v:Value)(t:Nat)(q:Int)(z:Nat):Obj:=⟨.type "code",none,.fields #[.str x a,.str x (a+1),.str "/claim/cut.py" (a+2),.int l 0,.int n 0,.int 0 0,.int 0 0,.int 3 0,.ref r,.bool true,.int 181 0,.ref s,.none,u,v,.ref t,.int q 0,.int l 0,.str "/claim/cut.py" z], #[]⟩
def O7:Value:=.str "anywait.mending" 362
def lZ:Value:=.str "anywait.nets" 239
def jo:Value:=.str "law_anywait_k24_held" 397
def o52:Obj:=⟨.type "tuple",none,.seq #[.str "input" 245,.str "gate" 246,.str "start" 247,.str "out" 248,.str "state" 249,.str "same" 250,.str "not" 251,.str "and" 252,.str "or" 253,.str "both" 254,.str "held" 255,.str "table" 256,.str "on" 257,.str "off" 258], #[]⟩
def o24:Obj:=excClassObj "WaitError" "WaitError" 24 23 [.type "ValueError"] yz true [] [.ref 37,.ref 49] false none none (some (.ref 15)) none (some (.str "WaitError" 189)) (some (.str "WaitError" 197)) (some (.bool true)) "ValueError.__new__"
def Zx(P:Params):Array DictEntry:= #[gE P "__module__" 196 (.str "anywait.errors" 187),gE P "__firstlineno__" 200 (.int 2 199),gE P "__static_attributes__" 201 (.ref 22),gE P "__weakref__" 203 (.ref 25),gE P "__doc__" 204 .none]
def o49:Obj:=excClassObj "NoTalk" "NoTalk" 49 48 [.ref 24] (.ref 24::yz) true [] [] false none none (some (.ref 40)) none (some (.str "NoTalk" 223)) (some (.str "NoTalk" 231)) (some (.bool true)) "ValueError.__new__"
def Zw(P:Params):Array DictEntry:= #[gE P "__module__" 230 (.str "anywait.errors" 187),gE P "__firstlineno__" 234 (.int 6 233),gE P "__static_attributes__" 235 (.ref 47),gE P "__doc__" 236 .none]
def o37:Obj:=excClassObj "NoNet" "NoNet" 37 36 [.ref 24] (.ref 24::yz) true [] [] false none none (some (.ref 28)) none (some (.str "NoNet" 207)) (some (.str "NoNet" 215)) (some (.bool true)) "ValueError.__new__"
def e36(P:Params):Array DictEntry:= #[gE P "__module__" 214 (.str "anywait.errors" 187),gE P "__firstlineno__" 218 (.int 4 217),gE P "__static_attributes__" 219 (.ref 35),gE P "__doc__" 220 .none]
def Kf(P:Params):PySem.W.Frag:=[(3,⟨.type "dict",none,.dict #[gE P "__name__" 165 (.str "law_anywait_k24_held" 397),gE P "__doc__" 166 .none,gE P "__package__" 167 .none,gE P "__loader__" 168 (.builtin "__main__.__loader__#opaque"),gE P "__spec__" 169 .none,gE P "__annotations__" 170 (.ref 6),gE P "__builtins__" 171 (.ref 4),gE P "__file__" 173 (.str "/claim/cut.py" 172),gE P "__cached__" 174 .none,gE P "WaitError" 206 (.ref 24),gE P "NoNet" 222 (.ref 37),gE P "NoTalk" 238 (.ref 49),gE P "LETTERS" 242 (.str "abcdefghijklmnopqrstuvwxyz" 241),gE P "LONGEST_NAME" 244 (.int 6 243),gE P "WORDS" 259 (.ref 52),gE P "MOST_INPUTS" 261 (.int 3 260),gE P "MOST_GATES" 263 (.int 5 262),gE P "MOST_WIRES" 265 (.int 4 264),gE P "MOST_TABLE_WIRES" 267 (.int 8 266),gE P "DEEPEST_HELD" 269 (.int 3 268),gE P "checked" 276 (.ref 59),gE P "is_net" 282 (.ref 64),gE P "has_parts" 288 (.ref 69),gE P "is_tuple" 297 (.ref 76),gE P "is_name" 303 (.ref 81),gE P "are_unlike" 309 (.ref 86),gE P "is_row" 315 (.ref 91),gE P "is_wire" 323 (.ref 98),gE P "are_wires" 329 (.ref 103),gE P "are_rows" 335 (.ref 108),gE P "is_kind" 346 (.ref 115),gE P "is_held" 355 (.ref 122),gE P "wire_names" 361 (.ref 127),gE P "held" 373 (.ref 134),gE P "is_point" 382 (.ref 141),gE P "with_point" 388 (.ref 146),gE P "held_kind" 396 (.ref 153),gE P "_law_cell_at" 406 (.ref 160),gE P "_law_mixed" 416 (.ref 167),gE P "_law_next" 425 (.ref 174),gE P "_law_some" 437 (.ref 181),gE P "_law_table" 443 (.ref 186),gE P "_law_kind" 455 (.ref 193),gE P "_law_net" 461 (.ref 198),gE P "_law_talk" 467 (.ref 203),gE P "_law_ring" 473 (.ref 208),gE P "_law_chain" 487 (.ref 215),gE P "_law_meeting" 501 (.ref 222),gE P "_law_spoilt_kind" 507 (.ref 227),gE P "_law_case" 519 (.ref 234),gE P "_law_names" 525 (.ref 239),gE P "_law_told" 534 (.ref 246),gE P "_law_deep" 541 (.ref 253),gE P "law" 547 (.ref 258)] 54, #[]⟩),
 (59,fO "checked" s0 lZ 58),
 (58,cO "checked" 270 17 1 53 54 (.ref 55) (.ref 56) 57 274 275),
 (64,fO "is_net" s1 lZ 63),
 (63,cO "is_net" 277 21 1 60 61 .none .none 62 280 281),
 (69,fO "has_parts" s2 lZ 68),
 (68,cO "has_parts" 283 28 1 65 66 .none .none 67 286 287),
 (76,fO "is_tuple" s3 lZ 75),
 (75,cO "is_tuple" 289 32 3 70 71 (.ref 72) (.ref 73) 74 295 296),
 (81,fO "is_name" s4 lZ 80),
 (80,cO "is_name" 298 34 1 77 78 .none .none 79 301 302),
 (86,fO "are_unlike" s5 lZ 85),
 (85,cO "are_unlike" 304 38 1 82 83 .none .none 84 307 308),
 (91,fO "is_row" s6 lZ 90),
 (90,cO "is_row" 310 40 2 87 88 .none .none 89 313 314),
 (98,fO "is_wire" s7 lZ 97),
 (97,cO "is_wire" 316 42 2 92 93 (.ref 94) (.ref 95) 96 321 322),
 (103,fO "are_wires" s8 lZ 102),
 (102,cO "are_wires" 324 44 4 99 100 .none .none 101 327 328),
 (108,fO "are_rows" s9 lZ 107),
 (107,cO "are_rows" 330 48 2 104 105 .none .none 106 333 334),
 (115,fO "is_kind" Jg lZ 114),
 (114,cO "is_kind" 336 52 3 109 110 (.ref 111) (.ref 112) 113 344 345),
 (122,fO "is_held" Jf lZ 121),
 (121,cO "is_held" 347 68 3 116 117 (.ref 118) (.ref 119) 120 353 354),
 (127,fO "wire_names" s12 lZ 126),
 (126,cO "wire_names" 356 70 1 123 124 .none .none 125 359 360),
 (134,fO "held" qe O7 133),
 (133,cO "held" 364 73 2 128 129 (.ref 130) (.ref 131) 132 371 372),
 (141,fO "is_point" s14 O7 140),
 (140,cO "is_point" 374 82 2 135 136 (.ref 137) (.ref 138) 139 380 381),
 (146,fO "with_point" s15 O7 145),
 (145,cO "with_point" 383 87 2 142 143 .none .none 144 386 387),
 (153,fO "held_kind" s16 O7 152),
 (152,cO "held_kind" 389 90 2 147 148 (.ref 149) (.ref 150) 151 394 395),
 (160,fO "_law_cell_at" s17 jo 159),
 (159,cO "_law_cell_at" 399 93 2 154 155 (.ref 156) (.ref 157) 158 404 405),
 (167,fO "_law_mixed" s18 jo 166),
 (166,cO "_law_mixed" 407 99 3 161 162 (.ref 163) (.ref 164) 165 414 415),
 (174,fO "_law_next" s19 jo 173),
 (173,cO "_law_next" 417 102 3 168 169 (.ref 170) (.ref 171) 172 423 424),
 (181,fO "_law_some" s20 jo 180),
 (180,cO "_law_some" 426 105 5 175 176 (.ref 177) (.ref 178) 179 435 436),
 (186,fO "_law_table" s21 jo 185),
 (185,cO "_law_table" 438 110 3 182 183 .none .none 184 441 442),
 (193,fO "_law_kind" s22 jo 192),
 (192,cO "_law_kind" 444 116 4 187 188 (.ref 189) (.ref 190) 191 453 454),
 (198,fO "_law_net" s23 jo 197),
 (197,cO "_law_net" 456 126 4 194 195 .none .none 196 459 460),
 (203,fO "_law_talk" s24 jo 202),
 (202,cO "_law_talk" 462 132 4 199 200 .none .none 201 465 466),
 (208,fO "_law_ring" s25 jo 207),
 (207,cO "_law_ring" 468 140 2 204 205 .none .none 206 471 472),
 (215,fO "_law_chain" s26 jo 214),
 (214,cO "_law_chain" 474 146 2 209 210 (.ref 211) (.ref 212) 213 485 486),
 (222,fO "_law_meeting" s27 jo 221),
 (221,cO "_law_meeting" 488 157 2 216 217 (.ref 218) (.ref 219) 220 499 500),
 (227,fO "_law_spoilt_kind" s28 jo 226),
 (226,cO "_law_spoilt_kind" 502 171 3 223 224 .none .none 225 505 506),
 (234,fO "_law_case" s29 jo 233),
 (233,cO "_law_case" 508 177 2 228 229 (.ref 230) (.ref 231) 232 517 518),
 (239,fO "_law_names" s30 jo 238),
 (238,cO "_law_names" 520 197 1 235 236 .none .none 237 523 524),
 (246,fO "_law_told" s31 jo 245),
 (245,cO "_law_told" 526 199 2 240 241 (.ref 242) (.ref 243) 244 532 533),
 (253,fO "_law_deep" s32 jo 252),
 (252,cO "_law_deep" 535 204 1 247 248 (.ref 249) (.ref 250) 251 539 540),
 (258,fO "law" s33 jo 257),
 (257,cO "law" 542 208 1 254 255 .none .none 256 545 546),
 (52,o52),
 (24,o24),
 (23,⟨.type "dict",none,.dict (Zx P) 3, #[]⟩),
 (49,o49),
 (48,⟨.type "dict",none,.dict (Zw P) 2, #[]⟩),
 (37,o37),
 (36,⟨.type "dict",none,.dict (e36 P) 2, #[]⟩)]
def Ka:List Addr:=[3,59,58,64,63,69,68,76,75,81,80,86,85,91,90,98,97,103,102,108,107,115,114,122,121,127,126,134,133,141,140,146,145,153,152,160,159,167,166,174,173,181,180,186,185,193,192,198,197,203,202,208,207,215,214,222,221,227,226,234,233,239,238,246,245,253,252,258,257,52,24,23,49,48,37,36]
theorem Ke(P:Params):Ka=(Kf P).map (·.1):=rfl
abbrev Kh:PySem.W.Hook:=PySem.W.kHook Kf Ka Ke
theorem zm{K:PySem.W.Frag}{h:Heap}{N:Addr}{es:Array DictEntry}(ep:Nat)(X:K.In h)(l:K.lookup N=some ⟨.type "dict",none,.dict es ep, #[]⟩)(sk:StrKeys es):h.Ns N (nsFind es):=⟨_,es,ep,X _ _ l,rfl,sk,fun _=>rfl⟩
theorem Xb(P:Params):StrKeys (Zw P):=fun e he=>by
 simp only[Zw,List.mem_toArray,List.mem_cons,List.not_mem_nil,or_false]at he
 rcases he with rfl|rfl|rfl|rfl<;>exact⟨_,_,rfl⟩
theorem q48(P:Params):∀n∈quietNames,nsFind (Zw P) n=none:=fun n hn=>by
 simp only[quietNames,List.mem_cons,List.not_mem_nil,or_false]at hn
 rcases hn with rfl|rfl|rfl|rfl<;>kernel_rfl
theorem z48(P:Params):∀n∈cF,nsFind (Zw P) n=none:=fun n hn=>by
 simp only[cF,List.mem_cons,List.not_mem_nil,or_false]at hn
 rcases hn with rfl|rfl|rfl<;>kernel_rfl
theorem Xc(P:Params):StrKeys (Zx P):=fun e he=>by
 simp only[Zx,List.mem_toArray,List.mem_cons,List.not_mem_nil,or_false]at he
 rcases he with rfl|rfl|rfl|rfl|rfl<;>exact⟨_,_,rfl⟩
theorem q23(P:Params):∀n∈quietNames,nsFind (Zx P) n=none:=fun n hn=>by
 simp only[quietNames,List.mem_cons,List.not_mem_nil,or_false]at hn
 rcases hn with rfl|rfl|rfl|rfl<;>kernel_rfl
theorem z23(P:Params):∀n∈cF,nsFind (Zx P) n=none:=fun n hn=>by
 simp only[cF,List.mem_cons,List.not_mem_nil,or_false]at hn
 rcases hn with rfl|rfl|rfl<;>kernel_rfl
theorem Ge{P:Params}{mg:Str->Option Value}(hm:mg "NoTalk"=some (.ref 49))(h:Heap)(X:(Kf P).In h):IK "NoTalk" 49 mg h:=
 ⟨hm,_,_,_,_,_,_,_,_,_,_,_,_,_,_,_,_,_,X 49 o49 (by kernel_rfl),zm 2 X (by kernel_rfl) (Xb P),q48 P,.own (X 24 o24 (by kernel_rfl)) (zm 3 X (by kernel_rfl) (Xc P)) (q23 P) .base⟩
theorem Ux{P:Params}(h:Heap)(X:(Kf P).In h):Ja 49 24 37 h:=
 ⟨⟨_,_,_,_,_,_,_,_,_,_,_,_,_,_,_,_,_,_,X 49 o49 (by kernel_rfl),zm 2 X (by kernel_rfl) (Xb P),z48 P,.own (X 24 o24 (by kernel_rfl)) (zm 3 X (by kernel_rfl) (Xc P)) (z23 P) .base,by decide+kernel,by decide+kernel⟩,⟨_,_,_,X 24 o24 (by kernel_rfl)⟩,⟨_,_,_,X 37 o37 (by kernel_rfl)⟩,by decide,by decide⟩
def cls:Nat->Option Addr
 |1=>some 49
 |_=>none
theorem Zr{P:Params}{mg:Str->Option Value}(h1:mg "NoTalk"=some (.ref 49)):Ae (Kf P) mg cls ["NoTalk"]:=⟨rfl,fun k x e=>by
 rcases k with _|k
 ·cases e;exact⟨49,rfl,Ge h1⟩
 ·simp at e⟩
theorem bT:∃(p1 a1 a2 p3 p4 p9 u1 u2 u3 u4 u5 u6 u7 u8 u9 u10 u11 u12 u13 u14 u15 u16 u17 u18 u19 u20 u21:Pos)(uk:Nat),bW z7.st=[.Try [.Return (some (.Call (.Name "held" p1) [.Name "_law_net_here" a1,.Name "_law_points" a2] [] p3)) p4] [.ExceptHandler (some (.Name "NoTalk" u19)) (some "e") [.Return (some (.BinOp (.Constant (.str "none") uk u17) .Mult (.Call (.Name "int" u15) [Zd "e" "WaitError" "NoNet" u1 u2 u3 u4 u5 u6 u7 u8 u9 u10 u11 u12 u13 u14] [] u16) u18)) u20] u21] [] [] p9]:=⟨_,_,_,_,_,_,_,_,_,_,_,_,_,_,_,_,_,_,_,_,_,_,_,_,_,_,_,_,rfl⟩
theorem Yr{X:Cx}{i:Nat}{x:Str}(eN:X.N=z7.N)(eS:X.env.scope=aq z7.st)(h:z7.N[i]? =some x)(l:(aq z7.st).names.lookup x=some .local)(a:(x==("__debug__":Str))=false)(b:(x==("__classdict__":Str))=false):fZ X i x:=⟨by rw[eN];exact h,.inl (by rw[eS];exact l),a,b⟩
theorem told{P:Params}{mg:Str->Option Value}(h1:mg "NoTalk"=some (.ref 49))(n0:mg "NoNet"=some (.ref 37))(hW:mg "WaitError"=some (.ref 24))(m1:mg "isinstance"=none)(m3:mg "ValueError"=none)(m4:mg "int"=none)(Pr:Program)(w:World)(base:Heap)(fr ft:Addr)(fdr fdt:FuncData)(Dr:jF (Kf P) mg VL fr fdr)(Dt:jF (Kf P) mg z7 ft fdt)(S:dR z7.N z7.ps (aq z7.st))(c:Cf)(n:Nat)(G:fX Pr w (Kf P) mg base (Jc Pr w base) n fr fdr VL.ps (Og (Kf P) VL.ps.length cls (c.fn 13)))(hn:∀sl,c.fn 13 sl=.bad\/sl.length=VL.ps.length):
  fX Pr w (Kf P) mg base wM (n+1) ft fdt z7.ps (jU (Kf P) z7.ps.length (dZ c tf)):=by
 obtain⟨p1,a1,a2,p3,p4,p9,u1,u2,u3,u4,u5,u6,u7,u8,u9,u10,u11,u12,u13,u14,u15,u16,u17,u18,u19,u20,u21,uk,hb⟩:=bT
 refine JF (cls:=cls) (ws:=[(1,.str "none")]) Dt.fu S hb G Dr.at_ Dr.fu.kp Dr.bi (by kernel_rfl) (by decide+kernel) (fun X eN eS=>Uo (Yr eN eS (by kernel_rfl) (by kernel_rfl) (by decide+kernel) (by decide+kernel)) (Yr eN eS (by kernel_rfl) (by kernel_rfl) (by decide+kernel) (by decide+kernel))) (fun _=>rfl) (fun _=>rfl) hn fun X eK eM eN eS j w hl=>?_
 have gl:∀x:Str,(aq z7.st).names.lookup x=some .globalImplicit->Gl X x:=fun x hx=>by show X.env.scope.names.lookup x=_;rw[eS];exact hx
 have l2:X.env.scope.names.lookup ("e":Str)=some .local:=by rw[eS];kernel_rfl
 have n2:X.N[2]? =some ("e":Str):=by rw[eN];kernel_rfl
 obtain⟨rfl,rfl⟩:=Li hl
 exact⟨49,.str "none",rfl,fun _=>rfl,⟨[],_,_,_,_,_,_,_,2,rfl,by rw[eK,eM];exact Ge h1,gl _ (by kernel_rfl),by decide+kernel,n2,l2,fun a oe hc=>Kz (KD (T:=37) (by rw[eK];exact Ux) hc n2 (.inl l2) (gl _ (by kernel_rfl)) (gl _ (by kernel_rfl)) (gl _ (by kernel_rfl)) (gl _ (by kernel_rfl)) (by rw[eM];exact m1) (by rw[eM];exact hW) (by rw[eM];exact m3) (by rw[eM];exact n0) (by decide+kernel) (by decide+kernel) (by decide+kernel) (by decide+kernel)) (gl _ (by kernel_rfl)) (by rw[eM];exact m4),fun h z=>nomatch z⟩⟩
theorem cQ{K:PySem.W.Frag}{x:Str}{st:Stmt}(m:Value)(f c:Addr)(a:PySem.W.nsIn K mainGlobals x=some (some (.ref f)):=by kernel_rfl)(l:K.lookup f=some (fO x st m c):=by kernel_rfl)(q:PySem.W.codeIn K (.ref c) x=true:=by kernel_rfl):I9 K x st:=Mini.dIn a l q (by unfold PySem.W.keepIn;dsimp only;rw[l];rfl)
end Tx
open PySem PySem.W PyProof.Rows
theorem Tx.hl:PySem.W.LeftO PySem.Challenge.pw_anywait_k24_held PySem.Challenge.pw_anywait_k24_held [] (fun s=>xlAt PySem.Challenge.pw_anywait_k24_held [] s&&recOk [] s) (Hook.obs Tx.Kh) (Hook.val Tx.Kh) 3576:=fun w=>by
 rw[PySem.W.Fast.te4187177175401517315,PySem.W.Fast.te5923862056798008813,PySem.W.Fast.te14364793385576792824]
 kernel_rfl
theorem PySem.Challenge.cw_anywait_k24_held_holds : PySem.Challenge.rw_anywait_k24_held.Holds := by
 w_on
 refine PySem.W.holds_law (by kernel_rfl) fun said => ?_
 refine PySem.W.holds_open (q := PySem.Challenge.pw_anywait_k24_held) (loose := []) (Xt := (fun s => xlAt PySem.Challenge.pw_anywait_k24_held [] s && recOk [] s)) (XP := XL PySem.Challenge.pw_anywait_k24_held []) (Yf := Hook.obs Tx.Kh) (Ya := Hook.val Tx.Kh) (YP := Hook.says Tx.Kh) (N := 3576) Tx.hl (Hook.of Tx.Kh) (Hook.keeps Tx.Kh) (fun s e => xl_of s (Bool.and_eq_true_iff.mp e).1) XL.keeps (by rfl) (by rfl) (by rfl) (fun s e => recFacts_of (Bool.and_eq_true_iff.mp e).2) (by rfl) said (by decide +kernel) ⟨rfl, rfl, rfl, rfl, rfl, by decide +kernel⟩ ?hw ?hc
 case hw => w_witness2
 case hc =>
  refine Mini.Dw (p := Tx.pg) (L := 33) (y := "_law_script") (l := PySem.Challenge.rw_anywait_k24_held) rfl rfl (fun w h Y => PySem.W.kIn_of Y) Tx.math ?qF
  intro w mg fa h KX G hmg
  refine Mini.Ii (t := 31) (r := 13) (dL := Tx.d33) (dr := Tx.VL) (dt := Tx.z7) (tf := Tx.tf) (cls := Tx.cls) KX G hmg rfl rfl rfl Tx.bd Tx.scp Tx.Eb ?qA ?qB ?qZ (by decide) rfl rfl rfl (Tx.Zr (PySem.W.mg_of KX G (by kernel_rfl))) (Tx.told (PySem.W.mg_of KX G (by kernel_rfl)) (PySem.W.mg_of KX G (by kernel_rfl)) (PySem.W.mg_of KX G (by kernel_rfl)) (PySem.W.mg_none_of KX G (by kernel_rfl)) (PySem.W.mg_none_of KX G (by kernel_rfl)) (PySem.W.mg_none_of KX G (by kernel_rfl)))
  case qA =>
   show Mini.AllIn _ Tx.nms
   exact ⟨Tx.cQ Tx.lZ 59 58, Tx.cQ Tx.lZ 64 63, Tx.cQ Tx.lZ 69 68, Tx.cQ Tx.lZ 76 75, Tx.cQ Tx.lZ 81 80, Tx.cQ Tx.lZ 86 85, Tx.cQ Tx.lZ 91 90, Tx.cQ Tx.lZ 98 97, Tx.cQ Tx.lZ 103 102, Tx.cQ Tx.lZ 108 107, Tx.cQ Tx.lZ 115 114, Tx.cQ Tx.lZ 122 121, Tx.cQ Tx.lZ 127 126, Tx.cQ Tx.O7 134 133, Tx.cQ Tx.O7 141 140, Tx.cQ Tx.O7 146 145, Tx.cQ Tx.O7 153 152, Tx.cQ Tx.jo 160 159, Tx.cQ Tx.jo 167 166, Tx.cQ Tx.jo 174 173, Tx.cQ Tx.jo 181 180, Tx.cQ Tx.jo 186 185, Tx.cQ Tx.jo 193 192, Tx.cQ Tx.jo 198 197, Tx.cQ Tx.jo 203 202, Tx.cQ Tx.jo 208 207, Tx.cQ Tx.jo 215 214, Tx.cQ Tx.jo 222 221, Tx.cQ Tx.jo 227 226, Tx.cQ Tx.jo 234 233, Tx.cQ Tx.jo 239 238, Tx.cQ Tx.jo 246 245, Tx.cQ Tx.jo 253 252, Tx.cQ Tx.jo 258 257, trivial⟩
  case qB => exact ⟨.v (u := .str "abcdefghijklmnopqrstuvwxyz" 241) (by kernel_rfl) (by decide +kernel), .v (u := .int 6 243) (by kernel_rfl) (by decide +kernel), .t (a := 52) (o := Tx.o52) (by kernel_rfl) (by kernel_rfl) (by decide +kernel), .v (u := .int 3 260) (by kernel_rfl) (by decide +kernel), .v (u := .int 5 262) (by kernel_rfl) (by decide +kernel), .v (u := .int 4 264) (by kernel_rfl) (by decide +kernel), .v (u := .int 8 266) (by kernel_rfl) (by decide +kernel), .v (u := .int 3 268) (by kernel_rfl) (by decide +kernel), trivial⟩
  case qZ => exact ⟨by kernel_rfl, by kernel_rfl, by kernel_rfl, by kernel_rfl, by kernel_rfl, by kernel_rfl, by kernel_rfl, by kernel_rfl, by kernel_rfl, by kernel_rfl, by kernel_rfl, by kernel_rfl, by kernel_rfl, trivial⟩